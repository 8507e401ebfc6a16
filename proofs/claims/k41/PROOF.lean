import PyProof.Rows.All
import KE.KDictOf
import KE.KItemsList
import KE.KNest
import KE.KSortTup
import PySem.Challenge.RW_seamarks_k41_whole_moments_agree
set_option compiler.extract_closed false
set_option Elab.async false
set_option linter.all false
set_option maxRecDepth 100000
set_option maxHeartbeats 4000000
theorem nabs{a:Int}{n:Nat} : a.natAbs<=n↔-(n:Int)<=a/\a<=n:=by omega
local macro_rules | `(tactic| lia) => `(tactic| first | (simp only [nabs] at *; lia (config := {})) | lia (config := {}) | omega)
local macro_rules | `(tactic| exists $es,*) => `(tactic| refine ⟨$es,*, ?_⟩)
open List renaming length_map->ac,getElem?_eq_some_iff->c9,getElem?_eq_getElem->d6,getElem?_map->e7,mem_singleton->e8,mem_of_getElem?->f6,size_toArray->f7,map_append->g5,length_append->g7,mem_cons->g9,length_cons->i4,mem_cons_self->j7,map_cons->j8,mem_cons_of_mem->l7,mem_append->m9,length_take->o3,mem_map->o5,mem_append_right->t7,lookup_cons->t9,map_map->v8,take_length->v9,mem_map_of_mem->Ab,all_eq_true->Ag,pairwise_map->Ai,toArray->Aj,length_drop->Ak,lookup->Al,getElem_mem->Ap,getElem?_append_right->At,range->Aw,nodup_cons->Ax,take_succ->Az,map_congr_left->AA,getElem_of_mem->AE,getElem?_append_left->AF,mem_of_mem_take->AL,length_singleton->AQ,find?_cons->AR,mem_of_mem_drop->AX,take_of_length_le->Bb,pairwise_cons->Bi,length->Br,getElem?_eq_none->Bs,getElem?_take->Bx,nodup_iff_pairwise_ne->BC,filterMap_cons->BD,length_nil->BE,length_replicate->BH,getElem_map->BJ,filter_cons->BL,mem_range->B5,getD_eq_getElem?_getD->B9,length_filter_le->Ce,any_cons->Cq,replicate->Cy,not_mem_nil->CD,getElem?_set_self->CH,append_nil->CM,mem_append_left->C3,getElem?_of_mem->C5,ext_getElem->C8,pairwise_iff_getElem->Db,drop_eq_getElem_cons->Dd,mem_filter->Dk,length_set->Dm,getElem?_replicate->Du,pairwise_singleton->Dx,length_eq_zero_iff->Dz,append_assoc->DD,ext_getElem?->DE,length_range->DG,all_map->DJ,any_eq_true->DS,map_take->DY,map_drop->DZ,getElem?_set_ne->D5,map_nil->El,mem_filterMap->Et,takeWhile_cons_of_pos->EB,takeWhile_cons_of_neg->EC,dropWhile_cons_of_pos->ED,dropWhile_cons_of_neg->EF,perm_cons->EG,exists_cons_of_ne_nil->EI,perm_ext_iff_of_nodup->EJ,find?_eq_none->EK,mem_or_eq_of_mem_set->ER,foldl_append->EV,set_comm->Fd,all_cons->Fe,map_flatten->Fl,mem_flatten->Fm,of_mem_zip->FE,filterMap_append->FP,getElem_toArray->FX,pairwise_append->F0,nodup_nil->F1,map_id->F3,drop_zero->F6,perm_singleton->Gd,toList_toArray->Gf,perm_nil->Gi,sum_cons->Gk,getElem_range->Gz,filter_append->GA,nodup_append->GM,take_add_one->GQ,getElem_inj->GY,map_snd_zip->Ha,cons_append->Hb,countP_cons->Hh,zipIdx_cons->Hj,forIn_cons->Ht,sum_append->Hv,range_succ->Hx,Nodup->HN,nil_perm->Iw,all_nil->IR
open PySem.W renaming Frag->b8,mg_none_of->AB,fnOf->AI,mg_of->AO,keepIn->AT,findIn->Bg,emptyDict->Bq,nsIn->Bv,instObj->BR,codeIn->C4,callWith_K->Dp,plainGet->DP,plainGet_of->Ed,callWith_K0->Ee,lookIn->Eu,methodObj->ES,hasDictIn->ET,cellsFrom_some->Fs,hideAll->FC,takerIn->FD,OpenLaw->FJ,methodCall_KW->FO,hideAll_get->F9,of_hideAll->Gp,isFn->GE,plainOver->GF,specialIn->GG,handedIn->G6,kdl_call->Hf,makesIn->Hq,WalkO->Ix,SharedT->IG
open PySem renaming Addr->c5,wpAny_bind->c6,Value->c7,Shared->d7,wpAny_pure->f8,Str->i9,Program->o7,World->w9,Heap->Ae,Stmt->Af,Around->An,Expr->Av,wpAny_newObj_type->AJ,FuncData->AW,mem_of_lookup->Bo,wpAny_mono->Bw,Obj->By,wpAny_holding->Bz,wpAny_Call_Name_kw->BI,wpAny_typeNameOfWhole_keyiter->BO,wpAny_truthy_bool->BQ,Params->B4,wpAny_passesOwn->Ci,NameKind->Cm,wpAny_typeNameOf_keyiter->Cr,Scope->Cs,wpAny_call_entry->Cz,wpAny_getItem_str_slice->CG,DictEntry->CN,wpAny_standAt->CO,OsState->C6,Pos->Dg,wpAny_newList->Di,wpAny_field->Dv,wpAny_callSpecial?_slot->Dw,wpAny_bindName->DA,wpAny_pyIter_list->DC,wpAny_setField->DI,wpAny_isOneOf_keyiter->DK,ofString_length->DM,Arguments->DN,wpAny_eqBool_int->DO,Env->D4,wpAny_execs_nil->D9,Builtin->Eh,Keyword->Ek,wpAny_fieldsOf->EH,wpAny_dictEntries->EY,wpAny_comprehension_free->Ff,BindsTo->Fp,wpAny_dictEpoch->FH,wpAny_isTrue_Compare1->FL,wpAny_newFunctionEnv->FW,wpAny_newTuple->FZ,wpAny_attempt->Gj,wpAny_call->Gs,IsPart->Gu,Within->GC,wpAny_assign_Name->GD,wpAny_Call_method->GR,Paired->GX,wpAny_execs_cons->GZ,wpAny_getItem_of->Hc,wpAny_Dict_empty->Hd,wpAny_Name->HA,CmpOp->HC,wpAny_rule->HD,call->HH,Sem->IA,Fin->ID,Model->IU,Tok->Jn
open PySem.Heap renaming get?_push_of_some->c8,lt_size->i5,get?_push_size->j9,get?_update_other->AK,size_push->B6,SameBut->Cj,get?_update_self->CQ,get?_update_ne->Df,size_update->Fh,get?_none_of_le->FQ,MadeExcOf->HP
open Int renaming mul_comm->d8,mul_left_comm->f9,mul_nonneg->g8,le_of_lt->i3,mul_eq_zero->i7,mul_pos->i8,zero_mul->j3,add_mul->n9,mul_right_comm->o4,neg_mul->o8,mul_neg->t8,mul_add->x8,mul_assoc->x9,toNat_natCast->Ac,emod_lt_of_pos->Ad,mul_sub->Ah,mul_ne_zero->Aq,emod_nonneg->Ar,natAbs_mul->Au,mul_zero->AD,mul_le_mul_of_nonneg_right->AU,sub_mul->AY,mul_nonpos_of_nonneg_of_nonpos->Ba,zero_add->Be,mul_pos_of_neg_of_neg->Bm,le_of_eq->BA,natAbs_add_le->BB,mul_neg_of_neg_of_pos->BF,natAbs_ediv_le_natAbs->BG,lt_of_le_of_lt->BM,le_trans->BN,mul_le_mul_of_nonneg_left->BP,ne_of_gt->BX,natCast_nonneg->B7,eq_of_mul_eq_mul_right->B8,mul_neg_of_pos_of_neg->Cg,mul_one->Ck,eq_ofNat_of_zero_le->CA,sub_self->CK,add_zero->CL,natAbs_mul_self->De,mul_nonneg_of_nonpos_of_nonpos->Dq,le_refl->Dy,neg_neg->D7,neg_mul_neg->Eb,toNat_of_nonneg->Eg,mul_lt_mul_of_pos_right->En,ediv_pos_of_pos_of_dvd->Ex,le_of_mul_le_mul_right->Ez,lt_of_mul_lt_mul_right->EA,lt_trichotomy->E1,lt_or_le->Fx,natAbs_neg->FU,natAbs_natCast->Gy,zero_sub->GN,one_mul->Ho,le_antisymm->Hu,le_total->IN,pow_succ->IQ,neg_add->Ja
open Nat renaming le_trans->d9,le_refl->e9,lt_of_lt_of_le->j5,gcd->l9,ne_of_lt->o9,lt_of_le_of_lt->t6,zero_le->Aa,le_of_lt->AC,not_lt_zero->AH,lt_irrefl->AM,le_succ->Bc,lt_succ_self->B3,add_le_add->Cc,lt_succ_of_lt->Cn,dvd_mul_left->CF,dvd_mul_right->CW,le_of_not_lt->C7,min_eq_left->Do,ne_of_gt->DB,dvd_antisymm->DT,le_of_dvd->DW,add_le_add_left->Ef,le_of_eq->Ej,gcd_zero_right->EM,gcd_zero_left->EW,le_of_succ_le->EZ,gcd_comm->Fv,mul_le_mul->FV,pow_le_pow_right->F4,add_le_add_right->F7,mul_assoc->Gh,eq_zero_or_pos->Gx,le_of_lt_succ->GO,zero_add->GP,lt_or_ge->GT,succ_ne_self->G9,gcd_mul_left->Hg,not_lt_of_ge->Hi,dvd_gcd->Hm,pow_add->Hn,dvd_trans->Iv,mul_comm->IJ,lt_trans->IK,pow_succ->IL,min_self->IM,sub_zero->IP,mul_one->IX,log2_lt->IY,add_mul->Jb,one_mul->Jc
open PySem.Value renaming ref->j4,none->Am,int->Ch,type->C0,str->Dr,bool->Go,bytes->Hk,float->Hl,isStrOf->Ie,isInt->IT
open Bool renaming false_ne_true->m7,and_eq_true->AG,false_eq_true->Bh,eq_iff_iff->Dl,eq_false_iff->EX,and_false->FT,and_eq_true_iff->F8,false_and->HE,and_true->Iy
open Option.some renaming inj->m8,injEq->Fb
open Option renaming isSome_iff_exists->o6,map_eq_some_iff->x6,map_some->Bj,isSome_map->CV,map_eq_none_iff->Fz,getD_none->G8,none->IW
open PySem.PassesOwn renaming never->r9,leaving->GV
open PySem.Obj renaming mapSeq->t5,mapFields->BZ,data_mapFields->CJ,isFreed_of_fields->DL,cls_mapFields->GL
open True renaming intro->Ao
open PySem.NameKind renaming free->As,cell->AV
open Array renaming length_toList->Ay,getElem?_eq_getElem->AZ,getElem?_eq_some_iff->Ca,getElem?_toList->CS,getD_eq_getD_getElem?->Em,perm_iff_toList_perm->Ey,toList_inj->Fg,getElem?_eq_none->Fw,mem_toList_iff->FR,toArray_toList->F2,toList_append->Ge,getD->HJ,size_map->HK,size_zip->HM,toList->IH
open False renaming elim->AN
open PySem.W.Frag renaming In->AS
open Nat.Coprime renaming dvd_of_dvd_mul_left->Bf,dvd_of_dvd_mul_right->Co,symm->Fi
open Ne renaming symm->Bk
open List.Pairwise renaming imp_of_mem->Bt,nil->Jp,and->Jq
open PySem.F renaming slot_dict_keyiterator_next->Bu,slot_dict_getitem->Dc,args_dict_keyiterator_next_1->DR,entry_dict_keyiterator_next->D8,excBase_ValueError->EN,slot_dict_delitem->EQ,plainAttrs_list->Fj,slot_dict_pop->FM,slot_dict_items->GS,slot_dict_iter->He
open ForInStep renaming yield->BU
open PyProof.Rows.KeyOrd renaming kle_refl->BV,kle_of_not_klt->Cd,kle_of_klt->DF,kle_trans->DQ,kle_antisymm->Gb
open Or renaming inl->BW,inr->Fu
open PySem.Builtin.Str renaming strSliceIndices->BY,glued->Fa
open PySem.Builtin.Slice renaming slicePlaces->Cf,sliceAdjust->Da,sliceApplied->Ew,slicePartIndex->Hr,sliceFields->Ib
open PySem.Builtin.Tuple renaming tupleExact->Cp,tupleItemsOf->HF
open PyProof.Rows renaming slot_tuple_getitem->Ct,plainGoodE->Cv,plainGoodD->Cw,callWith_type1->CU,drecsOf->CY,AllBare->Ei,IntsAre->EU,SortKind->FY,callWith_builtin1->G7,Subscript_->HG,expectedOf->Iz,sortedS->Jd,OwnCls->Jf,recsOf->Jg
open PySem.Heap.SameBut renaming update->Cu
open PySem.Str renaming ofString->CI,join->Fk,empty->IC
open PySem.World renaming withFollow_self->CP
open PySem.W.Fast renaming te14364793385576792824->CT,te2368527892694137696->CZ,te5923862056798008813->Er
open PySem.Txt renaming slice->C9,slice_le->Fy
open PySem.Builtin.List renaming listTooLong->Dh
open Sum renaming inl->Dj,inr->DU
open PySem.Paired renaming length->DV,snoc->IZ
open PySem.Calls renaming evalArgs_plain->D6,Name_function_global->Es,call_function_entry->EO,callWith_builtin->Ft,Constant_str->Gq,spliced_cons->Gr,spliced_nil->GI
open PySem.Builtin.Dict_items renaming ownsTuple->Ea
open PySem.PyData renaming shownAll->Ec,keyHash->Ep,showableAll->EL,hasDictAll->Fc,showable->FI,hasDict->F5,shown->GU
open PySem.StrLaws renaming glued_eq_join->Eo,joinTotal->IE
open Prod renaming ext->Ev
open PySem.Around renaming under->Fo,frames_deeper->FS
open Decidable renaming em->FA
open Array.Perm renaming refl->FF
open StateT renaming run_pure->FG
open Classical renaming choose_spec->FK,choose->GW
open PySem.Builtin.Dict renaming showsAll->FN,dictSlotNone->Ic
open PySem.Builtin.Int renaming intBits->Ga
open PySem.EntryCells renaming newEntry->Gg
open PySem.SeqAt.EqAt renaming int_str->Gm,str_int->Gn,int_int->Gw,same->Hs
open PySem.SeqAt renaming EqAt->Gv
open PySem.Code renaming isFrame->GH,isGuard->II,frames->IV
open Eq renaming trans->GJ
open PySem.W.KatTups renaming cons->GK
open PySem.Flow renaming next->G0
open PyProof.Rows.IsTup renaming new->G4
open List.cons renaming injEq->Hw
open PySem.W.KasT renaming kasWp_bind->Hy
open List.Perm renaming refl->HI
open PySem.EqNone renaming eq_none_none->HQ,eq_none_bool->HR,eq_bool_none->HS,ne_none_none->HW,ne_none_bool->HX,ne_bool_none->HY,eq_none_int->Ig,eq_none_str->Ih,eq_int_none->Ii,eq_str_none->Ik,ne_none_int->Im,ne_none_str->Io,ne_int_none->Ip,ne_str_none->Ir
open PySem.EqMixed renaming eq_bool_str->HU,eq_str_bool->HV,ne_bool_str->HZ,ne_str_bool->Ia,eq_int_str->Ij,eq_str_int->Il,ne_int_str->Iq,ne_str_int->Iu
open PySem.Builtin.Range renaming rangeSize->IB
open PySem.Heap.UpToSlots renaming of_keeps->IF
open PySem.W.SharedT renaming abs->IS
open PySem.SeqAt.RcNeAt renaming tuples->Je,lists->Jl
open PySem.W.Looks renaming here->Jh
open PySem.Heap.IsSliceOf renaming new->Ji
open PySem.W.WShape renaming has->Jj
open PySem.Walks renaming list->Jk
open PyProof.Rows.SortSt renaming mk'->Jm
open PySem.Within renaming cons->Jo
open PySem.W.WData renaming int->Jr
open Option renaming some->Js,none->Jt
open Bool renaming true->Ju,false->Jv
local macro_rules | `(tactic| rwa [$e:term]) => `(tactic| exact $e)
local macro_rules | `(tactic| rwa [$e:term, $[$es:term],*]) => `(tactic| exact ⟨$e, $es,*⟩)
local macro_rules | `(tactic| erw [$e:term]) => `(tactic| refine $e)
local macro_rules | `(tactic| erw [$e:term, $[$es:term],*]) => `(tactic| refine ⟨$e, $es,*⟩)
theorem U{α:Sort _}{a:α}:a=a:=rfl
set_option hygiene false in
local macro_rules|`('x')=>`(["sides","direction"])|`('w')=>`((.tup xs))|`('v')=>`((.inr "runs",.ref i))|`('u')=>`((s.2.1*x+s.2.2.1*y))|`('t')=>`((.Call (.Name x p) (e::es) [] pos))|`('s')=>`(["book","moment"])|`('r')=>`((pt3 (crL e t.2)))|`('q')=>`((.tup [.int x,.int y]))|`('p')=>`((oJ bkC H b p S past later))|`('o')=>`((.inr "banks",.ref l))|`('n')=>`((.inr "marks",.ref g))|`('m')=>`((rows.map V.int))|`('l')=>`((zS (yD hr) (pv 0) zV 'e'))|`('k')=>`((model prog w))|`('j')=>`((.ListComp elt [⟨target,iter,ifs,0⟩] scope pos))|`('i')=>`(["one","other"])|`('h')=>`((by ac_nf))|`('g')=>`((k == As&&env.scope.kind == .function&&env.kindOf n == Js .cell))|`('f')=>`((hr.mono 'a'))|`('e')=>`((λ_ _=>rfl))|`('d')=>`((by simp))|`('c')=>`((s.heap.objs.size+1))|`('b')=>`((model X.prog X.w))|`('a')=>`((by decide))
namespace L2
open PySem
def wD(s:Af):DN:=match s with
 | .FunctionDef _ a _ _ _ _ _ _ _ _=>a
 | _=>{ posonlyargs:=[],args:=[],vararg:=Jt,kwonlyargs:=[],kw_defaults:=[],kwarg:=Jt,defaults:=[] }
def xJ(s:Af):List Af:=match s with
 | .FunctionDef _ _ b _ _ _ _ _ _ _=>b
 | _=>[]
def zF(s:Af):Cs:=match s with
 | .FunctionDef _ _ _ _ _ _ a _ _ _=>a
 | _=>{ kind:=.function,names:=[],isGenerator:=Jv,isCoroutine:=Jv }
def oQ(s:Af)(j:Nat):Af:=match s with
 | .ClassDef _ _ _ body _ _ _ _ _ _ _=>body.getD j (.Pass ⟨0,0,0,0⟩)
 | _=>.Pass ⟨0,0,0,0⟩
end L2
namespace PySem.W
open PySem
noncomputable def gv(c:String->Option Eh)(p:o7)(w:w9)(a:Nat)(b:Option c7):Nat->IG->Thread->Option IG
 | 0,_,_=>Jt
 | n+1,s,t=>match through t with
  | true=>Js s
  | false=>match Fast.tw6613529449190102663 a b t with
   | false=>Jt
   | true=>match Fast.tw10156331382660048174 (Fast.tw11892475500146522536 c) p w s t with
    | some (e,d)=>gv c p w a b n e d
    | none=>Jt
def cQ{c:String->Option Eh}{a:Nat} : ∀{n:Nat}{s d:IG}{t:Thread},gv c p w a b n s t=Js d->topRun c p w a b n s.abs t=Js d.abs
 | 0,_,_,_,h=>by cases h
 | n+1,s,d,t,h=>by
  unfold gv at h;rw[<- Fast.te6613529449190102663,<- Fast.te10156331382660048174,<- Fast.te11892475500146522536] at h;unfold topRun;cases j:through t with
  | true=>rw[j] at h; cases h; rfl
  | false =>
   rw[j] at h;cases i:stepOk a b t with
   | false=>rw[i] at h; cases h
   | true =>
    rw[i] at h;cases e:stepT (denote c) p w s t with
    | none=>rw[e] at h; cases h
    | some r=>obtain⟨g,f⟩:=r; rw[e] at h; rw[stepT_spec e]; rwa[cQ h]
noncomputable def Rh(P:B4):BT:=((boot_heap P).objs.toList.zipIdx).foldl (λt x=>t.ins x.2 x.1) .nil
def TF(P:B4):absHeap (Rh P) 11 (boot_heap P).life=boot_heap P:=by kernel_rfl
def WF(P:B4):((boot_heap P).isNs mainGlobals,(boot_heap P).objs.size,(boot_heap P).nsMap mainGlobals "__annotations__")=(Ju,11,Js (.ref 6)):=by kernel_rfl
noncomputable abbrev NO(a:String->Option Eh)(p:o7)(N:Nat)(w:w9)(os:C6):Option IG:=gv a p w 11 (Js (.ref 6)) N ⟨Rh w.params,11,(boot_heap w.params).life,#[],boot_drawn,boot_toks,os⟩ (topStub p)
def gq{α d c:Type}{x:Option α}{f:α->d×c}{a:d}{b:c}(h1:x.map (λs=>(f s).1)=Js a)(h2:x.map (λs=>(f s).2)=Js b):x.map f=Js (a,b):=by
 cases x with
 | none=>cases h1
 | some s =>
  injection h1 with h1
  injection h2 with h2
  subst h1 h2;rfl
def Uk{α A B C D:Type}{x:Option α}{f:α->A×B×C×D}{a:A}{b:B}{c:C}{d:D}(h1:x.map (λs=>((f s).1,(f s).2.1,(f s).2.2.1))=Js (a,b,c))(h2:x.map (λs=>(f s).2.2.2)=Js d):x.map f=Js (a,b,c,d):=by
 cases x with
 | none=>cases h1
 | some s =>
  cases h1;cases h2;rfl
def li{α a c:Type}{x:Option α}{f:α->a}{b:a}(h:x.map f=Js b)(g:a->c):x.map (λs=>g (f s))=Js (g b):=by
 cases x with
 | none=>cases h
 | some s =>
  cases h;rfl
def Wf{p q:o7}{a:List i9}{l:d7->Bool}{α:Type}{i:d7->α}{j:w9->α}{N:Nat}
  (b:∀ w:w9,(fencedOpening treeTable p w N).map (λs=>(s.heap,s.gens,s.drawn,s.toks))=Js (boot_heap w.params,Array.mk [],boot_drawn,boot_toks))
  (h1:∀ w os,(NO treeTable p N w os).map (λs=>(staticsOk (importedModules p.main.body) (boot_heap w.params) s.abs.heap&&namesBound p s.abs.heap&&gensDone s.abs&&laidKept (boot_heap w.params) s.abs.heap))=Js Ju)
  (h2:∀ w os,(NO treeTable p N w os).map (λs=>openSeen q a (importedModules p.main.body) l Ju s.abs)=Js (openGood q a))
  (h3:∀ w os,(NO treeTable p N w os).map (λs=>i s.abs)=Js (j w)):LeftO p q a l i j N:=λw=>by
 obtain⟨⟨h,z,d,k,os⟩,e,e'⟩:=x6.mp (b w);obtain⟨rfl,rfl,rfl,rfl⟩:h=boot_heap w.params/\z = #[]/\d=boot_drawn/\k=boot_toks:=by simpa using e'
 obtain⟨o,n,m⟩ : _/\_/\_:=by simpa only[Prod.mk.injEq] using WF w.params
 obtain⟨s,g,y⟩:=x6.mp (h1 w os);obtain⟨A,f,x⟩:=x6.mp (h2 w os);obtain⟨u,c,v⟩:=x6.mp (h3 w os);rw[g] at f c;cases f;cases c;have r:=cQ g;rw[show IS ⟨Rh w.params,11,(boot_heap w.params).life,#[],boot_drawn,boot_toks,os⟩=⟨boot_heap w.params,#[],boot_drawn,boot_toks,os⟩ from by unfold IS; rw[TF]] at r;have t:topFrom treeTable p w N ⟨boot_heap w.params,#[],boot_drawn,boot_toks,os⟩=Js s.abs:=by
  unfold topFrom;dsimp only;rw[o,n,m,r];show(match staticsOk (importedModules p.main.body) (boot_heap w.params) s.abs.heap&&namesBound p s.abs.heap&&gensDone s.abs&&laidKept (boot_heap w.params) s.abs.heap with | true=>_ | false=>_)=_;rw[y]
 unfold openEnds;rw[e];show(topFrom treeTable p w N _).map _=_;rw[t];show Js (_,_)=_;rw[x,v]
end PySem.W
namespace Sea
open PySem L2
def top(i:Nat):Stmt:=PySem.Challenge.pw_seamarks_k41_whole_moments_agree.main.body.getD i (.Pass ⟨0,0,0,0⟩)
abbrev wI:Af:=top 2
abbrev vm:Af:=top 3
abbrev zo:Af:=top 4
abbrev mE:Af:=top 5
abbrev nX:Af:=top 6
abbrev mq:Af:=top 7
abbrev qj:Af:=top 8
abbrev vn:Af:=top 9
abbrev tN:Af:=top 10
abbrev rj:Af:=top 12
abbrev rn:Af:=top 13
abbrev qp:Af:=top 14
abbrev vN:Af:=top 15
abbrev vo:Af:=top 16
abbrev qg:Af:=top 17
abbrev rQ:Af:=top 18
abbrev vy:Af:=top 19
abbrev wJ:Af:=top 20
abbrev vQ:Af:=top 21
abbrev qA:Af:=top 23
abbrev mm:Af:=top 24
abbrev rT:Af:=top 25
abbrev tW:Af:=top 26
abbrev wS:Af:=top 27
abbrev va:Af:=top 28
abbrev tT:Af:=top 29
abbrev yx:Af:=top 30
abbrev vv:Af:=top 31
abbrev pR:Af:=top 32
abbrev vg:Af:=top 33
abbrev mn:Af:=top 34
abbrev vT:Af:=top 35
abbrev rW:Af:=top 36
abbrev mh:Af:=top 37
abbrev mf:Af:=top 39
abbrev zp:Af:=top 40
abbrev xT:Af:=top 41
abbrev pP:Af:=top 42
abbrev vM:Af:=top 43
abbrev vO:Af:=top 44
abbrev xU:Af:=top 45
abbrev vW:Af:=top 46
abbrev pJ:Af:=top 47
abbrev uR:Af:=top 74
abbrev ze:Af:=top 75
abbrev we:Af:=top 77
abbrev vZ:Af:=top 78
abbrev vU:Af:=top 79
abbrev uK:Af:=top 80
abbrev sQ:Af:=top 81
abbrev vR:Af:=top 82
abbrev vX:Af:=top 83
abbrev wU:Af:=top 84
abbrev tX:Af:=top 85
abbrev uY:Af:=top 86
abbrev vL:Af:=top 87
abbrev vV:Af:=top 92
abbrev vK:Af:=top 94
abbrev wE:Af:=top 95
abbrev uN:Af:=top 96
abbrev qe:Af:=top 99
abbrev uZ:Af:=top 101
abbrev uT:Af:=top 102
abbrev qB:Af:=top 103
abbrev uU:Af:=top 104
abbrev vJ:Af:=top 105
abbrev wX:Af:=top 106
abbrev sS:Af:=top 107
abbrev sO:Af:=top 108
abbrev vS:Af:=top 109
abbrev pH:Af:=top 113
abbrev qu:Af:=top 114
abbrev fe:Af:=top 115
abbrev nY:Af:=top 116
abbrev fF:Af:=top 117
abbrev vq:Af:=top 118
abbrev sI:Af:=top 119
abbrev wT:Af:=top 120
abbrev vP:Af:=top 121
abbrev ql:Af:=top 122
abbrev pD:Af:=top 123
abbrev vj:Af:=top 124
abbrev gR:Af:=top 125
abbrev zf:Af:=top 126
abbrev bg:Af:=top 127
abbrev mD:Af:=oQ (top 111) 0
abbrev mz:Af:=oQ (top 111) 11
abbrev pW:Af:=oQ (top 111) 18
abbrev mj:Af:=oQ (top 111) 20
abbrev rh:Af:=oQ (top 111) 21
abbrev vf:Af:=oQ (top 111) 22
noncomputable def qv:Program:={ PySem.Challenge.pw_seamarks_k41_whole_moments_agree with main:={ PySem.Challenge.pw_seamarks_k41_whole_moments_agree.main with body:=[top 2,top 3,top 4,top 5,top 6,top 7,top 8,top 9,top 10,top 12,top 13,top 14,top 15,top 16,top 17,top 18,top 19,top 20,top 21,top 23,top 24,top 25,top 26,top 27,top 28,top 29,top 30,top 31,top 32,top 33,top 34,top 35,top 36,top 37,top 39,top 40,top 41,top 42,top 43,top 44,top 45,top 46,top 47,top 74,top 75,top 77,top 78,top 79,top 80,top 81,top 82,top 83,top 84,top 85,top 86,top 87,top 92,top 94,top 95,top 96,top 99,top 101,top 102,top 103,top 104,top 105,top 106,top 107,top 108,top 109,top 113,top 114,top 115,top 116,top 117,top 118,top 119,top 120,top 121,top 122,top 123,top 124,top 125,top 126,top 127] } }
def lse:List i9:=("_wall" : i9)::("stretch_way" : i9)::("all_left_of" : i9)::("is_bank" : i9)::("MarkError" : i9)::("BadName" : i9)::("Taken" : i9)::("BadPlace" : i9)::("Full" : i9)::("NoMark" : i9)::("Same" : i9)::("Needed" : i9)::("BadBank" : i9)::("NoBank" : i9)::("BadRun" : i9)::("NoRun" : i9)::("NoMoment" : i9)::("BadWay" : i9)::("BadTurn" : i9)::("NoNote" : i9)::("MOST" : i9)::("LONGEST_NAME" : i9)::("FARTHEST" : i9)::("LONGEST_WAY" : i9)::("without" : i9)::("after_move" : i9)::("after_unmark" : i9)::("after_bank" : i9)::("after_level" : i9)::("after_right" : i9)::("after_strike" : i9)::("AFTER" : i9)::("Book" : i9)::[]
noncomputable def kd(P:B4)(x:i9)(t:Nat)(v:c7):CN:=⟨Ep P x,.str x t,v⟩
noncomputable def kc(l:List c7):By:=⟨.type "code",Jt,.fields (Aj l),Aj []⟩
noncomputable def kq(x:i9)(a:Nat)(l g:Int)(r:Nat)(u v w y z:c7)(h:Int)(b:Nat):By:=kc [.str x a,.str x (a+1),.str "/claim/cut.py" (a+2),.int l 0,.int g 0,.int 0 0,.int 0 0,.int 3 0,.ref r,.bool Ju,.int 181 0,u,v,w,y,z,.int h 0,.int l 0,.str "/claim/cut.py" b]
noncomputable abbrev kf(x:i9)(s:Af)(kV a b c ct:c7):By:=⟨.type "function",Jt,.func (AI x x (wD s) (xJ s) (zF s) .none kV a b Jt c ct),Aj []⟩
noncomputable abbrev kg(x:i9)(s:Af)(m:i9)(t c:Nat):By:=kf x s .none .none (.str m t) (.ref c) .none
noncomputable abbrev kf2(x q:i9)(s:Af)(kV a b c ct:c7):By:=⟨.type "function",Jt,.func (AI x q (wD s) (xJ s) (zF s) .none kV a b Jt c ct),Aj []⟩
noncomputable def kn(n:Nat)(o:By)(T:b8):b8:=(n,o)::T
noncomputable def kp(r a:Nat)(l g:Int)(h:Nat)(x:i9)(s:Af)(m:c7)(T:b8):b8:=(r+5,kq x a l g r (.ref (r+1)) .none (.ref (r+2)) (.ref (r+3)) (.ref (r+4)) h (h+1))::(r+6,kf x s .none .none m (.ref (r+5)) .none)::T
noncomputable def km(r a:Nat)(l g:Int)(h:Nat)(x q:i9)(s:Af)(m:c7)(T:b8):b8:=(r+5,kc [.str x a,.str q (a+1),.str "/claim/cut.py" (a+2),.int l 0,.int g 0,.int 0 0,.int 0 0,.int 3 0,.ref r,.bool Ju,.int 181 0,.ref (r+1),.none,.ref (r+2),.ref (r+3),.ref (r+4),.int h 0,.int l 0,.str "/claim/cut.py" (h+1)])::(r+6,kf2 x q s .none .none m (.ref (r+5)) .none)::T
noncomputable def kx(n:Nat)(x:i9)(e a p:Nat)(T:b8):b8:=(n+1,⟨.type "type",Jt,.cls ⟨x,[.ref p],[.ref (n+1),.ref p,.type "ValueError",.type "Exception",.type "BaseException",.type "object"],n,x,Ju,[],[],Jv,Jt,Jv⟩,Aj [Js (.ref e),Jt,Js (.str x a),Js (.str x (a+8)),Js (.builtin "ValueError.__new__"),Js (.bool Ju)]⟩)::T
noncomputable def ky(P:B4)(n a:Nat)(l:Int)(m:c7)(T:b8):b8:=(n+1,⟨.type "dict",Jt,.dict (Aj [kd P "__module__" a m,kd P "__firstlineno__" (a+4) (.int l (a+3)),kd P "__static_attributes__" (a+5) (.ref n),kd P "__doc__" (a+6) .none]) 2,Aj []⟩)::T
noncomputable def kNs(P:B4):By:=⟨.type "dict",Jt,.dict (Aj (kd P "__name__" 165 (.str "law_seamarks_k41_whole_moments_agree" 1418)::kd P "__doc__" 166 .none::kd P "__package__" 167 .none::kd P "__loader__" 168 (.builtin "__main__.__loader__#opaque")::kd P "__spec__" 169 .none::kd P "__annotations__" 170 (.ref 6)::kd P "__builtins__" 171 (.ref 4)::kd P "__file__" 173 (.str "/claim/cut.py" 172)::kd P "__cached__" 174 .none::kd P "_wall" 193 (.ref 21)::kd P "common_factor" 206 (.ref 28)::kd P "lowest" 212 (.ref 33)::kd P "upright" 218 (.ref 38)::kd P "part" 226 (.ref 45)::kd P "plus" 234 (.ref 52)::kd P "spot" 243 (.ref 59)::kd P "ahead" 252 (.ref 66)::kd P "merged" 263 (.ref 73)::kd P "in_order" 271 (.ref 80)::kd P "turn" 281 (.ref 87)::kd P "along" 289 (.ref 94)::kd P "plain" 296 (.ref 101)::kd P "plain_side" 303 (.ref 108)::kd P "beyond" 311 (.ref 115)::kd P "holds" 319 (.ref 122)::kd P "crossing" 330 (.ref 129)::kd P "pushed" 339 (.ref 136)::kd P "bearing_sides" 350 (.ref 143)::kd P "range_side" 358 (.ref 150)::kd P "in_water" 369 (.ref 157)::kd P "foot" 376 (.ref 164)::kd P "edge_end" 389 (.ref 171)::kd P "edge_ends" 395 (.ref 176)::kd P "spot_on_edge" 404 (.ref 183)::kd P "sought" 413 (.ref 190)::kd P "some_spot" 420 (.ref 197)::kd P "corners" 430 (.ref 204)::kd P "way_to" 438 (.ref 211)::kd P "ring" 447 (.ref 218)::kd P "is_way" 456 (.ref 225)::kd P "ways" 466 (.ref 232)::kd P "has_no_way" 473 (.ref 239)::kd P "triangle" 483 (.ref 246)::kd P "area" 493 (.ref 253)::kd P "span" 502 (.ref 260)::kd P "weighed" 508 (.ref 265)::kd P "clash_of_three" 521 (.ref 272)::kd P "clash" 532 (.ref 279)::kd P "way_onward" 541 (.ref 286)::kd P "far_by_one" 552 (.ref 293)::kd P "weights_of_two" 565 (.ref 300)::kd P "far_by_two" 577 (.ref 307)::kd P "reach" 587 (.ref 314)::kd P "stretch_way" 597 (.ref 321)::kd P "all_left_of" 609 (.ref 328)::kd P "is_bank" 615 (.ref 333)::kd P "MarkError" 635 (.ref 343)::kd P "BadName" 651 (.ref 356)::kd P "Taken" 667 (.ref 368)::kd P "BadPlace" 683 (.ref 380)::kd P "Full" 699 (.ref 392)::kd P "NoMark" 715 (.ref 404)::kd P "Same" 731 (.ref 416)::kd P "Needed" 747 (.ref 428)::kd P "BadBank" 763 (.ref 440)::kd P "NoBank" 779 (.ref 452)::kd P "BadRun" 795 (.ref 464)::kd P "NoRun" 811 (.ref 476)::kd P "NoMoment" 827 (.ref 488)::kd P "BadWay" 843 (.ref 500)::kd P "BadTurn" 859 (.ref 512)::kd P "NoNote" 875 (.ref 524)::kd P "MOST" 890 (.ref 527)::kd P "LONGEST_NAME" 892 (.int 8 891)::kd P "FARTHEST" 894 (.int 1000 893)::kd P "LONGEST_WAY" 896 (.int 100 895)::kd P "nothing_yet" 902 (.ref 534)::kd P "changed" 913 (.ref 541)::kd P "without" 923 (.ref 548)::kd P "within" 929 (.ref 553)::kd P "check_name" 935 (.ref 558)::kd P "check_free" 944 (.ref 565)::kd P "check_place" 951 (.ref 572)::kd P "check_run" 958 (.ref 579)::kd P "check_room" 966 (.ref 586)::kd P "check_mark" 974 (.ref 593)::kd P "check_moment" 982 (.ref 600)::kd P "check_way" 989 (.ref 607)::kd P "check_apart" 998 (.ref 614)::kd P "after_mark" 1008 (.ref 621)::kd P "after_move" 1019 (.ref 628)::kd P "after_unmark" 1029 (.ref 635)::kd P "after_bank" 1040 (.ref 642)::kd P "after_level" 1049 (.ref 649)::kd P "after_sail" 1058 (.ref 656)::kd P "after_right" 1068 (.ref 663)::kd P "after_note" 1077 (.ref 670)::kd P "after_bearing" 1085 (.ref 677)::kd P "after_range" 1093 (.ref 684)::kd P "after_strike" 1102 (.ref 691)::kd P "AFTER" 1123 (.ref 692)::kd P "after" 1131 (.ref 699)::kd P "way_between" 1139 (.ref 704)::kd P "mark_places" 1148 (.ref 711)::kd P "sides_of" 1156 (.ref 718)::kd P "note_groups" 1162 (.ref 723)::kd P "note_sides" 1172 (.ref 730)::kd P "book_corners" 1180 (.ref 737)::kd P "book_area" 1188 (.ref 744)::kd P "book_ways" 1196 (.ref 751)::kd P "book_reach" 1205 (.ref 758)::kd P "Book" 1417 (.ref 925)::kd P "_law_power" 1426 (.ref 936)::kd P "_law_draws" 1438 (.ref 943)::kd P "_law_new" 1444 (.ref 950)::kd P "_law_lead" 1450 (.ref 955)::kd P "_law_way" 1461 (.ref 962)::kd P "_law_turned" 1469 (.ref 969)::kd P "_law_left_pair" 1479 (.ref 976)::kd P "_law_true_bearing" 1498 (.ref 983)::kd P "_law_some_deeds" 1517 (.ref 990)::kd P "_law_names" 1523 (.ref 995)::kd P "_law_after" 1532 (.ref 1002)::kd P "_law_raised" 1542 (.ref 1009)::kd P "_law_low" 1550 (.ref 1016)::kd P "_law_spot_of" 1560 (.ref 1023)::kd P "law" 1566 (.ref 1028)::[])) 127,Aj []⟩
noncomputable abbrev mo1:c7:=.str "seamarks.parts" 194
noncomputable abbrev mo2:c7:=.str "seamarks.sides" 272
noncomputable abbrev mo3:c7:=.str "seamarks.water" 359
noncomputable abbrev mo4:c7:=.str "seamarks.reach" 494
noncomputable abbrev mo5:c7:=.str "seamarks.deeds" 876
noncomputable abbrev mo6:c7:=.str "seamarks.asks" 1132
noncomputable abbrev mo7:c7:=.str "seamarks.book" 1206
noncomputable abbrev mo8:c7:=.str "law_seamarks_k41_whole_moments_agree" 1418
noncomputable abbrev mo9:c7:=.str "seamarks.errors" 616
noncomputable def KG(P:B4):b8 :=
 kn (nat_lit 342) ⟨.type "dict",Jt,.dict (Aj (kd P "__module__" 625 (.str "seamarks.errors" 616)::kd P "__firstlineno__" 629 (.int 227 628)::kd P "__static_attributes__" 630 (.ref 341)::kd P "__weakref__" 632 (.ref 344)::kd P "__doc__" 633 .none::[])) 3,Aj []⟩ <|
 ky P 486 819 251 mo9 <|
 kn (nat_lit 527) ⟨.type "dict",Jt,.dict (Aj (kd P "marks" 878 (.int 20 879)::kd P "banks" 880 (.int 8 881)::kd P "runs" 882 (.int 12 883)::kd P "notes" 884 (.int 24 885)::[])) 4,Aj []⟩ <|
 kn (nat_lit 692) ⟨.type "dict",Jt,.dict (Aj (kd P "mark" 1103 (.ref 621)::kd P "move" 1104 (.ref 628)::kd P "unmark" 1105 (.ref 635)::kd P "bank" 1106 (.ref 642)::kd P "level" 1107 (.ref 649)::kd P "sail" 1108 (.ref 656)::kd P "right" 1109 (.ref 663)::kd P "bearing" 1110 (.ref 677)::kd P "range" 1111 (.ref 684)::kd P "strike" 1112 (.ref 691)::[])) 10,Aj []⟩ <|
 kn (nat_lit 924) ⟨.type "dict",Jt,.dict (Aj (kd P "__module__" 1215 (.str "seamarks.book" 1206)::kd P "__firstlineno__" 1219 (.int 424 1218)::kd P "__init__" 1226 (.ref 772)::kd P "mark" 1236 (.ref 779)::kd P "move" 1246 (.ref 786)::kd P "unmark" 1254 (.ref 793)::kd P "bank" 1263 (.ref 800)::kd P "level" 1271 (.ref 807)::kd P "sail" 1280 (.ref 814)::kd P "right" 1290 (.ref 821)::kd P "bearing" 1301 (.ref 828)::kd P "range_note" 1311 (.ref 835)::kd P "strike" 1319 (.ref 842)::kd P "deed" 1329 (.ref 849)::kd P "step" 1338 (.ref 856)::kd P "undo" 1345 (.ref 863)::kd P "redo" 1352 (.ref 870)::kd P "deeds" 1359 (.ref 877)::kd P "undone" 1366 (.ref 884)::kd P "twin" 1373 (.ref 891)::kd P "marks" 1379 (.ref 896)::kd P "banks" 1386 (.ref 903)::kd P "runs" 1392 (.ref 908)::kd P "notes" 1399 (.ref 915)::kd P "coming" 1406 (.ref 922)::kd P "__static_attributes__" 1410 (.ref 923)::kd P "__dict__" 1412 (.ref 926)::kd P "__weakref__" 1414 (.ref 927)::kd P "__doc__" 1415 .none::[])) 4,Aj []⟩ <| []
noncomputable abbrev KF(P:B4):b8:=(nat_lit 3,kNs P)::KG P
noncomputable def KC:b8 :=
 kp 22 196 5 1 204 "common_factor" wI mo1 <|
 kn (nat_lit 32) (kq "lowest" 207 14 1 29 (.ref 30) .none .none .none (.ref 31) 210 211) <|
 kn (nat_lit 33) (kg "lowest" vm "seamarks.parts" 194 32) <|
 kn (nat_lit 37) (kq "upright" 213 17 1 34 (.ref 35) .none .none .none (.ref 36) 216 217) <|
 kn (nat_lit 38) (kg "upright" zo "seamarks.parts" 194 37) <|
 kp 39 219 21 2 224 "part" mE mo1 <|
 kp 46 227 23 2 232 "plus" nX mo1 <|
 kp 53 235 25 3 241 "spot" mq mo1 <|
 kp 60 244 27 2 250 "ahead" qj mo1 <|
 kp 67 253 32 2 261 "merged" vn mo1 <|
 kp 74 264 41 1 269 "in_order" tN mo1 <|
 kp 81 274 47 2 279 "turn" rj mo2 <|
 kp 88 282 49 2 287 "along" rn mo2 <|
 kp 95 290 51 1 294 "plain" qp mo2 <|
 kp 102 297 53 1 301 "plain_side" vN mo2 <|
 kp 109 304 55 2 309 "beyond" vo mo2 <|
 kp 116 312 57 2 317 "holds" qg mo2 <|
 kp 123 320 59 2 328 "crossing" rQ mo2 <|
 kp 130 331 66 3 337 "pushed" vy mo2 <|
 kp 137 340 68 3 348 "bearing_sides" wJ mo2 <|
 kp 144 351 72 2 356 "range_side" vQ mo2 <|
 kp 151 361 75 2 367 "in_water" qA mo3 <|
 kp 158 370 80 1 374 "foot" mm mo3 <|
 kp 165 377 82 3 387 "edge_end" rT mo3 <|
 kn (nat_lit 175) (kq "edge_ends" 390 91 2 172 (.ref 173) .none .none .none (.ref 174) 393 394) <|
 kn (nat_lit 176) (kg "edge_ends" tW "seamarks.water" 359 175) <|
 kp 177 396 94 2 402 "spot_on_edge" wS mo3 <|
 kp 184 405 99 1 411 "sought" va mo3 <|
 kp 191 414 107 1 418 "some_spot" tT mo3 <|
 kp 198 421 109 1 428 "corners" yx mo3 <|
 kp 205 431 116 2 436 "way_to" vv mo3 <|
 kp 212 439 118 1 445 "ring" pR mo3 <|
 kp 219 448 125 2 454 "is_way" vg mo3 <|
 kp 226 457 130 1 464 "ways" mn mo3 <|
 kp 233 467 137 1 471 "has_no_way" vT mo3 <|
 kp 240 474 139 3 481 "triangle" rW mo3 <|
 kp 247 484 142 1 491 "area" mh mo3 <|
 kp 254 496 153 1 500 "span" mf mo4 <|
 kn (nat_lit 264) (kq "weighed" 503 155 2 261 (.ref 262) .none .none .none (.ref 263) 506 507) <|
 kn (nat_lit 265) (kg "weighed" zp "seamarks.reach" 494 264) <|
 kp 266 509 158 2 519 "clash_of_three" xT mo4 <|
 kp 273 522 165 1 530 "clash" pP mo4 <|
 kp 280 533 175 2 539 "way_onward" vM mo4 <|
 kp 287 542 180 2 550 "far_by_one" vO mo4 <|
 kp 294 553 188 3 563 "weights_of_two" xU mo4 <|
 kp 301 566 194 2 575 "far_by_two" vW mo4 <|
 kp 308 578 203 2 585 "reach" pJ mo4 <|
 kn (nat_lit 343) (@PySem.Obj.mk (.type "type") Jt (@PySem.Data.cls (@PySem.ClassData.mk "MarkError" ((.type "ValueError")::[]) ((.ref 343)::((.type "ValueError")::((.type "Exception")::((.type "BaseException")::((.type "object")::[]))))) 342 "MarkError" Ju [] ((.ref 356)::((.ref 368)::((.ref 380)::((.ref 392)::((.ref 404)::((.ref 416)::((.ref 428)::((.ref 440)::((.ref 452)::((.ref 464)::((.ref 476)::((.ref 488)::((.ref 500)::((.ref 512)::((.ref 524)::[]))))))))))))))) Jv Jt Jv)) (Aj ((Js (.ref 334))::(Jt::((Js (.str "MarkError" 618))::((Js (.str "MarkError" 626))::((Js (.builtin "ValueError.__new__"))::((Js (.bool Ju))::[])))))))) <|
 kx 487 "NoMoment" 479 812 343 <|
 kp 528 897 264 0 900 "nothing_yet" uR mo5 <|
 kp 535 903 266 4 911 "changed" ze mo5 <|
 kn (nat_lit 552) (kq "within" 924 276 2 549 (.ref 550) .none .none .none (.ref 551) 927 928) <|
 kn (nat_lit 553) (kg "within" we "seamarks.deeds" 876 552) <|
 kn (nat_lit 557) (kq "check_name" 930 278 1 554 (.ref 555) .none .none .none (.ref 556) 933 934) <|
 kn (nat_lit 558) (kg "check_name" vZ "seamarks.deeds" 876 557) <|
 kp 559 936 281 3 942 "check_free" vU mo5 <|
 kp 566 945 284 1 949 "check_place" uK mo5 <|
 kp 573 952 287 1 956 "check_run" sQ mo5 <|
 kp 580 959 290 2 964 "check_room" vR mo5 <|
 kp 587 967 293 2 972 "check_mark" vX mo5 <|
 kp 594 975 296 2 980 "check_moment" wU mo5 <|
 kp 601 983 299 1 987 "check_way" tX mo5 <|
 kp 608 990 302 3 996 "check_apart" uY mo5 <|
 kp 615 999 305 2 1006 "after_mark" vL mo5 <|
 kp 650 1050 345 2 1056 "after_sail" vV mo5 <|
 kp 664 1069 357 2 1075 "after_note" vK mo5 <|
 kp 671 1078 362 2 1083 "after_bearing" wE mo5 <|
 kp 678 1086 370 2 1091 "after_range" uN mo5 <|
 kp 693 1124 382 2 1129 "after" qe mo5 <|
 kn (nat_lit 703) (kq "way_between" 1134 385 3 700 (.ref 701) .none .none .none (.ref 702) 1137 1138) <|
 kn (nat_lit 704) (kg "way_between" uZ "seamarks.asks" 1132 703) <|
 kp 705 1140 392 1 1146 "mark_places" uT mo6 <|
 kp 712 1149 397 2 1154 "sides_of" qB mo6 <|
 kn (nat_lit 722) (kq "note_groups" 1157 401 2 719 (.ref 720) .none .none .none (.ref 721) 1160 1161) <|
 kn (nat_lit 723) (kg "note_groups" uU "seamarks.asks" 1132 722) <|
 kp 724 1163 410 2 1170 "note_sides" vJ mo6 <|
 kp 731 1173 415 2 1178 "book_corners" wX mo6 <|
 kp 738 1181 417 2 1186 "book_area" sS mo6 <|
 kp 745 1189 419 2 1194 "book_ways" sO mo6 <|
 kp 752 1197 421 3 1203 "book_reach" vS mo6 <|
 km 766 1220 426 1 1224 "__init__" "Book.__init__" mD mo7 <|
 km 843 1320 461 2 1327 "deed" "Book.deed" mz mo7 <|
 kn (nat_lit 895) (kc ((.str "marks" 1374)::((.str "Book.marks" 1375)::((.str "/claim/cut.py" 1376)::((.int 487 0)::((.int 1 0)::((.int 0 0)::((.int 0 0)::((.int 3 0)::((.ref 892)::((.bool Ju)::((.int 181 0)::((.ref 893)::(.none::(.none::(.none::((.ref 894)::((.int 1377 0)::((.int 487 0)::((.str "/claim/cut.py" 1378)::[])))))))))))))))))))) <|
 kn (nat_lit 896) (kf2 "marks" "Book.marks" pW .none .none (.str "seamarks.book" 1206) (.ref 895) .none) <|
 kn (nat_lit 907) (kc ((.str "runs" 1387)::((.str "Book.runs" 1388)::((.str "/claim/cut.py" 1389)::((.int 494 0)::((.int 1 0)::((.int 0 0)::((.int 0 0)::((.int 3 0)::((.ref 904)::((.bool Ju)::((.int 181 0)::((.ref 905)::(.none::(.none::(.none::((.ref 906)::((.int 1390 0)::((.int 494 0)::((.str "/claim/cut.py" 1391)::[])))))))))))))))))))) <|
 kn (nat_lit 908) (kf2 "runs" "Book.runs" mj .none .none (.str "seamarks.book" 1206) (.ref 907) .none) <|
 km 909 1393 498 1 1397 "notes" "Book.notes" rh mo7 <|
 km 916 1400 501 1 1404 "coming" "Book.coming" vf mo7 <|
 kn (nat_lit 925) (@PySem.Obj.mk (.type "type") Jt (@PySem.Data.cls (@PySem.ClassData.mk "Book" ((.type "object")::[]) ((.ref 925)::((.type "object")::[])) 924 "Book" Ju [] [] Jv Jt Jv)) (Aj (Jt::(Jt::((Js (.str "Book" 1208))::((Js (.str "Book" 1216))::((Js (.builtin "object.__new__"))::((Js (.bool Ju))::[])))))))) <|
 kp 930 1420 504 1 1424 "_law_power" pH mo8 <|
 kp 937 1427 506 2 1436 "_law_draws" qu mo8 <|
 kp 944 1439 522 0 1442 "_law_new" fe mo8 <|
 kn (nat_lit 954) (kq "_law_lead" 1445 524 3 951 (.ref 952) .none .none .none (.ref 953) 1448 1449) <|
 kn (nat_lit 955) (kg "_law_lead" nY "law_seamarks_k41_whole_moments_agree" 1418 954) <|
 kp 956 1451 528 3 1459 "_law_way" fF mo8 <|
 kp 963 1462 534 2 1467 "_law_turned" vq mo8 <|
 kp 970 1470 536 2 1477 "_law_left_pair" sI mo8 <|
 kp 977 1480 546 6 1496 "_law_true_bearing" wT mo8 <|
 kp 984 1499 555 2 1515 "_law_some_deeds" vP mo8 <|
 kn (nat_lit 994) (kq "_law_names" 1518 575 2 991 (.ref 992) .none .none .none (.ref 993) 1521 1522) <|
 kn (nat_lit 995) (kg "_law_names" ql "law_seamarks_k41_whole_moments_agree" 1418 994) <|
 kp 996 1524 590 2 1530 "_law_after" pD mo8 <|
 kp 1003 1533 612 2 1540 "_law_raised" vj mo8 <|
 kp 1010 1543 618 2 1548 "_law_low" gR mo8 <|
 kp 1017 1551 624 3 1558 "_law_spot_of" zf mo8 <|
 kn (nat_lit 1027) (kq "law" 1561 629 1 1024 (.ref 1025) .none .none .none (.ref 1026) 1564 1565) <|
 kn (nat_lit 1028) (kg "law" bg "law_seamarks_k41_whole_moments_agree" 1418 1027) <| []
noncomputable def KK(P:B4):b8:=(nat_lit 3,kNs P)::(KG P++KC)
noncomputable def K:b8:=GW (⟨KC,rfl⟩:∃ k,k=KC)
def SH:K=KC:=FK (⟨KC,rfl⟩:∃ k,k=KC)
noncomputable def kas:List Nat:=nat_lit 3::nat_lit 342::nat_lit 487::nat_lit 527::nat_lit 692::nat_lit 924::KC.map (·.1)
def kas_ok:∀ P:B4,kas=(KK P).map (·.1):=λ_=>by kernel_rfl
def OZ{a b:Bool}(h:a=Ju)(k:b=Ju):(a&&b)=true:=by rw[h,k]; rfl
set_option maxHeartbeats 0 in
open PySem.W in
def said_ok:PySem.Challenge.rw_seamarks_k41_whole_moments_agree.wellSaid=true:=by
 unfold OpenLaw.wellSaid
 repeat' first | with_reducible apply OZ | unfold OpenRow.wellSaid | unfold OpenRow.partSaid | unfold looksOpen
 all_goals decide +kernel
open PySem.W in
noncomputable abbrev lkM:=Fast.tw5923862056798008813 (Fast.tw2368527892694137696 PySem.Challenge.rw_seamarks_k41_whole_moments_agree).prog.main.body
open PySem.W in
noncomputable abbrev lkT(w:World)(os:OsState):=NO Fast.tw14364793385576792824 (Fast.tw2368527892694137696 PySem.Challenge.rw_seamarks_k41_whole_moments_agree).prog 90000 w os
open PySem.W in
noncomputable abbrev lkS(s:SharedT):=Fast.tw4187177175401517315 qv lse lkM (λs=>xlAt qv [] s&&recOk (Fast.tw2368527892694137696 PySem.Challenge.rw_seamarks_k41_whole_moments_agree).records s) Ju s.abs
set_option maxHeartbeats 0 in
open PySem.W in
def Rm(u:World)(os:OsState):(lkT (u.withFollow "special-get-raises" Ju) os).map (λs=>((lkS s).1,(staticsOk lkM (boot_heap (u.withFollow "special-get-raises" Ju).params) s.abs.heap&&namesBound (Fast.tw2368527892694137696 PySem.Challenge.rw_seamarks_k41_whole_moments_agree).prog s.abs.heap&&gensDone s.abs&&laidKept (boot_heap (u.withFollow "special-get-raises" Ju).params) s.abs.heap),(lkS s).2.1))=Js (((PyProof.Rows.expectedOf qv)),(Ju),(bltViewBooted)):=by kernel_rfl
set_option maxHeartbeats 0 in
open PySem.W in
def QM(u:World)(os:OsState):(lkT (u.withFollow "special-get-raises" Jv) os).map (λs=>((lkS s).1,(staticsOk lkM (boot_heap (u.withFollow "special-get-raises" Jv).params) s.abs.heap&&namesBound (Fast.tw2368527892694137696 PySem.Challenge.rw_seamarks_k41_whole_moments_agree).prog s.abs.heap&&gensDone s.abs&&laidKept (boot_heap (u.withFollow "special-get-raises" Jv).params) s.abs.heap),(lkS s).2.1))=Js (((PyProof.Rows.expectedOf qv)),(Ju),(bltViewBooted)):=by kernel_rfl
set_option maxHeartbeats 0 in
open PySem.W in
def VP(w:World)(os:OsState):(lkT w os).map (λs=>((lkS s).1,(staticsOk lkM (boot_heap w.params) s.abs.heap&&namesBound (Fast.tw2368527892694137696 PySem.Challenge.rw_seamarks_k41_whole_moments_agree).prog s.abs.heap&&gensDone s.abs&&laidKept (boot_heap w.params) s.abs.heap),(lkS s).2.1))=Js (((PyProof.Rows.expectedOf qv)),(Ju),(bltViewBooted)):=by
 have h:∀(b:Bool)(u:World),(λw:World=>(lkT w os).map (λs=>((lkS s).1,(staticsOk lkM (boot_heap w.params) s.abs.heap&&namesBound (Fast.tw2368527892694137696 PySem.Challenge.rw_seamarks_k41_whole_moments_agree).prog s.abs.heap&&gensDone s.abs&&laidKept (boot_heap w.params) s.abs.heap),(lkS s).2.1))=Js (((PyProof.Rows.expectedOf qv)),(Ju),(bltViewBooted))) (u.withFollow "special-get-raises" b):=λb u=>by cases b; rwa[QM u os]; rwa[Rm u os]
 have:=h (w.params.followText "special-get-raises") w;(rw[CP] at this;assumption)
set_option maxHeartbeats 0 in
open PySem.W in
def QV(u:w9)(os:C6):(lkT (u.withFollow "special-get-raises" Ju) os).map (λs=>(kas.map s.abs.heap.get?,(lkS s).2.2.1))=Js ((((KK (u.withFollow "special-get-raises" Ju).params).map λp=>Js p.2)),(Ju)):=by kernel_rfl
set_option maxHeartbeats 0 in
open PySem.W in
def Qf(u:w9)(os:C6):(lkT (u.withFollow "special-get-raises" Jv) os).map (λs=>(kas.map s.abs.heap.get?,(lkS s).2.2.1))=Js ((((KK (u.withFollow "special-get-raises" Jv).params).map λp=>Js p.2)),(Ju)):=by kernel_rfl
set_option maxHeartbeats 0 in
open PySem.W in
def Si(w:w9)(os:C6):(lkT w os).map (λs=>(kas.map s.abs.heap.get?,(lkS s).2.2.1))=Js ((((KK w.params).map λp=>Js p.2)),(Ju)):=by
 have h:∀(b:Bool)(u:w9),(λw:w9=>(lkT w os).map (λs=>(kas.map s.abs.heap.get?,(lkS s).2.2.1))=Js ((((KK w.params).map λp=>Js p.2)),(Ju))) (u.withFollow "special-get-raises" b):=λb u=>by cases b; rwa[Qf u os]; rwa[QV u os]
 have:=h (w.params.followText "special-get-raises") w;(rw[CP] at this;assumption)
set_option maxHeartbeats 0 in
open PySem.W in
def QY(u:w9)(os:C6):(lkT (u.withFollow "special-get-raises" Ju) os).map (λs=>((lkS s).2.2.2.1,(lkS s).2.2.2.2.1,(lkS s).2.2.2.2.2.1))=Js (Ju,pinGoodD (CY qv),Cv qv (looseW qv lse)):=by kernel_rfl
set_option maxHeartbeats 0 in
open PySem.W in
def Rs(u:w9)(os:C6):(lkT (u.withFollow "special-get-raises" Jv) os).map (λs=>((lkS s).2.2.2.1,(lkS s).2.2.2.2.1,(lkS s).2.2.2.2.2.1))=Js (Ju,pinGoodD (CY qv),Cv qv (looseW qv lse)):=by kernel_rfl
set_option maxHeartbeats 0 in
open PySem.W in
def OA(w:w9)(os:C6):(lkT w os).map (λs=>((lkS s).2.2.2.1,(lkS s).2.2.2.2.1,(lkS s).2.2.2.2.2.1))=Js (Ju,pinGoodD (CY qv),Cv qv (looseW qv lse)):=by
 have h:∀(b:Bool)(u:w9),(λw:w9=>(lkT w os).map (λs=>((lkS s).2.2.2.1,(lkS s).2.2.2.2.1,(lkS s).2.2.2.2.2.1))=Js (Ju,pinGoodD (CY qv),Cv qv (looseW qv lse))) (u.withFollow "special-get-raises" b):=λb u=>by cases b; rwa[Rs u os]; rwa[QY u os]
 have:=h (w.params.followText "special-get-raises") w;(rw[CP] at this;assumption)
set_option maxHeartbeats 0 in
open PySem.W in
def Qd(u:w9)(os:C6):(lkT (u.withFollow "special-get-raises" Ju) os).map (λs=>(lkS s).2.2.2.2.2.2)=Js (Cw qv lse,wideGood qv,clsGoodW qv lse):=by kernel_rfl
set_option maxHeartbeats 0 in
open PySem.W in
def Qq(u:w9)(os:C6):(lkT (u.withFollow "special-get-raises" Jv) os).map (λs=>(lkS s).2.2.2.2.2.2)=Js (Cw qv lse,wideGood qv,clsGoodW qv lse):=by kernel_rfl
set_option maxHeartbeats 0 in
open PySem.W in
def PH(w:w9)(os:C6):(lkT w os).map (λs=>(lkS s).2.2.2.2.2.2)=Js (Cw qv lse,wideGood qv,clsGoodW qv lse):=by
 have h:∀(b:Bool)(u:w9),(λw:w9=>(lkT w os).map (λs=>(lkS s).2.2.2.2.2.2)=Js (Cw qv lse,wideGood qv,clsGoodW qv lse)) (u.withFollow "special-get-raises" b):=λb u=>by cases b; rwa[Qq u os]; rwa[Qd u os]
 have:=h (w.params.followText "special-get-raises") w;(rw[CP] at this;assumption)
set_option maxHeartbeats 0 in
open PySem.W in
def Nw(w:w9)(os:C6):(lkT w os).map (λs=>(lkS s).1)=Js (Iz qv):=li (VP w os) (λp=>p.1)
set_option maxHeartbeats 0 in
open PySem.W in
def Ov(w:World)(os:OsState):(lkT w os).map (λs=>(staticsOk lkM (boot_heap w.params) s.abs.heap&&namesBound (Fast.tw2368527892694137696 PySem.Challenge.rw_seamarks_k41_whole_moments_agree).prog s.abs.heap&&gensDone s.abs&&laidKept (boot_heap w.params) s.abs.heap))=Js true:=li (VP w os) (λp=>p.2.1)
set_option maxHeartbeats 0 in
open PySem.W in
def Ow(w:w9)(os:C6):(lkT w os).map (λs=>(lkS s).2.1)=Js bltViewBooted:=li (VP w os) (λp=>p.2.2)
set_option maxHeartbeats 0 in
open PySem.W in
def OD(w:w9)(os:C6):(lkT w os).map (λs=>kas.map s.abs.heap.get?)=Js ((KK w.params).map λp=>Js p.2):=li (Si w os) (λp=>p.1)
set_option maxHeartbeats 0 in
open PySem.W in
def ON(w:w9)(os:C6):(lkT w os).map (λs=>(lkS s).2.2.1)=Js true:=li (Si w os) (λp=>p.2)
set_option maxHeartbeats 0 in
open PySem.W in
def left_ok:LeftO PySem.Challenge.rw_seamarks_k41_whole_moments_agree.row.prog qv lse (λs=>xlAt qv [] s&&recOk (RowW.records (OpenRow.toRowW PySem.Challenge.rw_seamarks_k41_whole_moments_agree.row)) s)
  (λs=>kas.map s.heap.get?) (λw=>(KK w.params).map λp=>Js p.2) 90000:=by
 erw[Wf (boot_open (by kernel_rfl) 'a' (λs=>by kernel_rfl)) ?a ?b ?c]
 case a =>
  rw[Er,CZ,CT];rwa[Ov]
 case b =>
  rw[Fast.te4187177175401517315,Er,CZ,CT];rwa[λw os=>gq (f:=lkS) (Nw w os) (gq (f:=λs=>(lkS s).2) (Ow w os) (gq (f:=λs=>(lkS s).2.2) (ON w os) (Uk (f:=λs=>(lkS s).2.2.2) (OA w os) (PH w os))))]
 case c =>
  rw[CZ,CT];rwa[OD]
end Sea
-- BASE
open PySem PySem.Spec L2
open PyProof.Rows hiding St
local macro_rules | `(tactic| symm) => `(tactic| kernel_rfl)
local macro_rules | `(tactic| ac_nf) => `(tactic| decide +kernel)
def y4{c:Prop}{d:Decidable c}(h:¬c){α:Sort _}{a b:α}:ite c a b=b:=if_neg h
def y6{c:Prop}{d:Decidable c}(h:c){α:Sort _}{a b:α}:ite c a b=a:=if_pos h
def y7{p:Prop}[Decidable p](h:p):decide p=true:=decide_eq_true h
def y8{p:Prop}[Decidable p](h:¬p):decide p=false:=decide_eq_false h
def y9{a b:Prop}(h:a)(n:¬a):b:=absurd h n
def x5{α:Type _}[BEq α][LawfulBEq α]{a b:α}:(a==b)=Jv↔a≠b:=beq_eq_false_iff_ne
namespace L2
inductive E2{α0 α1:Type}(P:α0->α1->Prop):Prop where
 | mk (a0:α0) (a1:α1) (h:P a0 a1):E2 P
inductive E3{α0 α1 α2:Type}(P:α0->α1->α2->Prop):Prop where
 | mk (a0:α0) (a1:α1) (a2:α2) (h:P a0 a1 a2):E3 P
inductive E4{α0 α1 α2 α3:Type}(P:α0->α1->α2->α3->Prop):Prop where
 | mk (a0:α0) (a1:α1) (a2:α2) (a3:α3) (h:P a0 a1 a2 a3):E4 P
inductive E5{α0 α1 α2 α3 α4:Type}(P:α0->α1->α2->α3->α4->Prop):Prop where
 | mk (a0:α0) (a1:α1) (a2:α2) (a3:α3) (a4:α4) (h:P a0 a1 a2 a3 a4):E5 P
inductive E6{α0 α1 α2 α3 α4 α5:Type}(P:α0->α1->α2->α3->α4->α5->Prop):Prop where
 | mk (a0:α0) (a1:α1) (a2:α2) (a3:α3) (a4:α4) (a5:α5) (h:P a0 a1 a2 a3 a4 a5):E6 P
inductive E7{α0 α1 α2 α3 α4 α5 α6:Type}(P:α0->α1->α2->α3->α4->α5->α6->Prop):Prop where
 | mk (a0:α0) (a1:α1) (a2:α2) (a3:α3) (a4:α4) (a5:α5) (a6:α6) (h:P a0 a1 a2 a3 a4 a5 a6):E7 P
inductive E8{α0 α1 α2 α3 α4 α5 α6 α7:Type}(P:α0->α1->α2->α3->α4->α5->α6->α7->Prop):Prop where
 | mk (a0:α0) (a1:α1) (a2:α2) (a3:α3) (a4:α4) (a5:α5) (a6:α6) (a7:α7) (h:P a0 a1 a2 a3 a4 a5 a6 a7):E8 P
inductive E9{α0 α1 α2 α3 α4 α5 α6 α7 α8:Type}(P:α0->α1->α2->α3->α4->α5->α6->α7->α8->Prop):Prop where
 | mk (a0:α0) (a1:α1) (a2:α2) (a3:α3) (a4:α4) (a5:α5) (a6:α6) (a7:α7) (a8:α8) (h:P a0 a1 a2 a3 a4 a5 a6 a7 a8):E9 P
inductive E10{α0 α1 α2 α3 α4 α5 α6 α7 α8 α9:Type}(P:α0->α1->α2->α3->α4->α5->α6->α7->α8->α9->Prop):Prop where
 | mk (a0:α0) (a1:α1) (a2:α2) (a3:α3) (a4:α4) (a5:α5) (a6:α6) (a7:α7) (a8:α8) (a9:α9) (h:P a0 a1 a2 a3 a4 a5 a6 a7 a8 a9):E10 P
inductive E14{α0 α1 α2 α3 α4 α5 α6 α7 α8 α9 α10 α11 α12 α13:Type}(P:α0->α1->α2->α3->α4->α5->α6->α7->α8->α9->α10->α11->α12->α13->Prop):Prop where
 | mk (a0:α0) (a1:α1) (a2:α2) (a3:α3) (a4:α4) (a5:α5) (a6:α6) (a7:α7) (a8:α8) (a9:α9) (a10:α10) (a11:α11) (a12:α12) (a13:α13) (h:P a0 a1 a2 a3 a4 a5 a6 a7 a8 a9 a10 a11 a12 a13):E14 P
structure A3(p0 p1 p2:Prop):Prop where
 mk ::
 h0:p0
 h1:p1
 h2:p2
structure A4(p0 p1 p2 p3:Prop):Prop where
 mk ::
 h0:p0
 h1:p1
 h2:p2
 h3:p3
structure A5(p0 p1 p2 p3 p4:Prop):Prop where
 mk ::
 h0:p0
 h1:p1
 h2:p2
 h3:p3
 h4:p4
structure A6(p0 p1 p2 p3 p4 p5:Prop):Prop where
 mk ::
 h0:p0
 h1:p1
 h2:p2
 h3:p3
 h4:p4
 h5:p5
structure A7(p0 p1 p2 p3 p4 p5 p6:Prop):Prop where
 mk ::
 h0:p0
 h1:p1
 h2:p2
 h3:p3
 h4:p4
 h5:p5
 h6:p6
structure A8(p0 p1 p2 p3 p4 p5 p6 p7:Prop):Prop where
 mk ::
 h0:p0
 h1:p1
 h2:p2
 h3:p3
 h4:p4
 h5:p5
 h6:p6
 h7:p7
structure A9(p0 p1 p2 p3 p4 p5 p6 p7 p8:Prop):Prop where
 mk ::
 h0:p0
 h1:p1
 h2:p2
 h3:p3
 h4:p4
 h5:p5
 h6:p6
 h7:p7
 h8:p8
structure A10(p0 p1 p2 p3 p4 p5 p6 p7 p8 p9:Prop):Prop where
 mk ::
 h0:p0
 h1:p1
 h2:p2
 h3:p3
 h4:p4
 h5:p5
 h6:p6
 h7:p7
 h8:p8
 h9:p9
structure A11(p0 p1 p2 p3 p4 p5 p6 p7 p8 p9 p10:Prop):Prop where
 mk ::
 h0:p0
 h1:p1
 h2:p2
 h3:p3
 h4:p4
 h5:p5
 h6:p6
 h7:p7
 h8:p8
 h9:p9
 h10:p10
structure A12(p0 p1 p2 p3 p4 p5 p6 p7 p8 p9 p10 p11:Prop):Prop where
 mk ::
 h0:p0
 h1:p1
 h2:p2
 h3:p3
 h4:p4
 h5:p5
 h6:p6
 h7:p7
 h8:p8
 h9:p9
 h10:p10
 h11:p11
structure A13(p0 p1 p2 p3 p4 p5 p6 p7 p8 p9 p10 p11 p12:Prop):Prop where
 mk ::
 h0:p0
 h1:p1
 h2:p2
 h3:p3
 h4:p4
 h5:p5
 h6:p6
 h7:p7
 h8:p8
 h9:p9
 h10:p10
 h11:p11
 h12:p12
structure A15(p0 p1 p2 p3 p4 p5 p6 p7 p8 p9 p10 p11 p12 p13 p14:Prop):Prop where
 mk ::
 h0:p0
 h1:p1
 h2:p2
 h3:p3
 h4:p4
 h5:p5
 h6:p6
 h7:p7
 h8:p8
 h9:p9
 h10:p10
 h11:p11
 h12:p12
 h13:p13
 h14:p14

abbrev Key:=Sum Int i9
def au:Key->c7->Bool
 | .inl k,v=>IT k v
 | .inr x,v=>Ie x v
def keyH(w:w9):Key->Int
 | .inl k=>hashInt k
 | .inr x=>hashStr w x
def yW:∀{k:Key}{v:c7},au k v=Ju->(∃ i t,k=Dj i/\v=Ch i t)\/(∃ x t,k=DU x/\v=Dr x t)
 | .inl i,v,h=>by
  obtain⟨t,e⟩:=Value.isInt_shape (k:=i) (v:=v) h;rwa[.inl ⟨i,t,rfl,e⟩]
 | .inr x,v,h=>by
  obtain⟨t,e⟩:=Value.isStrOf_shape (x:=x) (v:=v) h;rwa[.inr ⟨x,t,rfl,e⟩]
def Xf(i:Int)(t:Jn):au (.inl i) (.int i t)=true:=by simp[au,IT]
def XY(x:i9)(t:Jn):au (.inr x) (.str x t)=true:=by simp[au,Ie]
def OT(a b:Int):decide ((Dj a:Key)=Dj b)=(a == b):=by
 by_cases e:a=b
 ·subst e; simp
 ·have h:¬ (Dj a:Key)=Dj b:=λq=>e (Sum.inl.inj q);rw[y8 h];exact(x5.mpr e).symm
def Od(a b:i9):decide ((DU a:Key)=DU b)=decide (a=b):=by
 by_cases e:a=b
 ·subst e; simp
 ·have h:¬ (DU a:Key)=DU b:=λq=>e (Sum.inr.inj q);rw[y8 h,y8 e]
def PZ(a:Int)(b:i9):decide ((Dj a:Key)=DU b)=false:=y8 (λq=>nomatch q)
def Nf(a:i9)(b:Int):decide ((DU a:Key)=Dj b)=false:=y8 (λq=>nomatch q)

def yP(prog:o7)(w:w9):PySem.KeyKind prog w Key where
 is:=au
 hash:=keyH w
 inj:=λv a b g d=>by
  rcases yW g with ⟨i,t,rfl,rfl⟩ | ⟨x,t,rfl,rfl⟩
  ·rcases yW d with ⟨j,u,rfl,e⟩ | ⟨y,u,rfl,e⟩
   ·injection e with e1 _; rw[e1]
   ·exact nomatch e
  ·rcases yW d with ⟨j,u,rfl,e⟩ | ⟨y,u,rfl,e⟩
   ·exact nomatch e
   ·injection e with e1 _; rw[e1]
 byValue:=λk v h=>by
  rcases yW h with ⟨i,t,rfl,rfl⟩ | ⟨x,t,rfl,rfl⟩ <;> rfl
 pyHash:=λc h=>by
  rcases yW c with ⟨i,t,rfl,rfl⟩ | ⟨x,t,rfl,rfl⟩
  ·rwa[wpAny_pyHash_int h]
  ·rwa[wpAny_pyHash_str h]
 eqBool:=λf c h=>by
  rcases yW f with ⟨i,t,rfl,rfl⟩ | ⟨x,t,rfl,rfl⟩
  ·rcases yW c with ⟨j,u,rfl,rfl⟩ | ⟨y,u,rfl,rfl⟩
   ·rw[OT] at h; rwa[DO h]
   ·rw[PZ] at h; rwa[Gm i t y u _ _ _ _ h]
  ·rcases yW c with ⟨j,u,rfl,rfl⟩ | ⟨y,u,rfl,rfl⟩
   ·rw[Nf] at h; rwa[Gn x t j u _ _ _ _ h]
   ·rw[Od] at h; rwa[wpAny_eqBool_str h]
 «strs»:=λk x t v h=>by
  rcases yW h with ⟨i,u,rfl,e⟩ | ⟨y,u,rfl,e⟩
  ·exact nomatch e
  ·injection e with e1 _
   subst e1;cases v <;> rfl

def aL(prog:o7)(w:w9)(i:Int)(t:Jn):(yP prog w).is (.inl i) (.int i t)=true:=Xf i t
def ub(prog:o7)(w:w9)(x:i9)(t:Jn):(yP prog w).is (.inr x) (.str x t)=true:=XY x t
end L2

namespace L2

inductive V where
 | non | bl (b:Bool) | int (i:Int) | str (x:i9) | byt (b:Array UInt8) | flt (b:UInt64) | ref (a:c5) | ty (n:String)
 deriving DecidableEq

def xI:V->c7->Prop
 | .non,u=>u=Am
 | .bl b,u=>u=Go b
 | .int i,u=>∃ t,u=Ch i t
 | .str x,u=>∃ t,u=Dr x t
 | .byt b,u=>∃ t,u=Hk b t
 | .flt b,u=>∃ t,u=Hl b t
 | .ref a,u=>u=j4 a
 | .ty n,u=>u=C0 n

abbrev yQ:List V->List c7->Prop:=GX xI
def yQ.length(r:yQ xs a):xs.length=a.length:=DV r
def yQ.get:∀{xs:List V}{a:List c7}{i:Nat}{x:V},yQ xs a->xs[i]?=Js x->∃ u,a[i]?=Js u/\xI x u
 | _,_,_,_,.nil,e=>by simp at e
 | _,_,0,_,.cons r _,e=>by simp at e; subst e; rwa[_,rfl,r]
 | _,_,i+1,x,.cons _ t,e=>by
  obtain⟨u,h1,h2⟩:=yQ.get (i:=i) (x:=x) t (by simpa using e);exact⟨u,by simpa using h1,h2⟩
def yQ.set(r:xI x u):∀{xs:List V}{a:List c7}(i:Nat),yQ xs a->yQ (xs.set i x) (a.set i u)
 | _,_,_,.nil=>.nil
 | _,_,0,.cons _ t=>.cons r t
 | _,_,i+1,.cons q t=>.cons q (yQ.set r i t)
def yQ.append:∀{xs a:List V}{c b:List c7},yQ xs c->yQ a b->yQ (xs++a) (c++b)
 | _,_,_,_,.nil,s=>s
 | _,_,_,_,.cons r t,s=>.cons r (yQ.append t s)
def yQ.take:∀{xs:List V}{a:List c7}(n:Nat),yQ xs a->yQ (xs.take n) (a.take n)
 | _,_,0,_=>.nil
 | _,_,_+1,.nil=>.nil
 | _,_,n+1,.cons r t=>.cons r (yQ.take n t)
def yQ.drop:∀{xs:List V}{a:List c7}(n:Nat),yQ xs a->yQ (xs.drop n) (a.drop n)
 | _,_,0,r=>r
 | _,_,_+1,.nil=>.nil
 | _,_,n+1,.cons _ t=>yQ.drop n t
def fV:Option V->Option c7->Prop
 | some v,Js u=>xI v u
 | none,Jt=>True
 | _,_=>False
def KV{a:Type} : List (a×V)->List (a×c7)->Prop:=GX λ(p:a×V) (q:a×c7)=>p.1=q.1/\xI p.2 q.2

def kV:Key->V
 | .inl i=>.int i
 | .inr x=>.str x

inductive HO where
 | lst (xs:List V)
 | tup (xs:List V)
 | dK (kvs:List (Key×V)) | dT (kvs:List (List Key×V))
 | set (S:Int->Bool) (n:Nat)
 | ins (C dx:c5) (fs:List (i9×V))
 | own (x:c5)
 | xd (fs:List (i9×V))
 | met (f x:c5)
 | rng (lo hi:Int)
 | frz (o:By) (u:HO)
 | tbl (ps:Array c7)
 | ext (φ:Ae->Prop)

abbrev Hp:=c5->Option HO
def upd(H:Hp)(a:c5)(o:HO):Hp:=λb=>if b=a then Js o else H b
def zA{H:Hp}{a:c5}{o:HO} : upd H a o a=Js o:=by unfold upd; rw[y6 rfl]
def zH{H:Hp}{a b:c5}{o:HO}(h:b≠a):upd H a o b=H b:=by unfold upd; rw[y4 h]
def gw{H:Hp} : upd (upd H a o) a u=upd H a u:=by
 funext b; unfold upd; split <;> rfl
def fR{H:Hp}(h:H a=Js o)(c:H b=Js u)(d:o≠u):a≠b:=by
 intro e; subst e; rw[h] at c; rwa[d (m8 c)]
def zI{H:Hp}(h:H a=Js o)(c:H b=Jt):a≠b:=by
 intro e; subst e; rw[h] at c; cases c

section
variable(P:o7)(w:w9)
def uH(H:Hp)(h:Ae)(a:c5):HO->Prop
 | .lst xs=>xs.length<=sizeLine/\∃(c:List c7)(n:Nat),yQ xs c/\h.get? a=Js { cls:=.type "list",data:=.seq c.toArray n }
 | .tup xs=>xs.length<=sizeLine/\∃ c:List c7,yQ xs c/\IsTup h a c.toArray
 | .dK b=>b.length<=sizeLine/\(a == sysModules)=Jv/\∃ g,KV b g/\h.DictOf (yP P w) a g
 | .dT b=>b.length<=sizeLine/\(a == sysModules)=Jv/\∃ xs:List (List Key×c5×c7),
   GX (λ(p:List Key×V) (q:List Key×c5×c7)=>p.1=q.1/\H q.2.1=Js (.tup (p.1.map kV))/\xI p.2 q.2.2) b xs /\
   ∃ o i l,h.get? a=Js o/\o.ExactDict/\o.data=.dict i l/\i.toList=xs.map (entryOfKey (tupleKind (yP P w)))/\(xs.map (·.1)).Nodup
 | .set S n=>h.SetOf (intKind P w) a S n
 | .ins C dx fs=>H dx=Js (.own a)/\fs.length<=1000/\dx≠a/\h.get? a=Js (BR C dx) /\
   ∃ d,h.Ns1 dx d/\(∀ f,fV (fs.lookup f) (d f))/\GC d (fs.map (·.1))
 | .own _=>∃ o,h.get? a=Js o
 | .xd fs=>∃ d,h.Ns1 a d/\∀ f,fV (fs.lookup f) (d f)
 | .rng lo hi=>∃ t u v,h.get? a=Js { cls:=.type "range",data:=.fields #[.int lo t,.int hi u,.int 1 v] }
 | .frz o u=>h.get? a=Js o/\uH H h a u
 | .tbl j=>h.get? a=Js { cls:=.none,data:=.fields j }
 | .met f x=>h.get? a=Js (ES (.ref f) (.ref x))
 | .ext e=>e h/\(∃ o,h.get? a=Js o)/\∀ h1 h2:Ae,e h1->(∀ o,h1.get? a=Js o->h2.get? a=Js o)->e h2
def HOk(H:Hp)(h:Ae):Prop:=∀ a o,H a=Js o->uH P w H h a o
end

section
variable{P:o7}{w:w9}{H H':Hp}{h h':Ae}{a:c5}{o:HO}
def uH.lt(x:uH P w H h a o):a<h.objs.size:=by
 cases o with
 | lst xs=>obtain⟨_,_,_,_,e⟩:=x; rwa[i5 e]
 | tup xs=>obtain⟨_,_,_,p⟩:=x; rwa[p.lt]
 | dK b=>obtain⟨_,_,_,_,o,_,_,e,_⟩:=x; rwa[i5 e]
 | dT b=>obtain⟨_,_,_,_,o,_,_,e,_⟩:=x; rwa[i5 e]
 | set S n=>obtain⟨o,_,_,_,e,_⟩:=x; rwa[i5 e]
 | ins C dx fs=>obtain⟨_,_,_,e,_⟩:=x; rwa[i5 e]
 | own y=>obtain⟨_,e⟩:=x; rwa[i5 e]
 | xd fs=>obtain⟨_,⟨_,_,_,e,_⟩,_⟩:=x; rwa[i5 e]
 | rng lo hi=>obtain⟨_,_,_,e⟩:=x; rwa[i5 e]
 | frz ob u=>obtain⟨e,_⟩:=x; rwa[i5 e]
 | tbl d=>exact i5 (show h.get? a=Js _ from x)
 | met f y=>exact i5 (show h.get? a=Js _ from x)
 | ext c=>obtain⟨_,⟨_,e⟩,_⟩:=x; rwa[i5 e]
def Paired.mapP{α e:Type}{F G:α->e->Prop} : ∀{d:List α}{c:List e},GX F d c->(∀ a b,F a b->G a b)->GX G d c
 | _,_,.nil,_=>.nil
 | _,_,.cons r t,f=>.cons (f _ _ r) (Paired.mapP t f)
def uH.stay(x:uH P w H h a o)(k:∀ b u,(b=a\/H b=Js (.own a))->h.get? b=Js u->h'.get? b=Js u)
  (G:∀ b,H b=Js (.own a)->H' b=Js (.own a)) (E:∀ b xs,H b=Js 'w'->H' b=Js 'w'):uH P w H' h' a o:=by
 induction o with
 | lst xs=>obtain⟨z,j,n,r,e⟩:=x; rwa[z,j,n,r,k _ _ (.inl rfl) e]
 | tup xs=>obtain⟨z,j,r,ob,e,c⟩:=x; rwa[z,j,r,ob,k _ _ (.inl rfl) e,c]
 | dK s=>obtain⟨z,y,B,r,ob,g,i,e,c⟩:=x; rwa[z,y,B,r,ob,g,i,k _ _ (.inl rfl) e,c]
 | dT s =>
  obtain⟨z,y,xs,r,ob,g,i,e,c⟩:=x;rwa[z,y,xs,Paired.mapP r λp q z=>⟨z.1,E _ _ z.2.1,z.2.2⟩,ob,g,i,k _ _ (.inl rfl) e,c]
 | set S n=>obtain⟨ob,g,i,t,e,c⟩:=x; rwa[ob,g,i,t,k _ _ (.inl rfl) e,c]
 | ins C dx fs =>
  obtain⟨d,z,ne,e,m,⟨l,g,i,I,c⟩,r⟩:=x;rwa[G _ d,z,ne,k _ _ (.inl rfl) e,m,⟨l,g,i,k _ _ (.inr d) I,c⟩,r]
 | own y=>obtain⟨ob,e⟩:=x; rwa[ob,k _ _ (.inl rfl) e]
 | xd fs=>obtain⟨m,⟨l,g,i,e,c⟩,r⟩:=x; rwa[m,⟨l,g,i,k _ _ (.inl rfl) e,c⟩,r]
 | rng lo hi=>obtain⟨t,u,v,e⟩:=x; rwa[t,u,v,k _ _ (.inl rfl) e]
 | frz ob u D=>obtain⟨e,q⟩:=x; rwa[k _ _ (.inl rfl) e,D q]
 | tbl A =>
  have e:h.get? a=Js { cls:=.none,data:=.fields A }:=x;show h'.get? a=Js { cls:=.none,data:=.fields A };rwa[k a _ (.inl rfl) e]
 | met f y =>
  have e:h.get? a=Js (ES (.ref f) (.ref y)):=x;show h'.get? a=Js (ES (.ref f) (.ref y));rwa[k a _ (.inl rfl) e]
 | ext J=>obtain⟨p,⟨o,e⟩,st⟩:=x; rwa[st _ _ p λo q=>k _ _ (.inl rfl) q,⟨o,k _ _ (.inl rfl) e⟩,st]
def HOk.lt(x:HOk P w H h)(e:H a=Js o):a<h.objs.size:=(x a o e).lt
def HOk.fresh(x:HOk P w H h)(e:h.objs.size<=a):H a=none:=by
 cases q:H a with
 | none=>rfl
 | some u=>rwa[y9 (j5 (x.lt q) e) (AM _)]
def HOk.kept(x:HOk P w H h)(k:∀ b u,h.get? b=Js u->h'.get? b=Js u):HOk P w H h':=λa o e =>
 (x a o e).stay (λb u _ q=>k b u q) (λ_ q=>q) λ_ _ q=>q
def HOk.laid(x:HOk P w H h)(k:∀ b u,h.get? b=Js u->h'.get? b=Js u)(g:h.objs.size<=a)(new:uH P w (upd H a o) h' a o):HOk P w (upd H a o) h':=λb u e=>by
 have d:=x.fresh g;by_cases f:b=a
 ·subst f; rw[zA] at e; cases e; rwa[new]
 ·rw[zH f] at e;exact(x b u e).stay (λc v _ q=>k c v q) (λc q=>by rw[zH (zI q d)]; rwa[q]) λc xs q=>by rw[zH (zI q d)]; rwa[q]
end

def Rd(H:Hp)(a:c5)(u:HO):Prop:=H a=Js u\/∃ o,H a=Js (.frz o u)
def Rd.ok{H:Hp}(r:Rd H a u)(x:HOk P w H h):uH P w H h a u:=by
 rcases r with r | ⟨o,r⟩
 ·rwa[x a u r]
 ·obtain⟨_,q⟩:=x a _ r;rwa[q]
def Mut:Option HO->Prop
 | some (.lst _)=>True
 | some (.dK _)=>True
 | some (.dT _)=>True
 | some (.set _ _)=>True
 | some (.ins _ _ _)=>True
 | some (.ext _)=>True
 | _=>False
section
variable{P:o7}{w:w9}{H:Hp}{h h':Ae}{x e:c5}{o':HO}
def HOk.write(ok:HOk P w H h)(g:Mut (H x))(n:e=x\/H e=Js (.own x))(k:∀ b u,b≠e->h.get? b=Js u->h'.get? b=Js u)(l:∃ u,h'.get? e=Js u)
  (new:uH P w (upd H x o') h' x o'):HOk P w (upd H x o') h':=λb u q=>by
 have d:∀ c y,H c=Js (.own y)->c≠x:=λc y r z=>by subst z; rw[r] at g; rwa[g]
 have f:∀ c xs,H c=Js 'w'->c≠x:=λc xs r z=>by subst z; rw[r] at g; rwa[g]
 by_cases j:b=x
 ·subst j; rw[zA] at q; cases q; rwa[new]
 ·rw[zH j] at q;by_cases a:b=e
  ·have m:H b=Js (.own x):=by
    rcases n with z | z
    ·rwa[y9 (a.trans z) j]
    ·rw[a]; rwa[z]
   rw[q] at m; cases m;obtain⟨v,o⟩:=l;rwa[v,by rw[a]; exact o]
  ·refine(ok b u q).stay (λc v i r=>k c v ?_ r) (λc r=>by rw[zH (d c b r)]; rwa[r]) λc xs r=>by rw[zH (f c xs r)]; rwa[r]
   rcases i with rfl | i
   ·rwa[a]
   ·rintro rfl;rcases n with z | z
    ·rwa[d c b i z]
    ·rw[i] at z; cases z; rwa[j rfl]
end

structure Un(fs ex:List c5)(H H':Hp)(h h':Ae):Prop where
 keep:∀ b o,h.get? b=Js o->H b=Jt->b ∉ fs->b ∉ ex->h'.get? b=Js o
 slot:∀ b o,h.get? b=Js o->H b=Jt->b∈fs->b ∉ ex->∃ sl,h'.get? b=Js { o with slots:=sl }
 free:∀ b o,h.get? b=Js o->H b=Jt->b ∉ ex->H' b=Jt
 there:∀ b o,h.get? b=Js o->b ∉ ex->∃ o',h'.get? b=Js o'
 tups:∀ b xs,H b=Js (.tup xs)->H' b=Js (.tup xs)
 frzs:∀ b o u,H b=Js (.frz o u)->H' b=Js (.frz o u)
 tbls:∀ b ps,H b=Js (.tbl ps)->∃ more,H' b=Js (.tbl (ps++more))
section
variable{fs fs' ex ex':List c5}{H H1 H2:Hp}{h h1 h2 h':Ae}{a x e:c5}{o:HO}
def Un.any(u:Un fs ex H H1 h h1)(q:h.get? b=Js ob)(n:H b=Jt)(c:b ∉ ex):∃ f,h1.get? b=Js { ob with slots:=f }:=by
 by_cases d:b∈fs
 ·rwa[u.slot b ob q n d c]
 ·rwa[ob.slots,u.keep b ob q n d c]
def Un.kept(k:∀ b u,h.get? b=Js u->h'.get? b=Js u):Un fs ex H H h h' :=
 ⟨λb ob q _ _ _=>k b ob q,λb ob q _ _ _=>⟨ob.slots,k b ob q⟩,λ_ _ _ n _=>n,λb ob q _=>⟨ob,k b ob q⟩,λ_ _ q=>q,λ_ _ _ q=>q,λ_ c q=>⟨#[],by rw[q]; simp⟩⟩
def Un.refl:Un fs ex H H h h:=Un.kept λ_ _ q=>q
def Un.laid(k:∀ b u,h.get? b=Js u->h'.get? b=Js u)(d:h.objs.size<=a)(c:H a=Jt):Un fs ex H (upd H a o) h h' where
 keep:=λb u q _ _ _=>k b u q
 slot:=λb u q _ _ _=>⟨u.slots,k b u q⟩
 free:=λb u q n _=>by rw[zH (o9 (j5 (i5 q) d))]; rwa[n]
 there:=λb u q _=>⟨u,k b u q⟩
 tups:=λb xs q=>by rw[zH (zI q c)]; rwa[q]
 frzs:=λb u xs q=>by rw[zH (zI q c)]; rwa[q]
 tbls:=λb f q=>⟨#[],by rw[zH (zI q c),q]; simp⟩
def Un.write(d:Mut (H x))(l:e=x\/H e=Js (.own x))(k:∀ b u,b≠e->h.get? b=Js u->h'.get? b=Js u)(g:∃ u,h'.get? e=Js u):Un fs ex H (upd H x o) h h':=by
 have i:∀ b,H b=Jt->b≠x:=λb n z=>by subst z; rw[n] at d; rwa[d]
 have j:∀ b,H b=Jt->b≠e:=λb n z=>by
  subst z;rcases l with r | r
  ·rwa[i b n r]
  ·rw[n] at r; cases r
 have f:∀ b u,H b=Js u->¬ Mut (Js u)->b≠x:=λb u q nm z=>by subst z; rw[q] at d; rwa[nm d]
 refine⟨λb u q n _ _=>k b u (j b n) q,λb u q n _ _=>⟨u.slots,k b u (j b n) q⟩,λb u q n _=>by rw[zH (i b n)]; exact n,λb u q _=>?_,
  λb xs q=>by rw[zH (f b _ q λz=>z)]; exact q,λb u xs q=>by rw[zH (f b _ q λz=>z)]; exact q,λb m q=>⟨#[],by rw[zH (f b _ q λz=>z),q]; simp⟩⟩
 by_cases c:b=e
 ·subst c; rwa[g]
 ·rwa[u,k b u c q]
end

def trk(h:Ae)(H:Hp):List c5:=(Aw h.objs.size).filter λa=>(H a).isSome
def Uv(h:Ae)(H:Hp):Ae:=FC h (trk h H)
def Vs(h:Ae)(H:Hp):(Uv h H).objs.size=h.objs.size:=PySem.W.hideAll_size _ _
def Tu{h:Ae}{H:Hp}(e:h.get? b=Js o)(n:H b=Jt):(Uv h H).get? b=Js o :=
 F9 _ e λa=>by
  have q:(H b).isSome=true:=(Dk.mp a).2;rw[n] at q; simp at q
def RE{H:Hp}(e:(Uv h H).get? b=Js o):h.get? b=Js o/\H b=none:=by
 have e':h.get? b=Js o:=Gp (trk h H) e;exists e';cases q:H b with
 | none=>rfl
 | some x =>
  have a:b∈trk h H:=Dk.mpr ⟨B5.mpr (i5 e'),by simp[q]⟩;have z:(Uv h H).get? b=none:=PySem.W.hideAll_none (trk h H) a;rw[z] at e; cases e

end L2

namespace L2

structure Mod(K:b8)(mg:i9->Option c7)(base:Ae):Prop where
 kin:K.In base
 glob:base.Ns mainGlobals mg
 blt:∃ mb,base.Ns builtinsNs mb/\∀ x:i9,x ≠ "__name__" -> mb x=bootBuiltins x
 nolimit:base.NoLimit

structure Cx where
 prog:o7
 w:w9
 K:b8
 mg:i9->Option c7
 base:Ae
 A:An
 N:List i9
 s₀:d7
 H₀:Hp
 env:D4
 outer:List D4
 stack:List D4
 ex:List c5
 fn:i9->Bool
 calm:Bool
 pn:List (c5×By)
 xe:c7->d7->Prop
def frs(l:List D4):List c5:=l.filterMap (·.frame)
abbrev Cx.fs(X:Cx):List c5:=frs X.outer

def Vis(a:Cs)(x:i9):Prop:=a.names.lookup x=Js .local\/a.names.lookup x=Js .cell\/a.names.lookup x=Js .free
def Loc(a:Cs)(x:i9):Prop:=a.names.lookup x=Js .local\/a.names.lookup x=Js .cell
def Look(env:D4)(h:Ae)(m:i9->Option c7)(x:i9)(u:c7):Prop :=
 (env.kindOf x=Js .local/\m x=Js u)\/((env.kindOf x=Js .cell\/env.kindOf x=Js .free)/\∃ c,env.cells.lookup x=Js c/\h.IsCell c (Js u))

structure Cx.Ok(X:Cx):Prop where
 mod:Mod X.K X.mg X.base
 kind:X.env.scope.kind=.function
 glob:X.env.globals=mainGlobals
 blt:X.env.builtins=builtinsNs
 above:X.s₀.heap.objs.size<=X.env.locals
 inj:∀ x y c,X.env.cells.lookup x=Js c->X.env.cells.lookup y=Js c->x=y
 has:∀ x,(X.env.kindOf x=Js .cell\/X.env.kindOf x=Js .free)->∃ c,X.env.cells.lookup x=Js c
 cab:∀ x c,X.fn x=Ju->X.env.cells.lookup x=Js c->X.s₀.heap.objs.size<=c
 hd:X.calm=Ju->X.A.handled=Jt
 frames:X.A.frames=Js X.stack
 stk:X.stack=X.outer\/(X.stack=X.env::X.outer/\X.env.frame=Js X.env.locals)
 exf:∀ b∈X.ex,b≠X.env.locals/\∀ x c,X.env.cells.lookup x=Js c->c≠b
 bs:∀ b o,X.base.get? b=Js o->X.s₀.heap.get? b=Js o/\X.H₀ b=Jt
 bsz:X.base.objs.size<=X.s₀.heap.objs.size
 noex:∀ b o,X.base.get? b=Js o->b ∉ X.ex
 exfs:∀ b∈X.ex,b ∉ X.fs
 funs:X.s₀.heap.FunFrames X.base X.outer
 frf:∀ b∈X.fs,X.H₀ b=Jt

structure Inv(X:Cx)(Jw:List (c5×By))(σ:List (Option V))(H:Hp)(s:d7):Prop where
 ok:X.Ok
 os:s.os=X.s₀.os
 bare:Ei s.gens
 base:Un X.fs X.ex X.H₀ H X.s₀.heap s.heap
 loc:∃ m,s.heap.Ns X.env.locals m/\∀(i:Nat)(x:i9)(v:V),X.N[i]?=Js x->σ[i]?=Js (Js v)->Vis X.env.scope x->∃ u,xI v u/\Look X.env s.heap m x u
 cell:∀ x c,X.env.cells.lookup x=Js c->∃ v,s.heap.IsCell c v
 free:H X.env.locals=Jt
 freeC:∀ x c,X.env.cells.lookup x=Js c->H c=Jt
 pin:∀ p∈X.pn++Jw,s.heap.get? p.1=Js p.2/\H p.1=Jt/\p.1≠X.env.locals/\p.1 ∉ X.fs/\∀ v,p.2.data≠.cell v
 hok:HOk X.prog X.w H s.heap
 len:σ.length=X.N.length

section
variable{X:Cx}{Jw:List (c5×By)}{σ:List (Option V)}{H H':Hp}{s:d7}{h':Ae}

def Cx.Ok.nofr(ok:X.Ok)(e:X.base.get? b=Js o):b ∉ X.fs:=λa=>by
 have:=(ok.funs.mem a).1;rw[e] at this; cases this
def Inv.bs(I:Inv X Jw σ H s):∀ b o,X.base.get? b=Js o->s.heap.get? b=Js o/\H b=none:=λb o e =>
 ⟨I.base.keep b o (I.ok.bs b o e).1 (I.ok.bs b o e).2 (I.ok.nofr e) (I.ok.noex b o e),I.base.free b o (I.ok.bs b o e).1 (I.ok.bs b o e).2 (I.ok.noex b o e)⟩
def Inv.bk(I:Inv X Jw σ H s):∀ b o,X.base.get? b=Js o->s.heap.get? b=Js o:=λb o e=>(I.bs b o e).1
def Inv.mod(I:Inv X Jw σ H s):Mod X.K X.mg X.base:=I.ok.mod
def Inv.kIn(I:Inv X Jw σ H s):X.K.In s.heap:=I.ok.mod.kin.keeps I.bk
def Inv.nolimit(I:Inv X Jw σ H s):s.heap.NoLimit:=I.ok.mod.nolimit.keeps I.bk
def Inv.lt(I:Inv X Jw σ H s):X.env.locals<s.heap.objs.size:=let ⟨_,hn,_⟩:=I.loc; hn.lt
def Inv.sz(I:Inv X Jw σ H s):X.s₀.heap.objs.size<=s.heap.objs.size:=d9 I.ok.above (AC I.lt)
def Inv.nofs(I:Inv X Jw σ H s){a:c5}(h:s.heap.objs.size<=a):a ∉ X.fs:=λc=>by
 obtain⟨_,o,b,_⟩:=I.ok.funs.mem c;rwa[y9 (j5 (i5 b) (d9 I.sz h)) (AM _)]
def Inv.cne(I:Inv X Jw σ H s):∀ x c,X.env.cells.lookup x=Js c->c≠X.env.locals:=λx c e z=>by
 obtain⟨v,o,d,hd⟩:=I.cell x c e;obtain⟨m,⟨f,g,h,a,b,_⟩,_⟩:=I.loc;rw[z,a] at d; cases d; rw[b] at hd; cases hd
def Inv.funs(I:Inv X Jw σ H s):s.heap.FunFrames X.base X.outer:=by
 have all:∀(l:List D4),(∀ b∈frs l,b∈X.fs)->X.s₀.heap.FunFrames X.base l->s.heap.FunFrames X.base l:=by
  intro l
  induction l with
  | nil=>intro _ _; trivial
  | cons env r g =>
   intro f m;obtain⟨n,⟨L,o,a,j,i,hd⟩,h⟩:=m;have d:L∈X.fs:=f L (by unfold frs; rw[BD,a]; rwa[j7]);obtain⟨p,e⟩:=I.base.slot L o i (I.ok.frf L d) d λz=>I.ok.exfs L z d;rwa[n,⟨L,_,a,j,e,hd⟩,g (λb c=>f b (by unfold frs; rw[BD,a]; exact l7 _ c)) h]
 rwa[all X.outer (λ_ c=>c) I.ok.funs]

def Inv.stack(I:Inv X Jw σ H s):s.heap.FunFrames X.base X.stack:=by
 rcases I.ok.stk with e | ⟨e,b⟩
 ·rw[e]; rwa[I.funs]
 ·rw[e];obtain⟨m,a,_⟩:=I.loc;erw[.cons (by rw[I.ok.kind]; decide) b a ?_ I.funs];rwa[FQ (d9 I.ok.bsz I.ok.above)]
def Inv.stkSub(I:Inv X Jw σ H s):∀ b∈frs X.stack,b∈X.env.locals::X.fs:=λb a=>by
 rcases I.ok.stk with e | ⟨e,c⟩
 ·rw[e] at a; rwa[l7 _ a]
 ·rw[e] at a;unfold frs at a;rw[BD,c] at a;rwa[a]
def Inv.stkFree(I:Inv X Jw σ H s):∀ b∈frs X.stack,H b=none:=λb a=>by
 rcases g9.mp (I.stkSub b a) with e | a
 ·rw[e]; rwa[I.free]
 ·obtain⟨_,o,c,_⟩:=I.ok.funs.mem a;rwa[I.base.free b o c (I.ok.frf b a) λz=>I.ok.exfs b z a]

def Inv.step{g':Array GenState}{t':Nat}{d':Drawn}{ch:List c5}(I:Inv X Jw σ H s)
  (g:∀ b∈ch,(b∈X.ex\/X.s₀.heap.objs.size<=b)/\b≠X.env.locals/\(∀ x c,X.env.cells.lookup x=Js c->c≠b)/\∀ p∈X.pn++Jw,p.1≠b)
  (keep:∀ b o,b≠X.env.locals->b ∉ X.fs->b ∉ ch->s.heap.get? b=Js o->H b=Jt->h'.get? b=Js o)
  (slot:∀ b o,b≠X.env.locals->b∈X.fs->b ∉ ch->s.heap.get? b=Js o->H b=Jt->∃ L,h'.get? b=Js { o with slots:=L }) (free:∀ b o,b ∉ ch->s.heap.get? b=Js o->H b=Jt->H' b=Jt)
  (there:∀ b o,b ∉ ch->s.heap.get? b=Js o->∃ C,h'.get? b=Js C)
  (tups:∀ b xs,H b=Js 'w'->H' b=Js 'w') (frzs:∀ b o u,H b=Js (.frz o u)->H' b=Js (.frz o u)) (tbls:∀ b G,H b=Js (.tbl G)->∃ more,H' b=Js (.tbl (G++more)))
  (ns:∀ m,s.heap.Ns X.env.locals m->h'.Ns X.env.locals m) (hok:HOk X.prog X.w H' h') (T:Ei g') :
  Inv X Jw σ H' { s with heap:=h',gens:=g',drawn:=d',toks:=t' }:=by
 have D:∀ b o,X.s₀.heap.get? b=Js o->b≠X.env.locals:=λb o e=>o9 (j5 (i5 e) I.ok.above);have j:∀ b o,X.s₀.heap.get? b=Js o->b ∉ X.ex->b ∉ ch:=λb o e a A=>by
  rcases (g b A).1 with z | z
  ·rwa[a z]
  ·rwa[y9 (j5 (i5 e) z) (AM _)]
 have h:∀ x c,X.env.cells.lookup x=Js c->∀ v,s.heap.IsCell c v->h'.IsCell c v:=λx c e v ⟨o,B,hd⟩=>by
  have f:c ∉ ch:=λz=>(g c z).2.2.1 x c e rfl;by_cases O:c∈X.fs
  ·obtain⟨L,q⟩:=slot c o (I.cne x c e) O f B (I.freeC x c e);rwa[_,q,hd]
  ·rwa[o,keep c o (I.cne x c e) O f B (I.freeC x c e),hd]
 erw[I.ok,I.os,T,⟨λb o e n A a=>?_,λb o e n A a=>?_,λb o e n a=>?_,λb o e a=>?_,λb xs e=>tups b xs (I.base.tups b xs e),λb o xs e=>frzs b o xs (I.base.frzs b o xs e),λb G e=>?_⟩,?_,λx c e=>?_,?_,λx c e=>?_,λp N=>?_,hok,I.len]
 ·rwa[keep b o (D b o e) A (j b o e a) (I.base.keep b o e n A a) (I.base.free b o e n a)]
 ·obtain⟨L,y⟩:=I.base.slot b o e n A a;obtain⟨J,E⟩:=slot b _ (D b o e) A (j b o e a) y (I.base.free b o e n a);rwa[J,E]
 ·obtain⟨C,y⟩:=I.base.there b o e a;rwa[free b C (j b o e a) y (I.base.free b o e n a)]
 ·obtain⟨C,y⟩:=I.base.there b o e a;rwa[there b C (j b o e a) y]
 ·obtain⟨Q,y⟩:=I.base.tbls b G e;obtain⟨P,E⟩:=tbls b _ y;rwa[Q++P,by rw[E,Array.append_assoc]]
 ·obtain⟨m,R,S⟩:=I.loc;erw[m,ns m R,λi x v y E Y=>?_];obtain⟨u,r,l⟩:=S i x v y E Y;exists u,r;rcases l with l | ⟨k,c,e,z⟩
  ·rwa[.inl l]
  ·rwa[.inr ⟨k,c,e,h x c e _ z⟩]
 ·obtain⟨v,z⟩:=I.cell x c e;rwa[v,h x c e v z]
 ·obtain⟨m,⟨o,_,_,B,_⟩,_⟩:=I.loc;rwa[free _ o (λz=>(g _ z).2.1 rfl) B I.free]
 ·obtain⟨v,o,B,hd⟩:=I.cell x c e;rwa[free c o (λz=>(g c z).2.2.1 x c e rfl) B (I.freeC x c e)]
 ·obtain⟨e,n,ne,M,d⟩:=I.pin p N;have f:p.1 ∉ ch:=λz=>(g p.1 z).2.2.2 p N rfl;rwa[keep p.1 p.2 ne M f e n,free p.1 p.2 f e n,ne,M,d]
def Inv.un{t':Nat}(I:Inv X Jw σ H s)(u:Un X.fs [] H H' s.heap h')(hok:HOk X.prog X.w H' h'):Inv X Jw σ H' { s with heap:=h',toks:=t' }:=by
 obtain⟨m,⟨o,v,x,g,r⟩,_⟩:=id I.loc;obtain⟨l,j⟩:=u.any g I.free 'd';exact I.step (g':=s.gens) (d':=s.drawn) (ch:=[]) (λ_ z=>nomatch z) (λb o _ c _ e n=>u.keep b o e n c 'd') (λb o _ c _ e n=>u.slot b o e n c 'd') (λb o _ e n=>u.free b o e n 'd') (λb o _ e=>u.there b o e 'd') u.tups u.frzs u.tbls (λq i=>by
  obtain⟨p,d,f,a,h⟩:=i;rw[g] at a; cases a;rwa[_,d,f,j,h]) hok I.bare
def Inv.call{g':Array GenState}{t':Nat}{d':Drawn}{ch:List c5}(I:Inv X Jw σ H s)(u:Un (frs X.stack) ch H H' s.heap h')(hok:HOk X.prog X.w H' h')(v:Ei g')
  (f:∀ b∈ch,(b∈X.ex\/X.s₀.heap.objs.size<=b)/\b≠X.env.locals/\(∀ x c,X.env.cells.lookup x=Js c->c≠b)/\∀ p∈X.pn++Jw,p.1≠b) :
  Inv X Jw σ H' { s with heap:=h',gens:=g',drawn:=d',toks:=t' }:=by
 obtain⟨m,⟨o,D,E,j,r⟩,_⟩:=id I.loc;obtain⟨A,g⟩:=u.any j I.free λz=>(f _ z).2.1 rfl;exact I.step (ch:=ch) f (λb o g y a e n=>u.keep b o e n (λz=>(g9.mp (I.stkSub b z)).elim g y) a) (λb o _ _ a e n=>u.any e n a) (λb o a e n=>u.free b o e n a) (λb o a e=>u.there b o e a) u.tups u.frzs u.tbls (λC q=>by
  obtain⟨B,h,i,d,l⟩:=q;rw[j] at d; cases d;rwa[_,h,i,g,l]) hok v
def Inv.turned{t':Nat}{a:c5}(I:Inv X Jw σ H s)(k:∀ b o,b≠a->s.heap.get? b=Js o->h'.get? b=Js o)(i:H a=Jt)(g:a≠X.env.locals)
  (h1:a∈X.ex\/X.s₀.heap.objs.size<=a) (h2:∀ x c,X.env.cells.lookup x=Js c->c≠a) (h3:∀ p∈X.pn++Jw,p.1≠a):Inv X Jw σ H { s with heap:=h',toks:=t' }:=by
 have f:∀ b u,H b=Js u->b≠a:=λb u e z=>by rw[z,i] at e; cases e
 refine I.step (g':=s.gens) (d':=s.drawn) (ch:=[a]) (λb l=>?_) (λb o _ _ d e _=>k b o (λz=>d (by simp[z])) e) (λb o _ _ d e _=>⟨o.slots,k b o (λz=>d (by simp[z])) e⟩) (λ_ _ _ _ n=>n)
  (λb o d e=>⟨o,k b o (λz=>d (by simp[z])) e⟩) (λ_ _ e=>e) (λ_ _ _ e=>e) (λb A e=>⟨#[],by rw[e]; simp⟩) (λm j=>?_) (λb u e=>?_) I.bare
 ·have e:b=a:=by simpa using l
  subst e;rwa[h1,g,h2,h3]
 ·obtain⟨o,w,y,h,r⟩:=j;rwa[o,w,y,k _ o (Bk g) h,r]
 ·refine(I.hok b u e).stay (λc v d q=>k c v ?_ q) (λ_ q=>q) λ_ _ q=>q;rcases d with z | z
  ·rw[z]; rwa[f b u e]
  ·rwa[f c _ z]
def Inv.tok(I:Inv X Jw σ H s)(t:Nat):Inv X Jw σ H { s with toks:=t }:=I.un (h':=s.heap) (t':=t) Un.refl I.hok
def Inv.kept{t':Nat}(I:Inv X Jw σ H s)(k:∀ b u,s.heap.get? b=Js u->h'.get? b=Js u):Inv X Jw σ H { s with heap:=h',toks:=t' }:=I.un (Un.kept k) (I.hok.kept k)
def Inv.laid{a:c5}{t':Nat}(I:Inv X Jw σ H s)(k:∀ b u,s.heap.get? b=Js u->h'.get? b=Js u)(c:s.heap.objs.size<=a)(new:uH X.prog X.w (upd H a o) h' a o) :
  Inv X Jw σ (upd H a o) { s with heap:=h',toks:=t' }:=I.un (Un.laid k c (I.hok.fresh c)) (I.hok.laid k c new)
def Inv.write{x e:c5}{t':Nat}(I:Inv X Jw σ H s)(c:Mut (H x))(d:e=x\/H e=Js (.own x))(k:∀ b u,b≠e->s.heap.get? b=Js u->h'.get? b=Js u)(a:∃ u,h'.get? e=Js u)
  (new:uH X.prog X.w (upd H x o) h' x o):Inv X Jw σ (upd H x o) { s with heap:=h',toks:=t' }:=I.un (Un.write c d k a) (I.hok.write c d k a new)
def Inv.pins_of{a:List (c5×By)}(I:Inv X Jw σ H s)(h:∀ p∈a,s.heap.get? p.1=Js p.2/\H p.1=Jt/\p.1≠X.env.locals/\p.1 ∉ X.fs/\∀ v,p.2.data≠.cell v):Inv X a σ H s :=
 ⟨I.ok,I.os,I.bare,I.base,I.loc,I.cell,I.free,I.freeC,λp b=>(m9.mp b).elim (λz=>I.pin p (C3 _ z)) (h p),I.hok,I.len⟩

def Zl{N:List i9}(c:N.Nodup){i j:Nat}(a:N[i]?=Js x)(b:N[j]?=Js x):i=j:=by
 obtain⟨h1,e⟩:=c9.mp a;obtain⟨h2,d⟩:=c9.mp b;exact(GY c).mp (e.trans d.symm)

def dh{E:c7->d7->Prop}{i:Nat}{Q:Unit->d7->Prop}(I:Inv X Jw σ H s)(hN:X.N.Nodup)(hi:X.N[i]?=Js x)(C:Loc X.env.scope x)(r:xI v u)
  (h:∀ s',Inv X Jw (σ.set i (Js v)) H s'->(∃ a,Cj a s.heap s'.heap/\(a=X.env.locals\/X.env.cells.lookup x=Js a))->Q () s') (hf:X.fn x=Ju\/X.env.scope.names.lookup x=Js .local:=by first | exact .inl rfl | exact .inr rfl | assumption):wpAny M A (storeName X.env x u) Q E s:=by
 obtain⟨m,hn,hl⟩:=id I.loc;have Y:(X.env.scope.kind == .class||(X.env.scope.kind == .module&&X.env.locals != X.env.globals))=false:=by rw[I.ok.kind]; rfl
 have L:i<σ.length:=by rw[I.len]; exact(c9.mp hi).1
 have cne:=I.cne;have g:∀{a:c5}{h':Ae},(∃ o,s.heap.get? a=Js o/\H a=Jt)->Cj a s.heap h'->HOk X.prog X.w H h':=λ{a h'} ha f b ob e=>by
  obtain⟨_,_,D⟩:=ha;refine(I.hok b ob e).stay (λc w' B q=>(f.2 c ?_).trans q) (λ_ q=>q) λ_ _ q=>q;rintro rfl;rcases B with rfl | B
  ·rw[D] at e; cases e
  ·rw[D] at B; cases B
 rcases C with J | J
 ·erw[wpAny_storeName_local J hn (λh' hn' f=>?_) Y];obtain⟨oL,_,_,hoL,_⟩:=id hn;refine h _ ⟨I.ok,I.os,I.bare,⟨λb o e n R C=>?_,λb o e n R C=>?_,I.base.free,λb o e C=>?_,I.base.tups,I.base.frzs,I.base.tbls⟩,⟨_,hn',λj y v' l G e3=>?_⟩,λy c e=>?_,I.free,I.freeC,λp hp=>?_,g ⟨oL,hoL,I.free⟩ f,by simpa using I.len⟩ ⟨_,f,.inl rfl⟩
  ·exact(f.2 b (o9 (j5 (i5 e) I.ok.above))).trans (I.base.keep b o e n R C)
  ·obtain⟨sl,l⟩:=I.base.slot b o e n R C;rwa[sl,(f.2 b (o9 (j5 (i5 e) I.ok.above))).trans l]
  ·obtain⟨o',l⟩:=I.base.there b o e C;rwa[o',(f.2 b (o9 (j5 (i5 e) I.ok.above))).trans l]
  ·by_cases O:j=i
   ·subst O;rw[hi] at l; cases l;rw[CH L] at G;cases G;rwa[u,r,.inl ⟨J,by simp⟩]
   ·rw[D5 (Bk O)] at G;obtain⟨u',r',q⟩:=hl j y v' l G e3;exists u',r';rcases q with ⟨k,e⟩ | ⟨k,c,e,z⟩
    ·erw[.inl ⟨k,?_⟩];have:y≠x:=λe=>O (Zl hN l (e ▸ hi));simp[this,e]
    ·rwa[.inr ⟨k,c,e,z.sameBut f (cne y c e)⟩]
  ·obtain⟨w',z⟩:=I.cell y c e;rwa[w',z.sameBut f (cne y c e)]
  ·obtain⟨e,n,ne,nf,d⟩:=I.pin p hp;rwa[(f.2 p.1 ne).trans e,n,ne,nf,d]
 ·have P:X.fn x=true:=by
   rcases hf with z | z
   ·rwa[z]
   ·rw[z] at J; cases J
  obtain⟨c,B⟩:=I.ok.has x (.inl J);obtain⟨w',z⟩:=I.cell x c B;erw[wpAny_storeName_cell I.ok.kind J B z (λh' hc' f=>?_)];obtain⟨oc,T,S⟩:=id z;refine h { s with heap:=h' } ⟨I.ok,I.os,I.bare,⟨λb o e n R C=>?_,λb o e n R C=>?_,I.base.free,λb o e C=>?_,I.base.tups,I.base.frzs,I.base.tbls⟩,⟨m,hn.sameBut f (Bk (cne x c B)),λj y v' l G e3=>?_⟩,λy c' e=>?_,I.free,I.freeC,λp hp=>?_,g ⟨oc,T,I.freeC x c B⟩ f,by simpa using I.len⟩ ⟨c,f,.inr B⟩
  ·exact(f.2 b (o9 (j5 (i5 e) (I.ok.cab x c P B)))).trans (I.base.keep b o e n R C)
  ·obtain⟨sl,l⟩:=I.base.slot b o e n R C;rwa[sl,(f.2 b (o9 (j5 (i5 e) (I.ok.cab x c P B)))).trans l]
  ·obtain⟨o',l⟩:=I.base.there b o e C;rwa[o',(f.2 b (o9 (j5 (i5 e) (I.ok.cab x c P B)))).trans l]
  ·by_cases O:j=i
   ·subst O;rw[hi] at l; cases l;rw[CH L] at G;cases G;rwa[u,r,.inr ⟨.inl J,c,B,hc'⟩]
   ·rw[D5 (Bk O)] at G;obtain⟨u',r',q⟩:=hl j y v' l G e3;exists u',r';rcases q with q | ⟨k,c',e,z'⟩
    ·rwa[.inl q]
    ·erw[.inr ⟨k,c',e,z'.sameBut f ?_⟩];rintro rfl;rwa[O (Zl hN l (I.ok.inj _ _ _ e B ▸ hi))]
  ·by_cases Z:c'=c
   ·subst Z; rwa[_,hc']
   ·obtain⟨w2,z2⟩:=I.cell y c' e;rwa[w2,z2.sameBut f Z]
  ·obtain⟨e,n,ne,nf,d⟩:=I.pin p hp;erw[(f.2 p.1 ?_).trans e,n,ne,nf,d];intro q;rw[q,T] at e;have q':oc=p.2:=m8 e;rwa[d w' (by rw[<- q']; exact S)]
def vI{E:c7->d7->Prop}{i:Nat}{Q:Unit->d7->Prop}(I:Inv X Jw σ H s)(d:X.N.Nodup)(hi:X.N[i]?=Js x)(b:Loc X.env.scope x)(r:xI v u)
  (h:∀ a,Inv X Jw (σ.set i (Js v)) H a->Q () a) (c:X.fn x=Ju\/X.env.scope.names.lookup x=Js .local:=by first | exact .inl rfl | exact .inr rfl | assumption):wpAny M A (storeName X.env x u) Q E s :=
 dh I d hi b r (λa e _=>h a e) c
def Inv.call'{s':d7}(I:Inv X Jw σ H s)(f:s'.os=s.os)(u:Un (frs X.stack) ch H H' s.heap s'.heap)(hok:HOk X.prog X.w H' s'.heap)(g:Ei s'.gens)
  (a:∀ b∈ch,(b∈X.ex\/X.s₀.heap.objs.size<=b)/\b≠X.env.locals/\(∀ x c,X.env.cells.lookup x=Js c->c≠b)/\∀ p∈X.pn++Jw,p.1≠b):Inv X Jw σ H' s':=by
 obtain⟨h',g',d',t',d⟩:=s';have e:d=s.os:=f;subst e;rwa[I.call (g':=g') (t':=t') (d':=d') u hok g a]
end

abbrev XK:=c7->Option c5->Hp->Prop
abbrev St:=List (Option V)
abbrev VK:=V->Hp->Prop
abbrev TE:=St->Hp->VK->Prop
abbrev TT:=St->Hp->(Bool->Hp->Prop)->Prop
abbrev TA:=St->Hp->(List V->Hp->Prop)->Prop
structure Uu where
 nx:St->Hp->Prop
 rt:VK
 bk:St->Hp->Prop:=λ_ _=>False
 ct:St->Hp->Prop:=λ_ _=>False
abbrev TS:=Uu->St->Hp->Prop

def EP(X:Cx)(d:List (c5×By))(b:St)(Q:VK)(u:c7)(c:d7):Prop:=∃ v a,Inv X d b a c/\xI v u/\Q v a
def TP(X:Cx)(e:List (c5×By))(c:St)(Q:Bool->Hp->Prop)(b:Bool)(d:d7):Prop:=∃ a,Inv X e c a d/\Q b a
def AP(X:Cx)(f:List (c5×By))(c:St)(Q:List V->Hp->Prop)(d:List c7)(e:d7):Prop:=∃ a b,Inv X f c b e/\yQ a d/\Q a b
def SP(X:Cx)(d:List (c5×By))(D:Uu)(f:Flow)(c:d7):Prop :=
 match f with
 | .next=>∃ a b,Inv X d a b c/\D.nx a b
 | .brk=>∃ a b,Inv X d a b c/\D.bk a b
 | .cont=>∃ a b,Inv X d a b c/\D.ct a b
 | .ret u=>∃ v a b,Inv X d a b c/\xI v u/\D.rt v b

def PE(X:Cx)(e:Av)(t:TE):Prop :=
 ∀(b:List (c5×By))(s:d7)(a:St)(H:Hp)(Q:VK),Inv X b a H s->t a H Q->wpAny 'b' X.A (eval e X.env) (EP X b a Q) X.xe s
def PT(X:Cx)(e:Av)(t:TT):Prop :=
 ∀(b:List (c5×By))(s:d7)(a:St)(H:Hp)(Q:Bool->Hp->Prop),Inv X b a H s->t a H Q->wpAny 'b' X.A (isTrue e X.env (eval e X.env)) (TP X b a Q) X.xe s
def PW(X:Cx)(e:Av)(t:TT):Prop :=
 ∀(a:IA c7)(c:List (c5×By))(s:d7)(b:St)(H:Hp)(Q:Bool->Hp->Prop),Inv X c b H s->t b H Q->wpAny 'b' X.A (isTrue e X.env a) (TP X c b Q) X.xe s
def PW.pt(h:PW X e t):PT X e t:=h _
def PA(X:Cx)(c:List Av)(t:TA):Prop :=
 ∀(pos:Dg)(b:List (c5×By))(s:d7)(a:St)(H:Hp)(Q:List V->Hp->Prop),Inv X b a H s->t a H Q->wpAny 'b' X.A (spliced (backTo pos (starEach c X.env))) (AP X b a Q) X.xe s
def PS(X:Cx)(st:Af)(t:TS):Prop :=
 ∀(b:List (c5×By))(s:d7)(a:St)(H:Hp)(D:Uu),Inv X b a H s->t D a H->wpAny 'b' X.A (exec st X.env) (SP X b D) X.xe s
def PSs(X:Cx)(st:List Af)(t:TS):Prop :=
 ∀(b:List (c5×By))(s:d7)(a:St)(H:Hp)(D:Uu),Inv X b a H s->t D a H->wpAny 'b' X.A (execs st X.env) (SP X b D) X.xe s
def thn{α:Type}{t:IA α}{Q b:α->d7->Prop}{M:IU}{A:An}{E:c7->d7->Prop}{s:d7}(h:wpAny M A t Q E s)(c:∀ a s,Q a s->b a s):wpAny M A t b E s:=Bw h c λ_ _ x=>x
end L2

namespace L2
section
variable{X:Cx}

def bin{a b:Av}{n m:TE}(D:PE X a n)(C:PE X b m){j:List (c5×By)}{s:d7}{c:St}{H:Hp}{R:V->V->Hp->Prop}(I:Inv X j c H s)(h:n c H λx l=>m c l λy d=>R x y d)
  {α:Type} {Q:α->d7->Prop} {f:c7->c7->IA α}
  (B:∀ v u i x y d,Inv X j c d i->xI x v->xI y u->R x y d->wpAny 'b' X.A (f v u) Q X.xe i) :
  wpAny 'b' X.A (eval a X.env) (λv g=>wpAny 'b' X.A (eval b X.env) (λu e=>wpAny 'b' X.A (f v u) Q X.xe e) X.xe g) X.xe s:=by
 erw[thn (D j s c H _ I h) λv o ⟨x,l,G,q,z⟩=>?_];erw[thn (C j o c l _ G z) λu i ⟨y,d,E,p,r⟩=>?_];rwa[B v u i x y d E q p r]

inductive TVar(i:Nat)(σ:St)(H:Hp)(Q:VK):Prop where
 | mk (v:V) (e:σ[i]?=Js (Js v)) (q:Q v H)
def Ps(i:Nat):TE:=λa H Q=>TVar i a H Q
def tC(v:V):TE:=λ_ H Q=>Q v H
def Og{i:Nat}(w:X.N[i]?=Js x)(n:Vis X.env.scope x)(hd:(x ==("__debug__" : i9))=false:=by decide)(f:(x ==("__classdict__" : i9))=false:=by decide):PE X (.Name x pos) (Ps i):=by
 intro y s j H Q I h;obtain⟨v,e,h⟩:=h;obtain⟨m,o,q⟩:=I.loc;obtain⟨u,r,l⟩:=q i x v w e n;have d:EP X y j Q u s:=⟨v,H,I,r,h⟩;rcases l with ⟨b,p⟩ | ⟨b,c,g,a⟩
 ·rwa[HA (wpAny_loadName_local I.ok.kind b o p d) hd]
 ·rcases b with b | b
  ·rwa[HA (wpAny_loadName_cell I.ok.kind b g a d) hd]
  ·rwa[HA (wpAny_loadName_free I.ok.kind b g a d f) hd]
def yF{i j pos} : PE X (.Constant (.int i) j pos) (tC (.int i)):=λ_ _ _ H _ I h=>wpAny_Constant_int ⟨.int i,H,I.tok _,⟨_,rfl⟩,h⟩
def nI{b j pos} : PE X (.Constant (.bool b) j pos) (tC (.bl b)):=λ_ _ _ H _ I h=>Constant_bool ⟨.bl b,H,I,rfl,h⟩
def yf{j pos} : PE X (.Constant .none j pos) (tC .non):=λ_ _ _ H _ I h=>Constant_none ⟨.non,H,I,rfl,h⟩
def zV{x j pos} : PE X (.Constant (.str x) j pos) (tC (.str x)):=λ_ _ _ H _ I h=>Gq ⟨.str x,H,I.tok _,⟨_,rfl⟩,h⟩

def Gl(X:Cx)(x:i9):Prop:=X.env.kindOf x=Js .globalImplicit
def yd{E:c7->d7->Prop}{a:St}{H:Hp}{Q:c7->d7->Prop}(I:Inv X d a H s)(c:Gl X x)(b:X.mg x=Js u)(h:Q u s)
  (hd:(x ==("__debug__" : i9))=false:=by decide):wpAny 'b' X.A (eval (.Name x pos) X.env) Q E s :=
 Es I.ok.kind c (Calls.loadGlobal_global (by rw[I.ok.glob]; rwa[I.mod.glob.keeps I.bk]) b h) hd
def dk{E:c7->d7->Prop}{a:St}{H:Hp}{Q:c7->d7->Prop}(I:Inv X f a H s)(e:Gl X x)(d:X.mg x=Jt)(b:bootBuiltins x=Js u)(h:Q u s)
  (c:x ≠ "__name__" := by decide) (hd:(x ==("__debug__" : i9))=false:=by decide):wpAny 'b' X.A (eval (.Name x pos) X.env) Q E s:=by
 obtain⟨g,h1,h2⟩:=I.mod.blt;rwa[Es I.ok.kind e (Calls.loadGlobal_builtin (by rw[I.ok.glob]; exact I.mod.glob.keeps I.bk) d (by rw[I.ok.blt]; exact h1.keeps I.bk) ((h2 x c).trans b) h) hd]
variable{a b:Av}{ta tb:TE}{pos:Dg}
def PC(X:Cx)(g:HC)(a b:Av)(t:TE):Prop :=
 ∀(f:List (c5×By))(s:d7)(e:St)(H:Hp)(Q:VK),Inv X f e H s->t e H Q ->
  wpAny 'b' X.A (eval a X.env) (λv d=>wpAny 'b' X.A (eval b X.env) (λu c=>wpAny 'b' X.A (compareOp g v u) (EP X f e Q) X.xe c) X.xe d) X.xe s
def tB(t:TE):TT:=λd H Q=>t d H λx e=>∃ c,x=.bl c/\Q c e
def Sc{t:TE}(h:PC X e a b t)(h1:behindInMarks e b=false:=by first | exact nobehind _ (by decide) (by decide) | rfl):PT X (.Compare a [e] [b] pos) (tB t):=by
 intro l s f H Q I j;erw[FL (thn (h l s f H _ I j) λv r h1=>thn h1 λu p h2=>thn h2 λc o ⟨x,n,m,g,i⟩=>?_) h1];obtain⟨d,rfl,q⟩:=i;cases g;rwa[BQ ⟨n,m,q⟩]
def dw{t:TE}(h:PE X e t)(l:∀ c,isTrue e X.env c=(do let v <- c; standAt e.pos; holding [v] (truthy v)):=by intro _; rfl):PT X e (tB t):=by
 intro m s f H Q I j;erw[isTrue_plain (thn (h m s f H _ I j) λv p ⟨x,o,n,g,i⟩=>?_) (l _)];obtain⟨d,rfl,q⟩:=i;cases g;rwa[BQ ⟨o,n,q⟩]

variable{tA tB':TT}{rest:List Av}
def tAnd(t u:TT):TT:=λd H Q=>t d H λc e=>if c=Ju then u d e Q else Q Jv e
def tOr(t u:TT):TT:=λd H Q=>t d H λc e=>if c=Ju then Q Ju e else u d e Q
def tNot(t:TT):TT:=λd H Q=>t d H λc e=>Q (!c) e
def QO(f:PT X a tA):PW X (.BoolOp .And [a] pos) tA:=by
 intro i g s d H Q I h;erw[isTrue_and (thn (f g s d H Q I h) λc j e=>?_)];cases c with
 | true=>rwa[isTrue_and_nil e]
 | false=>rwa[e]
def ik(f:PT X a tA):PW X (.BoolOp .Or [a] pos) tA:=by
 intro i g s d H Q I h;erw[isTrue_or (thn (f g s d H Q I h) λc j e=>?_)];cases c with
 | false=>rwa[isTrue_or_nil e]
 | true=>rwa[e]
def Oq(n:PT X a tA)(m:PW X (.BoolOp .And (b::rest) pos) tB'):PW X (.BoolOp .And (a::b::rest) pos) (tAnd tA tB'):=by
 intro j f s d H Q I h;erw[isTrue_and (thn (n f s d H _ I h) λc l ⟨i,g,e⟩=>?_)];cases c with
 | true=>rwa[m j f l d i Q g e]
 | false=>rwa[i,g,e]
def bO(n:PT X a tA)(m:PW X (.BoolOp .Or (b::rest) pos) tB'):PW X (.BoolOp .Or (a::b::rest) pos) (tOr tA tB'):=by
 intro j f s d H Q I h;erw[isTrue_or (thn (n f s d H _ I h) λc l ⟨i,g,e⟩=>?_)];cases c with
 | true=>rwa[i,g,e]
 | false=>rwa[m j f l d i Q g e]
def eI(e:PT X a tA):PT X (.UnaryOp .Not a pos) (tNot tA):=by
 intro f s d H Q I h;rwa[isTrue_not (e f s d H (λc g=>Q (!c) g) I h)]
def tAndV(ta tb:TE):TE:=λd H Q=>ta d H λx e=>∃ c,x=.bl c/\if c=Ju then tb d e Q else Q (.bl Jv) e
def VB{op}{t:TE}(h:PE X a t):PE X (.BoolOp op [a] pos) t:=λe s c H Q I d=>BoolOp_one (h e s c H Q I d)
def Sb(n:PE X a ta)(m:PE X (.BoolOp .And (b::rest) pos) tb):PE X (.BoolOp .And (a::b::rest) pos) (tAndV ta tb):=by
 intro f s e H Q I h;erw[BoolOp_and (thn (n f s e H _ I h) λv j ⟨x,i,g,l,d⟩=>?_)];obtain⟨c,rfl,d⟩:=d;cases l;erw[BQ ?_];cases c with
 | true=>rwa[m f j e i Q g d]
 | false=>rwa[.bl Jv,i,g,rfl,d]
def tIf(t:TT)(ta tb:TE):TE:=λd H Q=>t d H λc e=>if c=Ju then ta d e Q else tb d e Q
def ZM(m:PT X c tA)(o:PE X a ta)(n:PE X b tb):PE X (.IfExp c a b pos) (tIf tA ta tb):=by
 intro f s e H Q I h;erw[wpAny_IfExp (thn (m f s e H _ I h) λd g ⟨l,j,i⟩=>?_)];cases d with
 | true=>rwa[o f g e l Q j i]
 | false=>rwa[n f g e l Q j i]
end
end L2

namespace L2

def SqL(K:b8)(H:Hp)(a:c5)(xs:List V):Prop :=
 Rd H a (.lst xs) \/
  ∃(o:By)(b:Array c7)(n:Nat),K.lookup a=Js o/\o.cls=.type "list" /\ o.dict=Jt/\o.data=.seq b n/\b.size<=sizeLine/\yQ xs b.toList
def SqT(K:b8)(H:Hp)(a:c5)(xs:List V):Prop :=
 Rd H a 'w' \/
  ∃(o:By)(b:Array c7)(n:Nat),K.lookup a=Js o/\o.cls=.type "tuple" /\ o.data=.seq b n/\b.size<=sizeLine/\yQ xs b.toList
def absV:c7->Option V
 | .none=>Js .non
 | .bool b=>Js (.bl b)
 | .int i _=>Js (.int i)
 | .str x _=>Js (.str x)
 | .bytes b _=>Js (.byt b)
 | .float b _=>Js (.flt b)
 | .ref a=>Js (.ref a)
 | .type n=>Js (.ty n)
 | _=>Jt
def xI.abs(r:xI x u):absV u=Js x:=by
 cases x with
 | non=>cases r; rfl
 | bl _=>cases r; rfl
 | int _=>obtain⟨t,rfl⟩:=r; rfl
 | str _=>obtain⟨t,rfl⟩:=r; rfl
 | byt _=>obtain⟨t,rfl⟩:=r; rfl
 | flt _=>obtain⟨t,rfl⟩:=r; rfl
 | ref _=>cases r; rfl
 | ty _=>cases r; rfl
def xI.inj(r:xI x u)(q:xI y u):x=y:=m8 (r.abs.symm.trans q.abs)
def yQ.inj:∀{xs a:List V}{b:List c7},yQ xs b->yQ a b->xs=a
 | _,_,_,.nil,.nil=>rfl
 | _,_,_,.cons r t,.cons d c=>by rw[r.inj d,yQ.inj t c]
section
variable{X:Cx}{Jw:List (c5×By)}{σ:St}{H:Hp}{s:d7}{a:c5}{xs ys:List V}
def SqL.of{K:b8}(h:H a=Js (.lst xs)):SqL K H a xs:=.inl (.inl h)
def SqT.of{K:b8}(h:H a=Js 'w'):SqT K H a xs:=.inl (.inl h)
def Inv.list(I:Inv X Jw σ H s)(h:SqL X.K H a xs):∃ b:List c7,yQ xs b/\PlainL s.heap a b.toArray/\xs.length<=sizeLine:=by
 rcases h with h | ⟨o,b,n,d,f,hd,c,g,r⟩
 ·obtain⟨z,b,n,r,e⟩:=h.ok I.hok;rwa[b,r,⟨_,n,e,rfl,rfl,rfl⟩,z]
 ·exists b.toList,r,⟨o,n,I.kIn a o d,f,hd,by simpa using c⟩;have e:=r.length;simp only[Ay] at e;lia
def Inv.tuple(I:Inv X Jw σ H s)(h:SqT X.K H a xs):∃ b:List c7,yQ xs b/\IsTup s.heap a b.toArray/\xs.length<=sizeLine:=by
 rcases h with h | ⟨o,b,n,d,f,c,g,r⟩
 ·obtain⟨z,b,r,p⟩:=h.ok I.hok;rwa[b,r,p,z]
 ·exists b.toList,r,⟨o,I.kIn a o d,f,n,by simpa using c⟩;have e:=r.length;simp only[Ay] at e;lia
def Inv.list_inj(I:Inv X Jw σ H s)(h:SqL X.K H a xs)(h':SqL X.K H a ys):xs=ys:=by
 obtain⟨c,r,⟨o,n,e,_,_,d⟩,_⟩:=I.list h;obtain⟨b,f,⟨g,i,e',_,_,d'⟩,_⟩:=I.list h';rw[e] at e'; cases e';rw[d] at d';injection d' with d1 _
 have:c=b:=by simpa using congrArg IH d1
 subst this;rwa[r.inj f]
def Inv.tuple_inj(I:Inv X Jw σ H s)(h:SqT X.K H a xs)(h':SqT X.K H a ys):xs=ys:=by
 obtain⟨c,r,⟨o,e,_,n,d⟩,_⟩:=I.tuple h;obtain⟨b,f,⟨g,e',_,i,d'⟩,_⟩:=I.tuple h';rw[e] at e'; cases e';rw[d] at d';injection d' with d1 _
 have:c=b:=by simpa using congrArg IH d1
 subst this;rwa[r.inj f]
end

abbrev Cx.wish(X:Cx)(E:c7->d7->Prop):Cx:={ X with xe:=E }
abbrev Cx.nox(X:Cx):Cx:=X.wish λ_ _=>False
def Cx.Ok.wish{X:Cx}(ok:X.Ok)(E:c7->d7->Prop):(X.wish E).Ok :=
 ⟨ok.mod,ok.kind,ok.glob,ok.blt,ok.above,ok.inj,ok.has,ok.cab,ok.hd,ok.frames,ok.stk,ok.exf,ok.bs,ok.bsz,ok.noex,ok.exfs,ok.funs,ok.frf⟩
def Cx.Ok.unwish{X:Cx}{E:c7->d7->Prop}(ok:(X.wish E).Ok):X.Ok :=
 ⟨ok.mod,ok.kind,ok.glob,ok.blt,ok.above,ok.inj,ok.has,ok.cab,ok.hd,ok.frames,ok.stk,ok.exf,ok.bs,ok.bsz,ok.noex,ok.exfs,ok.funs,ok.frf⟩
section
variable{X:Cx}{Jw:List (c5×By)}{σ:St}{H:Hp}{s:d7}{E:c7->d7->Prop}
def Inv.wish(I:Inv X Jw σ H s)(E:c7->d7->Prop):Inv (X.wish E) Jw σ H s:=⟨I.ok.wish E,I.os,I.bare,I.base,I.loc,I.cell,I.free,I.freeC,I.pin,I.hok,I.len⟩
def Inv.unwish(I:Inv (X.wish E) Jw σ H s):Inv X Jw σ H s:=⟨I.ok.unwish,I.os,I.bare,I.base,I.loc,I.cell,I.free,I.freeC,I.pin,I.hok,I.len⟩
def SP.unwish(h:SP (X.wish E) Jw D f c):SP X Jw D f c:=by
 cases f with
 | next=>obtain⟨a,b,I,q⟩:=h; rwa[a,b,I.unwish,q]
 | brk=>obtain⟨a,b,I,q⟩:=h; rwa[a,b,I.unwish,q]
 | cont=>obtain⟨a,b,I,q⟩:=h; rwa[a,b,I.unwish,q]
 | ret u=>obtain⟨v,a,b,I,r,q⟩:=h; rwa[v,a,b,I.unwish,r,q]
def PSs.nox{st:List Af}(h:PSs X.nox st t):PSs X st t:=λJw s σ H D I a =>
 Bw (h Jw s σ H D (I.wish _) a) (λ_ _ q=>q.unwish) λ_ _ z=>AN z
end

section
variable{X:Cx}{st:Af}{rest:List Af}{t u:TS}{e:Av}{te:TE}{pos:Dg}
def tNext:TS:=λD a H=>D.nx a H
def tSeq(t u:TS):TS:=λD a H=>t { D with nx:=u D } a H
def zU:PSs X [] tNext:=λ_ _ a H _ I h=>D9 ⟨a,H,I,h⟩
def zB(h1:PS X st t)(h2:PSs X rest u):PSs X (st::rest) (tSeq t u):=by
 intro b s c H D I h;refine GZ (thn (h1 b s c H { D with nx:=u D } I h) λf d q=>?_);cases f with
 | next =>
  obtain⟨a,i,g,q⟩:=q;rwa[h2 b d a i D g q]
 | ret v=>rwa[q]
 | brk=>rwa[q]
 | cont=>rwa[q]
def zD(h1:PS X st t):PSs X [st] t:=by
 intro b s a H D I h;erw[GZ (thn (h1 b s a H D I h) λf c q=>?_)];cases f with
 | next=>rwa[D9 q]
 | ret v=>rwa[q]
 | brk=>rwa[q]
 | cont=>rwa[q]
def Inv.quiet{a:St}{H:Hp}(I:Inv X b a H s):interactive X.env=false:=by simp[interactive,I.ok.kind]
def tDrop(te:TE):TS:=λD a H=>te a H λ_ b=>D.nx a b
def yA(d:PE X e te)(c:swapsWith e Jt pos.line X.env=pure false:=by rfl):PS X (.Expr e pos) (tDrop te):=by
 intro f s a H D I h;rwa[wpAny_Expr_any (thn (d f s a H _ I h) λv j ⟨x,i,g,l,b⟩=>⟨a,i,g,b⟩) I.quiet c]
def tRet(te:TE):TS:=λD a H=>te a H D.rt
def zK(d:PE X e te):PS X (.Return (Js e) pos) (tRet te):=by
 intro f s a H D I h;rwa[wpAny_Return_some (thn (d f s a H _ I h) λv j ⟨x,i,g,b,c⟩=>⟨x,a,i,g,b,c⟩)]
def tIfS(c:TT)(t u:TS):TS:=λD a H=>c a H λb d=>if b=Ju then t D a d else u D a d
def yM(o:PT X c i)(q:PSs X a t)(p:PSs X b u):PS X (.If c a b pos) (tIfS i t u):=by
 intro g s f H D I h;erw[wpAny_If (thn (o g s f H _ I h) λd j ⟨n,m,l⟩=>?_)];cases d with
 | true=>rwa[q g j f n D m l]
 | false=>rwa[p g j f n D m l]
def Nj:TS:=λ_ _ _=>False
def sF:PS X st Nj:=λ_ _ _ _ _ _ h=>h.elim
end

abbrev TG:=V->St->Hp->(St->Hp->Prop)->Prop
abbrev TGs:=List V->St->Hp->(St->Hp->Prop)->Prop
def PG(X:Cx)(a:Av)(t:TG):Prop :=
 ∀(d:List (c5×By))(s:d7)(c:St)(H:Hp)(v:V)(u:c7)(Q:St->Hp->Prop),Inv X d c H s->xI v u->t v c H Q ->
  wpAny 'b' X.A (assign a X.env u) (λ_ f=>∃ b e,Inv X d b e f/\Q b e) X.xe s
def PGs(X:Cx)(g:List Av)(t:TGs):Prop :=
 ∀(e:List (c5×By))(s:d7)(b:St)(H:Hp)(c:List V)(d:List c7)(Q:St->Hp->Prop),Inv X e b H s->yQ c d->t c b H Q ->
  wpAny 'b' X.A (assignInOrder ((assignEach g X.env).map (·.2)) d) (λ_ h=>∃ a f,Inv X e a f h/\Q a f) X.xe s
abbrev NR:=V->V->V->Hp->(Hp->Prop)->Prop
def PSet(X:Cx)(t:NR):Prop :=
 ∀(d:List (c5×By))(s:d7)(a:St)(H:Hp)(o i v:V)(b c u:c7)(Q:Hp->Prop),Inv X d a H s->xI o b->xI i c->xI v u->t o i v H Q ->
  wpAny 'b' X.A (setItem b c u) (λ_ f=>∃ e,Inv X d a e f/\Q e) X.xe s
section
variable{X:Cx}{pos:Dg}
def ZZ(i:Nat):TG:=λv a H Q=>Q (a.set i (Js v)) H
def lV{i:Nat}(c:X.N.Nodup)(hi:X.N[i]?=Js x)(a:Loc X.env.scope x)(b:X.fn x=Ju\/X.env.scope.names.lookup x=Js .local:=by first | exact .inl rfl | exact .inr rfl | assumption):PG X (.Name x pos) (ZZ i):=by
 intro g s e H v u Q I r h;rwa[GD (vI I c hi a r (λf d=>⟨_,H,d,h⟩) b)]
def gNil:TGs:=λb a H Q=>b=[]/\Q a H
def gCons(t:TG)(u:TGs):TGs:=λc b H Q=>E2 λv r=>c=v::r/\t v b H λa d=>u r a d Q
def sX:PGs X [] gNil:=by
 intro d s a H b c Q I r h;obtain⟨e,h⟩:=h;subst e;cases r;rwa[assignInOrder_nil ⟨a,H,I,h⟩]
def yE(h1:PG X e t)(h2:PGs X a u)
  (j:(assignEach (e::a) X.env).map (·.2)=assign e X.env::(assignEach a X.env).map (·.2):=by rfl):PGs X (e::a) (gCons t u):=by
 intro c s d H o q Q I r h;obtain⟨v,p,l,h⟩:=h;subst l;cases r with
 | cons r g =>
  rw[j];erw[assignInOrder_cons (thn (h1 c s d H _ _ _ I r h) λ_ f ⟨b,n,m,i⟩=>?_)];rwa[h2 c f b n _ _ Q m g i]
def gTup(K:b8)(n:Nat)(t:TGs):TG:=λv b H Q=>E2 λa xs=>A4 (v=.ref a) (SqT K H a xs) (xs.length=n) (t xs b H Q)
def xj{k:Nat}{n:Nat}(y:X.calm=Ju)(h:PGs X c t)
  (w:(assignEach c X.env).length=n:=by rfl) (f:(assignEach c X.env).findIdx? (·.1)=none:=by rfl):PG X (.Tuple c k pos) (gTup X.K n t):=by
 intro j s g H v u Q I r d;obtain⟨a,xs,A,q,x,d⟩:=d;subst A;cases r;obtain⟨l,i,p,C⟩:=I.tuple q;erw[assign_Tuple_tuple (I.ok.hd y) p (by simp[w,<- x,i.length]) f λz m=>?_];have B:Inv X j g H { s with heap:=z }:=I.kept (t':=s.toks) λb o e=>m b o (o9 (i5 e)) e;exact h j _ g H xs _ Q B (by simpa using i) d
def gSub(to b:TE)(t:NR):TG:=λv a H Q=>to a H λo e=>b a e λi d=>t o i v d λc=>Q a c
def PF{to e:TE}(w:PE X o to)(hi:PE X i e)(q:PSet X t)
  (z:∀ v,assign (.Subscript o i pos) X.env v=(do
   let a <- holding [v] (eval o X.env)
   let b <- holding [v,a] (eval i X.env)
   standAt pos
   holding [v,a,b] (setItem a b v)
   release [v,a,b] []):=by intro _; rfl):PG X (.Subscript o i pos) (gSub to e t):=by
 intro d s c H v u Q I r h;rw[z];erw[c6 (Bz (thn (w d s c H _ I h) λa g ⟨x,G,C,l,p⟩=>?_))];erw[c6 (Bz (thn (hi d g c G _ C p) λb f ⟨y,E,B,j,n⟩=>?_))];erw[c6 (CO (c6 (Bz (thn (q d f c E x y v a b u _ B l j r n) λ_ J ⟨D,A,m⟩=>?_))))];rwa[wpAny_release ⟨c,D,A,m⟩]
def NL(b:TE)(g:TG):TS:=λD a H=>b a H λx c=>g x a c D.nx
def oZ{c:TE}(o:PE X e c)(n:PG X a g)(m:swapsWithSole [a] e pos.line X.env=pure false:=by rfl)(l:swappedStores [a] e X.env=pure none:=by rfl)
  (h1:(assignEach [a] X.env).map (·.2)=[assign a X.env]:=by rfl):PS X (.Assign [a] e pos) (NL c g):=by
 intro d s b H D I h;erw[wpAny_Assign_stores (thn (o d s b H _ I h) λv f ⟨x,r,p,i,j⟩=>?_) m l];rw[h1];rwa[thn (n d f b r x v _ p i j) λ_ u q=>q]
def iz{i:Nat}{a:TE}(m:X.N.Nodup)(hi:X.N[i]?=Js x)(f:Loc X.env.scope x)(l:PE X e a)(g:swapsWith e (Js (.Name x pos')) pos.line X.env=pure false:=by rfl)(j:X.fn x=Ju\/X.env.scope.names.lookup x=Js .local:=by first | exact .inl rfl | exact .inr rfl | assumption) :
  PS X (.Assign [.Name x pos'] e pos) (NL a (ZZ i)):=by
 intro n s b H D I h;erw[wpAny_Assign_Name (thn (l n s b H _ I h) λv u ⟨y,q,p,c,d⟩=>?_) g];rwa[vI p m hi f c (λr o=>⟨_,q,o,d⟩) j]
def tPar(i j:Nat)(c:TA):TS:=λD a H=>c a H λb d=>E2 λv w=>b=[v,w]/\D.nx ((a.set i (Js v)).set j (Js w)) d
def dq{i j:Nat}{a b:Av}{kt k2 pt2}(hc:X.calm=Ju)(E:X.N.Nodup)(hi:X.N[i]?=Js x)(Z:X.N[j]?=Js y)(r:i≠j)
  (C:X.env.scope.names.lookup x=Js .local) (B:X.env.scope.names.lookup y=Js .local) (ha:PA X [a,b] z)
  (T:swappedStores [.Tuple [.Name x m,.Name y l] kt pt] (.Tuple [a,b] k2 pt2) X.env=pure (Js [x,y]))
  (Y:swapsWithSole [.Tuple [.Name x m,.Name y l] kt pt] (.Tuple [a,b] k2 pt2) pos.line X.env=pure false:=by rfl) :
  PS X (.Assign [.Tuple [.Name x m,.Name y l] kt pt] (.Tuple [a,b] k2 pt2) pos) (tPar i j z):=by
 intro J s u H D I h;rw[exec_Assign_arm];refine c6 (CO ?_);rw[Y];refine c6 (f8 ?_);rw[y4 'a'];refine c6 (Tuple_ (thn (ha _ J s u H _ I h) λO d ⟨vs,M,I1,Q,g⟩=>?_));obtain⟨v,w,e1,g⟩:=g;subst e1;obtain⟨u1,u2,rfl,P,f⟩:∃ u1 u2,O=[u1,u2]/\xI v u1/\xI w u2:=by
  cases Q with
  | cons p q =>
   cases q with
   | cons S R =>
    cases R;rwa[_,_,rfl,p,S]
 refine AJ ?_ (by show 2<=sizeLine; decide);have I2:Inv X J u M { d with heap:=d.heap.push { cls:=.type "tuple",data:=.seq [u1,u2].toArray } }:=I1.kept (t':=d.toks) λb o e=>c8 _ e;rw[T];erw[c6 (f8 ?_)];show wpAny 'b' X.A (do rule "assign.swapped-stores"; let c <- unpackItems (.ref d.heap.objs.size) 2 Jt; assignInOrder [λv=>bindName X.env y v,λv=>bindName X.env x v] c.reverse; pure G0) _ _ _;erw[c6 (HD (c6 (unpackItems_tuple (items:=#[u1,u2]) (I.ok.hd hc) (G4 d.heap _) λG n=>?_)))];have I3:=I2.kept (h':=G) (t':=d.toks) λb o e=>n b o (o9 (i5 e)) e;show wpAny _ _ (assignInOrder [λv=>bindName X.env y v,λv=>bindName X.env x v] [u2,u1] >>= λ_=>pure G0) _ _ _;erw[c6 (assignInOrder_cons (DA (vI I3 E Z (.inl B) f (λs2 I4=>?_) (.inr B))))];erw[assignInOrder_cons (DA (vI I4 E hi (.inl C) P (λs3 L=>assignInOrder_nil (f8 ?_)) (.inr C)))];rw[Fd _ _ (Bk r)] at L;rwa[_,M,L,g]
end

section
variable{X:Cx}{pos:Dg}
def Sm(c:TT)(h:TS):TS:=λD a H=>∃ W:Nat->St->Hp->Prop,(∃ m,W m a H)/\∀ m a H,W m a H->c a H λb f=>if b=Ju then ∃ N:St->Hp->Prop,(∀ d g,N d g->∃ e,e<m/\W e d g)/\h { D with nx:=N,ct:=N,bk:=D.nx } a f else D.nx a f
def re(y:PassesOwn 'b' X.A X.env X.xe)(R:PT X c u)(S:PSs X body x):PS X (.While c body [] pos) (Sm u x):=by
 intro q s J H D I h;obtain⟨W,⟨Q,L⟩,g⟩:=h;erw[wpAny_While (codeAny_whileLoop (λn P=>∃ e G,Inv X q e G P/\W n e G) ?_ Q ⟨J,H,I,L⟩)];rintro n O ⟨d,E,T,w1⟩;erw[Ci y (thn (R q O d E _ T (g n d E w1)) λb M ⟨C,B,l⟩=>?_)];cases b with
 | true =>
  obtain⟨N,z,l⟩:=l;rw[y6 rfl];erw[Ci y (thn (S q M d C _ B l) λf Y j=>?_)];cases f with
  | next =>
   obtain⟨a,i,r,n3⟩:=j;obtain⟨o,p,m⟩:=z a i n3;rwa[o,p,a,i,r,m]
  | cont =>
   obtain⟨a,i,r,n3⟩:=j;obtain⟨o,p,m⟩:=z a i n3;rwa[o,p,a,i,r,m]
  | brk=>rwa[j]
  | ret v=>rwa[j]
 | false =>
  rw[y4 m7];rwa[D9 ⟨d,C,B,l⟩]
end

structure It where
 go:Nat->Hp->Prop
 yld:Nat->Hp->V->Hp->Prop
 stop:Nat->Hp->Prop
def Xo(X:Cx)(a:List (c5×By))(H:Hp)(b:c5):Prop :=
 H b=Jt/\b≠X.env.locals/\b ∉ X.fs/\(b∈X.ex\/X.s₀.heap.objs.size<=b)/\(∀ x c,X.env.cells.lookup x=Js c->c≠b)/\∀ p∈X.pn++a,p.1≠b
def Inv.fpOk{f:St}{H H':Hp}{b:c5}(I:Inv X d f H s)(a:s.heap.objs.size<=b)(h:H' b=Jt):Xo X d H' b:=by
 erw[h,DB (j5 I.lt a),I.nofs a,.inr (d9 I.sz a),λx c e z=>?_,λp g z=>?_]
 ·obtain⟨v,q⟩:=I.cell x c e;rwa[y9 (j5 q.lt (by rw[z]; exact a)) (AM _)]
 ·rwa[y9 (j5 (i5 (I.pin p g).1) (by rw[z]; exact a)) (AM _)]
structure Pi(P:o7)(w:w9)(K:b8)(tg:Av)(J:It)(fp:List c5)(it:c5)(tn:Nat->Ae->Prop):Prop where
 mem:it∈fp
 obj:∀ i h,tn i h->∀ b∈fp,∃ o,h.get? b=Js o/\∀ v,o.data≠.cell v
 keep:∀ i h h',tn i h->(∀ b∈fp,∀ o,h.get? b=Js o->h'.get? b=Js o)->tn i h'
 item:∀(X:Cx),X.prog=P->X.w=w->X.K=K->X.calm=Ju->∀(i:Nat)(Jw:List (c5×By))(s:d7)(σ:St)(H:Hp)(E:c7->d7->Prop),Inv X Jw σ H s->(∀ b∈fp,Xo X Jw H b)->tn i s.heap->J.go i H ->
  wpAny (model P w) X.A (pyNext (.ref it)) (λr s1=>∃ u,r=Js u /\
   wpAny (model P w) X.A (letOwnedTupleGo tg (.ref it) u) (λ_ s2=>∃ x H',Inv X Jw σ H' s2/\xI x u/\J.yld i H x H'/\tn (i+1) s2.heap/\∀ b∈fp,H' b=Jt) E s1) E s
 done:∀(X:Cx),X.prog=P->X.w=w->X.K=K->X.calm=Ju->∀(i:Nat)(Jw:List (c5×By))(s:d7)(σ:St)(H:Hp)(E:c7->d7->Prop),Inv X Jw σ H s->(∀ b∈fp,Xo X Jw H b)->tn i s.heap->J.stop i H ->
  wpAny (model P w) X.A (pyNext (.ref it)) (λr s1=>r=Jt/\Inv X Jw σ H s1) E s
 self:∀(A:An)(i:Nat)(s:d7)(Q:c7->d7->Prop)(E:c7->d7->Prop),tn i s.heap->Q (.ref it) s->wpAny (model P w) A (pyIter (.ref it)) Q E s
abbrev TI:=St->Hp->(It->Hp->Prop)->Prop
def PIE(X:Cx)(f:List (c5×By))(g:St)(h:Av)(R:It->Hp->Prop)(a:c7)(d:d7):Prop :=
 ∃(e:c5)(fp:List c5)(tn:Nat->Ae->Prop)(J:It)(c:Hp),a=.ref e/\Inv X f g c d/\Pi X.prog X.w X.K h J fp e tn/\tn 0 d.heap/\(∀ b∈fp,Xo X f c b)/\R J c
def PI(X:Cx)(d iter:Av)(c:TI):Prop :=
 ∀(b:List (c5×By))(s:d7)(a:St)(H:Hp)(R:It->Hp->Prop),Inv X b a H s->c a H R ->
  wpAny 'b' X.A (eval iter X.env) (λv e=>wpAny 'b' X.A (pyIter v) (PIE X b a d R) X.xe e) X.xe s

def Th{E:c7->d7->Prop}{s:d7}{Q:Unit->d7->Prop}(e:s.heap.get? d=Js o)(g:o.cls=.type n)(hd:o.data=.fields b)
  (f:["enumerate","zip","dict_itemiterator","dict_reverseitemiterator","odict_iterator","itertools.zip_longest","itertools.pairwise"].contains n=Jv) (a:Q () s):wpAny M A (letOwnedTupleGo c (.ref d) u) Q E s:=by
 unfold letOwnedTupleGo;cases c <;> first
  | exact f8 a
  | (cases u <;> first
    | exact f8 a
    | (refine c6 (wpAny_load e ?_)
       rw[g,hd];show wpAny M A (if (["enumerate","zip","dict_itemiterator","dict_reverseitemiterator","odict_iterator","itertools.zip_longest","itertools.pairwise"].contains n&&b[0]? == Js (rawInt _))=Ju then _ else _) Q E s;rw[y4 (by intro h; rw[f,HE] at h; cases h)];rwa[f8 a]))

def Itl(K:b8)(a:c5):It :=
 ⟨λi H=>∃ xs x,SqL K H a xs/\xs[i]?=Js x,λi H x b=>b=H/\∀ xs,SqL K H a xs->xs[i]?=Js x,λi H=>∃ xs,SqL K H a xs/\xs.length<=i⟩
def Itt(K:b8)(a:c5):It :=
 ⟨λi H=>∃ xs x,SqT K H a xs/\xs[i]?=Js x,λi H x b=>b=H/\∀ xs,SqT K H a xs->xs[i]?=Js x,λi H=>∃ xs,SqT K H a xs/\xs.length<=i⟩
def Itr(lo:Int)(n:Nat):It:=⟨λi _=>i<n,λi H x a=>a=H/\x=.int (lo+i),λi _=>n<=i⟩
def dJ{K:b8}(a f:c5):Pi P w K S (Itl K a) [f] f (λi h=>h.IsListIter f a i) where
 mem:=by simp
 obj:=λi h st b g=>by
  have e:b=f:=by simpa using g
  subst e;obtain⟨o,e,c,d⟩:=st;exact⟨o,e,λv z=>by rw[d] at z; cases z⟩
 keep:=λi h n st k=>st.at λo e=>k f 'd' o e
 item:=by
  intro X C A D Q i R s O H E I m st B;subst C A D;obtain⟨xs,x,l,y⟩:=B;obtain⟨r,q,p,Y⟩:=I.list l;obtain⟨u,hu,ru⟩:=q.get y;obtain⟨N,M,f2,L,J,G⟩:=m f 'd';refine wpAny_pyNext_list_item st p.isList (x:=u) (by simpa using hu) λn j T=>?_;have I1:Inv X R O H { s with heap:=n }:=I.turned (t':=s.toks) (λb o g e=>(T.2 b g).trans e) N M L J G;obtain⟨o,e,c,d⟩:=id j;exact⟨u,U,Th (s:={ s with heap:=n }) e c d 'a' ⟨x,H,I1,ru,⟨U,λys Z=>by rw[I.list_inj Z l]; rwa[y]⟩,j,λb g=>(m b g).1⟩⟩
 done:=by
  intro X C A D Q i R s O H E I m st B;subst C A D;obtain⟨xs,l,y⟩:=B;obtain⟨r,q,p,Y⟩:=I.list l;obtain⟨N,M,f2,L,J,G⟩:=m f 'd';have hl:=q.length;rwa[wpAny_pyNext_list_end (I.ok.hd Q) st p.isList (by simp; lia) λn eb=>⟨rfl,I.turned (t':=s.toks) (λb o g e=>eb b o g e) N M L J G⟩]
 self:=λ_ _ _ _ _ st h=>wpAny_pyIter_listiter st h
def ZV{K:b8}(a g:c5):Pi P w K S (Itt K a) [g] g (λi h=>h.IsTupleIter g a i) where
 mem:=by simp
 obj:=λi h st b j=>by
  have e:b=g:=by simpa using j
  subst e;obtain⟨o,e,c,d⟩:=st;exact⟨o,e,λv z=>by rw[d] at z; cases z⟩
 keep:=λi h q st k=>st.at λo e=>k g 'd' o e
 item:=by
  intro X C A D Q i R s O H E I n st B;subst C A D;obtain⟨xs,x,m,y⟩:=B;obtain⟨f,r,p,Y⟩:=I.tuple m;obtain⟨u,hu,ru⟩:=r.get y;obtain⟨N,M,f2,L,J,G⟩:=n g 'd';refine wpAny_pyNext_tuple_item st (show s.heap.IsTuple a f.toArray from p) (x:=u) (by simpa using hu) λq l T=>?_;have I1:Inv X R O H { s with heap:=q }:=I.turned (t':=s.toks) (λb o j e=>(T.2 b j).trans e) N M L J G;obtain⟨o,e,c,d⟩:=id l;exact⟨u,U,Th (s:={ s with heap:=q }) e c d 'a' ⟨x,H,I1,ru,⟨U,λys Z=>by rw[I.tuple_inj Z m]; rwa[y]⟩,l,λb j=>(n b j).1⟩⟩
 done:=by
  intro X C A D Q i R s O H E I n st B;subst C A D;obtain⟨xs,m,y⟩:=B;obtain⟨f,r,p,Y⟩:=I.tuple m;obtain⟨N,M,f2,L,J,G⟩:=n g 'd';have hl:=r.length;exact wpAny_pyNext_tuple_end (I.ok.hd Q) st (show s.heap.IsTuple a f.toArray from p) (by simp; lia) λq eb=>⟨rfl,I.turned (t':=s.toks) (λb o j e=>eb b o j e) N M L J G⟩
 self:=λ_ _ _ _ _ st h=>wpAny_pyIter_tupleiter st h
def YE{K:b8}(a:c5)(lo:Int)(n:Nat):Pi P w K J (Itr lo n) [a] a (λi h=>IsRangeIter h a (lo+(i:Nat)*1) ((n:Int)-(i:Nat)) 1) where
 mem:=by simp
 obj:=λi h st b c=>by
  have e:b=a:=by simpa using c
  subst e;exact⟨_,st,λv z=>by
   have G:Data.fields _=Data.cell v:=z;cases G⟩
 keep:=λi h g st k=>k a 'd' _ st
 item:=by
  intro X p j q m i D s B H E I f st l;subst p j q;obtain⟨A,y,N,x,u,r⟩:=f a 'd';have W:=Walks.range (prog:=X.prog) (w:=X.w) (I.ok.hd m) a lo 1 n;erw[W.item i s _ _ l st λv g C M d L=>?_];obtain⟨t,rfl⟩:=M;have Q:Inv X D B H { s with heap:=g,toks:=C }:=I.turned (λb o c e=>L b o (by simpa using c) e) A y x u r;refine⟨_,U,Th (s:={ s with heap:=g,toks:=C }) (n := "range_iterator") d rfl rfl 'a' ⟨.int (lo+i),H,Q,⟨t,?_⟩,⟨U,U⟩,d,λb c=>(f b c).1⟩⟩;rw[Ck]
 done:=by
  intro X p j q m i D s B H E I f st l;subst p j q;obtain⟨A,y,N,x,u,r⟩:=f a 'd';exact wpAny_pyNext_range_end (I.ok.hd m) st (by have:n<=i:=l; lia) λg O=>⟨rfl,I.turned (t':=s.toks) (λb o c e=>O b o c e) A y x u r⟩
 self:=λ_ _ _ _ _ st h=>wpAny_pyIter_rangeiter st h
end L2

namespace L2
section
variable{X:Cx}{tg:Av}
def iList(K:b8)(d:TE):TI:=λc H R=>d c H λx b=>∃ a,A3 (x=.ref a) (∃ xs,SqL K b a xs) (R (Itl K a) b)
def WG{f:TE}(r:PE X l f):PI X tg l (iList X.K f):=by
 intro w s g H R I h;erw[thn (r w s g H _ I h) λv c ⟨x,y,d,i,j⟩=>?_];obtain⟨a,e,⟨xs,n⟩,q⟩:=j;subst e;cases i;obtain⟨m,z,p,A⟩:=d.list n;erw[DC p.isList ?_];erw[c.heap.objs.size,[c.heap.objs.size],_,_,y,rfl,d.kept (t':=c.toks) λb o e=>c8 _ e,dJ a _,⟨_,j9 _ rfl,rfl,rfl⟩,λb u=>?_,q];have e:b=c.heap.objs.size:=by simpa using u
 subst e;rwa[d.fpOk (e9 _) (d.hok.fresh (e9 _))]
def Zm{a:St}{H:Hp}{R:It->Hp->Prop}{E:c7->d7->Prop}{lo hi:Int}{c:Nat}(I:Inv X d a H s)(h1 : -(2^62)<=lo)(h2:lo<2^62)(h3 : -(2^62)<=hi)(h4:hi<2^62)
  (q:R (Itr lo (hi-lo).toNat) H):wpAny 'b' X.A (pyIter (.ref s.heap.objs.size)) (PIE X d a tg R) E { s with heap:=s.heap.push { cls:=.type "range",data:=.fields #[.int lo t,.int hi u,.int 1 v] },toks:=c }:=by
 refine wpAny_pyIter_range (IsRange.new ..) (small_one h1 h2 h3 h4) ?_;have f:Inv X d a H { s with heap:=s.heap.push { cls:=.type "range",data:=.fields #[.int lo t,.int hi u,.int 1 v] },toks:=c }:=I.kept λb o e=>c8 _ e;refine⟨(s.heap.push { cls:=.type "range",data:=.fields #[.int lo t,.int hi u,.int 1 v] }).objs.size,[(s.heap.push { cls:=.type "range",data:=.fields #[.int lo t,.int hi u,.int 1 v] }).objs.size],_,_,H,U,
  f.kept (t':=c) λb o e=>c8 _ e,YE _ lo (hi-lo).toNat,?_,λb g=>?_,q⟩
 ·have i:lo+((0:Nat):Int)*1=lo:=by simp
  have h:(((hi-lo).toNat:Nat):Int)-((0:Nat):Int)=IB lo hi 1:=by rw[rangeSize_one]; split <;> lia
  show IsRangeIter _ _ (lo+((0:Nat):Int)*1) ((((hi-lo).toNat:Nat):Int)-((0:Nat):Int)) 1;rw[i,h];rwa[j9 _ rfl]
 ·have e:b=(s.heap.push { cls:=.type "range",data:=.fields #[.int lo t,.int hi u,.int 1 v] }).objs.size:=by simpa using g
  subst e;rwa[f.fpOk (e9 _) (f.hok.fresh (e9 _))]
def iRng1(c:TA):TI:=λa H R=>c a H λb d=>∃ j:Int,A4 (b=[.int j]) (-(2^62)<=j) (j<2^62) (R (Itr 0 j.toNat) d)
def iRng2(c:TA):TI:=λa H R=>c a H λb d=>E2 λ(i j:Int)=>A3 (b=[.int i,.int j]) (A4 (-(2^62)<=i) (i<2^62) (-(2^62)<=j) (j<2^62)) (R (Itr i (j-i).toNat) d)
def xB{a:Av}(n:Gl X "range")(m:X.mg "range" = Jt)(o:PA X [a] c)(l:starEach [a] X.env=[(Jv,eval a X.env)]:=by rfl):PI X tg (.Call (.Name "range" p) [a] [] pos) (iRng1 c):=by
 intro u s d H R I h;erw[Call_ (dk I n m boot_range (CU (thn (o pos u s d H _ I h) λx y ⟨w,z,v,g,b⟩=>?_) l rfl))];obtain⟨j,e,b,i,q⟩:=b;subst e;cases g with
 | cons r f =>
  cases f;obtain⟨t,rfl⟩:=r;exact call_range_1 (Zm v (by lia) (by lia) b i (by simpa using q))
def Vu{a b:Av}(y:Gl X "range")(x:X.mg "range" = Jt)(z:PA X [a,b] g)(w:starEach [a,b] X.env=[(Jv,eval a X.env),(Jv,eval b X.env)]:=by rfl)(c:starEach [b] X.env=[(Jv,eval b X.env)]:=by rfl) :
  PI X tg (.Call (.Name "range" p) [a,b] [] pos) (iRng2 g):=by
 intro A s l H R I h;erw[Call_ (dk I y x boot_range (CU (thn (z pos A s l H _ I h) λD G ⟨C,J,B,m,f⟩=>?_) (by rw[w,c]) (by rw[c]; rfl)))];obtain⟨i,j,e,⟨f,v,u,o⟩,q⟩:=f;subst e;cases m with
 | cons r d =>
  cases d with
  | cons n d =>
   cases d;obtain⟨t,rfl⟩:=r;obtain⟨E,rfl⟩:=n;rwa[call_range_2 (Zm B f v u o q)]

def tFor(f:TI)(g:TG)(h:TS):TS:=λD a H=>f a H λJ l=>∃ W:Nat->Nat->St->Hp->Prop,(∃ m,W 0 m a l)/\∀ i m a H,W i m a H->(J.stop i H/\D.nx a H)\/(J.go i H/\∃ N:St->Hp->Prop,(∀ b c,N b c->∃ e,e<m/\W (i+1) e b c)/\∀ x c,J.yld i H x c->g x a c λd j=>h { D with nx:=N,ct:=N,bk:=D.nx } d j)
def ip(fp:List c5)(h:Ae):List (c5×By):=fp.filterMap λb=>(h.get? b).map λo=>(b,o)
def sW{fp:List c5}{h:Ae}{b:c5}(a:b∈fp)(e:h.get? b=Js o):(b,o)∈ip fp h:=Et.mpr ⟨b,a,by rw[e]; rfl⟩
def Vm{p:c5×By}(a:p∈ip fp h):p.1∈fp/\h.get? p.1=Js p.2:=by
 obtain⟨b,c,e⟩:=Et.mp a;cases q:h.get? b with
 | none=>rw[q] at e; cases e
 | some o =>
  rw[q] at e;have e':(b,o)=p:=m8 e;subst e';rwa[c,q]
def Inv.pinned{c:St}{H:Hp}{fp:List c5}(I:Inv X a c H s)(i:∀ b∈fp,Xo X a H b)(h:∀ b∈fp,∃ o,s.heap.get? b=Js o/\∀ v,o.data≠.cell v):Inv X (a++ip fp s.heap) c H s :=
 I.pins_of λp g=>(m9.mp g).elim (λz=>I.pin p (t7 _ z)) λz=>by
  obtain⟨f,e⟩:=Vm z;obtain⟨m,l,j,_⟩:=i p.1 f;obtain⟨o,e',d⟩:=h p.1 f;rw[e] at e'; cases e';rwa[e,m,l,j,d]
def Inv.unpinned{b c:List (c5×By)}{a:St}{H:Hp}(I:Inv X (b++c) a H s):Inv X b a H s:=I.pins_of λp d=>I.pin p (t7 _ (C3 _ d))
def xK{iter:Av}(O:PassesOwn 'b' X.A X.env X.xe)(hc:X.calm=Ju)(hi:PI X tg iter wi)(hg:PG X tg g)(p:PSs X body tb)
  (hs:∀ x,foldedSetIterable iter X.env x=pure x:=by intro _; rfl):PS X (.For tg iter body [] pos) (tFor wi g tb):=by
 intro E s σ H D I h;erw[wpAny_For (thn (hi E s σ H _ I h) λv s1 h1=>thn h1 λitv s2 h2=>?_) hs];obtain⟨it,fp,tn,J,H2,e,I2,T,S,f2,W,⟨m0,w0⟩,G⟩:=h2;subst e;have l:∀{z:Hp},(∀ b∈fp,z b=Jt)->∀ b∈fp,Xo X E z b:=λhn b p=>⟨hn b p,(f2 b p).2⟩;erw[codeAny_forLoop_any (λn s'=>∃ i j z,Inv X E j z s'/\tn i s'.heap/\(∀ b∈fp,z b=Jt)/\W i n j z) ?_ m0 ⟨0,σ,H2,I2,S,λb p=>(f2 b p).1,w0⟩];rintro n s3 ⟨i,c,Q,I3,L,P,w3⟩;rcases G i n c Q w3 with ⟨stop,qn⟩ | ⟨go,N,hN,step⟩
 ·erw[Ci O (thn (T.done X rfl rfl rfl hc i E s3 c Q X.xe I3 (l P) L stop) λr s4 ⟨Z,I4⟩=>?_)];subst Z;rwa[D9 ⟨c,Q,I4,qn⟩]
 ·refine Ci O (thn (T.item X rfl rfl rfl hc i E s3 c Q X.xe I3 (l P) L go) λr s4 ⟨u,Z,h4⟩=>?_);subst Z;refine Ci O (thn h4 λ_ s5 ⟨x,H5,I5,r5,y5,C,fr5⟩=>?_);have I5':=I5.pinned (l fr5) (T.obj _ _ C);refine Ci O (thn (hg _ s5 c H5 x u _ I5' r5 (step x H5 y5)) λ_ s6 ⟨R,H6,I6,q6⟩=>?_);refine Ci O (thn (p _ s6 R H6 _ I6 q6) λf Y B=>?_);have again:∀{a:St}{y:Hp},Inv X (E++ip fp s5.heap) a y Y->N a y->∃ m,m<n/\∃ i j z,Inv X E j z Y/\tn i Y.heap/\(∀ b∈fp,z b=Jt)/\W i m j z:=λ{a y} q M=>by
   obtain⟨m',hm,w7⟩:=hN a y M;erw[m',hm,i+1,a,y,q.unpinned,T.keep _ _ _ C λb p o e=>(q.pin (b,o) (t7 _ (t7 _ (sW p e)))).1,λb p=>?_,w7];obtain⟨o,e,d⟩:=T.obj _ _ C b p;exact(q.pin (b,o) (t7 _ (t7 _ (sW p e)))).2.1
  cases f with
  | next=>obtain⟨a,y,q,M⟩:=B; rwa[again q M]
  | cont=>obtain⟨a,y,q,M⟩:=B; rwa[again q M]
  | brk=>obtain⟨a,y,q,B⟩:=B; rwa[a,y,q.unpinned,B]
  | ret v=>obtain⟨x7,a,y,q,r7,B⟩:=B; rwa[x7,a,y,q.unpinned,r7,B]
end

def xE{K:b8}{xs:List V}{g:TG}{n:TS}{D:Uu}{b:St}{H:Hp}(c:Nat->St->Hp->Prop)(h0:c 0 b H)(u:∀ i b H,i<=xs.length->c i b H->SqL K H a xs)
  (s:∀ i x b H,xs[i]?=Js x->c i b H->g x b H λd l=>n { D with nx:=c (i+1),ct:=c (i+1),bk:=D.nx } d l) (hd:∀ b H,c xs.length b H->D.nx b H) :
  ∃ W:Nat->Nat->St->Hp->Prop,(∃ m,W 0 m b H)/\∀ i m b H,W i m b H ->
   ((Itl K a).stop i H/\D.nx b H)\/((Itl K a).go i H/\∃ N:St->Hp->Prop,(∀ f h,N f h->∃ o,o<m/\W (i+1) o f h)/\∀ x h,(Itl K a).yld i H x h->g x b h λd l=>n { D with nx:=N,ct:=N,bk:=D.nx } d l):=by
 exists λi m b H=>m=xs.length-i/\i<=xs.length/\c i b H,⟨xs.length,by simp,Aa _,h0⟩;rintro i m b H ⟨rfl,hi,p⟩;have q:=u i b H hi p;by_cases j:i<xs.length
 ·erw[.inr ⟨⟨xs,xs[i],q,by simp[j]⟩,c (i+1),λf h r=>⟨xs.length-(i+1),by lia,rfl,j,r⟩,λx h y=>?_⟩];obtain⟨e,y⟩:=y;subst e;rwa[s i x b _ (y xs q) p]
 ·have e:i=xs.length:=by lia
  subst e;rwa[.inl ⟨⟨xs,q,e9 _⟩,hd b H p⟩]
def RV{K:b8}{xs:List V}{g:TG}{n:TS}{D:Uu}{b:St}{H:Hp}(c:Nat->St->Hp->Prop)(h0:c 0 b H)(u:∀ i b H,i<=xs.length->c i b H->SqT K H a xs)
  (s:∀ i x b H,xs[i]?=Js x->c i b H->g x b H λd l=>n { D with nx:=c (i+1),ct:=c (i+1),bk:=D.nx } d l) (hd:∀ b H,c xs.length b H->D.nx b H) :
  ∃ W:Nat->Nat->St->Hp->Prop,(∃ m,W 0 m b H)/\∀ i m b H,W i m b H ->
   ((Itt K a).stop i H/\D.nx b H)\/((Itt K a).go i H/\∃ N:St->Hp->Prop,(∀ f h,N f h->∃ o,o<m/\W (i+1) o f h)/\∀ x h,(Itt K a).yld i H x h->g x b h λd l=>n { D with nx:=N,ct:=N,bk:=D.nx } d l):=by
 exists λi m b H=>m=xs.length-i/\i<=xs.length/\c i b H,⟨xs.length,by simp,Aa _,h0⟩;rintro i m b H ⟨rfl,hi,p⟩;have q:=u i b H hi p;by_cases j:i<xs.length
 ·erw[.inr ⟨⟨xs,xs[i],q,by simp[j]⟩,c (i+1),λf h r=>⟨xs.length-(i+1),by lia,rfl,j,r⟩,λx h y=>?_⟩];obtain⟨e,y⟩:=y;subst e;rwa[s i x b _ (y xs q) p]
 ·have e:i=xs.length:=by lia
  subst e;rwa[.inl ⟨⟨xs,q,e9 _⟩,hd b H p⟩]
def wC{lo:Int}{n:Nat}{g:TG}{l:TS}{D:Uu}{a:St}{H:Hp}(f:Nat->St->Hp->Prop)(h0:f 0 a H)
  (r:∀ i a H,i<n->f i a H->g (.int (lo+i)) a H λb j=>l { D with nx:=f (i+1),ct:=f (i+1),bk:=D.nx } b j) (hd:∀ a H,f n a H->D.nx a H) :
  ∃ W:Nat->Nat->St->Hp->Prop,(∃ m,W 0 m a H)/\∀ i m a H,W i m a H ->
   ((Itr lo n).stop i H/\D.nx a H)\/((Itr lo n).go i H/\∃ N:St->Hp->Prop,(∀ c h,N c h->∃ o,o<m/\W (i+1) o c h)/\∀ x h,(Itr lo n).yld i H x h->g x a h λb j=>l { D with nx:=N,ct:=N,bk:=D.nx } b j):=by
 exists λi m a H=>m=n-i/\i<=n/\f i a H,⟨n,by simp,Aa _,h0⟩;rintro i m a H ⟨rfl,hi,p⟩;by_cases d:i<n
 ·erw[.inr ⟨d,f (i+1),λc h q=>⟨n-(i+1),by lia,rfl,d,q⟩,λx h y=>?_⟩];obtain⟨e,y⟩:=y;subst e y;rwa[r i a _ d p]
 ·have e:i=n:=by lia
  subst e;rwa[.inl ⟨e9 _,hd a H p⟩]
def vp{c:TT}{i:TS}{D:Uu}{a:St}{H:Hp}(h:St->Hp->Prop)(g:St->Hp->Nat)(h0:h a H)
  (o:∀ a H,h a H->c a H λb e=>if b=Ju then i { D with nx:=λd f=>h d f/\g d f<g a H,ct:=λd f=>h d f/\g d f<g a H,bk:=D.nx } a e else D.nx a e)
  (mono:∀ a H Q j,(∀ b e,Q b e->j b e)->c a H Q->c a H j):Sm c i D a H:=by
 exists λm a H=>m=g a H/\h a H,⟨_,U,h0⟩;rintro m a H ⟨rfl,p⟩;erw[mono a H _ _ (λb e q=>?_) (o a H p)];cases b with
 | true=>rwa[_,λd f ⟨n,l⟩=>⟨_,l,rfl,n⟩,q]
 | false=>rwa[q]
end L2

namespace L2

abbrev R2:=V->V->Hp->VK->Prop
def OpR(X:Cx)(f:c7->c7->IA c7)(r:R2):Prop :=
 ∀(b:List (c5×By))(s:d7)(a:St)(H:Hp)(x y:V)(v u:c7)(Q:VK),Inv X b a H s->xI x v->xI y u->r x y H Q ->
  wpAny 'b' X.A (f v u) (EP X b a Q) X.xe s
def UnR(X:Cx)(f:c7->IA c7)(r:V->Hp->VK->Prop):Prop :=
 ∀(b:List (c5×By))(s:d7)(a:St)(H:Hp)(x:V)(v:c7)(Q:VK),Inv X b a H s->xI x v->r x H Q ->
  wpAny 'b' X.A (f v) (EP X b a Q) X.xe s
def vA(X:Cx)(f:c7)(r:List V->Hp->VK->Prop):Prop :=
 ∀(c:List (c5×By))(s:d7)(a:St)(H:Hp)(xs:List V)(b:List c7)(Q:VK),Inv X c a H s->yQ xs b->r xs H Q ->
  wpAny 'b' X.A (call f b) (EP X c a Q) X.xe s
def TruR(X:Cx)(r:V->Hp->(Bool->Hp->Prop)->Prop):Prop :=
 ∀(b:List (c5×By))(s:d7)(a:St)(H:Hp)(x:V)(v:c7)(Q:Bool->Hp->Prop),Inv X b a H s->xI x v->r x H Q ->
  wpAny 'b' X.A (truthy v) (TP X b a Q) X.xe s

def tOp(r:R2)(c b:TE):TE:=λa H Q=>c a H λx e=>b a e λy d=>r x y d Q
def tUn(r:V->Hp->VK->Prop)(b:TE):TE:=λa H Q=>b a H λx c=>r x c Q
inductive RI(C:Int->Int->Prop)(g:Int->Int->V)(x y:V)(H:Hp)(Q:VK):Prop where
 | mk (i j:Int) (ex:x=.int i) (ey:y=.int j) (c:C i j) (q:Q (g i j) H)
def rI(C:Int->Int->Prop)(g:Int->Int->V):R2:=λx y H Q=>RI C g x y H Q
inductive RI0(g:Int->Int->V)(x y:V)(H:Hp)(Q:VK):Prop where
 | mk (i j:Int) (ex:x=.int i) (ey:y=.int j) (q:Q (g i j) H)
def rI0(g:Int->Int->V):R2:=λx y H Q=>RI0 g x y H Q
inductive RU(g:Int->V)(x:V)(H:Hp)(Q:VK):Prop where
 | mk (i:Int) (ex:x=.int i) (q:Q (g i) H)
def rU(g:Int->V):V->Hp->VK->Prop:=λx H Q=>RU g x H Q

section
variable{X:Cx}{a b c:Av}{ta tb tc:TE}{pos:Dg}

def NT(C:PE X a ta)(B:PE X b tb){d:St}{H:Hp}{R:V->V->Hp->Prop}(I:Inv X l d H s)
  (h:ta d H λx m=>tb d m λy e=>R x y e) {Q:c7->d7->Prop} {f:c7->c7->IA c7}
  (z:∀ v u j x y e,Inv X l d e j->xI x v->xI y u->R x y e->wpAny 'b' X.A (f v u) Q X.xe j) :
  wpAny 'b' X.A (eval a X.env) (λv i=>wpAny 'b' X.A (eval b X.env) (λu g=>wpAny 'b' X.A (f v u) Q X.xe g) X.xe i) X.xe s:=by
 erw[thn (C l s d H _ I h) λv n ⟨x,m,E,p,r⟩=>?_];erw[thn (B l n d m _ E r) λu j ⟨y,e,D,o,q⟩=>?_];rwa[z v u j x y e D p o q]

def yR(j:OpR X (binaryOp d) r)(m:PE X a ta)(l:PE X b tb):PE X (.BinOp a d b pos) (tOp r ta tb):=by
 intro n s e H Q I h;rwa[wpAny_BinOp (NT m l I h λv u f x y p o i g q=>j n f e p x y v u Q o i g q)]
def pe_un{r:V->Hp->VK->Prop}(l:UnR X (unaryOp e) r)(m:PE X a ta):PE X (.UnaryOp e a pos) (tUn r ta):=by
 intro f s d H Q I h;rwa[UnaryOp_ (thn (m f s d H _ I h) λv g ⟨x,o,n,i,j⟩=>l f g d o x v Q n i j)]
def opI{f:c7->c7->IA c7}{C:Int->Int->Prop}{g:Int->Int->Int}
  (rule:∀(i j:Int)(t u:Jn)(s:d7)(Q:c7->d7->Prop)(E:c7->d7->Prop),C i j->Q (.int (g i j) s.toks) { s with toks:=s.toks+1 }->wpAny 'b' X.A (f (.int i t) (.int j u)) Q E s) :
  OpR X f (rI C λi j=>.int (g i j)):=by
 intro o s n H x y v u Q I l e h;obtain⟨i,j,rfl,rfl,m,q⟩:=h;obtain⟨t,rfl⟩:=l;obtain⟨d,rfl⟩:=e;rwa[rule i j t d s _ _ m ⟨.int (g i j),H,I.tok _,⟨_,rfl⟩,q⟩]
def opI0{f:c7->c7->IA c7}{g:Int->Int->Int}
  (rule:∀(i j:Int)(t u:Jn)(s:d7)(Q:c7->d7->Prop)(E:c7->d7->Prop),Q (.int (g i j) s.toks) { s with toks:=s.toks+1 }->wpAny 'b' X.A (f (.int i t) (.int j u)) Q E s) :
  OpR X f (rI0 λi j=>.int (g i j)):=by
 intro n s m H x y v u Q I l e h;obtain⟨i,j,rfl,rfl,q⟩:=h;obtain⟨t,rfl⟩:=l;obtain⟨d,rfl⟩:=e;rwa[rule i j t d s _ _ ⟨.int (g i j),H,I.tok _,⟨_,rfl⟩,q⟩]
def NH{f:c7->c7->IA c7}{g:Int->Int->Bool}
  (rule:∀(i j:Int)(t u:Jn)(s:d7)(Q:c7->d7->Prop)(E:c7->d7->Prop),Q (.bool (g i j)) s->wpAny 'b' X.A (f (.int i t) (.int j u)) Q E s) :
  OpR X f (rI0 λi j=>.bl (g i j)):=by
 intro n s m H x y v u Q I l e h;obtain⟨i,j,rfl,rfl,q⟩:=h;obtain⟨t,rfl⟩:=l;obtain⟨d,rfl⟩:=e;rwa[rule i j t d s _ _ ⟨.bl (g i j),H,I,rfl,q⟩]

def CPow(i j:Int):Prop:=0<=j/\j<=1000000/\i.natAbs<2^64
def Pq(i j:Int):Prop:=(-(2^64)<i/\i<2^64)\/(-(2^64)<j/\j<2^64)
def Pq.ok{i j:Int}(h:Pq i j):IntMulOk i j:=by
 rcases h with ⟨h1,h2⟩ | ⟨h1,h2⟩
 ·rwa[.of_left (intBits_le_64 h1 h2)]
 ·rwa[.of_right (intBits_le_64 h1 h2)]
def iS:OpR X (binaryOp .Add) (rI0 λi j=>.int (i+j)):=opI0 λ_ _ _ _ _ _ _ q=>add_int q
def dS:OpR X (binaryOp .Sub) (rI0 λi j=>.int (i-j)):=opI0 λ_ _ _ _ _ _ _ q=>sub_int q
def cg:OpR X (binaryOp .Mult) (rI Pq λi j=>.int (i*j)):=opI λ_ _ _ _ _ _ _ d q=>mul_int q d.ok
def Sk:OpR X (binaryOp .Mod) (rI (λ_ j=>0<j) λi j=>.int (i%j)):=opI λi j _ _ _ _ _ d q=>by
 have h1:(0:Int)<j:=d;rwa[mod_int' (by lia) (by rw[Int.fmod_eq_emod_of_nonneg i (by lia)]; exact q)]
def SQ:OpR X (binaryOp .Pow) (rI CPow λi j=>.int (i^j.toNat)):=opI λ_ _ _ _ _ _ _ d q=>pow_int_small d.1 d.2.1 d.2.2 q
def unI{f:c7->IA c7}{g:Int->Int}
  (rule:∀(i:Int)(t:Jn)(s:d7)(Q:c7->d7->Prop)(E:c7->d7->Prop),Q (.int (g i) s.toks) { s with toks:=s.toks+1 }->wpAny 'b' X.A (f (.int i t)) Q E s) :
  UnR X f (rU λi=>.int (g i)):=by
 intro j s e H x v Q I d h;obtain⟨i,rfl,q⟩:=h;obtain⟨t,rfl⟩:=d;rwa[rule i t s _ _ ⟨.int (g i),H,I.tok _,⟨_,rfl⟩,q⟩]
def Pb:UnR X (unaryOp .USub) (rU λi=>.int (-i)):=unI λ_ _ _ _ _ q=>neg_int q
end

def scal:V->V->Bool
 | .non,.non=>Ju | .non,.int _=>Ju | .int _,.non=>Ju | .non,.bl _=>Ju | .bl _,.non=>Ju | .non,.str _=>Ju | .str _,.non=>Ju
 | .int _,.int _=>Ju | .bl _,.bl _=>Ju | .str _,.str _=>Ju | .byt _,.byt _=>Ju
 | .int _,.str _=>Ju | .str _,.int _=>Ju | .bl _,.str _=>Ju | .str _,.bl _=>Ju
 | _,_=>Jv
def rEq:R2:=λx y H Q=>scal x y=Ju/\Q (.bl (decide (x=y))) H
def rNe:R2:=λx y H Q=>scal x y=Ju/\Q (.bl (!decide (x=y))) H

def Vv{i j:Int} : decide (V.int i=V.int j)=(i == j):=by
 rw[Dl];simp
def SY : decide (V.bl i=V.bl j)=(i == j):=by
 rw[Dl];simp
def Wc : decide (V.str i=V.str j)=(i == j):=by
 rw[Dl];simp
def WC : decide (V.byt i=V.byt j)=(i.toList == j.toList):=by
 rw[Dl];cases i;cases j;simp

section
variable{X:Cx}{a b c:Av}{ta tb tc:TE}{pos:Dg}
def yO{d:St}{H:Hp}{Q:VK}{k f:Bool}(I:Inv X g d H s)(q:Q (.bl k) H)(e:k=f):EP X g d Q (.bool f) s:=by
 subst e;rwa[.bl k,H,I,rfl,q]
def RN:OpR X (compareOp .Eq) rEq:=by
 intro m s l H x y v u Q I g d h;obtain⟨f,q⟩:=h;cases x with
 | non =>
  cases g;cases y with
  | non=>cases d; rwa[HQ (yO I q 'd')]
  | bl j=>cases d; rwa[HR (yO I q 'd')]
  | int j=>obtain⟨e,rfl⟩:=d; rwa[Ig (yO I q 'd')]
  | str j=>obtain⟨e,rfl⟩:=d; rwa[Ih (yO I q 'd')]
  | _=>exact y9 (show Jv=Ju from f) m7
 | bl i =>
  cases g;cases y with
  | non=>cases d; rwa[HS (yO I q 'd')]
  | bl j=>cases d; rwa[eq_bool (yO I q SY)]
  | str j=>obtain⟨e,rfl⟩:=d; rwa[HU (yO I q 'd')]
  | _=>exact y9 (show Jv=Ju from f) m7
 | int i =>
  obtain⟨t,rfl⟩:=g;cases y with
  | non=>cases d; rwa[Ii (yO I q 'd')]
  | int j=>obtain⟨e,rfl⟩:=d; rwa[eq_int (yO I q Vv)]
  | str j=>obtain⟨e,rfl⟩:=d; rwa[Ij (yO I q 'd')]
  | _=>exact y9 (show Jv=Ju from f) m7
 | str i =>
  obtain⟨t,rfl⟩:=g;cases y with
  | non=>cases d; rwa[Ik (yO I q 'd')]
  | bl j=>cases d; rwa[HV (yO I q 'd')]
  | int j=>obtain⟨e,rfl⟩:=d; rwa[Il (yO I q 'd')]
  | str j=>obtain⟨e,rfl⟩:=d; rwa[eq_str (yO I q Wc)]
  | _=>exact y9 (show Jv=Ju from f) m7
 | byt i =>
  obtain⟨t,rfl⟩:=g;cases y with
  | byt j=>obtain⟨e,rfl⟩:=d; rwa[PySem.W.eq_bytes (yO I q WC)]
  | _=>exact y9 (show Jv=Ju from f) m7
 | _=>cases y <;> exact y9 (show Jv=Ju from f) m7
def Tz:OpR X (compareOp .NotEq) rNe:=by
 intro m s l H x y v u Q I g d h;obtain⟨f,q⟩:=h;cases x with
 | non =>
  cases g;cases y with
  | non=>cases d; rwa[HW (yO I q 'd')]
  | bl j=>cases d; rwa[HX (yO I q 'd')]
  | int j=>obtain⟨e,rfl⟩:=d; rwa[Im (yO I q 'd')]
  | str j=>obtain⟨e,rfl⟩:=d; rwa[Io (yO I q 'd')]
  | _=>exact y9 (show Jv=Ju from f) m7
 | bl i =>
  cases g;cases y with
  | non=>cases d; rwa[HY (yO I q 'd')]
  | bl j=>cases d; rwa[ne_bool (yO I q (congrArg not SY))]
  | str j=>obtain⟨e,rfl⟩:=d; rwa[HZ (yO I q 'd')]
  | _=>exact y9 (show Jv=Ju from f) m7
 | int i =>
  obtain⟨t,rfl⟩:=g;cases y with
  | non=>cases d; rwa[Ip (yO I q 'd')]
  | int j=>obtain⟨e,rfl⟩:=d; rwa[ne_int (yO I q (congrArg not Vv))]
  | str j=>obtain⟨e,rfl⟩:=d; rwa[Iq (yO I q 'd')]
  | _=>exact y9 (show Jv=Ju from f) m7
 | str i =>
  obtain⟨t,rfl⟩:=g;cases y with
  | non=>cases d; rwa[Ir (yO I q 'd')]
  | bl j=>cases d; rwa[Ia (yO I q 'd')]
  | int j=>obtain⟨e,rfl⟩:=d; rwa[Iu (yO I q 'd')]
  | str j=>obtain⟨e,rfl⟩:=d; rwa[ne_str (yO I q (congrArg not Wc))]
  | _=>exact y9 (show Jv=Ju from f) m7
 | byt i =>
  obtain⟨t,rfl⟩:=g;cases y with
  | byt j=>obtain⟨e,rfl⟩:=d; rwa[PySem.W.ne_bytes (yO I q (congrArg not WC))]
  | _=>exact y9 (show Jv=Ju from f) m7
 | _=>cases y <;> exact y9 (show Jv=Ju from f) m7

def UQ:OpR X (compareOp .Lt) (rI0 λi j=>.bl (decide (i<j))):=NH λ_ _ _ _ _ _ _ q=>lt_int q
def Um:OpR X (compareOp .LtE) (rI0 λi j=>.bl (decide (i<=j))):=NH λ_ _ _ _ _ _ _ q=>le_int q
def VE:OpR X (compareOp .Gt) (rI0 λi j=>.bl (decide (j<i))):=NH λ_ _ _ _ _ _ _ q=>gt_int q
def RT:OpR X (compareOp .GtE) (rI0 λi j=>.bl (decide (j<=i))):=NH λ_ _ _ _ _ _ _ q=>ge_int q
def SI:OpR X (compareOp .Is) (λx y H Q=>y=.non/\Q (.bl (decide (x=.non))) H):=by
 intro g s f H x y v u Q I d e h;obtain⟨rfl,q⟩:=h;cases e;refine is_none_gen (yO I q ?_);cases x <;> first
  | (cases d; rfl)
  | (obtain⟨t,rfl⟩:=d; rfl)
def Ws:OpR X (compareOp .IsNot) (λx y H Q=>y=.non/\Q (.bl (!decide (x=.non))) H):=by
 intro g s f H x y v u Q I d e h;obtain⟨rfl,q⟩:=h;cases e;refine isnot_none_gen (yO I q ?_);cases x <;> first
  | (cases d; rfl)
  | (obtain⟨t,rfl⟩:=d; rfl)

def tM(b:Av){d:HC}(h:d≠.In:=by decide)(h2:d≠.NotIn:=by decide):behindInMarks d b=false:=by
 have f:(d == CmpOp.In)=false:=by cases d <;> first | rfl | exact y9 rfl h
 have e:(d == CmpOp.NotIn)=false:=by cases d <;> first | rfl | exact y9 rfl h2
 cases b <;> simp[behindInMarks,f,e]
def qJ(j:OpR X (compareOp d) r)(n:PE X a ta)(m:PE X b tb)(l:behindInMarks d b=Jv):PE X (.Compare a [d] [b] pos) (tOp r ta tb):=by
 intro o s e H Q I h;rwa[wpAny_Compare1 (NT n m I h λv u f x y w p i g q=>j o f e w x y v u Q p i g q) l]
def Ta(t:TE):TT:=λd H Q=>t d H λx e=>∃ k,x=.bl k/\Q k e
def yS(w:OpR X (compareOp f) r)(C:PE X a ta)(B:PE X b tb)(A:behindInMarks f b=Jv):PT X (.Compare a [f] [b] pos) (Ta (tOp r ta tb)):=by
 intro g s d H Q I h;refine FL (thn (C g s d H _ I h) λv j ⟨x,M,G,n,q⟩=>thn (B g j d M _ G q) λu i ⟨y,L,E,m,p⟩ =>
  thn (w g i d L x y v u _ E n m p) λc N ⟨z,J,D,l,k,e,o⟩=>?_) A
 subst e;cases l;rwa[BQ ⟨J,D,o⟩]
def OQ(r g:R2)(ta tb tc:TE):TE:=λd H Q=>ta d H λx j=>tb d j λy i=>r x y i λz e=>∃ k,z=.bl k/\(if k=Ju then tc d e λf h=>g y f h Q else Q (.bl Jv) e)
def Zh(P:OpR X (compareOp j) r)(l:OpR X (compareOp f) n)(Y:PE X a ta)(T:PE X b tb)(S:PE X c tc)
  (R:lastMarks [j,f] [b,c]=false:=by with_unfolding_all rfl):PE X (.Compare a [j,f] [b,c] pos) (OQ r n ta tb tc):=by
 intro i s g H Q I h;refine Compare_chain (thn (Y i s g H _ I h) λv E ⟨x,H1,I1,L,O⟩=>chain_link (thn (T i E g H1 _ I1 O) λu D ⟨y,H2,I2,m,N⟩ =>
  thn (P i D g H2 x y v u _ I2 L m N) λd C ⟨z,q,p,J,k,e,o⟩=>?_)) R
 subst e;cases J;erw[BQ ?_];cases k with
 | false=>rwa[ite_ff ⟨.bl Jv,q,p,rfl,o⟩]
 | true=>rwa[ite_tt (chain_last (thn (S i C g q _ p o) λA B ⟨w,H4,Z,G,M⟩=>l i B g H4 y w u A Q Z m G M))]
def TruV(K:b8)(x:V)(H:Hp)(k:Bool):Prop :=
 match x with
 | .non=>k=Jv
 | .bl b=>k=b
 | .int i=>k=(i != 0)
 | .str y=>y.length<=sizeLine/\k=((y.length:Int) != 0)
 | .byt y=>y.size<=sizeLine/\k=((y.size:Int) != 0)
 | .ref p=>(∃ xs,SqL K H p xs/\k = !xs.isEmpty)\/(∃ xs,SqT K H p xs/\k = !xs.isEmpty)\/∃ d,H p=Js (.dK d)/\k = !d.isEmpty
 | _=>False
def YL{e:Type}{d:List (e×V)}{f:List (e×c7)}(r:KV d f):(!f.isEmpty) = !d.isEmpty:=by
 cases r <;> rfl
def ib(r:yQ xs d):(!d.toArray.isEmpty) = !xs.isEmpty:=by
 cases r <;> simp
def lU:(sizeLine:Nat)<2^63:=by rw[sizeLine_eq]; decide
def Nn:TruR X (λx H Q=>∃ k,TruV X.K x H k/\Q k H):=by
 intro E s B H x v Q I g h;obtain⟨k,e,q⟩:=h;have D:=lU;have C:sizeLine=16777216:=sizeLine_eq;cases x with
 | non =>
  cases g;have e':k=false:=e;subst e';rwa[truthy_none ⟨H,I,q⟩]
 | bl b =>
  cases g;have e':k=b:=e;subst e';rwa[BQ ⟨H,I,q⟩]
 | int i =>
  obtain⟨t,rfl⟩:=g;have e':k=(i != 0):=e;subst e';rwa[PySem.P.truthy_int ⟨H,I,q⟩]
 | str y =>
  obtain⟨t,rfl⟩:=g;obtain⟨z,e'⟩:y.length<=sizeLine/\k=((y.length:Int) != 0):=e;subst e';rwa[PySem.P.truthy_str (by lia) ⟨H,I.tok _,q⟩]
 | byt y =>
  obtain⟨t,rfl⟩:=g;obtain⟨z,e'⟩:y.size<=sizeLine/\k=((y.size:Int) != 0):=e;subst e';rwa[PySem.W.truthy_bytes (by lia) ⟨H,I.tok _,q⟩]
 | ref p =>
  cases g;have e':(∃ xs,SqL X.K H p xs/\k = !xs.isEmpty)\/(∃ xs,SqT X.K H p xs/\k = !xs.isEmpty)\/∃ d,H p=Js (.dK d)/\k = !d.isEmpty:=e;rcases e' with ⟨xs,j,e'⟩ | ⟨xs,j,e'⟩ | ⟨d,j,e'⟩
  ·subst e';obtain⟨o,r,n,u⟩:=I.list j;have f:=r.length;rwa[wpAny_truthy_list n.isList (by simp only[f7]; lia) ⟨H,I.tok _,by rw[ib r]; exact q⟩]
  ·subst e';obtain⟨o,r,n,u⟩:=I.tuple j;have f:=r.length;rwa[truthy_tuple n (by simp only[f7]; lia) ⟨H,I.tok _,by rw[ib r]; exact q⟩]
  ·subst e';obtain⟨u,A,l,r,m⟩:d.length<=sizeLine/\(p == sysModules)=Jv/\∃ l,KV d l/\s.heap.DictOf (yP X.prog X.w) p l:=I.hok p _ j;have f:d.length=l.length:=DV r;rwa[wpAny_truthy_dict A m (by lia) ⟨H,I.tok _,by rw[YL r]; exact q⟩]
 | _=>exact(show False from e).elim
def ir:OpR X (binaryOp .Add) (λx y H Q=>E2 λi j=>A4 (x=.str i) (y=.str j) (i.length+j.length<=sizeLine) (Q (.str (i++j)) H)):=by
 intro n s l H x y v u Q I f e h;obtain⟨i,j,rfl,rfl,g,q⟩:=h;obtain⟨t,rfl⟩:=f;obtain⟨d,rfl⟩:=e;rwa[add_str (λd m=>⟨.str (i++j),H,I.tok _,⟨_,rfl⟩,q⟩) g]
def jQ{x:V}(r:yQ [x] d):∃ u,d=[u]/\xI x u:=by
 cases r with
 | cons f e=>cases e; rwa[_,rfl,f]
def OI{x y:V}(r:yQ [x,y] e):∃ u d,e=[u,d]/\xI x u/\xI y d:=by
 cases r with
 | cons i h =>
  cases h with
  | cons g f=>cases f; rwa[_,_,rfl,i,g]
def Ti:vA X (.builtin "abs") (λxs H Q=>∃ i,xs=[.int i]/\Q (.int (if i<0 then -i else i)) H):=by
 intro g s d H xs e Q I r h;obtain⟨i,rfl,q⟩:=h;obtain⟨u,rfl,t,rfl⟩:=jQ r;exact call_abs_int λu f=>⟨.int (if i<0 then -i else i),H,I.tok _,⟨_,rfl⟩,q⟩
def WM(e:X.calm=Ju):vA X (.builtin "max") (λxs H Q=>E2 λi j=>xs=[.int i,.int j]/\Q (.int (if j>i then j else i)) H):=by
 intro p s f H xs l Q I r h;obtain⟨i,j,rfl,q⟩:=h;obtain⟨u,g,rfl,⟨t,rfl⟩,⟨n,rfl⟩⟩:=OI r;erw[max_two_ints (I.ok.hd e) λo m k=>⟨_,H,I.kept k,?_,q⟩];by_cases d:j>i
 ·rw[y6 d,y6 d]; rwa[_,rfl]
 ·rw[y4 d,y4 d]; rwa[_,rfl]
def VN(e:X.calm=Ju):vA X (.builtin "min") (λxs H Q=>E2 λi j=>xs=[.int i,.int j]/\Q (.int (if j<i then j else i)) H):=by
 intro p s f H xs l Q I r h;obtain⟨i,j,rfl,q⟩:=h;obtain⟨u,g,rfl,⟨t,rfl⟩,⟨n,rfl⟩⟩:=OI r;erw[min_two_ints (I.ok.hd e) λo m k=>⟨_,H,I.kept k,?_,q⟩];by_cases d:j<i
 ·rw[y6 d,y6 d]; rwa[_,rfl]
 ·rw[y4 d,y4 d]; rwa[_,rfl]
def Vw:vA X (.type "int") (λxs H Q=>(∃ i,xs=[.int i]/\Q (.int i) H)\/∃ k,xs=[.bl k]/\Q (.int (if k then 1 else 0)) H):=by
 intro g s e H xs f Q I r h;rcases h with ⟨i,rfl,q⟩ | ⟨k,rfl,q⟩
 ·obtain⟨u,rfl,t,rfl⟩:=jQ r;rwa[call_int_int ⟨.int i,H,I,⟨_,rfl⟩,q⟩]
 ·obtain⟨u,rfl,d⟩:=jQ r;cases d;exact call_int_bool ⟨.int (if k then 1 else 0),H,I.tok _,⟨_,rfl⟩,q⟩
end
end L2

namespace L2

structure RK(h:Ae)(x dx C:c5)(mA:i9->Option c7):Prop where
 obj:h.get? x=Js (BR C dx)
 ns:h.Ns1 dx mA
 ne:dx≠x

def XJ{h:Ae}{f:i9->Option c7}(n:h.Ns1 dx f):∃ d,h.get? dx=Js d/\∀ b,Eu b d=Js (f b):=by
 obtain⟨o,g,r,j,hd,m,_,l⟩:=n;erw[o,j,λb=>?_];have e:=l b;unfold nsFind findBy at e;rw[<- Array.find?_toList] at e;unfold Eu;rw[hd];dsimp only;split
 ·rename_i y q
  rw[q] at e;rwa[congrArg Js e]
 ·rename_i q
  rw[q] at e;have a:g.toList.any (·.refKey)=false:=by
   rw[List.any_eq_false];intro y i;obtain⟨z,t,c⟩:=m y (FR.mp i);simp[DictEntry.refKey,c]
  have p:¬ g.toList.any (·.refKey)=true:=by rw[a]; rwa[m7]
  rw[y4 p];rwa[congrArg Js e]

def RK.look{c:i9->Option c7}(I:RK h x dx C c):∃ b,PySem.W.InstAt h x (BR C dx) C (Js b)/\∀ a,Eu a b=Js (c a) :=
 let ⟨b,ho,hl⟩:=XJ I.ns
 ⟨b,⟨I.obj,rfl,rfl,ho⟩,hl⟩

section
variable{prog:o7}{w:w9}{A:An}{E:c7->d7->Prop}{s:d7}{K:b8}{x dx C f:c5}{mA:i9->Option c7}{name:i9}{v:c7}

def Rk{Q:c7->d7->Prop}(X:K.In s.heap)(I:RK s.heap x dx C mA)(e:DP K C name=Ju)(d:ET K C=Ju)
  (g:Bg K (.ref C) name=Js Jt) (b:mA name=Js v) (a:G6 v=Ju) (h:Q v { s with toks:=s.toks+1 }) :
  wpAny 'k' A (getAttr (.ref x) name expr) Q E s:=by
 obtain⟨i,J,c⟩:=I.look;rwa[PySem.W.get_value X J (Ed e).1 (PySem.W.findObj_own d g rfl (by rw[c,b])) a h]

def TK{Q:c7×List c7->d7->Prop}(X:K.In s.heap)(I:RK s.heap x dx C mA)(a:DP K C name=Ju)
  (i:Bg K (.ref C) name=Js (Js (.ref f))) (e:GE K (.ref f)=Ju) (d:mA name=Jt) (h:Q (.ref f,[.ref x]) s) :
  wpAny 'k' A (getMethod (.ref x) name b) Q E s:=by
 obtain⟨c,J,g⟩:=I.look;exact PySem.W.method_fn X J (Ed a).1 (Ed a).2 i (beq_iff_eq.mp e) (by show(Eu name c).map (·.isSome)=Js Jv; rw[g,d]; rfl) h

def QB{Q:Unit->d7->Prop}(X:K.In s.heap)(I:RK s.heap x dx C mA)
  (q:Bg K (.ref C) "__setattr__" = Js (Js (.builtin "object.__setattr__"))) (u:GF K C=Ju) (o:FD K C name=Js Jt) (z:ET K C=Ju)
  (n:GC mA ns) (p:ns.length<=sizeLine)
  (h:∀ e,RK e x dx C (λy=>if y=name then Js v else mA y)->Cj dx s.heap e->Q () { s with heap:=e,toks:=s.toks+2 }) :
  wpAny 'k' A (setAttr (.ref x) name v) Q E s:=by
 obtain⟨H,J,M⟩:=I.look;refine PySem.W.set_plain X J q (PySem.W.osa_open (s:={ s with toks:=s.toks+1 }) (r:=Jt) X J u o λb=>?_);obtain⟨N,B,j⟩:=PySem.W.any_some z;have m:s.heap.get? x=Js ⟨.ref C,Js dx,.plain,#[]⟩:=I.obj;refine c6 (f8 (c6 (c6 (wpAny_loadPart m (c6 (Jh (s:={ s with toks:=s.toks+1 }) (PySem.W.looks_clsIn X B) ?_))))));rw[j];erw[f8 (a:=Js dx) (c6 (f8 (c6 ?_)))];refine wpAny_nsSet1 (s:={ s with toks:=s.toks+1 }) I.ns λe d c=>?_;obtain⟨L,D,G,g,i,l⟩:=d.count (Jo name v n);erw[c6 (wpAny_lookBehind g (by rw[i]; rwa[pastItsLine_dict (d9 l (by rw[i4]; lia))]) ?_)];rwa[f8 (h _ ⟨(c.2 _ (Bk I.ne)).trans I.obj,d,I.ne⟩ c)]

def Ug{R:Result->d7->Prop}{a:List c7}{b:List (i9×c7)}(X:K.In s.heap)(c:Hq K C=Ju)
  (hi:Bg K (.ref C) "__init__" = Js (Js (.ref f))) (e:PySem.W.typeIn K (.ref f)=Js (.type "function"))
  (h:codeAny 'k' (A.under (.builtin "type.__call__" ⟨.ref C::a,b⟩)) (.call (.ref f) ⟨.ref 'c'::a,b⟩) (PySem.W.InitBack 'c' R)
   { s with heap:=(s.heap.push Bq).push (BR C s.heap.objs.size) }) :
  codeAny 'k' A (.call (.ref C) ⟨a,b⟩) R s:=by
 obtain⟨i,g,d,t,os⟩:=s;rwa[PySem.W.make_core (PySem.W.makes_of X c) (PySem.W.looks_findIn X hi) (λself=>PySem.W.bind_fn X self e) (.inl rfl) h]
end

def md(f:i9)(v:V):List (i9×V)->List (i9×V)
 | []=>[(f,v)]
 | (g,x)::r=>if g=f then(g,v)::r else(g,x)::md f v r
def mM(f g:i9)(v:V):∀ fs:List (i9×V),(md f v fs).lookup g=if g=f then Js v else fs.lookup g
 | []=>by
  show Al g [(f,v)]=_;by_cases h:g=f
  ·have a:(g == f)=true:=beq_iff_eq.mpr h;simp only[Al,a,y6 h]
  ·have a:(g == f)=false:=x5.mpr h;simp only[Al,a,y4 h]
 | (k,x)::r=>by
  have c:=mM f g v r;rw[show md f v ((k,x)::r)=(if k=f then(k,v)::r else(k,x)::md f v r) from rfl];by_cases b:k=f
  ·rw[y6 b];by_cases h:g=k
   ·have a:(g == k)=true:=beq_iff_eq.mpr h;simp only[Al,a,y6 (h.trans b)]
   ·have a:(g == k)=false:=x5.mpr h;simp only[Al,a,y4 (λe:g=f=>h (e.trans b.symm))]
  ·rw[y4 b];by_cases h:g=k
   ·have a:(g == k)=true:=beq_iff_eq.mpr h;simp only[Al,a,y4 (λe:g=f=>b (h.symm.trans e))]
   ·have a:(g == k)=false:=x5.mpr h;simp only[Al,a];rwa[c]
def mI(f:i9)(v:V):∀ fs:List (i9×V),f∈(md f v fs).map (·.1)/\∀ g,g∈fs.map (·.1)->g∈(md f v fs).map (·.1)
 | []=>⟨by simp[md],λg h=>by simp at h⟩
 | (k,x)::r=>by
  obtain⟨c,b⟩:=mI f v r;rw[show md f v ((k,x)::r)=(if k=f then(k,v)::r else(k,x)::md f v r) from rfl];by_cases a:k=f
  ·rw[y6 a];subst a;exact⟨by simp,λg h=>by simpa using h⟩
  ·rw[y4 a];erw[?_,λg h=>?_]
   ·rw[j8];rwa[l7 _ c]
   ·rw[j8] at h ⊢;rcases g9.mp h with e | e
    ·rwa[g9.mpr (.inl e)]
    ·rwa[l7 _ (b g e)]
def lG(f:i9)(v:V):∀ fs:List (i9×V),(md f v fs).length<=fs.length+1
 | []=>by simp[md]
 | (k,x)::r=>by
  have b:=lG f v r;rw[show md f v ((k,x)::r)=(if k=f then(k,v)::r else(k,x)::md f v r) from rfl];by_cases a:k=f
  ·rw[y6 a,i4,i4]; lia
  ·rw[y4 a,i4,i4]; lia

def fV.some_of(r:fV (Js v) o):∃ u,o=Js u/\xI v u:=by
 cases o with
 | none=>exact(show False from r).elim
 | some u=>rwa[u,rfl,r]
def fV.none_of(r:fV Jt o):o=none:=by
 cases o with
 | none=>rfl
 | some u=>exact(show False from r).elim
def Wp(r:xI v u):G6 u=true:=by
 cases v with
 | non=>cases (show u=Am from r); rfl
 | bl b=>cases (show u=Go b from r); rfl
 | int i=>obtain⟨t,e⟩:=(show ∃ t,u=Ch i t from r); cases e; rfl
 | str x=>obtain⟨t,e⟩:=(show ∃ t,u=Dr x t from r); cases e; rfl
 | byt b=>obtain⟨t,e⟩:=(show ∃ t,u=Hk b t from r); cases e; rfl
 | flt b=>obtain⟨t,e⟩:=(show ∃ t,u=Hl b t from r); cases e; rfl
 | ref a=>cases (show u=j4 a from r); rfl
 | ty n=>cases (show u=C0 n from r); rfl

section
variable{P:o7}{w:w9}{H H':Hp}{h h':Ae}{a C dx:c5}{fs fs':List (i9×V)}
def aD(hok:HOk P w H h)(e:H a=Js (.ins C dx fs)):∃ b,RK h a dx C b/\(∀ f,fV (fs.lookup f) (b f))/\GC b (fs.map (·.1))/\fs.length<=1000/\H dx=Js (.own a):=by
 obtain⟨d,z,ne,ob,b,n,r,q⟩:=(show uH P w H h a (.ins C dx fs) from hok a _ e);rwa[b,⟨ob,n,ne⟩,r,q,z,d]
end

structure Cls(K:b8)(C:c5):Prop where
 pg:DP K C IC=Ju
 hd:ET K C=Ju
 po:GF K C=Ju
 sa:Bg K (.ref C) "__setattr__" = Js (Js (.builtin "object.__setattr__"))
def Cls.get{K:b8}(c:Cls K C)(f:i9):DP K C f=true:=c.pg
def ui(K:b8)(C:c5)(f:i9):Prop:=Bg K (.ref C) f=Js Jt
def ui.taker{K:b8}(n:ui K C f):FD K C f=Js none:=by
 unfold FD;rw[show Bg K (.ref C) f=Js Jt from n];rfl
structure Con(K:b8)(C:c5)(f:i9)(v:V)(u:c7):Prop where
 at_:Bg K (.ref C) f=Js (Js u)
 rel:xI v u
 get:GG K u "__get__" = Js Jt
 cp:PySem.W.copiedNames.contains f=Jv
structure So(K:b8)(C:c5)(m:i9)(f:c5):Prop where
 at_:Bg K (.ref C) m=Js (Js (.ref f))
 fn:GE K (.ref f)=Ju
 kp:AT K (.ref f)=Ju

section
variable{X:Cx}{Jw:List (c5×By)}{σ:St}{H:Hp}{s:d7}{a C dx:c5}{fs:List (i9×V)}{f:i9}{v:V}{A:An}{E:c7->d7->Prop}

def Yp{Q:c7->d7->Prop}(I:Inv X Jw σ H s)(e:H a=Js (.ins C dx fs))(c:Cls X.K C)(n:ui X.K C f)(l:fs.lookup f=Js v)
  (h:∀ u d,Inv X Jw σ H d->xI v u->Q u d):wpAny 'b' A (getAttr (.ref a) f b) Q E s:=by
 obtain⟨g,O,r,_,_,_⟩:=aD I.hok e;obtain⟨u,i,ru⟩:=fV.some_of (v:=v) (o:=g f) (by rw[<- l]; rwa[r f]);rwa[Rk I.kIn O (c.get f) c.hd n i (Wp ru) (h u _ (I.tok _) ru)]

def iy{Q:c7×List c7->d7->Prop}(I:Inv X Jw σ H s)(e:H a=Js (.ins C dx fs))(c:Cls X.K C)(k:So X.K C m g)(l:fs.lookup m=Jt)
  (h:Q (.ref g,[.ref a]) s):wpAny 'b' A (getMethod (.ref a) m b) Q E s:=by
 obtain⟨d,O,r,_,_,_⟩:=aD I.hok e;have i:d m=none:=fV.none_of (by rw[<- l]; rwa[r m]);rwa[TK I.kIn O (c.get m) k.at_ k.fn i h]

def ZY{Q:Unit->d7->Prop}(I:Inv X Jw σ H s)(e:H a=Js (.ins C dx fs))(c:Cls X.K C)(n:ui X.K C f)(M:fs.length<1000)(B:xI y u)
  (h:∀ j,Inv X Jw σ (upd H a (.ins C dx (md f y fs))) j->Q () j):wpAny 'b' A (setAttr (.ref a) f u) Q E s:=by
 obtain⟨l,O,r,i,_,m⟩:=aD I.hok e;have D:(fs.map (·.1)).length<=sizeLine:=by rw[ac,sizeLine_eq]; lia
 erw[QB I.kIn O c.sa c.po n.taker c.hd i D λL d p=>h _ ?_];have hd:∃ o,L.get? dx=Js o:=let ⟨o,_,_,e',_⟩:=d.ns;⟨o,e'⟩;erw[I.write (x:=a) (e:=dx) (by rw[e]; rwa[Ao]) (.inr m) (λb q J z=>(p.2 b J).trans z) hd ?_];erw[by rw[zH O.ne]; exact m,?_,O.ne,d.obj,_,d.ns,λg=>?_,λg G=>?_]
 ·have:=lG f y fs; lia
 ·show fV ((md f y fs).lookup g) (if g=f then Js u else l g);rw[mM];by_cases q:g=f
  ·rw[y6 q,y6 q]; rwa[B]
  ·rw[y4 q,y4 q]; rwa[r g]
 ·by_cases q:g=f
  ·rw[q]; exact(mI f y fs).1
  ·refine(mI f y fs).2 g (i g λz=>G ?_);show(if g=f then Js u else l g)=Jt;rw[y4 q]; rwa[z]

def Inv.made(I:Inv X Jw σ H s):Inv X Jw σ (upd (upd H s.heap.objs.size (.own 'c')) 'c' (.ins C s.heap.objs.size []))
  { s with heap:=(s.heap.push Bq).push (BR C s.heap.objs.size) }:=by
 have c:(s.heap.push Bq).get? s.heap.objs.size=Js Bq:=j9 s.heap rfl;have i:((s.heap.push Bq).push (BR C s.heap.objs.size)).get? 'c'=Js (BR C s.heap.objs.size):=by
  have:=j9 (s.heap.push Bq) (o:=BR C s.heap.objs.size) rfl;(rw[B6] at this;assumption)
 have h:(s.heap.push Bq).Ns s.heap.objs.size (λ_=>Jt):=⟨Bq,#[],_,c,rfl,(λe g=>y9 g 'd'),λ_=>rfl⟩;have j:=I.laid (a:=s.heap.objs.size) (o:=.own 'c') (h':=s.heap.push Bq) (t':=s.toks) (λb u q=>c8 _ q) (e9 _) ⟨_,c⟩;erw[j.laid (a:=s.heap.objs.size+1) (o:=.ins C s.heap.objs.size []) (t':=s.toks) (λb u q=>c8 _ q) (Ej (B6 _ _)) ?_];have ne:s.heap.objs.size≠s.heap.objs.size+1:=o9 (B3 _);erw[by rw[zH ne,zA],Aa _,ne,i,λ_=>Jt,(Heap.Ns1.of_empty h).at λo q=>c8 _ q,λ_=>Ao,λy d=>y9 rfl d]

def QC{f:i9}{s:d7}{Q:c7->d7->Prop}(c:attributeBase e f env (eval e env)=eval e env)
  (h:wpAny 'k' A (eval e env) (λo b=>wpAny 'k' A (getAttr o f Ju) Q E b) E s):wpAny 'k' A (eval (.Attribute e f pos) env) Q E s :=
 Attribute_any_ h (by rw[arm_eval_Attribute,c])
end


section
variable{X:Cx}{Jw:List (c5×By)}{σ:St}{H:Hp}{s:d7}{A:An}{E:c7->d7->Prop}{Q:c7->d7->Prop}{c:c7}{b:Bool}
inductive TyOf(K:b8)(H:Hp):V->c7->Prop where
 | non:TyOf K H .non (.type "NoneType")
 | bl (x:Bool):TyOf K H (.bl x) (.type "bool")
 | int (i:Int):TyOf K H (.int i) (.type "int")
 | str (x:i9):TyOf K H (.str x) (.type "str")
 | flt (x:UInt64):TyOf K H (.flt x) (.type "float")
 | lst {a:c5} {xs:List V} (e:H a=Js (.lst xs)):TyOf K H (.ref a) (.type "list")
 | frz {a:c5} {o:By} {xs:List V} (e:H a=Js (.frz o (.lst xs))):TyOf K H (.ref a) (.type "list")
 | tup {a:c5} {xs:List V} (e:H a=Js (.tup xs)):TyOf K H (.ref a) (.type "tuple")
 | dK {a:c5} {kvs:List (Key×V)} (e:H a=Js (.dK kvs)):TyOf K H (.ref a) (.type "dict")
 | dT {a:c5} {kvs:List (List Key×V)} (e:H a=Js (.dT kvs)):TyOf K H (.ref a) (.type "dict")
 | ins {a C dx:c5} {fs:List (i9×V)} (e:H a=Js (.ins C dx fs)) (cl:Cls K C) (ha:Bg K (.ref C) "__class__" = Js (Js (.builtin "object.__class__")))
   (hn:GG K (.builtin "object.__class__") "__get__" = Js (Js (.builtin "getset_descriptor.__get__"))) (htk:PySem.W.takesIn K (.builtin "object.__class__")=Js Ju)
   (hm:PySem.W.mroIn K C (.type "object")=Js Ju):TyOf K H (.ref a) (.ref C)
end
end L2

namespace L2

structure Room(k:Nat)(A:An):Prop where
 hd:A.handled=Jt
 dp:A.depth+3*k+5<recursionLimit
 un:A.units+16*k+200<cLine
 gd:A.guards=Js []
def Room.mono{j k:Nat}(r:Room k A)(h:j<=k):Room j A:=⟨r.hd,by have:=r.dp; lia,by have:=r.un; lia,r.gd⟩
def Room.deeper{k:Nat}(r:Room (k+1) A)(env:D4):Room k (A.deeper env) :=
 ⟨r.hd,by have:=r.dp; show A.depth+1+3*k+5<_; lia,by have:=r.un; show A.units+3+16*k+200<_; lia,r.gd⟩
def Room.in1{k:Nat}(r:Room (k+1) A):Room k A.in1 :=
 ⟨r.hd,by have:=r.dp; show A.depth+3*k+5<_; lia,by have:=r.un; show A.units+1+16*k+200<_; lia,r.gd⟩
def YW{A:An}{a:List c7}{b:List (i9×c7)} : (A.under (.builtin "type.__call__" ⟨.ref C::a,b⟩)).depth=A.depth+1:=by
 first | rfl | simp[Fo,Code.weight,Code.isCreation,II,Code.isCaller,IV,GH,guardIds]
def ZW{A:An}{a:List c7}{b:List (i9×c7)} : (A.under (.builtin "type.__call__" ⟨.ref C::a,b⟩)).units=A.units+1:=by
 first | rfl | simp[Fo,Code.cUnits,IV,GH]
def Room.make{k:Nat}(r:Room (k+1) A)(C:c5)(a:List c7)(b:List (i9×c7)):Room k (A.under (.builtin "type.__call__" ⟨.ref C::a,b⟩)) :=
 ⟨r.hd,by have:=r.dp; rw[YW]; lia,by have:=r.un; rw[ZW]; lia,by first | exact r.gd | (rw[Fo]; simpa [pushGuards,Code.guards,II,guardIds] using r.gd)⟩
def Room.depth{k:Nat}(r:Room k A):A.depth<recursionLimit:=by have:=r.dp; lia
def Room.units{k:Nat}(r:Room k A):A.units+64<cLine:=by have:=r.un; lia
def Room.units0{k:Nat}(r:Room k A):A.units<cLine:=by have:=r.un; lia

def Pw:TA:=λ_ H Q=>Q [] H
def TD(c:TE)(b:TA):TA:=λa H Q=>c a H λx e=>b a e λxs d=>Q (x::xs) d
section
variable{X:Cx}{e:Av}{es:List Av}{te:TE}{t:TA}{pos:Dg}
def zL:PA X [] Pw:=λ_ _ _ _ H Q I h=>GI ⟨[],H,I,.nil,h⟩
def zG(m:PE X e te)(l:PA X es t)(j:starEach (e::es) X.env=(Jv,eval e X.env)::starEach es X.env:=by rfl):PA X (e::es) (TD te t):=by
 intro pos b s a H Q I h;rw[j];show wpAny _ _ (spliced ((Jv,eval e X.env)::backTo pos (starEach es X.env))) _ _ s;erw[Gr (thn (m b s a H _ I h) λu c ⟨x,q,o,f,i⟩=>?_)];rwa[thn (l pos b c a q _ o i) λr v ⟨xs,p,n,d,g⟩=>⟨x::xs,p,n,.cons f d,g⟩]

def tTup(t:TA):TE:=λb H Q=>t b H λxs a=>xs.length<=sizeLine/\∀ p,a p=Jt->Q (.ref p) (upd a p 'w')
def tLst(t:TA):TE:=λb H Q=>t b H λxs a=>xs.length<=sizeLine/\∀ p,a p=Jt->Q (.ref p) (upd a p (.lst xs))
def iP{x1}(h:PA X es t):PE X (.Tuple es x1 pos) (tTup t):=by
 intro l s f H Q I i;erw[wpAny_Tuple_spliced (thn (h pos l s f H _ I i) λg a ⟨xs,d,c,r,z,q⟩=>⟨by rw[<- r.length]; exact z,?_⟩)];have j:d a.heap.objs.size=none:=c.hok.fresh (e9 _);erw[.ref a.heap.objs.size,upd d a.heap.objs.size 'w',c.laid (t':=a.toks) (λb u e=>c8 _ e) (e9 _) ?_,rfl,q _ j];rwa[z,g,r,⟨_,j9 _ rfl,rfl,_,rfl⟩]
def Wh(h:PA X es t):PE X (.List es pos) (tLst t):=by
 intro l s f H Q I i;erw[wpAny_List_spliced (thn (h pos l s f H _ I i) λg a ⟨xs,d,c,r,z,q⟩=>⟨by rw[<- r.length]; exact z,?_⟩)];have j:d a.heap.objs.size=none:=c.hok.fresh (e9 _);erw[.ref a.heap.objs.size,upd d a.heap.objs.size (.lst xs),c.laid (t':=a.toks) (λb u e=>c8 _ e) (e9 _) ?_,rfl,q _ j];rwa[z,g,0,r,j9 _ rfl]
end

abbrev Sp:=List V->Hp->VK->XK->Prop
abbrev CXT:=List D4->Hp->d7->XK->c7->d7->Prop

structure YM(P:o7)(w:w9)(K:b8)(mg:i9->Option c7)(base:Ae)(A:An)(outer:List D4)(s:d7)(H:Hp):Prop where
 frames:A.frames=Js outer
 mod:Mod K mg base
 bs:∀ b o,base.get? b=Js o->s.heap.get? b=Js o/\H b=Jt
 bsz:base.objs.size<=s.heap.objs.size
 funs:s.heap.FunFrames base outer
 frf:∀ b∈frs outer,H b=Jt
 hok:HOk P w H s.heap
 bare:Ei s.gens
def CE(outer:List D4)(P:o7)(w:w9)(H:Hp)(s:d7)(Q:VK)(u:c7)(a:d7):Prop :=
 ∃ v b,a.os=s.os/\Ei a.gens/\Un (frs outer) [] H b s.heap a.heap/\HOk P w b a.heap/\xI v u/\Q v b
def CR(b:CXT)(outer:List D4)(P:o7)(w:w9)(H:Hp)(s:d7)(Q:VK)(E:XK)(r:Result)(a:d7):Prop :=
 match r with
 | .ok (.ret u)=>CE outer P w H s Q u a
 | .ok _=>False
 | .error e=>b outer H s E e a
structure yI(P:o7)(w:w9)(K:b8)(mg:i9->Option c7)(base:Ae)(CX:CXT)(k:Nat)(f:c5)(fd:AW)(ps:List i9)(sp:Sp):Prop where
 len:∀ vs H Q E,sp vs H Q E->vs.length=ps.length
 run:∀(A:An)(outer:List D4)(s:d7)(H:Hp)(args:Args)(us:List c7)(vs:List V)(Q:VK)(E:XK),Room k A->YM P w K mg base A outer s H->Fp s fd args (ps.zip us)->yQ vs us->sp vs H Q E ->
  codeAny (model P w) A (.call (.ref f) args) (CR CX outer P w H s Q E) s
def YM.make{K:b8}{mg:i9->Option c7}{H:Hp}(e:YM P w K mg base A outer s H)(C:c5)(a:List c7)(b:List (i9×c7)) :
  YM P w K mg base (A.under (.builtin "type.__call__" ⟨.ref C::a,b⟩)) outer s H:=⟨by first | exact e.frames | (simpa [Fo,Code.envs,GH,pushEnvs] using e.frames),e.mod,e.bs,e.bsz,e.funs,e.frf,e.hok,e.bare⟩
def YM.in1{K:b8}{mg:i9->Option c7}{H:Hp}(e:YM P w K mg base A outer s H) :
  YM P w K mg base A.in1 outer s H:=⟨e.frames,e.mod,e.bs,e.bsz,e.funs,e.frf,e.hok,e.bare⟩

section
variable{X:Cx}{Jw:List (c5×By)}{σ:St}{H:Hp}{s s':d7}
def Inv.env0(I:Inv X Jw σ H s):YM X.prog X.w X.K X.mg X.base X.A X.stack s H :=
 ⟨I.ok.frames,I.ok.mod,I.bs,d9 I.ok.bsz I.sz,I.stack,I.stkFree,I.hok,I.bare⟩
def Inv.after{Q:VK}(I:Inv X Jw σ H s)(h:CE X.stack X.prog X.w H s Q u s'):EP X Jw σ Q u s':=by
 obtain⟨v,H',os,bare,un,hok,r,q⟩:=h;obtain⟨c,g,d,t,a⟩:=s';obtain rfl:a=s.os:=os;rwa[v,H',I.call (h':=c) (g':=g) (d':=d) (t':=t) (ch:=[]) un hok bare (λb z=>y9 z 'd'),r,q]
end

def Yd(d:Sp)(a:List V)(E:XK)(t:TA):TE:=λb H Q=>t b H λc e=>d (c++a) e Q E
def oN(K:b8)(fd:AW)(b:List i9)(c:List c7):Prop :=
 ∀(s:d7)(a:List c7),K.In s.heap->(a++c).length=b.length->Fp s fd ⟨a,[]⟩ (b.zip (a++c))
def oN.all{K:b8}{b:List i9}(h:∀ a:List c7,a.length=b.length->bindArgs fd ⟨a,[]⟩=pure (b.zip a)):oN K fd b []:=λs a _ c=>by
 rw[CM] at c ⊢;rwa[.of_eq (h a c)]

def dC(d:CXT)(X:Cx)(E:XK):Prop:=∀(c:List (c5×By))(b:St)(H:Hp)(s:d7)(e:c7)(a:d7),Inv X c b H s->d X.stack H s E e a->X.xe e a

section
variable{X:Cx}{CX:CXT}{k:Nat}{f C:c5}{fd:AW}{ps:List i9}{sp:Sp}{dvs:List V}{ds:List c7}{E:XK}{x m:i9}{p pos apos:Dg}{e o:Av}{es:List Av}{ta:TE}{t:TA}

def eN{b:St}{H:Hp}{Q:VK}(F:yI X.prog X.w X.K X.mg X.base CX k f fd ps sp)(j:Room k X.A)(n:oN X.K fd ps ds)(hd:yQ dvs ds)(i:dC CX X E)
  (I:Inv X c b H s) (r:yQ vs us) (h:sp (vs++dvs) H Q E):wpAny 'b' X.A (call (.ref f) us) (EP X c b Q) X.xe s:=by
 have d:yQ (vs++dvs) (us++ds):=r.append hd;have l:(us++ds).length=ps.length:=by rw[<- d.length]; rwa[F.len _ _ _ _ h]
 erw[Gs (codeAny_mono (F.run X.A X.stack s H ⟨us,[]⟩ (us++ds) (vs++dvs) Q E j I.env0 (n s us I.kIn l) d h) λr g a=>?_)];cases r with
 | error e=>rwa[i c b H s e g I a]
 | ok q =>
  cases q with
  | ret u=>rwa[I.after a]
  | next=>rwa[AN a]
  | brk=>rwa[AN a]
  | cont=>rwa[AN a]

def Qc(F:yI X.prog X.w X.K X.mg X.base CX k f fd ps sp)(i:Room k X.A)(n:Gl X x)(j:X.mg x=Js (.ref f))(l:AT X.K (.ref f)=Ju)(v:oN X.K fd ps ds)(hd:yQ dvs ds)(g:dC CX X E)
  (y:PA X (e::es) t) (b:(x ==("__debug__" : i9))=false:=by decide) (u:starEach (e::es) X.env=(Jv,eval e X.env)::starEach es X.env:=by rfl) (a:(backTo pos (starEach es X.env)).any (·.1)=false:=by rfl) :
  PE X 't' (Yd sp dvs E t):=by
 intro z s d H Q I h;erw[BI (yd I n j ?_ b)];erw[Dp (h₀:=X.base) I.ok.mod.kin l (thn (y pos z s d H _ I h) λD G ⟨B,J,c,r,q⟩=>⟨c.kIn,?_⟩) u a];rwa[eN F i v hd g c r q]
def UP(F:yI X.prog X.w X.K X.mg X.base CX k f fd ps sp)(c:Room k X.A)(i:Gl X x)(d:X.mg x=Js (.ref f))(g:AT X.K (.ref f)=Ju)(j:oN X.K fd ps ds)(hd:yQ dvs ds)(b:dC CX X E)
  (a:(x ==("__debug__" : i9))=false:=by decide):PE X (.Call (.Name x p) [] [] pos) (Yd sp dvs E Pw):=by
 intro n s l H Q I h;erw[BI (yd I i d ?_ a)];rwa[Ee I.kIn g (eN (us:=[]) F c j hd b I .nil h)]

structure Mk(K:b8)(C f:c5):Prop where
 makes:Hq K C=Ju
 init:Bg K (.ref C) "__init__" = Js (Js (.ref f))
 fn:GE K (.ref f)=Ju
 kp:AT K (.ref C)=Ju

def Sy{c:St}{H:Hp}{Q:VK}(M:Mk X.K C f)(F:yI X.prog X.w X.K X.mg X.base CX k f fd ps sp)(y:Room (k+1) X.A)(B:oN X.K fd ps ds)(hd:yQ dvs ds)
  (q:dC CX X E) (I:Inv X d c H s) (r:yQ vs us)
  (h:∀ x dx,H x=Jt->H dx=Jt->dx≠x->sp (.ref x::(vs++dvs)) (upd (upd H dx (.own x)) x (.ins C dx [])) (λv J=>v=.non/\Q (.ref x) J) E) :
  wpAny 'b' X.A (call (.ref C) us) (EP X d c Q) X.xe s:=by
 have i:=h 'c' s.heap.objs.size (I.hok.fresh (Bc _)) (I.hok.fresh (e9 _)) (o9 (B3 _));have b:=Inv.made (C:=C) I;have g:yQ (V.ref 'c'::(vs++dvs)) (j4 'c'::(us++ds)):=.cons rfl (r.append hd);have z:(j4 'c'::us++ds).length=ps.length:=by
  have e:=g.length;rw[F.len _ _ _ _ i] at e;rwa[e.symm]
 refine Gs (Ug (f:=f) I.kIn M.makes M.init (beq_iff_eq.mp M.fn) (codeAny_mono (F.run _ X.stack _ _ ⟨j4 'c'::us,[]⟩ (j4 'c'::(us++ds)) _ _ E (y.make C us [])
  (b.env0.make C us []) (B _ (j4 'c'::us) b.kIn z) g i) λr j a=>?_))
 cases r with
 | error e=>rwa[q d c _ _ e j b a]
 | ok D =>
  cases D with
  | ret u =>
   obtain⟨v,L,G,l,ev,n⟩:=b.after a;subst ev;rwa[l,⟨V.ref 'c',L,G,rfl,n⟩]
  | next=>rwa[AN a]
  | brk=>rwa[AN a]
  | cont=>rwa[AN a]
end

def PK(X:Cx)(b:List Ek)(t:TA):Prop :=
 ∀(pos:Dg)(c:List (c5×By))(s:d7)(a:St)(H:Hp)(Q:List V->Hp->Prop),Inv X c a H s->t a H Q->wpAny 'b' X.A (evalAll ((backToKw pos (keywordEach b X.env)).map (·.2))) (AP X c a Q) X.xe s
section
variable{X:Cx}{CX:CXT}{k:Nat}{f C:c5}{fd:AW}{ps ks:List i9}{sp:Sp}{E:XK}{x m:i9}{p pos apos kpos:Dg}{e o:Av}{es:List Av}{kws:List Ek}{te ta:TE}{t tk:TA}{nm:Option i9}
def Oh:PK X [] Pw:=λ_ _ _ _ H Q I h=>wpAny_evalAll_nil ⟨[],H,I,.nil,h⟩
def Rc(n:PE X e te)(l:PK X kws t):PK X (⟨nm,e,kpos⟩::kws) (TD te t):=by
 intro pos b s a H Q I h;show wpAny _ _ (evalAll ((do let v <- eval e X.env; standAt pos; pure v)::(backToKw pos (keywordEach kws X.env)).map (·.2))) _ _ s;erw[wpAny_evalAll_cons (c6 (thn (n b s a H _ I h) λu c ⟨x,y,r,g,j⟩=>c6 (CO (f8 ?_))))];rwa[thn (l pos b c a y _ r j) λz A ⟨xs,w,q,d,i⟩=>⟨x::xs,w,q,.cons g d,i⟩]

structure KBinds(K:b8)(fd:AW)(ps ks:List i9)(g:List c7->List c7->List c7)(gV:List V->List V->List V):Prop where
 to:∀(s:d7)(us ws:List c7),K.In s.heap->(g us ws).length=ps.length->Fp s fd ⟨us,ks.zip ws⟩ (ps.zip (g us ws))
 rel:∀{vs:List V}{us:List c7}{zs:List V}{ws:List c7},yQ vs us->yQ zs ws->yQ (gV vs zs) (g us ws)
variable{g:List c7->List c7->List c7}{gV:List V->List V->List V}
end

structure zJ(N P:List i9)(sc:Cs):Prop where
 kind:sc.kind=.function
 co:sc.isCoroutine=Jv
 gen:sc.isGenerator=Jv
 nd:N.Nodup
 pre:N.take P.length=P
 par:∀ x∈P,sc.names.lookup x=Js .local\/sc.names.lookup x=Js .cell
 nofree:∀ y∈sc.names,y.2≠.free

def db{kindOf:i9->Option Cm}{x:i9} : ∀{binds:List (i9×c7)}{m:i9->Option c7},(∀ v,(x,v) ∉ binds)->bindL kindOf binds m x=m x
 | [],_,_=>rfl
 | (n,v)::r,m,h=>by
  unfold bindL;rw[db λw a=>h w (l7 _ a)];split
  ·have:x≠n:=by rintro rfl; rwa[h v j7]
   simp[this]
  ·rfl
def df{kindOf:i9->Option Cm}{x:i9} : ∀{binds:List (i9×c7)}{m:i9->Option c7},(∀ v,(x,v) ∉ binds)->bindC kindOf binds m x=m x
 | [],_,_=>rfl
 | (n,v)::r,m,h=>by
  unfold bindC;rw[df λw a=>h w (l7 _ a)];split
  ·rfl
  ·have:x≠n:=by rintro rfl; rwa[h v j7]
   simp[this]
def dI{kindOf:i9->Option Cm} : ∀{P:List i9}{a:List c7}{i:Nat}{m:i9->Option c7},P.Nodup->P[i]?=Js x->a[i]?=Js v->kindOf x=Js .local ->
  bindL kindOf (P.zip a) m x=Js v
 | [],_,_,_,_,h,_,_=>by simp at h
 | _::_,[],_,_,_,_,h,_=>by simp at h
 | p::P,w::a,0,m,nd,h1,h2,b=>by
  simp at h1 h2; subst h1; subst h2;show bindL kindOf ((p,w)::P.zip a) m p=_;unfold bindL;rw[db λv c=>(Ax.mp nd).1 (FE c).1,y6 b];simp
 | p::P,w::a,i+1,m,nd,h1,h2,b=>by
  show bindL kindOf ((p,w)::P.zip a) m x=_;unfold bindL;exact dI (i:=i) (Ax.mp nd).2 (by simpa using h1) (by simpa using h2) b
def eZ{kindOf:i9->Option Cm} : ∀{P:List i9}{a:List c7}{i:Nat}{m:i9->Option c7},P.Nodup->P[i]?=Js x->a[i]?=Js v->kindOf x≠Js .local ->
  bindC kindOf (P.zip a) m x=Js v
 | [],_,_,_,_,h,_,_=>by simp at h
 | _::_,[],_,_,_,_,h,_=>by simp at h
 | p::P,w::a,0,m,nd,h1,h2,b=>by
  simp at h1 h2; subst h1; subst h2;show bindC kindOf ((p,w)::P.zip a) m p=_;unfold bindC;rw[df λv c=>(Ax.mp nd).1 (FE c).1,y4 b];simp
 | p::P,w::a,i+1,m,nd,h1,h2,b=>by
  show bindC kindOf ((p,w)::P.zip a) m x=_;unfold bindC;exact eZ (i:=i) (Ax.mp nd).2 (by simpa using h1) (by simpa using h2) b

def start(N:List i9)(a:List V):St:=a.map Js++Cy (N.length-a.length) Jt

def cxOf(g:CXT)(P:o7)(w:w9)(K:b8)(mg:i9->Option c7)(base:Ae)(N:List i9)(b:i9)(a:Cs)(f:c5)(d:c7)(A:An)(outer:List D4)(s:d7)(H:Hp)(E:XK):Cx where
 prog:=P
 w:=w
 K:=K
 mg:=mg
 base:=base
 A:=A.deeper (envOfC b a s.heap.objs.size f d)
 N:=N
 s₀:=s
 H₀:=H
 env:=envOfC b a s.heap.objs.size f d
 outer:=outer
 stack:=envOfC b a s.heap.objs.size f d::outer
 ex:=[]
 calm:=Ju
 fn:=λ_=>Ju
 pn:=[]
 xe:=λe h=>wpAny (model P w) (A.deeper (envOfC b a s.heap.objs.size f d)) (leaving (envOfC b a s.heap.objs.size f d) e) (λ_ c=>g outer H s E e c) (λe' c=>g outer H s E e' c) h

def ZB{a:Cs}{n:Nat}(h:a.names.lookup x=Js .cell):∃ c,(cellsFrom n a.names []).lookup x=Js c:=by
 have q:=Fs a.names n [] (.inl h);rwa[o6.mp q]

def Xm{O:CXT}{K:b8}{mg:i9->Option c7}{A:An}{H:Hp}{E:XK}{l:List V}
  (S:zJ N m d) (hd:A.handled=Jt) (j:YM P w K mg base A outer s H) (Y:l.length=m.length) (r:yQ l I)
  (x:InCallC s s.heap.objs.size (bindL (envOfC g d s.heap.objs.size f G).kindOf (m.zip I) λ_=>Jt) (cellsFrom 'c' d.names []) (bindC (envOfC g d s.heap.objs.size f G).kindOf (m.zip I) λ_=>Jt) J) :
  Inv (cxOf O P w K mg base N g d f G A outer s H E) [] (start N l) H J:=by
 have R:m.length<=N.length:=by have:=congrArg Br S.pre; rw[o3] at this; lia
 obtain⟨h1,X,rfl,M⟩:=x.done;have o:∀ b:c5,b ∉ (cxOf O P w K mg base N g d f G A outer s H E).ex:=λb z=>y9 (show b∈([]:List c5) from z) 'd';refine⟨⟨j.mod,S.kind,U,U,e9 _,λy z c h1 h2=>?_,λy B=>?_,λy c _ h=>?_,λ_=>hd,FS j.frames,.inr ⟨U,U⟩,λb z=>y9 z (o b),j.bs,j.bsz,λb _ _=>o b,λb z=>y9 z (o b),j.funs,j.frf⟩,
  rfl,j.bare,Un.kept M,⟨_,x.toInCall.ns,λi y v h1 h2 h3=>?_⟩,λy c h=>⟨_,x.cell y c h⟩,j.hok.fresh (e9 _),λy c h=>?_,λp D=>y9 (show p∈([]:List (c5×By)) from D) 'd',j.hok.kept M,?_⟩
 ·rwa[name_of_addr x.apart (Bo h1) (Bo h2)]
 ·have B:d.names.lookup y=Js .cell\/d.names.lookup y=Js .free:=B;rcases B with B | B
  ·rwa[ZB B]
  ·rwa[y9 rfl (S.nofree _ (Bo B))]
 ·rwa[AC (x.above y c (Bo h))]
 ·have hi:i<l.length:=by
   unfold start at h2;by_cases hi:i<l.length
   ·rwa[hi]
   ·rw[At (by simpa using hi)] at h2;rw[Du] at h2;split at h2 <;> cases h2
  have T:l[i]?=Js v:=by
   unfold start at h2;rw[AF (by simpa using hi),e7] at h2;cases e:l[i]? with
   | none=>rw[e] at h2; cases h2
   | some a=>rw[e] at h2; cases h2; rfl
  obtain⟨u,L,Q⟩:=r.get T;have D:m[i]?=Js y:=by
   rw[<- S.pre,List.getElem?_take_of_lt (by lia)]; rwa[h1]
  have C:m.Nodup:=by rw[<- S.pre]; rwa[S.nd.sublist (List.take_sublist _ _)]
  exists u,Q;rcases S.par y (f6 D) with k | k
  ·rwa[.inl ⟨k,dI C D L k⟩]
  ·obtain⟨c,e⟩:=ZB (n:=s.heap.objs.size+1) k;erw[.inr ⟨.inl k,c,e,?_⟩];have q:=x.cell y c e;rw[eZ C D L (by show d.names.lookup y≠_; rw[k]; decide)] at q;rwa[q]
 ·rwa[j.hok.fresh (AC (x.above y c (Bo h)))]
 ·unfold start;show _=N.length;rw[g7,ac,BH];lia

def QG{L:CXT}{K:b8}{mg:i9->Option c7}{k:Nat}{dV kV D pm d ct oc:c7}{an od:Option c5}
  {T:Array (Option c7)}  {M:Sp} (lk:K.lookup f=Js ⟨oc,od,.func (AI i c params body a dV kV D pm an d ct),T⟩) (Z:C4 K d c=Ju) (S:zJ N G a)
  (len:∀ h H Q E,M h H Q E->h.length=G.length)
  (m:∀(A:An)(outer:List D4)(s:d7)(H:Hp)(h:List V)(Q:VK)(E:XK),Room k (A.deeper (envOfC c a s.heap.objs.size f d))->M h H Q E ->
   ∃ t,PSs (cxOf L P w K mg base N c a f d A outer s H E) body t/\t { nx:=λ_ j=>Q .non j,rt:=Q } (start N h) H) :
  yI P w K mg base L (k+1) f (AI i c params body a dV kV D pm an d ct) G M:=by
 refine⟨len,λA outer s H args us h Q E Y C hb r z=>?_⟩;have hl:=len _ _ _ _ z;have KX:K.In s.heap:=C.mod.kin.keeps λb o e=>(C.bs b o e).1;have X:s.heap.NoLimit:=C.mod.nolimit.keeps λb o e=>(C.bs b o e).1;have l:∀ y∈G.zip us,a.names.lookup y.1=Js .local\/(a.names.lookup y.1=Js .cell/\((cellsFrom 'c' a.names []).lookup y.1).isSome=Ju):=λ⟨n,v⟩ hy=>by
  rcases S.par n (FE hy).1 with q | q
  ·rwa[.inl q]
  ·rwa[.inr ⟨q,Fs _ _ _ (.inl q)⟩]
 refine codeAny_call_function Y.depth (KX _ _ lk) rfl S.co S.gen rfl (PySem.W.codeRec_of KX Z) (hb _ _ _ _ ?_);refine wpAny_newFunctionEnv_cells S.kind l λenv he s1 x=>?_;subst he;refine⟨X.keeps x.toInCall.keep,codeAny_func ?_⟩;obtain⟨t,ht,hq⟩:=m A outer s H h Q E (Y.deeper _) z;have I:Inv (cxOf L P w K mg base N c a f d A outer s H E) [] (start N h) H s1:=Xm S Y.hd C hl r x;refine Bw (ht [] s1 (start N h) H _ I hq) (λfl O p=>?_) λe O p=>p;have B:∀{g:St}{j:Hp}{v:V}{u:c7},Inv (cxOf L P w K mg base N c a f d A outer s H E) [] g j O->xI v u->Q v j->CE outer P w H s Q u O :=
  λ{g j v u} J R q=>⟨v,j,J.os,J.bare,J.base,J.hok,R,q⟩
 cases fl with
 | ret u =>
  obtain⟨v,g,j,J,R,q⟩:=p;rwa[B J R q]
 | next =>
  obtain⟨g,j,J,q⟩:=p;rwa[B (v:=V.non) (u:=Am) J rfl q]
 | brk =>
  obtain⟨_,_,_,q⟩:=p;rwa[AN q]
 | cont =>
  obtain⟨_,_,_,q⟩:=p;rwa[AN q]
end L2

namespace L2
section
variable{X:Cx}{x:i9}{p pos:Dg}{e:Av}{es:List Av}{t:TA}{id T:String}{r:List V->Hp->VK->Prop}

def tCB(r:List V->Hp->VK->Prop)(t:TA):TE:=λa H Q=>t a H λb c=>r b c Q
def yK(v:vA X (.builtin id) r)(q:Gl X x)(o:X.mg x=Jt)(m:bootBuiltins x=Js (.builtin id))(w:PA X (e::es) t)(n:x ≠ "__name__" := by decide)(b:(x ==("__debug__" : i9))=false:=by decide)
  (u:starEach (e::es) X.env=(Jv,eval e X.env)::starEach es X.env:=by rfl) (a:(backTo pos (starEach es X.env)).any (·.1)=false:=by rfl):PE X 't' (tCB r t):=by
 intro d s c H Q I h;erw[BI (dk I q o m ?_ n b)];rwa[G7 (thn (w pos d s c H _ I h) λg i ⟨f,z,y,j,l⟩=>v d i c z f g Q y j l) u a]
def xY(v:vA X (.type T) r)(q:Gl X x)(o:X.mg x=Jt)(m:bootBuiltins x=Js (.type T))(w:PA X (e::es) t)(n:x ≠ "__name__" := by decide)(b:(x ==("__debug__" : i9))=false:=by decide)
  (u:starEach (e::es) X.env=(Jv,eval e X.env)::starEach es X.env:=by rfl) (a:(backTo pos (starEach es X.env)).any (·.1)=false:=by rfl):PE X 't' (tCB r t):=by
 intro d s c H Q I h;erw[BI (dk I q o m ?_ n b)];rwa[CU (thn (w pos d s c H _ I h) λg i ⟨f,z,y,j,l⟩=>v d i c z f g Q y j l) u a]
end
end L2

namespace HT
open PySem PyProof.Rows

def lexLt:List Int->List Int->Bool
 | [],[]=>Jv
 | [],_::_=>Ju
 | _::_,[]=>Jv
 | x::xs,y::a=>if x=y then lexLt xs a else decide (x<y)
def lexLt_cons(x y:Int)(xs a:List Int):lexLt (x::xs) (y::a)=if x=y then lexLt xs a else decide (x<y):=rfl
section
open PySem.SeqAt
open PySem.AutoSeq1 (wpAny_loadPart')
open PySem.MeetsSeq PySem.MeetsSeq2 PySem.MeetsSeq3

end

section
variable{prog:o7}{w:w9}{A:An}{E:c7->d7->Prop}{s:d7}

def sIx(n d:Nat):Option Int->Nat
 | none=>d
 | some v=>if v<0 then(v+(n:Int)).toNat else min v.toNat n
def sIx_nat(n d k:Nat):sIx n d (Js (k:Int))=min k n:=by
 show(if (k:Int)<0 then((k:Int)+(n:Int)).toNat else min (k:Int).toNat n)=min k n;rw[y4 (by lia),Ac]
def PM(n d:Nat)(hd:d<=n)(o:Option Int):sIx n d o<=n:=by
 cases o with
 | none=>rwa[hd]
 | some v =>
  show(if v<0 then(v+(n:Int)).toNat else min v.toNat n)<=n;by_cases a:v<0
  ·rw[y6 a]; lia
  ·rw[y4 a]; rwa[Nat.min_le_right _ _]
def Wn(v:Int)(n d:Nat):(if v<0 then max (v+(n:Int)) 0 else min v (n:Int))=((sIx n d (Js v):Nat):Int):=by
 show(if v<0 then max (v+(n:Int)) 0 else min v (n:Int))=(((if v<0 then(v+(n:Int)).toNat else min v.toNat n):Nat):Int);by_cases a:v<0
 ·simp only[y6 a]; lia
 ·simp only[y4 a]; lia
def ZT(lo hi:Option Int)(n:Nat):Da lo hi 1 (n:Int)=(((sIx n 0 lo:Nat):Int),((sIx n n hi:Nat):Int)):=by
 have h1:¬ ((1:Int)<0):=by lia
 unfold Da;simp only[h1,if_false];erw[Ev ?_ ?_]
 ·cases lo with
  | none=>rfl
  | some v=>rwa[Wn v n 0]
 ·cases hi with
  | none=>rfl
  | some v=>rwa[Wn v n n]
def YN(i j:Nat):Cf (i:Int) (j:Int) 1=j-i:=by
 unfold Cf;have h1:(1:Int)>0:=by lia
 simp only[h1,if_true,Int.ediv_one];split <;> lia
def iE{Q:Option Int->d7->Prop}(p:Gu v o)(h:Q o s):wpAny 'k' A (Hr v) Q E s:=by
 cases p with
 | none=>rwa[slicePart_none h]
 | int i t=>rwa[slicePart_int h]
def nK{lo hi:Option Int}{n:Nat}{Q:Int×Int×Nat->d7->Prop}(i:s.heap.IsSliceOf e d c .none)(g:Gu d lo)(f:Gu c hi)
  (h:Q (((sIx n 0 lo:Nat):Int),1,sIx n n hi-sIx n 0 lo) s):wpAny 'k' A (Ew (.ref e) (pure (n:Int))) Q E s:=by
 obtain⟨os,a,j,b⟩:=id i;unfold Ew Ib;erw[c6 (c6 (Dv a b (x:=d) rfl (c6 (Dv a b (x:=c) rfl (c6 (Dv a b (x:=.none) rfl (f8 ?_)))))))];erw[c6 (slicePart_none ?_)];show wpAny _ _ (if ((1:Int) == 0)=Ju then _ else _) _ _ s;rw[y4 'a'];erw[c6 (iE g (c6 (iE f (c6 (f8 ?_)))))];show wpAny _ _ (match Da lo hi 1 (n:Int) with | (lo,hi)=>pure (lo,(1:Int),Cf lo hi 1)) _ _ s;rw[ZT lo hi n];show wpAny _ _ (pure (((sIx n 0 lo:Nat):Int),(1:Int),Cf ((sIx n 0 lo:Nat):Int) ((sIx n n hi:Nat):Int) 1)) _ _ s;rw[YN];rwa[f8 h]
def UD(xs:Array c7)(i k:Nat):((Aw k).filterMap λ(m:Nat)=>xs[((i:Int)+(m:Int)*1).toNat]?).toArray=((xs.toList.drop i).take k).toArray:=by
 have e:(λ(m:Nat)=>xs[((i:Int)+(m:Int)*1).toNat]?)=λm=>xs[i+m]?:=by
  funext m
  have:((i:Int)+(m:Int)*1).toNat=i+m:=by lia
  rw[this]
 rw[e];have:=pick_run xs i k;rw[List.filterMap_map] at this;have a:((λx=>xs[x]?) ∘ λx=>i+x)=λm=>xs[i+m]?:=rfl;rw[a] at this;rw[this]

def getItem_tuple_cut{lo hi:Option Int}{Q:c7->d7->Prop}(c:IsTup s.heap t a)(n:s.heap.IsSliceOf d l j .none)(p:Gu l lo)(o:Gu j hi)
  (r:¬ (sIx a.size 0 lo=0/\sIx a.size a.size hi=a.size))
  (h:Q (.ref s.heap.objs.size) { s with heap:=s.heap.push { cls:=.type "tuple",data:=.seq ((a.toList.drop (sIx a.size 0 lo)).take (sIx a.size a.size hi-sIx a.size 0 lo)).toArray } })
  (u:a.size<=sizeLine):wpAny 'k' A (getItem (.ref t) (.ref d)) Q E s:=by
 have b:sizeOk (.seq ((a.toList.drop (sIx a.size 0 lo)).take (sIx a.size a.size hi-sIx a.size 0 lo)).toArray):=by
  show((a.toList.drop (sIx a.size 0 lo)).take (sIx a.size a.size hi-sIx a.size 0 lo)).toArray.size<=sizeLine;rw[f7,o3,Ak,Ay];lia
 have z:sIx a.size a.size hi<=a.size:=PM _ _ (e9 _) hi;obtain⟨os,e,g,v⟩:=id n;have i:s.TypeIs (.ref d) "slice" :=⟨os,e,g⟩;unfold getItem
 try with_reducible refine Bz ?_
 first | refine c6 (f8 ?_) | skip
 refine c6 (wpAny_sequenceKey c.typeIs 'a' ?_);refine c6 (Dw (name:=CI "__getitem__") c.typeIs Ct
  (Cz Ct c.typeIs entry_tuple_getitem ?_ (args_tuple_getitem _ _)))
 show wpAny _ _ (HF (.ref t) >>= _) _ _ s;refine c6 (tupleItemsOf_ c ?_);refine c6 (wpAny_typeOf i ?_);rw[y6 'a'];refine c6 (nK n p o ?_);have f:¬ ((((sIx a.size 0 lo:Nat):Int) == 0&&(1:Int) == 1&&(sIx a.size a.size hi-sIx a.size 0 lo) == a.size)=Ju):=by
  intro q;rw[AG,AG] at q;have y:((sIx a.size 0 lo:Nat):Int)=0:=eq_of_beq q.1.1;have x:sIx a.size a.size hi-sIx a.size 0 lo=a.size:=eq_of_beq q.2;rwa[r ⟨by lia,by lia⟩]
 show wpAny _ _ (if (((sIx a.size 0 lo:Nat):Int) == 0&&(1:Int) == 1&&(sIx a.size a.size hi-sIx a.size 0 lo) == a.size)=Ju then _ else _) _ _ s;rw[y4 f,UD]
 first
  | exact c6 (m:=Cp _) (AJ (f8 ⟨_,rfl,f8 h⟩) b)
  | exact c6 (m:=Cp _) (AJ (c6 (f8 (f8 ⟨_,rfl,f8 h⟩))) b)
  | exact c6 (c6 (m:=Cp _) (AJ (f8 (f8 ⟨_,rfl,f8 h⟩)) b))
  | exact c6 (c6 (m:=Cp _) (AJ (f8 ⟨_,rfl,f8 h⟩) b))
end
end HT

namespace L2

abbrev TO:=St->Hp->(Option Int->Hp->Prop)->Prop
def PO(X:Cx)(e:Option Av)(t:TO):Prop :=
 ∀(b:List (c5×By))(s:d7)(a:St)(H:Hp)(Q:Option Int->Hp->Prop),Inv X b a H s->t a H Q ->
  wpAny 'b' X.A (evalPart e X.env) (λu d=>∃ o c,Inv X b a c d/\Gu u o/\Q o c) X.xe s
def Ro:TO:=λ_ H Q=>Q Jt H
def tPart(t:TE):TO:=λa H Q=>t a H λx b=>∃ i,x=.int i/\Q (Js i) b

def iN{ns:List Int} : ∀{a:List c7},yQ (ns.map V.int) a->EU a ns:=by
 induction ns with
 | nil=>intro a r; rw[El] at r; cases r; rwa[.nil]
 | cons n ns d =>
  intro a r;rw[j8] at r;cases r with
  | cons c b =>
   obtain⟨t,e⟩:=c;subst e;rwa[.cons n t (d b)]

section
variable{X:Cx}{e:Av}{te:TE}{lo hi:Option Av}{tl th:TO}{pos p2:Dg}

def qI:PO X Jt Ro:=by
 intro b s a H Q I h;rw[evalPart_none];rwa[f8 ⟨Jt,H,I,.none,h⟩]
def tR(h:PE X e te):PO X (Js e) (tPart te):=by
 intro f s a H Q I d;rw[evalPart_some];erw[thn (h f s a H _ I d) λu l ⟨x,j,g,b,c⟩=>?_];obtain⟨i,rfl,q⟩:=c;obtain⟨t,rfl⟩:=b;rwa[Js i,j,g,.int i t,q]

def SlR(X:Cx)(r:V->Option Int->Option Int->Hp->VK->Prop):Prop :=
 ∀(f:List (c5×By))(s:d7)(a:St)(H:Hp)(x:V)(v c b:c7)(lo hi:Option Int)(d:c5)(Q:VK),Inv X f a H s->xI x v->s.heap.IsSliceOf d c b .none->Gu c lo->Gu b hi->r x lo hi H Q ->
  ∃ T id,typeLookup (.type T) "__getitem__" = pure (Js (.builtin id))/\s.TypeIs v T/\wpAny 'b' X.A (getItem v (.ref d)) (EP X f a Q) X.xe s
def tSl(r:V->Option Int->Option Int->Hp->VK->Prop)(te:TE)(tl th:TO):TE:=λa H Q=>te a H λx d=>tl a d λl c=>th a c λu b=>r x l u b Q
def uQ{r:V->Option Int->Option Int->Hp->VK->Prop}(E:SlR X r)(L:PE X e te)(G:PO X lo tl)(C:PO X hi th):PE X (.Subscript e (.Slice lo hi Jt p2) pos) (tSl r te tl th):=by
 intro d s c H Q I h;erw[HG (thn (L d s c H _ I h) λv m ⟨x,Y,R,n,y⟩=>?_)];erw[wpAny_Slice (thn (G d m c Y _ R y) λg j ⟨l,S,P,B,p⟩=>thn (C d j c S _ P p) λf a ⟨u,i,O,z,o⟩=>?_)];rw[evalPart_none];erw[f8 ?_];have N:Inv X d c i { a with heap:=a.heap.push { cls:=.type "slice",data:=.fields #[g,f,.none] } }:=O.kept (t':=a.toks) λb ob q=>c8 _ q;obtain⟨T,id,M,D,J⟩:=E d { a with heap:=a.heap.push { cls:=.type "slice",data:=.fields #[g,f,.none] } } c i x v g f l u a.heap.objs.size Q N n (Ji ..) B z o;show wpAny 'b' X.A (subscriptTail e (.Slice lo hi Jt p2) v (.ref a.heap.objs.size)) (EP X d c Q) X.xe { a with heap:=a.heap.push { cls:=.type "slice",data:=.fields #[g,f,.none] } };rwa[tail_any (ops:=[.ref a.heap.objs.size,v]) D M J (by with_unfolding_all rfl)]

def qH(xs:List V)(lo hi:Option Int):List V:=(xs.drop (HT.sIx xs.length 0 lo)).take (HT.sIx xs.length xs.length hi-HT.sIx xs.length 0 lo)
def jw(xs:List V)(lo hi:Option Int):(qH xs lo hi).length<=xs.length:=by
 unfold qH;rw[o3,Ak];lia
def rSlT(K:b8):V->Option Int->Option Int->Hp->VK->Prop:=λx lo hi H Q=>E2 λa xs=>A4 (x=.ref a) (SqT K H a xs) (¬ (HT.sIx xs.length 0 lo=0/\HT.sIx xs.length xs.length hi=xs.length)) (∀ p,H p=Jt->Q (.ref p) (upd H p (.tup (qH xs lo hi))))
def dQ:SlR X (rSlT X.K):=by
 intro A s u H x v y w lo hi z Q I i p l j h;obtain⟨a,xs,rfl,m,n,q⟩:=h;cases i;obtain⟨d,r,g,f⟩:=I.tuple m;have c:d.toArray.size=xs.length:=by rw[f7]; rwa[r.length.symm]
 exists "tuple",_,Ct.lookup,g.typeIs;erw[HT.getItem_tuple_cut g p l j (by rw[c]; rwa[n]) ?_ (by rw[c]; rwa[f])];rw[c];erw[.ref s.heap.objs.size,_,I.laid (t':=s.toks) (o:=.tup (qH xs lo hi)) (λb ob q=>c8 _ q) (e9 _) ?_,rfl,q _ (I.hok.fresh (e9 _))];rwa[d9 (jw xs lo hi) f,_,(r.drop (HT.sIx xs.length 0 lo)).take (HT.sIx xs.length xs.length hi-HT.sIx xs.length 0 lo),G4 _ _]

end
end L2

namespace L2

def ixN(n:Nat)(i:Int):Option Nat:=if 0<=i then(if i<n then Js i.toNat else Jt) else if -(n:Int)<=i then Js (i+n).toNat else Jt
def atI{α:Type}(xs:List α)(i:Int):Option α:=(ixN xs.length i).bind λj=>xs[j]?
def VH{n:Nat}{i:Int}{j:Nat}(h:ixN n i=Js j):seqIndex? i n=Js j/\j<n/\-(n:Int)<=i/\i<n:=by
 unfold ixN at h;by_cases h0:0<=i
 ·rw[y6 h0] at h;by_cases h1:i<n
  ·rw[y6 h1] at h;have e:i.toNat=j:=m8 h;rwa[by rw[seqIndex_of h0 h1,e],by lia,by lia,h1]
  ·rw[y4 h1] at h; cases h
 ·rw[y4 h0] at h;by_cases h1 : -(n:Int)<=i
  ·rw[y6 h1] at h;have e:(i+n).toNat=j:=m8 h;rwa[by rw[seqIndex_neg (by lia) h1,e],by lia,h1,by lia]
  ·rw[y4 h1] at h; cases h
def bZ{α:Type}{xs:List α}{i:Int}{v:α}(h:atI xs i=Js v):∃ j,seqIndex? i xs.length=Js j/\xs[j]?=Js v/\j<xs.length/\-(xs.length:Int)<=i/\i<xs.length:=by
 unfold atI at h;cases e:ixN xs.length i with
 | none=>rw[e] at h; cases h
 | some j =>
  rw[e] at h;obtain⟨h1,h2,h3,h4⟩:=VH e;rwa[j,h1,h,h2,h3,h4]
def rE{α:Type}{xs:List α}{j:Nat}{v:α}(h:xs[j]?=Js v):atI xs (j:Int)=Js v:=by
 have a:j<xs.length:=(c9.mp h).1;have e:ixN xs.length (j:Int)=Js j:=by
  unfold ixN;rw[y6 (by lia),y6 (by lia)]; simp
 unfold atI; rw[e]; rwa[h]
def Zo{α:Type}(xs:List α)(v:α):atI (xs++[v]) (-1)=Js v:=by
 have a:(xs++[v]).length=xs.length+1:=by simp
 have e:ixN (xs++[v]).length (-1)=Js xs.length:=by
  unfold ixN;rw[a,y4 'a',y6 (by lia)]
  congr 1
  lia
 unfold atI;rw[e];show(xs++[v])[xs.length]?=Js v;simp

def Wd(b:Av):Prop:=∀ o i,subscripted b Jv o i=operate [o,i] (getItem o i)
def IxR(X:Cx)(r:R2):Prop :=
 ∀(value slice:Av)(b:List (c5×By))(s:d7)(a:St)(H:Hp)(x y:V)(v u:c7)(Q:VK),Inv X b a H s->xI x v->xI y u->r x y H Q ->
  subscripted slice Jv v u=operate [v,u] (getItem v u)->wpAny 'b' X.A (subscriptTail value slice v u) (EP X b a Q) X.xe s
def MtR(X:Cx)(id:String)(r:V->List V->Hp->VK->Prop):Prop :=
 ∀(c:List (c5×By))(s:d7)(a:St)(H:Hp)(x:V)(xs:List V)(v:c7)(b:List c7)(Q:VK),Inv X c a H s->xI x v->yQ xs b->r x xs H Q ->
  wpAny 'b' X.A (call (.builtin id) (v::b)) (EP X c a Q) X.xe s
section
variable{X:Cx}{a b:Av}{ta tb:TE}{pos:Dg}
def qN(i:IxR X r)(l:PE X a ta)(j:PE X b tb)(g:Wd b):PE X (.Subscript a b pos) (tOp r ta tb):=by
 intro m s c H Q I h;rwa[HG (NT l j I h λv u d x y o n f e q=>i a b m d c o x y v u Q n f e q (g _ _))]

def rIxL(K:b8):R2:=λx y H Q=>E4 λp xs i v=>A5 (x=.ref p) (y=.int i) (SqL K H p xs) (atI xs i=Js v) (Q v H)
def rIxT(K:b8):R2:=λx y H Q=>E4 λp xs i v=>A5 (x=.ref p) (y=.int i) (SqT K H p xs) (atI xs i=Js v) (Q v H)
def rIxS:R2:=λx y H Q=>E3 λz i c=>A5 (x=.str z) (y=.int i) (z.length<=sizeLine) (atI z.cps.toList i=Js c) (Q (.str ⟨#[c]⟩) H)
def Qo:IxR X (rIxL X.K):=by
 intro value slice o s l H x y v u Q I C B h m;obtain⟨p,xs,i,z,rfl,rfl,D,G,q⟩:=h;cases C;obtain⟨t,rfl⟩:=B;obtain⟨f,r,e,J⟩:=I.list D;obtain⟨j,h1,h2,h3,h4,h5⟩:=bZ G;obtain⟨w,n,d⟩:=r.get h2;have E:=r.length;have L:=lU;have c:EP X o l Q w s:=⟨z,H,I,d,q⟩;by_cases h0:0<=i
 ·have g:i.toNat=j:=by
   rw[seqIndex_of h0 h5] at h1;rwa[m8 h1]
  exact item_listR e.isList h0 (by lia) (by rw[g]; simpa using n) c m
 ·have g:(i+(f.toArray.size:Int)).toNat=j:=by
   rw[seqIndex_neg (by lia) h4] at h1;rw[f7,<- E];rwa[m8 h1]
  exact subscriptTail_builtinR (x:=w) e.isList.typeIs slot_list_getitem.lookup
   (wpAny_getItem_list_neg (Q:=λr A=>r=w/\EP X o l Q r A) e.isList (by lia) (by rw[f7] <;> lia) (by lia) (by rw[g]; simpa using n) ⟨rfl,c⟩) m
def Oi:IxR X (rIxT X.K):=by
 intro value slice g s e H x y v u Q I n m h A;obtain⟨p,xs,i,z,rfl,rfl,B,D,q⟩:=h;cases n;obtain⟨t,rfl⟩:=m;obtain⟨o,r,f,G⟩:=I.tuple B;obtain⟨j,h1,h2,h3,h4,h5⟩:=bZ D;obtain⟨w,E,c⟩:=r.get h2;have C:=r.length;have J:=lU;have d:EP X g e Q w s:=⟨z,H,I,c,q⟩;exact subscriptTail_builtinR (x:=w) f.typeIs slot_tuple_getitem.lookup
  (getItem_tuple (j:=j) (Q:=λr l=>r=w/\EP X g e Q r l) f (by lia) (by lia) (by rw[f7,<- C]; rwa[h1]) (by simpa using E) ⟨rfl,d⟩) A
def SG:IxR X rIxS:=by
 intro value slice A s o H x y v u Q I e d h f;obtain⟨z,i,c,rfl,rfl,r,l,q⟩:=h;obtain⟨t,rfl⟩:=e;obtain⟨p,rfl⟩:=d;obtain⟨j,h1,h2,h3,h4,h5⟩:=bZ l;have g:z.cps.toList.length=z.length:=by simp[Str.length]
 rw[g] at h1 h4 h5;have w:=lU;exact tail_any (typeIs_str s z t) slot_str_getitem.lookup (getItem_str (c:=c) (by
  have n:decide (i < -(2^63:Int))=false:=y8 (by lia);have m:decide (i >= 2^63)=false:=y8 (by lia);rw[n,m,Bool.or_false]) (by rw[h1]; simpa using h2) ⟨.str ⟨#[c]⟩,H,I.tok _,⟨_,rfl⟩,q⟩) f
def YB(c:List c7)(n j:Nat)(u:c7):t5 (·.setIfInBounds j u) { cls:=.type "list",data:=.seq c.toArray n }={ cls:=.type "list",data:=.seq (c.set j u).toArray n }:=by
 simp[t5]
def Inv.lst{d:St}{H:Hp}(I:Inv X f d H s)(h:H p=Js (.lst xs)) :
  ∃(c:List c7)(n:Nat),yQ xs c/\s.heap.get? p=Js { cls:=.type "list",data:=.seq c.toArray n }/\xs.length<=sizeLine:=by
 obtain⟨z,c,n,r,e⟩:=I.hok p _ h;rwa[c,n,r,e,z]
def Inv.lstUpd{j:St}{H:Hp}{d c:List c7}{n i:Nat}{f:By->By}(I:Inv X m j H s)(h:H p=Js (.lst xs))
  (v:s.heap.get? p=Js { cls:=.type "list",data:=.seq d.toArray n }) (l:f { cls:=.type "list",data:=.seq d.toArray n }={ cls:=.type "list",data:=.seq c.toArray i }) (r:yQ g c) (o:g.length<=sizeLine) (t:Nat) :
  Inv X m j (upd H p (.lst g)) { s with heap:=s.heap.update p f,toks:=t }:=by
 have e:(s.heap.update p f).get? p=Js { cls:=.type "list",data:=.seq c.toArray i }:=by
  rw[CQ f v (by rw[l] <;> rfl),l]
 erw[I.write (x:=p) (e:=p) (by rw[h]; trivial) (.inl rfl) (λb u w q=>(AK _ _ (Bk w)).trans q) ⟨_,e⟩ ?_];rwa[o,c,i,r,e]
def rSetL:V->V->V->Hp->(Hp->Prop)->Prop:=λo i v H Q=>E4 λp xs k j=>A5 (o=.ref p) (i=.int k) (H p=Js (.lst xs)) (ixN xs.length k=Js j) (Q (upd H p (.lst (xs.set j v))))
def Ts:PSet X rSetL:=by
 intro B s m H o i v C D u Q I x y w h;obtain⟨p,xs,k,j,rfl,rfl,g,A,q⟩:=h;cases x;obtain⟨t,rfl⟩:=y;obtain⟨c,n,r,d,z⟩:=I.lst g;obtain⟨h1,h2,h3,h4⟩:=VH A;have e:=r.length;have E:=lU;have l:Inv X B m (upd H p (.lst (xs.set j v))) { s with heap:=s.heap.update p (t5 (·.setIfInBounds j u)) } :=
  I.lstUpd g d (YB c n j u) (r.set w j) (by rw[Dm]; rwa[z]) s.toks
 by_cases h0:0<=k
 ·have f:k.toNat=j:=by
   rw[seqIndex_of h0 h4] at h1;rwa[m8 h1]
  rwa[PySem.W.ki_setAt d h0 (by lia) (by rw[f7,<- e]; exact h4) (by rw[f]; exact⟨_,l,q⟩)]
 ·have f:(k+(c.toArray.size:Int)).toNat=j:=by
   rw[seqIndex_neg (by lia) h3] at h1;rw[f7,<- e];rwa[m8 h1]
  rwa[PySem.W.ki_setBack d (by lia) (by rw[f7,<- e]; exact h3) (by lia) (by rw[f]; exact⟨_,l,q⟩)]

def dU(lo hi:Option Int)(n:Nat):(sliceBounds lo hi Jt n).1=((HT.sIx n 0 lo:Nat):Int)/\(sliceBounds lo hi Jt n).2.1=((HT.sIx n n hi:Nat):Int)/\(sliceBounds lo hi Jt n).2.2=1:=by
 erw[?_,?_,rfl]
 ·cases lo with
  | none=>simp[sliceBounds,HT.sIx]
  | some i =>
   simp only[sliceBounds,HT.sIx,G8,show(1:Int)>0 by decide,if_true];by_cases h:i<0
   ·simp only[h,if_true] <;> lia
   ·simp only[h,if_false] <;> lia
 ·cases hi with
  | none=>simp[sliceBounds,HT.sIx]
  | some i =>
   simp only[sliceBounds,HT.sIx,G8,show(1:Int)>0 by decide,if_true];by_cases h:i<0
   ·simp only[h,if_true] <;> lia
   ·simp only[h,if_false] <;> lia
def gN(c:List c7)(lo hi:Option Int):slicePick c.toArray lo hi Jt=((c.drop (HT.sIx c.length 0 lo)).take (HT.sIx c.length c.length hi-HT.sIx c.length 0 lo)).toArray:=by
 obtain⟨h1,h2,h3⟩:=dU lo hi c.toArray.size;unfold slicePick;rw[h1,h2,h3];simp only[sliceRange_one,pick_run,f7] <;> rfl
def rSlL(K:b8):V->Option Int->Option Int->Hp->VK->Prop:=λx lo hi H Q=>E2 λa xs=>A3 (x=.ref a) (SqL K H a xs) (∀ p,H p=Jt->Q (.ref p) (upd H p (.lst (qH xs lo hi))))
def gZ:SlR X (rSlL X.K):=by
 intro y s n H x v u p lo hi w Q I e m g f h;obtain⟨a,xs,rfl,l,q⟩:=h;cases e;obtain⟨i,r,d,j⟩:=I.list l;have c:=r.length;exists "list",_,slot_list_getitem.lookup,d.isList.typeIs;erw[wpAny_getItem_list_slice d.isList m g f .none 'd' ?_ (by rw[f7] <;> lia)];rw[gN,<- c];erw[.ref s.heap.objs.size,_,I.laid (t':=s.toks) (o:=.lst (qH xs lo hi)) (λb ob q=>c8 _ q) (e9 _) ?_,rfl,q _ (I.hok.fresh (e9 _))];rwa[d9 (jw xs lo hi) j,_,0,(r.drop (HT.sIx xs.length 0 lo)).take (HT.sIx xs.length xs.length hi-HT.sIx xs.length 0 lo),j9 _ rfl]

def gF:V->Bool
 | .non=>Ju
 | .bl _=>Ju
 | .int _=>Ju
 | .str _=>Ju
 | _=>Jv
def eqV:V->V->Bool
 | .non,.non=>Ju
 | .bl a,.bl b=>a == b
 | .bl a,.int b=>(if a then 1 else 0) == b
 | .int a,.bl b=>a ==(if b then 1 else 0)
 | .int a,.int b=>a == b
 | .str a,.str b=>a == b
 | _,_=>Jv
def OY(e:xI y u)(c:xI x v)(g:gF y=Ju)(f:gF x=Ju):Gv A s u v (eqV y x):=by
 cases y with
 | non =>
  cases e;cases x with
  | non=>cases c; rwa[Hs _]
  | bl b=>cases c; rwa[SeqAt.EqAt.none_bool b]
  | int b=>obtain⟨t,rfl⟩:=c; rwa[SeqAt.EqAt.none_int b t]
  | str b=>obtain⟨t,rfl⟩:=c; rwa[SeqAt.EqAt.none_str b t]
  | _=>exact y9 (show Jv=Ju from f) m7
 | bl a =>
  cases e;cases x with
  | non=>cases c; rwa[SeqAt.EqAt.bool_none a]
  | bl b=>cases c; rwa[SeqAt.EqAt.bool_bool a b]
  | int b=>obtain⟨t,rfl⟩:=c; rwa[SeqAt.EqAt.bool_int a b t]
  | str b=>obtain⟨t,rfl⟩:=c; rwa[SeqAt.EqAt.bool_str a b t]
  | _=>exact y9 (show Jv=Ju from f) m7
 | int a =>
  obtain⟨d,rfl⟩:=e;cases x with
  | non=>cases c; rwa[SeqAt.EqAt.int_none a d]
  | bl b=>cases c; rwa[SeqAt.EqAt.int_bool a d b]
  | int b=>obtain⟨t,rfl⟩:=c; rwa[Gw a d b t]
  | str b=>obtain⟨t,rfl⟩:=c; rwa[Gm a d b t]
  | _=>exact y9 (show Jv=Ju from f) m7
 | str a =>
  obtain⟨d,rfl⟩:=e;cases x with
  | non=>cases c; rwa[SeqAt.EqAt.str_none a d]
  | bl b=>cases c; rwa[SeqAt.EqAt.str_bool a d b]
  | int b=>obtain⟨t,rfl⟩:=c; rwa[Gn a d b t]
  | str b=>obtain⟨t,rfl⟩:=c; rwa[SeqAt.EqAt.str_str a d b t]
  | _=>exact y9 (show Jv=Ju from f) m7
 | _=>exact y9 (show Jv=Ju from g) m7
def eqU(x:V)(u:c7):Bool:=match u with
 | .none=>eqV .non x
 | .bool b=>eqV (.bl b) x
 | .int i _=>eqV (.int i) x
 | .str z _=>eqV (.str z) x
 | _=>Jv
def Rw(r:xI y u)(f:gF y=Ju):eqU x u=eqV y x:=by
 cases y with
 | non=>cases r; rfl
 | bl b=>cases r; rfl
 | int i=>obtain⟨t,rfl⟩:=r; rfl
 | str z=>obtain⟨t,rfl⟩:=r; rfl
 | _=>exact y9 (show Jv=Ju from f) m7
def bq : ∀{xs:List V}{c:List c7},yQ xs c->xs.all gF=Ju->c.any (eqU x)=xs.any λy=>eqV y x
 | _,_,.nil,_=>rfl
 | y::xs,u::c,.cons r t,f=>by
  rw[Fe,AG] at f;rw[Cq,Cq,Rw r f.1,bq t f.2]
def fH(e:xI x v)(g:gF x=Ju):∀{xs:List V}{d:List c7},yQ xs d->xs.all gF=Ju->∀ u∈d,Gv A s u v (eqU x u)
 | _,_,.nil,_=>λu c=>by cases c
 | y::xs,u::d,.cons r t,f=>λh c=>by
  rw[Fe,AG] at f;rcases g9.mp c with rfl | c
  ·rw[Rw r f.1]; rwa[OY r e f.1 g]
  ·rwa[fH e g t f.2 h c]
def inV(x:V)(xs:List V):Bool:=xs.any λy=>eqV y x
def rIn(K:b8)(neg:Bool):R2:=λx y H Q=>E2 λp xs=>A5 (y=.ref p) (SqL K H p xs\/SqT K H p xs) (gF x=Ju) (xs.all gF=Ju) (Q (.bl (if neg then !inV x xs else inV x xs)) H)
def dE:OpR X (compareOp .In) (rIn X.K Jv):=by
 intro n s m H x y v u Q I g j h;obtain⟨p,xs,rfl,d,i,fs,q⟩:=h;cases j;rcases d with d | d
 ·obtain⟨c,r,e,l⟩:=I.list d;refine SeqAt.in_listAt (eqU x) e.isList (λw f=>fH g i r fs w (by simpa using f)) ⟨.bl _,H,I,rfl,?_⟩;rw[show c.toArray.any (eqU x)=c.any (eqU x) by simp,bq r fs];rwa[q]
 ·obtain⟨c,r,e,l⟩:=I.tuple d;refine SeqAt.in_tupleAt (eqU x) e (λw f=>fH g i r fs w (by simpa using f)) ⟨.bl _,H,I,rfl,?_⟩;rw[show c.toArray.any (eqU x)=c.any (eqU x) by simp,bq r fs];rwa[q]
def tG:vA X (.builtin "len") (λxs H Q=>E2 λp d=>A3 (xs=[.ref p]) (SqL X.K H p d\/SqT X.K H p d) (Q (.int d.length) H)):=by
 intro v s m H xs n Q I r h;obtain⟨p,d,rfl,e,q⟩:=h;obtain⟨u,rfl,j⟩:=jQ r;cases j;have o:=lU;rcases e with e | e
 ·obtain⟨i,f,g,l⟩:=I.list e;have c:=f.length;rwa[Calls.call_len_list g.isList (by simp only[f7] <;> lia) ⟨.int d.length,H,I.tok _,⟨s.toks+1,by rw[f7,c]⟩,q⟩]
 ·obtain⟨i,f,g,l⟩:=I.tuple e;have c:=f.length;rwa[len_tuple g (by simp only[f7] <;> lia) ⟨.int d.length,H,I.tok _,⟨s.toks+1,by rw[f7,c]⟩,q⟩]
def nv:vA X (.builtin "len") (λxs H Q=>∃ z,A3 (xs=[.str z]) (z.length<=sizeLine) (Q (.int z.length) H)):=by
 intro g s c H xs d Q I r h;obtain⟨z,rfl,e,q⟩:=h;obtain⟨u,rfl,t,rfl⟩:=jQ r;have f:=lU;rwa[len_str (by lia) ⟨.int z.length,H,I.tok _,⟨_,rfl⟩,q⟩]
def vA.or{r g:List V->Hp->VK->Prop}(h:vA X f r)(j:vA X f g):vA X f (λxs H Q=>r xs H Q\/g xs H Q):=by
 intro i s c H xs d Q I e q;rcases q with q | q
 ·rwa[h i s c H xs d Q I e q]
 ·rwa[j i s c H xs d Q I e q]
def oU:vA X (.type "list") (λxs H Q=>E2 λp f=>A3 (xs=[.ref p]) (SqL X.K H p f\/SqT X.K H p f) (∀ l,H l=Jt->Q (.ref l) (upd H l (.lst f)))):=by
 intro E s C H xs G Q I r h;obtain⟨p,f,rfl,m,q⟩:=h;obtain⟨u,rfl,D⟩:=jQ r;cases D;have x:∀(c:List c7),yQ f c->f.length<=sizeLine->∀(d:Ae)(i:Nat),(∀ b B,s.heap.get? b=Js B->d.get? b=Js B) ->
   d.get? s.heap.objs.size=Js { cls:=.type "list",dict:=Jt,data:=.seq c.toArray i,slots:=#[] }->EP X E C Q (.ref s.heap.objs.size) { s with heap:=d }:=λc g j d i kp e =>
  ⟨.ref s.heap.objs.size,_,I.laid (t':=s.toks) kp (e9 _) (show uH X.prog X.w _ d _ (.lst f) from⟨j,c,i,g,e⟩),rfl,q _ (I.hok.fresh (e9 _))⟩
 rcases m with m | m
 ·obtain⟨c,g,y,j⟩:=I.list m;have v:=g.length;obtain⟨o,z,A,n,hd⟩:=y.isList;rwa[call_list_seq p (.inl rfl) z A hd (λd i kp e=>x c g j d i kp e) (by simp only[f7] <;> lia)]
 ·obtain⟨c,g,y,j⟩:=I.tuple m;have v:=g.length;obtain⟨o,z,A,n,hd⟩:=y;rwa[call_list_seq p (.inr rfl) z A hd (λd i kp e=>x c g j d i kp e) (by simp only[f7] <;> lia)]
def sh:vA X (.type "tuple") (λxs H Q=>E2 λp d=>xs=[.ref p]/\((SqL X.K H p d/\∀ l,H l=Jt->Q (.ref l) (upd H l (.tup d)))\/(SqT X.K H p d/\Q (.ref p) H))):=by
 intro x s m H xs B Q I r h;obtain⟨p,d,rfl,h⟩:=h;obtain⟨u,rfl,z⟩:=jQ r;cases z;rcases h with ⟨j,q⟩ | ⟨j,q⟩
 ·obtain⟨c,g,i,n⟩:=I.list j;have v:=g.length;refine call_tuple_list i.isList (λf kp=>?_) (by simp only[f7] <;> lia);have y:Inv X x m H { s with heap:=f }:=I.kept (t':=s.toks) kp;have A:Inv X x m (upd H f.objs.size (.tup d)) { s with heap:=f.push { cls:=.type "tuple",data:=.seq c.toArray } } :=
   y.laid (t':=s.toks) (λb o e=>c8 _ e) (e9 _) (show uH X.prog X.w _ _ _ (.tup d) from⟨n,c,g,G4 _ _⟩)
  rwa[.ref f.objs.size,_,A,rfl,q _ (y.hok.fresh (e9 _))]
 ·obtain⟨c,g,i,n⟩:=I.tuple j;rwa[call_tuple_same i ⟨.ref p,H,I,rfl,q⟩]

def tyV(K:b8)(T:String)(x:V)(H:Hp):Prop:=match x with
 | .str _=>T = "str"
 | .int _=>T = "int"
 | .ref p=>(T = "list" /\ ∃ xs,SqL K H p xs)\/(T = "tuple" /\ ∃ o,K.lookup p=Js o/\o.cls=.type "tuple" /\ o.dict=Jt) \/
   (T = "dict" /\ ((∃ c,H p=Js (.dK c))\/∃ c,H p=Js (.dT c)))\/(T = "set" /\ ∃ S n,H p=Js (.set S n))
 | _=>False
def NC{j:St}{H:Hp}(I:Inv X u j H s)(r:xI x v)(ty:tyV X.K T x H) :
  s.TypeIs v T/\∀ a,v=.ref a->∃ ob,s.heap.get? a=Js ob/\ob.dict=none:=by
 cases x with
 | str z =>
  obtain⟨t,rfl⟩:=r;cases (show T = "str" from ty);exact⟨typeIs_str s z t,λ_ e=>nomatch e⟩
 | int i =>
  obtain⟨t,rfl⟩:=r;cases (show T = "int" from ty);exact⟨typeIs_int s i t,λ_ e=>nomatch e⟩
 | ref p =>
  cases r;rcases ty with ⟨rfl,xs,m⟩ | ⟨rfl,o,d,q,hd⟩ | ⟨rfl,d⟩ | ⟨rfl,S,n,d⟩
  ·obtain⟨l,_,h,_⟩:=I.list m;erw[h.isList.typeIs,λa e=>?_];cases e;obtain⟨o,n,e,c,hd,_⟩:=h;rwa[o,e,hd]
  ·erw[⟨o,I.kIn p o d,q⟩,λa e=>?_];cases e;rwa[o,I.kIn _ o d,hd]
  ·have z:∃ o,s.heap.get? p=Js o/\o.ExactDict:=by
    rcases d with ⟨f,d⟩ | ⟨f,d⟩
    ·obtain⟨_,_,_,_,o,_,_,e,ex,_⟩:=I.hok p _ d;rwa[o,e,ex]
    ·obtain⟨_,_,_,_,o,_,_,e,ex,_⟩:=I.hok p _ d;rwa[o,e,ex]
   obtain⟨o,e,ex⟩:=z;erw[⟨o,e,ex.1⟩,λa g=>?_];cases g;rwa[o,e,ex.2.1]
  ·obtain⟨o,_,_,_,e,ex,_⟩:=I.hok p _ d;erw[⟨o,e,ex.1⟩,λa g=>?_];cases g;rwa[o,e,ex.2.1]
 | _=>rwa[AN ty]
def tBM(K:b8)(T:String)(r:V->List V->Hp->VK->Prop)(to:TE)(t:TA):TE:=λc H Q=>to c H λx d=>tyV K T x d/\t c d λxs e=>r x xs e Q
variable{o e:Av}{es:List Av}{to:TE}{t:TA}{name:i9}{apos cpos:Dg}{T id:String}{r:V->List V->Hp->VK->Prop}
def RF(pa:PlainAttrs T)(slot:Slot T name id)(j:typeOf (.builtin id)=pure (.type "method_descriptor"))(E:MtR X id r)(D:PE X o to)(G:PA X (e::es) t)
  (f:attributeBase o name X.env (eval o X.env)=eval o X.env:=by rfl)
  (g:((backTo cpos (starEach (e::es) X.env)).all (λx=>!x.1)&&(backToKw cpos (keywordEach [] X.env)).all (λx=>x.1.isSome)
   && decide ((e::es).length+([]:List Ek).length+(if ([]:List Ek).isEmpty then 0 else 1)<30))=true:=by rfl)
  (d:(apos.endLine == cpos.line)=true:=by rfl) (C:starEach (e::es) X.env=(Jv,eval e X.env)::starEach es X.env:=by rfl) (c:(backTo cpos (starEach es X.env)).any (·.1)=false:=by rfl) :
  PE X (.Call (.Attribute o name apos) (e::es) [] cpos) (tBM X.K T r to t):=by
 intro l s i H Q I h;erw[wpAny_Call_method_late f g d rfl (thn (D l s i H _ I h) λv y ⟨x,M,p,m,ty,B⟩=>?_)];obtain⟨h1,h2⟩:=NC p m ty;exists T,id,pa,slot,j,h1,h2;have n:=G cpos l y i M _ p B;rw[C] at n ⊢;refine Ft (by show(Jv||(backTo cpos (starEach es X.env)).any (·.1))=Jv; rw[c] <;> rfl) (D6 ?_);rwa[thn n λu w ⟨q,L,J,z,A⟩=>E l w i L x q v u Q J m z A]
end
end L2

namespace L2

def MtM(X:Cx)(id:String)(r:V->List V->Hp->VK->Prop):Prop :=
 ∀(c:List (c5×By))(s:d7)(a:St)(H:Hp)(x:V)(xs:List V)(v:c7)(b:List c7)(Q:VK),Inv X c a H s->xI x v->yQ xs b->r x xs H Q ->
  wpAny 'b' X.A (call (.builtin id) (v::b)) (EP X c a Q) X.xe s

def yQ.one:∀{x:V}{a:List c7},yQ [x] a->∃ u,a=[u]/\xI x u
 | _,_,.cons r .nil=>⟨_,rfl,r⟩
def yQ.zero:∀{a:List c7},yQ [] a->a=[]
 | _,.nil=>rfl
section
variable{X:Cx}{Jw:List (c5×By)}{σ:St}{H:Hp}{s:d7}{l b:c5}{xs ys zs:List V}

def Inv.lset{a its':List c7}{n:Nat}{f:Array c7->Array c7}{t':Nat}(I:Inv X Jw σ H s)(j:H l=Js (.lst xs))
  (e:s.heap.get? l=Js { cls:=.type "list",data:=.seq a.toArray n }) (h:f a.toArray=its'.toArray) (d:yQ ys its') (c:ys.length<=sizeLine) :
  Inv X Jw σ (upd H l (.lst ys)) { s with heap:=s.heap.update l (t5 f),toks:=t' }:=by
 have q:=PySem.IsL.update e f;rw[h] at q;erw[I.write (x:=l) (e:=l) (by rw[j]; rwa[trivial]) (.inl rfl) (λm u i g=>(AK s.heap (t5 f) (Bk i)).trans g) ⟨_,q⟩ ?_];rwa[c,its',_,d,q]
def Inv.lnew{t':Nat}(I:Inv X Jw σ H s)(d:yQ ys a)(c:ys.length<=sizeLine) :
  Inv X Jw σ (upd H s.heap.objs.size (.lst ys)) { s with heap:=s.heap.push { cls:=.type "list",data:=.seq a.toArray },toks:=t' } :=
 I.laid (λ_ _ q=>c8 _ q) (e9 _) ⟨c,a,0,d,j9 _ rfl⟩
def Inv.fresh(I:Inv X Jw σ H s):H s.heap.objs.size=none:=I.hok.fresh (e9 _)
def Inv.lstM(I:Inv X Jw σ H s)(c:H l=Js (.lst xs)):xs.length<=sizeLine/\∃(a:List c7)(n:Nat),yQ xs a/\xs.length=a.length/\s.heap.get? l=Js { cls:=.type "list",data:=.seq a.toArray n }:=by
 obtain⟨z,a,n,r,e⟩:=I.hok l _ c;rwa[z,a,n,r,r.length,e]

def UR{n:Nat}(h:n<=sizeLine):Dh n=false:=by
 unfold Dh;rwa[y8 (by lia)]
end

section
variable{X:Cx}

def Uy:V->List V->Hp->VK->Prop:=λx a H Q=>E3 λl xs y=>A5 (x=.ref l) (a=[y]) (H l=Js (.lst xs)) (xs.length<sizeLine) (Q .non (upd H l (.lst (xs++[y]))))
def kQ:MtM X "list.append" Uy:=by
 intro o s f H x g v i Q I c d h;obtain⟨l,xs,y,rfl,rfl,b,j,q⟩:=h;cases c;obtain⟨u,rfl,ru⟩:=d.one;obtain⟨z,a,n,r,m,e⟩:=I.lstM b;erw[call_meets F.slot_list_append ⟨_,e,rfl⟩ F.entry_list_append (F.args_list_append_2 _ _) (PySem.list_append l a.toArray n u (by rw[f7]; lia)) ⟨e,?_⟩];erw[.non,_,I.lset (its':=a++[u]) b e 'd' (r.append (.cons ru .nil)) ?_,rfl,q];rw[g7,AQ];lia

def Qh:V->List V->Hp->VK->Prop:=λx c H Q=>E4 λl b xs a=>A6 (x=.ref l) (c=[.ref b]) (H l=Js (.lst xs)) (H b=Js (.lst a)) (xs.length+a.length<=sizeLine) (Q .non (upd H l (.lst (xs++a))))
def XN:MtM X "list.extend" Qh:=by
 intro J s y H x C v D Q I i j h;obtain⟨l,b,xs,A,rfl,rfl,g,p,E,q⟩:=h;cases i;obtain⟨u,rfl,ru⟩:=j.one;cases ru;obtain⟨z,c,n,r,G,e⟩:=I.lstM g;obtain⟨B,a,n2,m,o,w⟩:=I.lstM p;have f:c.toArray.size+a.toArray.size<=sizeLine:=by rw[f7,f7]; lia
 have d:¬ (!c.toArray.isEmpty&&Dh (c.toArray.size+a.toArray.size))=true:=by
  rw[UR f,FT];rwa[m7]
 refine call_meets F.slot_list_extend ⟨_,e,rfl⟩ F.entry_list_extend (F.args_list_extend_2 _ _)
  (AutoSeq1.list_extend_list_list_0 l c.toArray n b a.toArray n2 d (by rw[f7]; lia) (by lia)) ⟨e,w,?_⟩
 erw[.non,_,I.lset (its':=c++a) g e 'd' (r.append m) ?_,rfl,q];rw[g7];lia

def rCat:R2:=λx y H Q=>E4 λl b xs a=>A6 (x=.ref l) (y=.ref b) (H l=Js (.lst xs)) (H b=Js (.lst a)) (xs.length+a.length<=sizeLine) (∀ p,H p=Jt->Q (.ref p) (upd H p (.lst (xs++a))))
def iU:OpR X (binaryOp .Add) rCat:=by
 intro E s w H x y v u Q I f d h;obtain⟨l,b,xs,A,rfl,rfl,j,m,C,q⟩:=h;cases f;cases d;obtain⟨z,c,n,r,D,e⟩:=I.lstM j;obtain⟨B,a,n2,g,i,p⟩:=I.lstM m;erw[PySem.P.add_list e p ?_ (by rw[f7,f7]; lia)];have o:c.toArray++a.toArray=(c++a).toArray:=by simp
 rw[o];rwa[.ref _,_,I.lnew (t':=s.toks) (r.append g) (by rw[g7]; lia),rfl,q _ I.fresh]
end


end L2

namespace Att
open PySem PySem.W PySem.Calls PyProof.Rows

def lK : ∀(ns:List Int)(c:List c7),WellAll P h c (ns.map Jr)->EU c ns:=by
 intro ns
 induction ns with
 | nil =>
  intro c w;rw[El] at w;cases w;rwa[.nil]
 | cons n ns d =>
  intro c w;rw[j8] at w;cases w with
  | cons a b =>
   cases a;rwa[.cons _ _ (d _ b)]

def Xa{l:FJ}{n:Nat}(u:l.most=Js n)
  (c:l.row.toRowW.claim.pre b=Ju) (g:WellAll P h vals b) :
  ∃ a j ns,vals=[j4 a]/\b=[WData.list (ns.map Jr)]/\h.get? a=Js { cls:=.type "list",data:=.seq j.toArray }/\EU j ns/\ns.length<=n:=by
 have i:WShape.hasAll [] b [.list .int]=true:=(pre_splitW c).1;have m:l.pre.holds [] { args:=b }=true:=(pre_splitW c).2;obtain⟨d,r,rfl,h1,h2⟩:=hasAllW_cons i;obtain rfl:=hasAllW_nil h2;obtain⟨xs,rfl,h3⟩:=hasW_list h1;obtain⟨ns,rfl⟩:=items_int h3;have e:ns.length<=n:=by
  unfold OpenLaw.pre at m;have h4:(WTm.not (.lt (.lit (.int (n:Int))) (.len (.arg 0)))).holds [] { args:=[.list (ns.map .int)] }=true:=by
   have h4:=(holds_andW m).1;rw[u] at h4;rwa[h4]
  have h5:=condW_of h4 (w_not (w_lt w_lit (w_len_list (w_arg rfl))));rw[ac] at h5;erw[C7 λq=>?_];have p:(n:Int)<((ns.length:Nat):Int):=by lia
  first
   | (rw[y7 p] at h5; rwa[y9 h5 'a'])
   | (simp at h5; lia)
 cases g with
 | cons w1 o =>
  cases o;cases w1 with
  | list s f=>rwa[_,_,ns,rfl,rfl,s,lK ns _ f,e]

def WH(l:FJ)(a:List WData):l.row.toRowW.claim.post a (.bool Ju) a=true :=
 postW_of (r:=l.row.toRowW) (X:=(Ju == Ju))
  (show Jj [] (.bool Ju) .bool=Ju by first | rfl | decide | simp[Jj,WShape.arms,WShape.armsAll])
  (show(WTm.eq .res (.lit (.bool Ju))).value [] { args:=a,res:=Js (.bool Ju),after:=a }=Js (.bool (Ju == Ju)) from w_eq_bool (w_res rfl) w_lit) rfl

def attach_call{l:FJ}{n:Nat}{I:(i9->Option c7)->Ae->Prop}{H:w9->Ae->Prop}{d:DefRec}
  (N:l.most=Js n) (A:d.params.defaults=[])
  (call:∀(w:w9)(s₀ b:d7)(mg x:i9->Option c7)(p:c5)(o:By)(v u g:c7)(a:c5)(h:List c7)(ns:List Int),
   Ground q c [] I w s₀ mg x b.heap->H w b.heap ->
   b.heap.get? p=Js o->o.data=.func (docDef d.name d.params d.body d.scope v u g)->b.heap.CodeRec u d.name->mg d.name=Js (.ref p) ->
   b.heap.get? a=Js { cls:=.type "list",data:=.seq h.toArray }->EU h ns->ns.length<=n->b.gens = #[] ->
   codeAny (model l.prog w) callerA (.call (.ref p) ⟨[.ref a],[]⟩) (λr s=>r=.ok (.ret (.bool Ju))/\OldK b.heap s.heap/\s.os=b.os/\Ei s.gens) b) :
  Ix q c I H l.row.toRowW d [] (λf h=>HH f h):=by
 intro w s₀ b mg x G Y p o v u g R kV M hd B D z Q E vals S i C J y P;obtain rfl:R=.none:=Dflts.none D A;obtain rfl:kV=.none:=Dflts.noKw D;obtain⟨a,h,ns,rfl,rfl,j,e,m⟩:=Xa N i y;erw[enter_call (codeAny_mono (call w s₀ b mg x p o v u g a h ns G Y M (fd_plain hd) B z j e m Q) λr s L=>?_)];obtain⟨rfl,h2,h3,h4⟩:=L;exact⟨.inl ⟨.bool Ju,.bool Ju,[],rfl,λ_=>rfl,.bool Ju,WH l _,λ_=>⟨Jp,λ_ O=>(nomatch O)⟩⟩,h2,h3,h4⟩

section
variable{prog:o7}{w:w9}{A:An}{E:c7->d7->Prop}{s:d7}{K:b8}

end
end Att

namespace L2

def kC:∀{a:List c7}{ns:List Int},EU a ns->yQ (ns.map V.int) a
 | _,_,.nil=>.nil
 | _,_,.cons n t h=>.cons ⟨t,rfl⟩ (kC h)

end L2

namespace L2

end L2

namespace L2


abbrev CX0:CXT:=λ_ _ _ _ _ _=>False
abbrev E0:XK:=λ_ _ _=>False
def ZR : dC CX0 X E0:=λ_ _ _ _ _ _ _ h=>h.elim

structure Fun(K:b8)(x qual:i9)(st:Af)(f:c5)(fd:AW):Prop where
 ex:∃(oc:c7)(od:Option c5)(kV doc pm:c7)(an:Option c5)(cdv ct:c7)(osl:Array (Option c7)),
  fd=AI x qual (wD st) (xJ st) (zF st) .none kV doc pm an cdv ct/\K.lookup f=Js ⟨oc,od,.func fd,osl⟩/\C4 K cdv qual=Ju
 kp:AT K (.ref f)=Ju
section
variable{P:o7}{w:w9}{K:b8}{mg:i9->Option c7}{base:Ae}
def Fun.ok{st:Af}{fd:AW}{k:Nat}{e:Sp}(F:Fun K x a st f fd)(S:zJ N g (zF st))(len:∀ c H Q E,e c H Q E->c.length=g.length)
  (d:∀(b:c7)(A:An)(outer:List D4)(s:d7)(H:Hp)(c:List V)(Q:VK)(E:XK),Room k (A.deeper (envOfC a (zF st) s.heap.objs.size f b))->e c H Q E ->
   ∃ t,PSs (cxOf CX0 P w K mg base N a (zF st) f b A outer s H E).nox (xJ st) t/\t { nx:=λ_ o=>Q .non o,rt:=Q } (start N c) H):yI P w K mg base CX0 (k+1) f fd g e:=by
 obtain⟨u,r,kV,n,p,v,b,ct,l,rfl,lk,j⟩:=F.ex;erw[QG lk j S len λA outer s H c Q E m i=>?_];obtain⟨t,h,q⟩:=d b A outer s H c Q E m i;rwa[t,h.nox,q]
def Fun.binds{st:Af}{fd:AW}{e:List i9}(F:Fun K x a st f fd)
  (h:∀(kV b g:c7)(i:Option c5)(c ct:c7)(d:List c7),d.length=e.length->bindArgs (AI x a (wD st) (xJ st) (zF st) .none kV b g i c ct) ⟨d,[]⟩=pure (e.zip d)):oN K fd e []:=by
 obtain⟨n,m,kV,b,g,i,c,ct,j,rfl,lk,l⟩:=F.ex;rwa[.all (h kV b g i c ct)]
def Sj{st:Af}{j:c7}{i h:Option c5}{e:Array (Option c7)}{kV d g b ct:c7}(l:K.lookup f=Js ⟨j,i,.func (AI x a (wD st) (xJ st) (zF st) .none kV d g h b ct),e⟩)
  (c:C4 K b a=Ju) (k:AT K (.ref f)=Ju):Fun K x a st f (AI x a (wD st) (xJ st) (zF st) .none kV d g h b ct):=⟨⟨j,i,kV,d,g,h,b,ct,e,rfl,l,c⟩,k⟩
end
def yD{k:Nat}(a:Room k A):A.units+1<cLine:=t6 (Ef (by decide:1<=64) _) a.units
def zM{n:Nat}(h:n<=1000):n<sizeLine:=t6 h 'a'

section
variable{X:Cx}
def pv(i:Nat)(c:X.N[i]?=Js x:=by rfl)(b:Vis X.env.scope x:=by first | exact BW rfl | exact Fu (BW rfl) | exact Fu (Fu rfl))(hd:(x ==("__debug__" : i9))=false:=by decide)
  (a:(x ==("__classdict__" : i9))=false:=by decide):PE X (.Name x pos) (Ps i):=Og c b hd a
end

def vY{A B:Prop}(h:B):if Jv=Ju then A else B:=by
 rw[y4 m7];rwa[h]
def jD{A B:Prop}(h:A):if Ju=Ju then A else B:=by
 rw[y6 rfl];rwa[h]
def ite2{c A B:Prop}[Decidable c](h1:c->A)(h2:¬ c->B):if c then A else B:=by
 by_cases h:c
 ·rw[y6 h];rwa[h1 h]
 ·rw[y4 h];rwa[h2 h]
def Same(H a:Hp):Prop:=∀ b o,H b=Js o->a b=Js o
def Same.refl(H:Hp):Same H H:=λ_ _ h=>h
def Same.trans{H e d:Hp}(a:Same H e)(b:Same e d):Same H d:=λc o h=>b c o (a c o h)
def Same.free{H a:Hp}(e:Same H a)(h:a l=IW):H l=IW:=by
 cases q:H l with
 | none=>rfl
 | some o =>
  rw[e l o q] at h;cases h
def Same.seq{K:b8}{H b:Hp}(e:Same H b)(h:SqL K H a xs):SqL K b a xs:=by
 rcases h with (h | ⟨o,h⟩) | h
 ·rwa[.inl (.inl (e _ _ h))]
 ·rwa[.inl (.inr ⟨o,e _ _ h⟩)]
 ·rwa[.inr h]

end L2

namespace Sea
def yC(ns:List Int):Nat:=ns.foldl (λg n=>l9 g n.natAbs) 0
def fW(ns:List Int)(n:Int):yC (ns++[n])=l9 (yC ns) n.natAbs:=by
 unfold yC;rw[EV];rfl
def ZF:∀(ns:List Int)(g:Nat),ns.foldl (λg n=>l9 g n.natAbs) g ∣ g/\∀ n∈ns,ns.foldl (λg n=>l9 g n.natAbs) g ∣ n.natAbs
 | [],g=>⟨Nat.dvd_refl g,λ_ h=>nomatch h⟩
 | x::r,g=>by
  obtain⟨h1,h2⟩:=ZF r (l9 g x.natAbs);erw[Iv h1 (Nat.gcd_dvd_left _ _),λn a=>?_];rcases g9.mp a with e | e
  ·rw[e];rwa[Iv h1 (Nat.gcd_dvd_right _ _)]
  ·rwa[h2 n e]
def vx{ns:List Int}{n:Int}(h:n∈ns):yC ns ∣ n.natAbs:=(ZF ns 0).2 n h
def wQ{ns:List Int}{n:Int}(h:n∈ns):(yC ns:Int) ∣ n:=Int.ofNat_dvd_left.mpr (vx h)
def ZN{d:Nat} : ∀(ns:List Int)(g:Nat),d ∣ g->(∀ n∈ns,d ∣ n.natAbs)->d ∣ ns.foldl (λg n=>l9 g n.natAbs) g
 | [],_,h,_=>h
 | x::r,g,h,a=>ZN r _ (Hm h (a x j7)) λn b=>a n (l7 _ b)
def Ur{d:Nat}{ns:List Int}(h:∀ n∈ns,d ∣ n.natAbs):d ∣ yC ns:=ZN ns 0 (Nat.dvd_zero d) h
def yX{ns:List Int}{n:Int}(h:n∈ns)(h0:n≠0):0<yC ns:=by
 rcases Gx (yC ns) with e | e
 ·have q:=vx h;rw[e,Nat.zero_dvd] at q;lia
 ·rwa[e]
def rM{ns:List Int}{n:Int}(h:n∈ns)(h0:n≠0):(yC ns:Int)<=n.natAbs:=by
 have q:=DW (by lia) (vx h);lia
def uJ(ns:List Int):List Int:=ns.map λn=>n/(yC ns:Int)
def yJ{ns:List Int}{n:Int}(h:n∈ns):n/(yC ns:Int)*(yC ns:Int)=n:=Int.ediv_mul_cancel (wQ h)
def mQ(h:0<yC ns):yC (uJ ns)=1:=by
 have a:yC ns*yC (uJ ns) ∣ yC ns:=by
  erw[Ur λn d=>?_];have h1:yC (uJ ns) ∣ (n/(yC ns:Int)).natAbs:=vx (o5.mpr ⟨n,d,rfl⟩);obtain⟨c,b⟩:=h1;have h2:=congrArg Int.natAbs (yJ d);rw[Au,Gy,b] at h2;rw[<- h2];rwa[c,by rw[IJ,Gh]]
 obtain⟨c,b⟩:=a;have h3:yC ns*(yC (uJ ns)*c)=yC ns*1:=by
  rw[<- Gh,<- b,IX]
 have h4:=Nat.eq_of_mul_eq_mul_left h h3;rwa[Nat.dvd_one.mp ⟨c,h4.symm⟩]
def Zr(x y:Int):yC [x,y]=l9 x.natAbs y.natAbs:=by
 show l9 (l9 0 x.natAbs) y.natAbs=_;rw[EW]
def iF(x y z:Int):yC [x,y,z]=l9 (l9 x.natAbs y.natAbs) z.natAbs:=by
 show l9 (l9 (l9 0 x.natAbs) y.natAbs) z.natAbs=_;rw[EW]
def Zq(ns:List Int):yC (ns.map λn=>-n)=yC ns:=by
 have a:∀(l:List Int)(g:Nat),(l.map λn=>-n).foldl (λg n=>l9 g n.natAbs) g=l.foldl (λg n=>l9 g n.natAbs) g:=by
  intro l
  induction l with
  | nil=>intro g; rfl
  | cons x r b =>
   intro g;show(r.map λn=>-n).foldl _ (l9 g (-x).natAbs)=r.foldl _ (l9 g x.natAbs);rw[b,FU]
 rwa[a ns 0]
def fD{a b:Int}(d:0<=a)(c:0<b):l9 b.toNat (a%b).toNat=l9 a.toNat b.toNat:=by
 obtain⟨m,rfl⟩:=CA d;obtain⟨n,rfl⟩:=CA (i3 c);have e:((m:Int)%(n:Int)).toNat=m%n:=by
  rw[<- Int.natCast_emod];rfl
 show l9 n ((m:Int)%(n:Int)).toNat=l9 m n;rw[e,Fv m n,Nat.gcd_rec n m,Fv]
def Zb(i:Int):(if i<0 then -i else i)=(i.natAbs:Int):=by
 split <;> lia
structure yq(t b x y:Int):Prop where
 pos:1<=y
 low:l9 x.natAbs y.natAbs=1
 eq:x*b=y*t
 xle:x.natAbs<=t.natAbs
 yle:y.natAbs<=b.natAbs
def uB(n:Int){g:Int}(b:0<g)(h:g ∣ n):(n/g).natAbs<=n.natAbs:=by
 obtain⟨c,a⟩:=h;subst a;rw[Int.mul_ediv_cancel_left c (by lia),Au];rwa[Nat.le_mul_of_pos_left _ (by lia)]
def YZ(t:Int){b:Int}(d:b≠0):∃ x y:Int,(uJ (if b<0 then [t,b].map (λn=>-n) else [t,b]))=[x,y]/\yq t b x y:=by
 have a:∀(t b:Int),0<b->∃ x y:Int,uJ [t,b]=[x,y]/\yq t b x y:=λt b d=>by
  have j:0<yC [t,b]:=yX (n:=b) 'd' (by lia);have i:=yJ (ns:=[t,b]) (n:=t) 'd';have f:=yJ (ns:=[t,b]) (n:=b) 'd';have c:(0:Int)<(yC [t,b]:Int):=by lia
  erw[t/(yC [t,b]:Int),b/(yC [t,b]:Int),rfl,?_,?_,?_,uB t c (wQ 'd'),uB b c (wQ 'd')]
  ·rwa[Ex d (i3 c) (wQ 'd')]
  ·have h3:=mQ j;rw[<- Zr];rwa[h3]
  ·generalize (yC [t,b]:Int)=g at i f
   calc t/g*b=t/g*(b/g*g):=by rw[f]
    _=b/g*(t/g*g):=by rw[<- x9,<- x9,d8 (t/g)]
    _=b/g*t:=by rw[i]
 by_cases h:b<0
 ·rw[y6 h];obtain⟨x,y,e,p⟩:=a (-t) (-b) (by lia);refine⟨x,y,e,p.pos,p.low,?_,by have:=p.xle; lia,by have:=p.yle; lia⟩;have q:=p.eq;rw[t8,t8] at q;lia
 ·rw[y4 h];rwa[a t b (by lia)]
def zE(a b:Int){m n:Nat}(d:a.natAbs<=m)(c:b.natAbs<=n):(a*b).natAbs<=m*n:=by
 rw[Au];rwa[FV d c]
def No{b:Int}(h:b.natAbs<=10^40):b.natAbs<10^500:=t6 h 'h'
def eE{c b x y:Int}(p:yq (0*c) b x y):x=0/\y=1:=by
 have h1:=p.xle;rw[j3] at h1;have a:x=0:=by
  have:(0:Int).natAbs=0:=rfl;lia
 have h2:=p.low;rw[a] at h2;have h3:y.natAbs=1:=by
  have e:l9 (0:Int).natAbs y.natAbs=y.natAbs:=EW _;lia
 have h4:=p.pos;rwa[a,by lia]
def jA{X Y:Int}(h:X≠0\/Y≠0):∃ x y:Int,uJ [X,Y]=[x,y]/\0<yC [X,Y]/\(yC [X,Y]<=X.natAbs\/yC [X,Y]<=Y.natAbs)/\l9 x.natAbs y.natAbs=1/\x*Y-y*X=0/\0<x*X+y*Y/\x.natAbs<=X.natAbs/\y.natAbs<=Y.natAbs:=by
 have d:0<yC [X,Y]:=by
  rcases h with h | h
  ·rwa[yX (n:=X) 'd' h]
  ·rwa[yX (n:=Y) 'd' h]
 have c:(0:Int)<(yC [X,Y]:Int):=by lia
 have b:=yJ (ns:=[X,Y]) (n:=X) 'd';have a:=yJ (ns:=[X,Y]) (n:=Y) 'd';erw[X/(yC [X,Y]:Int),Y/(yC [X,Y]:Int),rfl,d,?_,?_,?_,?_,uB X c (wQ 'd'),uB Y c (wQ 'd')]
 ·rcases h with h | h
  ·rwa[.inl (DW (by lia) (vx 'd'))]
  ·rwa[.inr (DW (by lia) (vx 'd'))]
 ·rw[<- Zr];rwa[mQ d]
 ·generalize (yC [X,Y]:Int)=g at b a;generalize X/g=x at b;generalize Y/g=y at a;rw[<- b,<- a,<- x9,<- x9,d8 x y];lia
 ·generalize (yC [X,Y]:Int)=g at b a c;have f:0<=X/g*X:=by
   have:X/g*X=X/g*(X/g)*g:=by rw[x9,b]
   rw[this];rwa[g8 (by rw[<- De]; exact B7 _) (i3 c)]
  have e:0<=Y/g*Y:=by
   have:Y/g*Y=Y/g*(Y/g)*g:=by rw[x9,a]
   rw[this];rwa[g8 (by rw[<- De]; exact B7 _) (i3 c)]
  rcases h with h | h
  ·have:X/g*X≠0:=Aq (λz=>h (by rw[<- b,z,j3])) h;lia
  ·have:Y/g*Y≠0:=Aq (λz=>h (by rw[<- a,z,j3])) h;lia
def upL(X Y W:Int):List Int:=if W<0 then [-X,-Y,-W] else [X,Y,W]
def Rt{X Y W:Int}(h:W≠0):upL (-X) (-Y) (-W)=upL X Y W:=by
 unfold upL;by_cases c:W<0
 ·rw[y6 c,y4 (by lia)]
 ·rw[y4 c,y6 (by lia),D7,D7,D7]
structure WU(X Y W x y w:Int):Prop where
 pos:1<=w
 low:l9 (l9 x.natAbs y.natAbs) w.natAbs=1
 ex:x*W=X*w
 ey:y*W=Y*w
 xle:x.natAbs<=X.natAbs
 yle:y.natAbs<=Y.natAbs
 wle:w.natAbs<=W.natAbs
def ZC{X Y W:Int}(h:0<W):∃ x y w:Int,uJ [X,Y,W]=[x,y,w]/\WU X Y W x y w:=by
 have e:0<yC [X,Y,W]:=yX (n:=W) 'd' (by lia);have b:(0:Int)<(yC [X,Y,W]:Int):=by lia
 have d:=yJ (ns:=[X,Y,W]) (n:=X) 'd';have c:=yJ (ns:=[X,Y,W]) (n:=Y) 'd';have a:=yJ (ns:=[X,Y,W]) (n:=W) 'd';have lo:=mQ e;erw[X/(yC [X,Y,W]:Int),Y/(yC [X,Y,W]:Int),W/(yC [X,Y,W]:Int),rfl,Ex h (i3 b) (wQ 'd'),?_,?_,?_,uB X b (wQ 'd'),uB Y b (wQ 'd'),uB W b (wQ 'd')]
 ·rw[<- iF];rwa[lo]
 ·generalize (yC [X,Y,W]:Int)=g at d a;generalize X/g=x at d;generalize W/g=w at a;rw[<- d,<- a,x9,d8 g w]
 ·generalize (yC [X,Y,W]:Int)=g at c a;generalize Y/g=y at c;generalize W/g=w at a;rw[<- c,<- a,x9,d8 g w]
def qG{X Y W:Int}(h:W≠0):∃ x y w:Int,uJ (upL X Y W)=[x,y,w]/\WU X Y W x y w:=by
 unfold upL;by_cases c:W<0
 ·rw[y6 c];obtain⟨x,y,w,e,p⟩:=ZC (X:=-X) (Y:=-Y) (W:=-W) (by lia);refine⟨x,y,w,e,p.pos,p.low,?_,?_,by have:=p.xle; lia,by have:=p.yle; lia,by have:=p.wle; lia⟩
  ·have q:=p.ex;rw[t8,o8] at q;lia
  ·have q:=p.ey;rw[t8,o8] at q;lia
 ·rw[y4 c];rwa[ZC (by lia)]
def gG{A B C X Y W x y w:Int}(h:W≠0)(p:WU X Y W x y w)(e:A*X+B*Y=C*W):A*x+B*y=C*w:=by
 erw[B8 h ?_];have b:(A*x+B*y)*W=A*(x*W)+B*(y*W):=by rw[n9,x9,x9]
 have a:A*(X*w)+B*(Y*w)=(A*X+B*Y)*w:=by rw[n9,x9,x9]
 rw[b,p.ex,p.ey,a,e,x9,d8 W w,<- x9]
def VT(c b a f e d:Int):c*(a*e-b*d)+b*(c*d-a*f)=a*(c*e-b*f):=by
 simp only[Ah,d8,f9];lia
def Wj(f e d c b a:Int):c*(d*b-e*a)+b*(f*a-d*c)=a*(f*b-e*c):=by
 simp only[Ah,d8,f9];lia
def gcd3(c b a:Int):(l9 ((l9 c.natAbs b.natAbs:Nat):Int).natAbs a.natAbs:Nat)=yC [c,b,a]:=by
 rw[iF,Gy]
end Sea

namespace Sea
def kZ{a b:Int}(h:a≠0\/b≠0):1<=a*a+b*b:=by
 have d:0<=a*a:=by rw[<- De]; rwa[B7 _]
 have c:0<=b*b:=by rw[<- De]; rwa[B7 _]
 rcases h with h | h
 ·have:a*a≠0:=Aq h h;lia
 ·have:b*b≠0:=Aq h h;lia
end Sea

namespace Sea
abbrev SpT:=Nat×Int×Int×Int
def ahB(s t:SpT):Bool:=if s.2.1*t.2.2.2-t.2.1*s.2.2.2=0 then decide (s.2.2.1*t.2.2.2<t.2.2.1*s.2.2.2) else decide (s.2.1*t.2.2.2-t.2.1*s.2.2.2<0)
def xC:List SpT->List SpT->List SpT
 | xs,[]=>xs
 | xs,o::r=>xs.takeWhile (λx=>!ahB o x)++o::xC (xs.dropWhile λx=>!ahB o x) r
def zj:∀(a xs:List SpT),(xC xs a).Perm (xs++a)
 | [],xs=>by rw[xC,CM]
 | o::r,xs=>by
  rw[xC];have h:=zj r (xs.dropWhile λx=>!ahB o x);have e:xs.takeWhile (λx=>!ahB o x)++xs.dropWhile (λx=>!ahB o x)=xs:=List.takeWhile_append_dropWhile;refine((h.cons o).append_left _).trans ?_;conv=>rhs; rw[<- e]
  rw[DD];erw[List.Perm.append_left _ ?_];exact(List.perm_middle).symm
def uz:Nat->List SpT->List SpT
 | 0,xs=>xs
 | n+1,xs=>if xs.length<2 then xs else xC (uz n (xs.take (xs.length/2))) (uz n (xs.drop (xs.length/2)))
def vF:∀(n:Nat)(xs:List SpT),(uz n xs).Perm xs
 | 0,_=>HI _
 | n+1,xs=>by
  rw[uz];split
  ·rwa[HI _]
  ·refine(zj _ _).trans (((vF n _).append (vF n _)).trans ?_);rw[List.take_append_drop]
end Sea

namespace L2

structure CC where
 C:c5
 s:d7
 H:Hp
 fp:List c5

def pL(env:D4):List (i9×Cm)->List (i9×c5)->List (i9×c5)
 | [],a=>a
 | (n,k)::r,a=>pL env r (if (k == As)=Ju then(n,(env.cells.lookup n).getD 0)::a else a)
def Vl{b:Cs}{env:D4}(h:∀ x∈b.names,x.2=.free->∃ c,env.cells.lookup x.1=Js c):closureFor b env=pure (pL env b.names []):=by
 simp only[closureFor];have l:∀(names:List (i9×Cm))(d:List (i9×c5)),(∀ x∈names,x.2=.free->∃ c,env.cells.lookup x.1=Js c) ->
  (forIn names d (λ(x:i9×Cm) (r:List (i9×c5))=>match x with | (f,kind)=>if (kind == As)=Ju then(do let a <- cellOf env f; pure (BU ((f,a)::r))) else pure (BU r)):IA (List (i9×c5)))=pure (pL env names d):=by
  intro names
  induction names with
  | nil=>intro d _; rfl
  | cons x r p =>
   intro d m;obtain⟨n,k⟩:=x;rw[Ht];have i:=p (if (k == As)=Ju then(n,(env.cells.lookup n).getD 0)::d else d) λy q=>m y (l7 _ q);by_cases g:(k == As)=Ju
   ·obtain⟨c,o⟩:=m (n,k) j7 (by simpa using g);have e:cellOf env n=pure c:=by unfold cellOf; rw[o]
    rw[y6 g] at i;have j:env.cells.lookup n=Js c:=o;rw[j] at i;show(((if (k == As)=Ju then(do let a <- cellOf env n; pure (BU ((n,a)::d))) else pure (BU d)):IA _) >>= _)=_;rw[y6 g,e];erw[GJ ?_ (i.trans ?_)]
    ·rfl
    ·rw[pL,y6 g,j]
   ·rw[y4 g] at i;show(((if (k == As)=Ju then(do let a <- cellOf env n; pure (BU ((n,a)::d))) else pure (BU d)):IA _) >>= _)=_;rw[y4 g];erw[GJ ?_ (i.trans ?_)]
    ·rfl
    ·rw[pL,y4 g]
 rwa[congrArg (λ(z:IA (List (i9×c5)))=>z >>= λd=>pure d) (l b.names [] h)]
def yy{env:D4} : ∀(names:List (i9×Cm))(i:List (i9×c5)),(∀ x∈names,x.2=.free->∃ c,env.cells.lookup x.1=Js c) ->
  (∀ x c,i.lookup x=Js c->env.cells.lookup x=Js c)->∀ x c,(pL env names i).lookup x=Js c->env.cells.lookup x=Js c
 | [],_,_,b=>b
 | (n,k)::r,i,h,b=>by
  erw[yy r _ (λy j=>h y (l7 _ j)) λx c=>?_];by_cases g:(k == As)=Ju
  ·rw[y6 g];obtain⟨d,hd⟩:=h (n,k) j7 (by simpa using g);have a:env.cells.lookup n=Js d:=hd;intro e;rw[t9] at e;cases f:x == n with
   | true =>
    rw[f,a] at e;have ex:x=n:=by simpa using f
    rw[ex,a];rwa[e]
   | false =>
    rw[f] at e;rwa[b x c e]
  ·rw[y4 g];rwa[b x c]
def lY : ∀(names:List (i9×Cm))(d:List (i9×c5))(x:i9),((x,As)∈names\/∃ c,d.lookup x=Js c)->∃ c,(pL env names d).lookup x=Js c
 | [],_,_,h=>h.elim (λz=>nomatch z) id
 | (n,k)::r,d,x,h=>by
  erw[lY r _ x ?_];by_cases b:(k == As)=Ju
  ·rw[y6 b];cases a:x == n with
   | true=>rwa[.inr ⟨_,by rw[t9,a]⟩]
   | false =>
    rcases h with h | ⟨c,h⟩
    ·rcases g9.mp h with e | e
     ·injection e with e1 _
      subst e1;simp at a
     ·rwa[.inl e]
    ·rwa[.inr ⟨c,by rw[t9,a]; exact h⟩]
  ·rw[y4 b];rcases h with h | h
   ·rcases g9.mp h with e | e
    ·injection e with _ e2
     subst e2;rwa[y9 rfl b]
    ·rwa[.inl e]
   ·rwa[.inr h]
def nC{env:D4} : ∀{names:List (i9×Cm)}{x:i9},names.lookup x=Js .free ->
  (names.map λ(n,k)=>if 'g' then(n,AV) else(n,k)).lookup x=Js .cell \/
  (names.map λ(n,k)=>if 'g' then(n,AV) else(n,k)).lookup x=Js .free
 | [],_,h=>by simp at h
 | (n,k)::r,x,h=>by
  have b:=@nC env r x;show Al x ((if 'g'=Ju then(n,AV) else(n,k))::_)=_\/Al x ((if 'g'=Ju then(n,AV) else(n,k))::_)=_;by_cases c:'g'=Ju
  ·rw[y6 c];cases a:x == n with
   | true=>rwa[.inl (by rw[t9,a])]
   | false =>
    rw[t9,a] at h;rw[t9,a];rwa[b h]
  ·rw[y4 c];cases a:x == n with
   | true =>
    rw[t9,a] at h;rwa[.inr (by rw[t9,a]; exact h)]
   | false =>
    rw[t9,a] at h;rw[t9,a];rwa[b h]
def yb{env:D4} : ∀{names:List (i9×Cm)}{x:i9}{j:Cm},(∀ y∈names,y.2≠.cell)->(j=.cell\/j=.free) ->
  (names.map λ(n,k)=>if 'g' then(n,AV) else(n,k)).lookup x=Js j->(x,As)∈names
 | [],_,_,_,_,h=>by simp at h
 | (n,k)::r,x,j,f,b,h=>by
  have e:=@yb env r x j (λy i=>f y (l7 _ i)) b;have d:k≠.cell:=f (n,k) j7
  replace h:Al x ((if 'g'=Ju then(n,AV) else(n,k))::(r.map λ(n,k)=>if 'g' then(n,AV) else(n,k)))=Js j:=h
  by_cases c:'g'=Ju
  ·rw[y6 c] at h;have l:k=.free:=by
    simp only[AG] at c;simpa using c.1.1
   cases a:x == n with
   | true =>
    have ex:x=n:=by simpa using a
    subst ex;rw[<- l];rwa[j7]
   | false =>
    rw[t9,a] at h;rwa[l7 _ (e h)]
  ·rw[y4 c] at h;cases a:x == n with
   | true =>
    rw[t9,a] at h;have ex:x=n:=by simpa using a
    have g:k=j:=m8 h;subst ex;rcases b with b | b
    ·rwa[y9 (g.trans b) d]
    ·rw[<- b,<- g];rwa[j7]
   | false =>
    rw[t9,a] at h;rwa[l7 _ (e h)]

def cxComp(X:Cx)(N:List i9)(a:Cs)(c:CC):Cx where
 prog:=X.prog
 w:=X.w
 K:=X.K
 mg:=X.mg
 base:=X.base
 A:=X.A
 N:=N
 s₀:=c.s
 H₀:=c.H
 env:=compEnvC a (pL X.env a.names []) c.C X.env
 outer:=X.stack
 stack:=X.stack
 ex:=c.fp
 fn:=λ_=>Jv
 calm:=X.calm
 pn:=[]
 xe:=λ_ _=>False

def iq(X:Cx)(a:Cs):List (i9×Nat)->Prop
 | []=>True
 | p::r=>(X.N[p.2]?=Js p.1/\a.names.lookup p.1=Js .free/\(X.env.kindOf p.1=Js .cell\/X.env.kindOf p.1=Js .free))/\iq X a r
def iq.mem : ∀{b:List (i9×Nat)},iq X a b->∀ p∈b,X.N[p.2]?=Js p.1/\a.names.lookup p.1=Js .free/\(X.env.kindOf p.1=Js .cell\/X.env.kindOf p.1=Js .free)
 | [],_,_,h=>nomatch h
 | q::r,h,p,c=>by
  rcases g9.mp c with e | e
  ·rw[e]; rwa[h.1]
  ·rwa[iq.mem h.2 p e]
structure zx(X:Cx)(caps:List (i9×Nat))(scope:Cs):Prop where
 kind:scope.kind=.function
 nocell:∀ y∈scope.names,y.2≠.cell
 loc:∀ y∈scope.names,y.2=.local->scope.names.lookup y.1=Js .local
 clos:(scope.names.all λx=>!(x.2 == .free)||(X.env.cells.lookup x.1).isSome)=Ju
 cap:iq X scope caps
def zx.cells(S:zx X b a):∀ x∈a.names,x.2=.free->∃ c,X.env.cells.lookup x.1=Js c:=λx d e=>by
 have h:=Ag.mp S.clos x d;rw[e] at h;simp only[Bool.or_eq_true] at h;rcases h with h | h
 ·rwa[y9 h 'a']
 ·rwa[o6.mp h]

def ZQ(a:List (i9×Nat))(c:Nat)(b:St):St:=Cy c Jt++a.map λp=>(b[p.2]?).join

def Op(Y:Cx)(b:List Av)(t:TT):Prop :=
 ∀(d:List (c5×By))(s:d7)(a:St)(H:Hp)(Q:Bool->Hp->Prop),Inv Y d a H s->t a H Q ->
  wpAny (model Y.prog Y.w) Y.A (forIn b Ju λc r=>if r=Ju then do let ok <- isTrue c Y.env (eval c Y.env); pure (BU ok) else pure (BU r)) (TP Y d a Q) Y.xe s
def Nx:TT:=λ_ H Q=>Q Ju H
def xM : Op Y [] Nx:=λ_ _ _ H _ I h=>wpAny_tests_nil ⟨H,I,h⟩
def Zi(h:PT Y c t):Op Y [c] t:=λb s a H Q I q=>wpAny_tests_one (h b s a H Q I q)

def gM(J:It)(D:c5)(g:TG)(p:TT)(q:TE)(f:St)(s:Hp)(Q:VK):Prop :=
 ∃ W:Nat->Nat->St->List V->Hp->Prop,(∃ m,W 0 m f [] (upd s D (.lst [])))/\∀ i m h c H,W i m h c H->H D=Js (.lst c) /\
  ((J.stop i H/\Q (.ref D) H)\/(J.go i H/\∃ N:St->List V->Hp->Prop,(∀ d j e,N d j e->∃ l,l<m/\W (i+1) l d j e)/\∀ x e,J.yld i H x e->g x h e λa r=>p a r λb o =>
   if b=Ju then q a o λy n=>n D=Js (.lst c)/\c.length<sizeLine/\N a (c++[y]) (upd n D (.lst (c++[y]))) else N a c o))
def Qu(i:Nat)(a:List (i9×Nat))(e:TI)(g:CC->TG)(f:CC->TT)(h:CC->TE):TE:=λb H Q =>
 e b H λJ d=>∀(c:CC)(D:c5),d D=Jt->gM J D (g c) (f c) (h c) (ZQ a i b) d Q

def Zx{α:Type}{t:IA α}{Q b:α->d7->Prop}{M:IU}{A:An}{E:c7->d7->Prop}{s:d7}(h:wpAny M A t Q (λ_ _=>False) s)(c:∀ a s,Q a s->b a s):wpAny M A t b E s:=Bw h c λ_ _ x=>x.elim
def Un.same{H f:Hp}(u:Un fs ex H f h h1)(c:Cj C h1 h2)(j:h.get? C=Jt):Un fs ex H f h h2:=by
 have ne:∀ b o,h.get? b=Js o->b≠C:=λb o e z=>by rw[z,j] at e; cases e
 erw[λb o e n d a=>(c.2 b (ne b o e)).trans (u.keep b o e n d a),λb o e n d a=>?_,u.free,λb o e a=>?_,u.tups,u.frzs,u.tbls]
 ·obtain⟨g,q⟩:=u.slot b o e n d a;rwa[g,(c.2 b (ne b o e)).trans q]
 ·obtain⟨i,q⟩:=u.there b o e a;rwa[i,(c.2 b (ne b o e)).trans q]
def HOk.same{H:Hp}(k:HOk P w H h)(f:Cj C h d)(a:H C=Jt):HOk P w H d:=λb o e=>by
 refine(k b o e).stay (λc v g q=>(f.2 c ?_).trans q) (λ_ q=>q) λ_ _ q=>q;rintro rfl;rcases g with z | z
 ·rw[z,e] at a; cases a
 ·rw[a] at z; cases z

section
variable{X:Cx}{T:List i9}{caps:List (i9×Nat)}{scope:Cs}{elt target iter:Av}{ifs:List Av}{pos:Dg}{wi:TI}{g:CC->TG}{tt:CC->TT}{te:CC->TE}

def iQ{H:St}{G:Hp}{fp:List c5}{C D:c5}{h1:Ae}{tk:Nat}{m:i9->Option c7}(S:zx X caps scope)(a:Inv X Jw H G s)(N:∀ b∈fp,Xo X Jw G b)
  (Z:∀ b∈fp,b<s.heap.objs.size) (M:s.heap.objs.size<=D) (hC:s.heap.objs.size<=C) (hDC:C≠D) (j:∀ b o,s.heap.get? b=Js o->h1.get? b=Js o)
  (acc:∃ n,h1.get? D=Js { cls:=.type "list",data:=.seq ([]:List c7).toArray n }) (hn:h1.Ns C m) :
  Inv (cxComp X (T++caps.map (·.1)) scope ⟨C,s,G,fp⟩) [] (ZQ caps T.length H) (upd G D (.lst [])) { s with heap:=h1,toks:=tk }:=by
 have E:=yy (env:=X.env) scope.names [] S.cells (λ_ _ z=>by cases z);have h:∀ x c,X.env.cells.lookup x=Js c->c<s.heap.objs.size:=λx c e=>by
  obtain⟨v,q⟩:=a.cell x c e;rwa[q.lt]
 have w:∀ b∈fp,b ∉ frs X.stack:=λb B z=>by
  rcases g9.mp (a.stkSub b z) with e | e
  ·exact(N b B).2.1 e
  ·exact(N b B).2.2.1 e
 have fr:G D=none:=a.hok.fresh M;refine⟨⟨a.ok.mod,S.kind,a.ok.glob,a.ok.blt,hC,λx y c e1 r=>a.ok.inj x y c (E x c e1) (E y c r),λx hx=>?_,λ_ _ z=>y9 (show Jv=Ju from z) m7,a.ok.hd,a.ok.frames,.inl rfl,λb B=>⟨?_,λx c e=>(N b B).2.2.2.2.1 x c (E x c e)⟩,
  λb o e=>a.bs b o e,d9 a.ok.bsz a.sz,λb o e B=>?_,w,a.stack,a.stkFree⟩,rfl,a.bare,?_,⟨m,hn,λi x v e1 r e3=>?_⟩,λx c e=>?_,?_,λx c e=>?_,λp I=>y9 (show p∈([]:List (c5×By)) from I) 'd',?_,?_⟩
 ·have O:(x,As)∈scope.names:=by
   rcases hx with z | z
   ·rwa[yb S.nocell (.inl rfl) z]
   ·rwa[yb S.nocell (.inr rfl) z]
  rwa[lY scope.names [] x (.inl O)]
 ·rwa[o9 (j5 (Z b B) hC)]
 ·rcases (N b B).2.2.2.1 with z | z
  ·rwa[a.ok.noex b o e z]
  ·exact y9 (j5 (i5 (show X.base.get? b=Js o from e)) (d9 a.ok.bsz z)) (AM _)
 ·rwa[Un.laid j M fr]
 ·have R:¬ i<T.length:=λhi=>by
   unfold ZQ at r;rw[AF (by simpa using hi),Du,y6 hi] at r;cases r
  have J:T.length<=i:=C7 R;have f:(T++caps.map (·.1))[i]?=Js x:=e1;rw[At J,e7] at f;unfold ZQ at r;rw[At (by simpa using J),BH,e7] at r;cases I:caps[i-T.length]? with
  | none=>rw[I] at f; cases f
  | some p =>
   rw[I] at f r;have ex:p.1=x:=m8 f;have ev:(H[p.2]?).join=Js v:=m8 r;obtain⟨hN,hf,hk⟩:=S.cap.mem p (f6 I);have ev':H[p.2]?=Js (Js v):=by
    cases hq:H[p.2]? with
    | none=>rw[hq] at ev; cases ev
    | some o =>
     rw[hq] at ev;rwa[congrArg Js ev]
   obtain⟨m2,_,Y⟩:=a.loc;obtain⟨u,ru,l⟩:=Y p.2 p.1 v hN ev' (hk.elim (λz=>.inr (.inl z)) λz=>.inr (.inr z));erw[u,ru,.inr ⟨?_,?_⟩]
   ·rw[<- ex];rwa[nC (env:=X.env) hf]
   ·rcases l with ⟨kl,_⟩ | ⟨_,c,ec,A⟩
    ·rcases hk with z | z <;>(rw[kl] at z; cases z)
    ·obtain⟨d,hd⟩:=lY (env:=X.env) scope.names [] p.1 (.inl (Bo hf));have L:=E p.1 d hd;rw[ec] at L;cases L;obtain⟨o,Q,P⟩:=A;rwa[c,by rw[<- ex]; exact hd,o,j c o Q,P]
 ·obtain⟨v,o,Q,hd⟩:=a.cell x c (E x c e);rwa[v,o,j c o Q,hd]
 ·show upd G D (.lst []) C=Jt;rw[zH hDC];rwa[a.hok.fresh hC]
 ·show upd G D (.lst []) c=Jt;rw[zH (o9 (j5 (h x c (E x c e)) M))];rwa[a.freeC x c (E x c e)]
 ·obtain⟨n,e⟩:=acc;rwa[a.hok.laid j M ⟨Aa _,[],n,.nil,e⟩]
 ·show(ZQ caps T.length H).length=(T++caps.map (·.1)).length;unfold ZQ;rw[g7,g7,ac,ac,BH]

def wN(S:zx X caps scope)(hc:X.calm=Ju)(hi:PI X target iter wi)(hg:∀ c,PG (cxComp X (T++caps.map (·.1)) scope c) target (g c))(ht:∀ c,Op (cxComp X (T++caps.map (·.1)) scope c) ifs (tt c))(he:∀ c,PE (cxComp X (T++caps.map (·.1)) scope c) elt (te c))
  (hs:∀ x,foldedSetIterable iter X.env x=pure x:=by intro _; rfl):PE X 'j' (Qu T.length caps wi g tt te):=by
 intro Jw s σ H Q I h;rw[eval_ListComp];erw[Ff (use:=Jt) rfl hs (Vl S.cells) S.kind S.loc (thn (hi Jw s σ H _ I h) λv s1 h1=>thn h1 λitv a h2=>?_)];obtain⟨it,fp,tn,J,O,e,I2,TT,st2,f2,q2⟩:=h2;subst e;refine AJ (FW S.nocell (by intro y hy; simp at hy) (λh1 hn L=>?_) S.kind);dsimp only at hn L ⊢;generalize Z:a.heap.push { cls:=.type "list",dict:=Jt,data:=.seq ([]:List c7).toArray }=G at hn L ⊢;have hCv:G.objs.size=a.heap.objs.size+1:=by rw[<- Z,B6]
 have hDC:G.objs.size≠a.heap.objs.size:=by rw[hCv]; rwa[G9 _]
 have j:a.heap.objs.size<=G.objs.size:=by rw[hCv]; rwa[Bc _]
 have old:∀ b o,a.heap.get? b=Js o->h1.get? b=Js o:=λb o e=>L.extBut b o (o9 (j5 (i5 e) j)) (c8 _ (Z ▸ c8 _ e));have hacc:∃ n,h1.get? a.heap.objs.size=Js { cls:=.type "list",data:=.seq ([]:List c7).toArray n }:=⟨_,L.extBut _ _ (Bk hDC) (c8 _ (Z ▸ j9 _ rfl))⟩;have hfp:∀ b∈fp,b<a.heap.objs.size:=λb f=>by
  obtain⟨o,e,_⟩:=TT.obj _ _ st2 b f;rwa[i5 e]
 have cs:=yy (env:=X.env) scope.names [] S.cells (λ_ _ z=>by cases z);have I0:=iQ (T:=T) (tk:=a.toks+([]:List (i9×c7)).length) S I2 f2 hfp (e9 _) j hDC old hacc hn;have st0:tn 0 h1:=TT.keep _ _ _ st2 λb _ o e=>old b o e;obtain⟨W,⟨m0,w0⟩,turn⟩:=q2 ⟨G.objs.size,a,O,fp⟩ a.heap.objs.size (I2.hok.fresh (e9 _));have fr0:∀ b∈fp,upd O a.heap.objs.size (.lst []) b=none:=λb f=>by
  rw[zH (o9 (hfp b f))];exact(f2 b f).1
 have B:∀{C:Hp},(∀ b∈fp,C b=Jt)->∀ b∈fp,Xo (cxComp X (T++caps.map (·.1)) scope ⟨G.objs.size,a,O,fp⟩) [] C b:=λ{C} hn' b f =>
  ⟨hn' b f,o9 (j5 (hfp b f) j),I0.ok.exfs b f,.inl f,λx c e=>(f2 b f).2.2.2.2.1 x c (cs x c e),λp hp=>y9 (show p∈([]:List (c5×By)) from hp) 'd'⟩
 have M:codeAny 'b' X.A (.compLoop 'j' 0 (.ref it) (.ref a.heap.objs.size) (compEnvC scope (pL X.env scope.names []) G.objs.size X.env))
   (compPost 'b' X.A X.xe Jt (EP X Jw σ Q) (.ref a.heap.objs.size) G.objs.size) { a with heap:=h1,toks:=a.toks+([]:List (i9×c7)).length }:=by
  erw[codeAny_loop rfl (λn s'=>∃ i q P C,Inv (cxComp X (T++caps.map (·.1)) scope ⟨G.objs.size,a,O,fp⟩) [] q C s'/\tn i s'.heap/\(∀ b∈fp,C b=Jt)/\W i n q P C) (λn s3 hI=>?_) m0 ⟨0,_,[],_,I0,st0,fr0,w0⟩];obtain⟨i,E,P,H3,I3,st3,fr3,w3⟩:=hI;show wpAny _ X.A ((compTurn 'j' 0 (.ref it) (.ref a.heap.objs.size) (compEnvC scope (pL X.env scope.names []) G.objs.size X.env)).onRaise (λx=>do noteFrame x (compEnvC scope (pL X.env scope.names []) G.objs.size X.env); theTreesLotGoes x)) _ _ s3;erw[wpAny_noted ?_];rw[compTurn_list];erw[c6 (CO (c6 ?_))];obtain⟨hD3,R⟩:=turn i n E P H3 w3;rcases R with ⟨stop,qn⟩ | ⟨go,N,hN,step⟩
  ·erw[Zx (TT.done (cxComp X (T++caps.map (·.1)) scope ⟨G.objs.size,a,O,fp⟩) rfl rfl rfl hc i [] s3 E H3 _ I3 (B fr3) st3 stop) λr s4 ⟨hr,I4⟩=>?_];subst hr;erw[f8 ?_];show ∃ m,s4.heap.Ns G.objs.size m/\∀ h',Cj G.objs.size s4.heap h'->EP X Jw σ Q (.ref a.heap.objs.size) { s4 with heap:=h' };obtain⟨m4,hn4,_⟩:=I4.loc;erw[m4,hn4,λh' sb=>⟨.ref a.heap.objs.size,H3,?_,rfl,qn⟩];refine I2.call' (s':={ s4 with heap:=h' }) (ch:=fp) I4.os (Un.same I4.base sb (FQ j)) (HOk.same I4.hok sb I4.free) I4.bare λb f=>?_;obtain⟨_,f1,_,f3,f4,f5⟩:=f2 b f;rwa[f3,f1,f4,f5]
  ·refine Zx (TT.item (cxComp X (T++caps.map (·.1)) scope ⟨G.objs.size,a,O,fp⟩) rfl rfl rfl hc i [] s3 E H3 _ I3 (B fr3) st3 go) λr s4 ⟨u,hr,h4⟩=>?_;subst hr;refine c6 (Zx h4 λ_ s5 ⟨x,H5,I5,r5,y5,Y,fr5⟩=>?_);have I5':=I5.pinned (B fr5) (TT.obj _ _ Y);refine c6 (Zx (hg _ _ s5 E H5 x u _ I5' r5 (step x H5 y5)) λ_ s6 ⟨D,H6,I6,q6⟩=>?_);have again:∀{s7:d7}{l:St}{zs:List V}{H7:Hp},Inv (cxComp X (T++caps.map (·.1)) scope ⟨G.objs.size,a,O,fp⟩) ([]++ip fp s5.heap) l H7 s7->N l zs H7 ->
     ∃ m,m<n/\∃ i q P C,Inv (cxComp X (T++caps.map (·.1)) scope ⟨G.objs.size,a,O,fp⟩) [] q C s7/\tn i s7.heap/\(∀ b∈fp,C b=Jt)/\W i m q P C:=λ{s7 l zs H7} I7 n7=>by
    obtain⟨m',hm,w7⟩:=hN l zs H7 n7;erw[m',hm,i+1,l,zs,H7,I7.unpinned,TT.keep _ _ _ Y λb f o e=>(I7.pin (b,o) (t7 _ (t7 _ (sW f e)))).1,λb f=>?_,w7];obtain⟨o,e,d⟩:=TT.obj _ _ Y b f;exact(I7.pin (b,o) (t7 _ (t7 _ (sW f e)))).2.1
   erw[c6 (Zx (ht _ _ s6 D H6 _ I6 q6) λok s7 ⟨H7,I7,q7⟩=>?_)];cases ok with
   | false=>rwa[f8 ⟨rfl,again I7 q7⟩]
   | true =>
    erw[c6 (c6 (Zx (he _ _ s7 D H7 _ I7 q7) λy s8 ⟨yv,H8,I8,r8,hD8,hl8,q8⟩=>?_))];erw[c6 (Zx (kQ _ s8 D H8 (.ref a.heap.objs.size) [yv] (.ref a.heap.objs.size) [y] (λ_ H9=>N D (P++[yv]) H9) I8 rfl (.cons r8 .nil) ⟨_,P,yv,rfl,rfl,hD8,hl8,q8⟩) λ_ s9 ⟨_,H9,I9,_,q9⟩=>?_)];rwa[f8 (f8 ⟨rfl,again I9 q9⟩)]
 rwa[codeAny_compStart_list M (TT.self _ 0 _ _ _ st0 M)]
end
end L2

namespace L2

def ux:bootBuiltins "len" = Js (.builtin "len"):=by ac_nf
def OC:bootBuiltins "abs" = Js (.builtin "abs"):=by ac_nf
def XT:bootBuiltins "all" = Js (.builtin "all"):=by ac_nf
def Pf:bootBuiltins "max" = Js (.builtin "max"):=by ac_nf
def Nz:bootBuiltins "min" = Js (.builtin "min"):=by ac_nf
def SO:bootBuiltins "int" = Js (.type "int"):=by ac_nf
def ue:bootBuiltins "list" = Js (.type "list"):=by ac_nf
def gQ:bootBuiltins "tuple" = Js (.type "tuple"):=by ac_nf
def Has(P:o7)(w:w9)(K:b8)(mg:i9->Option c7)(base:Ae)(x:i9)(n:Nat)(a:List i9)(b:Sp):Prop :=
 ∃(f:c5)(fd:AW),yI P w K mg base CX0 n f fd a b/\oN K fd a []/\AT K (.ref f)=Ju/\mg x=Js (.ref f)
section
variable{X:Cx}{x:i9}{p pos:Dg}{e:Av}{es:List Av}{t:TA}{n:Nat}{ps:List i9}{sp:Sp}
def zZ(h:Has X.prog X.w X.K X.mg X.base x n ps sp)(d:Room n X.A)(g:Gl X x)(j:PA X (e::es) t)(c:(x ==("__debug__" : i9))=false:=by decide)
  (i:starEach (e::es) X.env=(Jv,eval e X.env)::starEach es X.env:=by rfl) (a:(backTo pos (starEach es X.env)).any (·.1)=false:=by rfl):PE X 't' (Yd sp [] E0 t):=by
 obtain⟨f,fd,F,b,k,m⟩:=h;rwa[Qc F d g m k b .nil ZR j c i a]
end

section
variable{X:Cx}
def uy(i j:Int):Prop:=0<j/\j.natAbs<2^4096
def Uc:OpR X (binaryOp .FloorDiv) (rI uy λi j=>.int (i/j)):=opI λi j _ _ _ _ _ a q=>by
 have h1:(0:Int)<j:=a.1;have h3:j.natAbs.log2<9000:=IK ((IY (by lia)).mpr a.2) 'a';rwa[floordiv_int (by lia) (by rw[Int.fdiv_eq_ediv_of_nonneg i (by lia)]; exact q) (.inl (PyProof.noPylong_of_log2 h3))]
def uy.of{i j:Int}(h:0<j)(h2:j<10^600):uy i j:=by
 exists h;have e:(10:Nat)^600<2^4096:=by ac_nf
 lia
def kB(i j:Int):Prop:=i.natAbs<2^4096/\j.natAbs<2^4096
def hJ{i:Int}(h:i.natAbs<2^4096):Ga i<=2^20:=by
 unfold Ga;split
 ·rwa[Aa _]
 ·have q:i.natAbs.log2<4096:=by
   rcases Gx i.natAbs with h0 | a
   ·rw[h0]; decide
   ·exact(IY (DB a)).mpr h
  have e:(2:Nat)^20=1048576:=by decide
  lia
def xN:OpR X (binaryOp .Mult) (rI kB λi j=>.int (i*j)):=opI λ_ _ _ _ _ _ _ a q=>mul_int q (IntMulOk.of_bits (hJ a.1) (hJ a.2))

def Sq(K:b8)(H:Hp)(p:c5)(xs:List V):Prop:=SqL K H p xs\/SqT K H p xs
inductive RIx(K:b8)(x y:V)(H:Hp)(Q:VK):Prop where
 | mk (p:c5) (xs:List V) (i:Int) (v:V) (ex:x=.ref p) (ey:y=.int i) (sq:Sq K H p xs) (at':atI xs i=Js v) (q:Q v H)
def NV(K:b8):R2:=λx y H Q=>RIx K x y H Q
def vB:IxR X (NV X.K):=by
 intro value slice j s b H x y v u Q I d c q e;obtain⟨p,xs,i,z,h,g,a,f,q⟩:=q;rcases a with a | a
 ·rwa[Qo value slice j s b H x y v u Q I d c ⟨p,xs,i,z,h,g,a,f,q⟩ e]
 ·rwa[Oi value slice j s b H x y v u Q I d c ⟨p,xs,i,z,h,g,a,f,q⟩ e]
def iSeq(K:b8)(d:TE):TI:=λc H R=>d c H λx b=>∃ a,x=.ref a/\(((∃ xs,SqL K b a xs)/\R (Itl K a) b)\/((∃ xs,SqT K b a xs)/\R (Itt K a) b))
def xL{j:TE}(B:PE X l j):PI X u l (iSeq X.K j):=by
 intro n s r H R I h;refine thn (B n s r H _ I h) λv c ⟨x,i,d,y,z⟩=>?_;obtain⟨a,e,q⟩:=z;subst e;cases y;have own:∀ b,b∈[c.heap.objs.size]->Xo X n i b:=λb m=>by
  rw[e8] at m;subst m;rwa[d.fpOk (e9 _) (d.hok.fresh (e9 _))]
 rcases q with ⟨⟨xs,g⟩,q⟩ | ⟨⟨xs,g⟩,q⟩
 ·obtain⟨f,w,p,A⟩:=d.list g;rwa[DC p.isList ⟨c.heap.objs.size,[c.heap.objs.size],_,_,i,rfl,d.kept (t':=c.toks) λb o e=>c8 _ e,dJ a _,⟨_,j9 _ rfl,rfl,rfl⟩,own,q⟩]
 ·obtain⟨f,w,p,A⟩:=d.tuple g;exact wpAny_pyIter_tuple (show c.heap.IsTuple a f.toArray from p) ⟨c.heap.objs.size,[c.heap.objs.size],_,_,i,rfl,d.kept (t':=c.toks) λb o e=>c8 _ e,ZV a _,⟨_,j9 _ rfl,rfl,rfl⟩,own,q⟩
end

section
variable{K:b8}{a D:c5}{xs:List V}{g:TG}{tt:TT}{te:TE}{σ0:St}{H1:Hp}{Q:VK}
def ka(h:Nat->St->List V->Hp->Prop)(h0:h 0 σ0 [] (upd H1 D (.lst [])))(u:∀ i d c H,i<=xs.length->h i d c H->SqL K H a xs/\H D=Js (.lst c))
  (s:∀ i x d c H,xs[i]?=Js x->h i d c H->g x d H λf v=>tt f v λb n =>
   if b=Ju then te f n λy l=>l D=Js (.lst c)/\c.length<sizeLine/\h (i+1) f (c++[y]) (upd l D (.lst (c++[y]))) else h (i+1) f c n)
  (hd:∀ d c H,h xs.length d c H->Q (.ref D) H):gM (Itl K a) D g tt te σ0 H1 Q:=by
 exists λi m d c H=>m=xs.length-i/\i<=xs.length/\h i d c H,⟨xs.length,by simp,Aa _,h0⟩;rintro i m d c H ⟨rfl,hi,p⟩;obtain⟨q,r⟩:=u i d c H hi p;exists r;by_cases j:i<xs.length
 ·erw[.inr ⟨⟨xs,xs[i],q,by simp[j]⟩,h (i+1),λo A w z=>⟨xs.length-(i+1),by lia,rfl,j,z⟩,λx w y=>?_⟩];obtain⟨e,y⟩:=y;subst e;rwa[s i x d c _ (y xs q) p]
 ·have e:i=xs.length:=by lia
  subst e;rwa[.inl ⟨⟨xs,q,e9 _⟩,hd d c H p⟩]
def Ui(h:Nat->St->List V->Hp->Prop)(h0:h 0 σ0 [] (upd H1 D (.lst [])))(u:∀ i d c H,i<=xs.length->h i d c H->SqT K H a xs/\H D=Js (.lst c))
  (s:∀ i x d c H,xs[i]?=Js x->h i d c H->g x d H λf v=>tt f v λb n =>
   if b=Ju then te f n λy l=>l D=Js (.lst c)/\c.length<sizeLine/\h (i+1) f (c++[y]) (upd l D (.lst (c++[y]))) else h (i+1) f c n)
  (hd:∀ d c H,h xs.length d c H->Q (.ref D) H):gM (Itt K a) D g tt te σ0 H1 Q:=by
 exists λi m d c H=>m=xs.length-i/\i<=xs.length/\h i d c H,⟨xs.length,by simp,Aa _,h0⟩;rintro i m d c H ⟨rfl,hi,p⟩;obtain⟨q,r⟩:=u i d c H hi p;exists r;by_cases j:i<xs.length
 ·erw[.inr ⟨⟨xs,xs[i],q,by simp[j]⟩,h (i+1),λo A w z=>⟨xs.length-(i+1),by lia,rfl,j,z⟩,λx w y=>?_⟩];obtain⟨e,y⟩:=y;subst e;rwa[s i x d c _ (y xs q) p]
 ·have e:i=xs.length:=by lia
  subst e;rwa[.inl ⟨⟨xs,q,e9 _⟩,hd d c H p⟩]
def YH{lo:Int}{n:Nat}(h:Nat->St->List V->Hp->Prop)(h0:h 0 σ0 [] (upd H1 D (.lst [])))(u:∀ i d c H,i<=n->h i d c H->H D=Js (.lst c))
  (s:∀ i d c H,i<n->h i d c H->g (.int (lo+i)) d H λf v=>tt f v λb o =>
   if b=Ju then te f o λy l=>l D=Js (.lst c)/\c.length<sizeLine/\h (i+1) f (c++[y]) (upd l D (.lst (c++[y]))) else h (i+1) f c o)
  (hd:∀ d c H,h n d c H->Q (.ref D) H):gM (Itr lo n) D g tt te σ0 H1 Q:=by
 exists λi m d c H=>m=n-i/\i<=n/\h i d c H,⟨n,by simp,Aa _,h0⟩;rintro i m d c H ⟨rfl,hi,p⟩;have r:=u i d c H hi p;exists r;by_cases j:i<n
 ·erw[.inr ⟨j,h (i+1),λq A w z=>⟨n-(i+1),by lia,rfl,j,z⟩,λx w y=>?_⟩];obtain⟨e,y⟩:=y;subst e y;rwa[s i d c _ j p]
 ·have e:i=n:=by lia
  subst e;rwa[.inl ⟨e9 _,hd d c H p⟩]
end
section
variable{K:b8}{a D:c5}{xs:List V}{g:TG}{te:TE}{σ0:St}{H1:Hp}{Q:VK}
def wG(d:Nat->St->List V->Hp->Prop)(h0:d 0 σ0 [] (upd H1 D (.lst [])))(l:∀ i c b H,i<=xs.length->d i c b H->SqL K H a xs/\H D=Js (.lst b))
  (j:∀ i x c b H,xs[i]?=Js x->d i c b H->g x c H λf m=>te f m λy h=>h D=Js (.lst b)/\b.length<sizeLine/\d (i+1) f (b++[y]) (upd h D (.lst (b++[y]))))
  (hd:∀ c b H,d xs.length c b H->Q (.ref D) H):gM (Itl K a) D g Nx te σ0 H1 Q:=ka d h0 l (λi x c b H e p=>j i x c b H e p) hd
def lg(d:Nat->St->List V->Hp->Prop)(h0:d 0 σ0 [] (upd H1 D (.lst [])))(l:∀ i c b H,i<=xs.length->d i c b H->SqT K H a xs/\H D=Js (.lst b))
  (j:∀ i x c b H,xs[i]?=Js x->d i c b H->g x c H λf m=>te f m λy h=>h D=Js (.lst b)/\b.length<sizeLine/\d (i+1) f (b++[y]) (upd h D (.lst (b++[y]))))
  (hd:∀ c b H,d xs.length c b H->Q (.ref D) H):gM (Itt K a) D g Nx te σ0 H1 Q:=Ui d h0 l (λi x c b H e p=>j i x c b H e p) hd
def za{lo:Int}{n:Nat}(d:Nat->St->List V->Hp->Prop)(h0:d 0 σ0 [] (upd H1 D (.lst [])))(l:∀ i c b H,i<=n->d i c b H->H D=Js (.lst b))
  (j:∀ i c b H,i<n->d i c b H->g (.int (lo+i)) c H λf m=>te f m λy h=>h D=Js (.lst b)/\b.length<sizeLine/\d (i+1) f (b++[y]) (upd h D (.lst (b++[y]))))
  (hd:∀ c b H,d n c b H->Q (.ref D) H):gM (Itr lo n) D g Nx te σ0 H1 Q:=YH d h0 l (λi c b H e p=>j i c b H e p) hd
end
end L2

namespace L2
def Xe:∀ bs:List Bool,(Aw bs.length).all (λi=>(bs[i]?).getD Ju)=bs.all id:=by
 intro bs;rw[Dl,Ag,Ag];constructor
 ·intro h b c;obtain⟨i,hi,e⟩:=AE c;have q:=h i (B5.mpr hi);rw[d6 hi,e] at q;rwa[q]
 ·intro h i hi;have a:=B5.mp hi;rw[d6 a];rwa[h _ (Ap a)]
def TR{bs:List Bool}(r:yQ (bs.map V.bl) a){i:Nat}(h:a[i]?=Js v):v=.bool ((bs[i]?).getD Ju):=by
 have d:=r.length;rw[ac] at d;have hi:i<a.length:=(c9.mp h).1;have b:i<bs.length:=by lia
 obtain⟨u,c,ru⟩:=r.get (i:=i) (x:=.bl bs[i]) (by rw[e7,d6 b]; rfl);rw[c] at h;cases h;rw[d6 b];rwa[ru]
section
variable{X:Cx}
def jf(m:X.calm=Ju):vA X (.builtin "all") (λxs H Q=>E2 λ(p:c5) (bs:List Bool)=>A3 (xs=[.ref p]) (SqL X.K H p (bs.map V.bl)) (Q (.bl (bs.all id)) H)):=by
 intro G s y H xs B Q I r h;obtain⟨p,bs,rfl,l,q⟩:=h;obtain⟨u,rfl,ru⟩:=yQ.one r;cases ru;obtain⟨a,f,d,C⟩:=I.list l;have c:p<s.heap.objs.size:=by
  obtain⟨_,e,_⟩:=d.isList;rwa[i5 e]
 erw[call_all_walk (DC d.isList ?_)];refine⟨s.heap.objs.size,_,_,_,_,_,λi=>(bs[i]?).getD Ju,U,Jk (A:=X.A.in1) (show X.A.in1.handled=Jt from I.ok.hd m) _ p (o9 c) a.toArray,⟨⟨_,j9 _ rfl,U,U⟩,Heap.IsList.push d.isList _⟩,λi v s Q E x n=>?_,λD j k=>?_⟩
 ·have e:=TR f (by simpa using x);subst e;rwa[BQ n]
 ·have e:(Aw a.toArray.size).all (λi=>(bs[i]?).getD Ju)=bs.all id:=by
   have g:=f.length;rw[ac] at g;rw[f7,<- g];rwa[Xe bs]
  rw[e];exact⟨.bl (bs.all id),H,I.kept (t':=j) λb o z=>k b o (λw=>by rw[e8] at w; rwa[AM _ (w ▸ i5 z)]) (c8 _ z),rfl,q⟩
end
end L2

namespace L2

end L2

namespace L2
end L2

namespace L2
def ifD{p A B:Prop}[Decidable p](h1:p->A)(h2:¬ p->B):if decide p=Ju then A else B:=by
 by_cases h:p
 ·rw[y6 (y7 h)]; rwa[h1 h]
 ·rw[y4 (by rw[y8 h]; rwa[m7])]; rwa[h2 h]
def ifN{p A B:Prop}[Decidable p](h1:¬ p->A)(h2:p->B):if (!decide p)=Ju then A else B:=by
 by_cases h:p
 ·rw[y4 (by rw[y7 h]; rwa[m7])]; rwa[h2 h]
 ·rw[y6 (by rw[y8 h]; rfl)]; rwa[h1 h]
def ifE{x y:Int}{A B:Prop}(h1:x=y->A)(h2:x≠y->B):if decide (V.int x=V.int y)=Ju then A else B :=
 ifD (λh=>h1 (V.int.inj h)) λh=>h2 λe=>h (congrArg V.int e)
def NK{x y:Int}{A B:Prop}(h1:x≠y->A)(h2:x=y->B):if (!decide (V.int x=V.int y))=Ju then A else B :=
 ifN (λh=>h1 λe=>h (congrArg V.int e)) λh=>h2 (V.int.inj h)
def zC{H:Hp}(h:H p=Jt)(o:HO):Same H (upd H p o):=λb u q=>by rw[zH (zI q h)]; rwa[q]
def Sq.same{K:b8}{H b:Hp}(h:Sq K H a xs)(e:Same H b):Sq K b a xs:=by
 rcases h with h | h
 ·rwa[.inl (e.seq h)]
 ·erw[.inr ?_];rcases h with h | h
  ·rcases h with h | ⟨o,h⟩
   ·rwa[.inl (.inl (e _ _ h))]
   ·rwa[.inl (.inr ⟨o,e _ _ h⟩)]
  ·rwa[.inr h]
def uF{ns:List Int}{i:Nat}(h:(ns.map V.int)[i]?=Js x):∃ n,ns[i]?=Js n/\x=.int n:=by
 rw[e7] at h;cases e:ns[i]? with
 | none=>rw[e] at h; cases h
 | some n=>rw[e] at h; rwa[n,rfl,(m8 h).symm]
def xX{α:Type}{l:List α}{i:Nat}{x:α}(h:l[i]?=Js x):l.take (i+1)=l.take i++[x]:=by
 rw[Az,h]; rfl
def small{n:Nat}(h:n<=1000):n<=sizeLine:=AC (zM h)
def SqT.same{K:b8}{H b:Hp}(h:SqT K H a xs)(e:Same H b):SqT K b a xs:=by
 rcases h with h | h
 ·rcases h with h | ⟨o,h⟩
  ·rwa[.inl (.inl (e _ _ h))]
  ·rwa[.inl (.inr ⟨o,e _ _ h⟩)]
 ·rwa[.inr h]
def aN(t:TT):Prop:=∀(a:St)(H:Hp)(Q c:Bool->Hp->Prop),(∀ b d,Q b d->c b d)->t a H Q->t a H c
def jM(t:TE):Prop:=∀(a:St)(H:Hp)(Q c:VK),(∀ b d,Q b d->c b d)->t a H Q->t a H c
def Wq(t:TA):Prop:=∀(a:St)(H:Hp)(Q c:List V->Hp->Prop),(∀ b d,Q b d->c b d)->t a H Q->t a H c
def QX(r:R2):Prop:=∀(x y:V)(H:Hp)(Q a:VK),(∀ b c,Q b c->a b c)->r x y H Q->r x y H a
def Oo(r:List V->Hp->VK->Prop):Prop:=∀(xs:List V)(H:Hp)(Q a:VK),(∀ b c,Q b c->a b c)->r xs H Q->r xs H a
def uv{i:Nat} : jM (Ps i):=λ_ _ _ _ a ⟨v,e,z⟩=>⟨v,e,a _ _ z⟩
def mo_c : jM (tC v):=λ_ _ _ _ a z=>a _ _ z
def XZ{c b:TE}(d:QX r)(g:jM c)(f:jM b):jM (tOp r c b):=λa _ _ _ e z=>g a _ _ _ (λ_ _ z=>f a _ _ _ (λ_ _ z=>d _ _ _ _ _ e z) z) z
def Ul{g:Int->Int->V} : QX (rI0 g):=λ_ _ _ _ _ a ⟨i,j,c,b,z⟩=>⟨i,j,c,b,a _ _ z⟩
def Nb{K:b8} : QX (NV K):=λ_ _ _ _ _ e ⟨p,xs,i,v,a,b,c,d,z⟩=>⟨p,xs,i,v,a,b,c,d,e _ _ z⟩
def gA{t:TE}(h:jM t):aN (Ta t):=λa _ _ _ b z=>h a _ _ _ (λ_ _ ⟨k,e,z⟩=>⟨k,e,b _ _ z⟩) z
def mo_b{t:TE}(h:jM t):aN (tB t):=λa _ _ _ b z=>h a _ _ _ (λ_ _ ⟨k,e,z⟩=>⟨k,e,b _ _ z⟩) z
def OX(h:aN t):aN (tNot t):=λa _ _ _ b z=>h a _ _ _ (λ_ _ z=>b _ _ z) z
def SK(h:aN t)(d:aN u):aN (tAnd t u):=λa _ _ _ c z=>h a _ _ _ (λb _ z=>by
 cases b with
 | true=>rwa[d a _ _ _ c z]
 | false=>rwa[c _ _ z]) z
def Za:Wq Pw:=λ_ _ _ _ a z=>a _ _ z
def kY{b:TE}(h:jM b)(e:Wq c):Wq (TD b c):=λa _ _ _ d z=>h a _ _ _ (λ_ _ z=>e a _ _ _ (λ_ _ z=>d _ _ z) z) z
def Qt{r:List V->Hp->VK->Prop}(b:Oo r)(h:Wq t):jM (tCB r t):=λa _ _ _ c z=>h a _ _ _ (λ_ _ z=>b _ _ _ _ c z) z
def VX{K:b8} : Oo (λxs H Q=>E2 λp a=>A3 (xs=[.ref p]) (SqL K H p a\/SqT K H p a) (Q (.int a.length) H)):=λ_ _ _ _ b ⟨p,a,e,s,z⟩=>⟨p,a,e,s,b _ _ z⟩
def mR(ns:List Int)(lo hi:Option Int):qH (ns.map V.int) lo hi=((ns.drop (HT.sIx ns.length 0 lo)).take (HT.sIx ns.length ns.length hi-HT.sIx ns.length 0 lo)).map V.int:=by
 unfold qH;rw[ac,DY,DZ]
def ifTF{b:Bool}{A B:Prop}(h1:b=Ju->A)(h2:b=Jv->B):if b=Ju then A else B:=by
 cases b with
 | true=>rwa[h1 rfl]
 | false=>rwa[h2 rfl]
end L2

namespace L2
def XE{xs a:List Int}(f:yQ (xs.map V.int) c)(e:yQ (a.map V.int) b):∀ j (h1:j<c.toArray.size) (h2:j<b.toArray.size),
  Gv A s c.toArray[j] b.toArray[j] (decide (xs[j]?=a[j]?)):=λj h1 h2=>by
 have o:=f.length;have n:=e.length;rw[ac] at o n;have v:j<c.length:=by simpa using h1
 have r:j<b.length:=by simpa using h2
 have l:j<xs.length:=by lia
 have g:j<a.length:=by lia
 obtain⟨u,q,t,ru⟩:=f.get (i:=j) (x:=.int xs[j]) (by rw[e7,d6 l]; rfl);obtain⟨w,p,m,d⟩:=e.get (i:=j) (x:=.int a[j]) (by rw[e7,d6 g]; rfl);have C:c.toArray[j]=.int xs[j] t:=by
  have z:=d6 v;rw[q] at z;rw[FX,<- m8 z,ru]
 have B:b.toArray[j]=.int a[j] m:=by
  have z:=d6 r;rw[p] at z;rw[FX,<- m8 z,d]
 rw[C,B];have y:decide (xs[j]?=a[j]?)=(xs[j] == a[j]):=by
  rw[d6 l,d6 g];by_cases h:xs[j]=a[j]
  ·rw[h]; simp
  ·rw[y8 (λz=>h (m8 z))];exact(x5.mpr h).symm
 rw[y];rwa[Gw _ _ _ _]
def bK{xs a:List Int} : ((Aw (min xs.length a.length)).all (λj=>decide (xs[j]?=a[j]?))&&xs.length == a.length)=decide (xs=a):=by
 by_cases h:xs=a
 ·subst h;rw[y7 rfl,AG];rwa[Ag.mpr λj _=>y7 rfl,by simp]
 ·rw[y8 h,Bool.and_eq_false_iff];by_cases b:xs.length=a.length
  ·left;rw[EX];intro z;apply h;rw[Ag] at z;erw[DE λj=>?_];by_cases c:j<xs.length
   ·rwa[of_decide_eq_true (z j (B5.mpr (by lia)))]
   ·rw[Bs (by lia),Bs (by lia)]
  ·right;rwa[x5.mpr b]
section
variable{X:Cx}
def rEqT(K:b8)(neg:Bool):R2:=λx y H Q=>E4 λ(a b:c5) (xs c:List Int)=>A5 (x=.ref a) (y=.ref b) (SqT K H a (xs.map V.int)) (SqT K H b (c.map V.int)) (Q (.bl (if neg then !decide (xs=c) else decide (xs=c))) H)
def Ww(p:X.A.units<cLine):OpR X (compareOp .Eq) (rEqT X.K Jv):=by
 intro w s r H x y v u Q I o n h;obtain⟨a,b,xs,c,rfl,rfl,h1,h2,q⟩:=h;cases o;cases n;obtain⟨m,f,p1,_⟩:=I.tuple h1;obtain⟨l,d,p2,_⟩:=I.tuple h2;refine SeqAt.eq_tupleAt (e:=λj=>decide (xs[j]?=c[j]?)) (show s.heap.IsTuple a m.toArray from p1) (show s.heap.IsTuple b l.toArray from p2) p (XE f d) ?_;have i:=f.length;have g:=d.length;rw[ac] at i g;rw[f7,f7,<- i,<- g,bK];rwa[.bl (decide (xs=c)),H,I,rfl,q]
def Ol(p:X.A.units<cLine):OpR X (compareOp .NotEq) (rEqT X.K Ju):=by
 intro z s r H x y v u Q I o n h;obtain⟨a,b,xs,c,rfl,rfl,h1,h2,q⟩:=h;cases o;cases n;obtain⟨m,f,p1,_⟩:=I.tuple h1;obtain⟨l,d,p2,_⟩:=I.tuple h2;refine Je (e:=λj=>decide (xs[j]?=c[j]?)) (show s.heap.IsTuple a m.toArray from p1) (show s.heap.IsTuple b l.toArray from p2) p (XE f d) X.prog X.w _ _ ?_;have i:=f.length;have g:=d.length;rw[ac] at i g;rw[f7,f7,<- i,<- g,bK];rwa[.bl (!decide (xs=c)),H,I,rfl,q]
end
def wR{rows:List Int}{P:Int->Prop}(bd:∀ x∈rows,P x){k:Int}(c:0<=k)(b:k<rows.length):∃ v:Int,atI 'm' k=Js (.int v)/\P v:=by
 have a:k.toNat<rows.length:=by lia
 erw[rows[k.toNat],?_,bd _ (Ap a)];have q:atI 'm' ((k.toNat:Nat):Int)=Js (.int rows[k.toNat]):=rE (by rw[e7,d6 a] <;> rfl);rw[show((k.toNat:Nat):Int)=k from by lia] at q;rwa[q]
def kB.of{i j:Int}(hi:i.natAbs<=10^100)(a:j.natAbs<=10^100):kB i j :=
 ⟨t6 hi 'h',t6 a 'h'⟩
def QT{n:Nat}(h:n<=10^40):n<=10^100:=d9 h 'h'
end L2

namespace L2
section
variable{X:Cx}{T:List i9}{caps:List (i9×Nat)}{scope:Cs}{elt target iter:Av}{ifs:List Av}{pos cpos:Dg}{wi:TI}{g:CC->TG}{tt:CC->TT}{te:CC->TE}
def Tb(S:zx X caps scope)(hc:X.calm=Ju)(hi:PI X target iter wi)(hg:∀ c,PG (cxComp X (T++caps.map (·.1)) scope c) target (g c))(ht:∀ c,Op (cxComp X (T++caps.map (·.1)) scope c) ifs (tt c))(he:∀ c,PE (cxComp X (T++caps.map (·.1)) scope c) elt (te c))
  {use:Option (c7->IA Unit)} {Qv:c7->d7->Prop}   {σ:St} {H:Hp} {Q:VK} (I:Inv X Jw σ H s) (h:Qu T.length caps wi g tt te σ H Q)
  (hfin:∀(D C:c5)(R:d7)(P:Hp),Inv X Jw σ P R->Q (.ref D) P->∀ m,R.heap.Ns C m->P C=Jt->C≠X.env.locals->X.s₀.heap.objs.size<=C->(∀ x c,X.env.cells.lookup x=Js c->c≠C)->(∀ p∈X.pn++Jw,p.1≠C)->compPost 'b' X.A X.xe use Qv (.ref D) C (.ok .next) R)
  (hs:∀ x,foldedSetIterable iter X.env x=pure x:=by intro _; rfl) :
  wpAny 'b' X.A (comprehension 'j' scope X.env cpos (newList []) Jv (eval iter X.env) use) Qv X.xe s:=by
 erw[Ff (use:=use) rfl hs (Vl S.cells) S.kind S.loc (thn (hi Jw s σ H _ I h) λv s1 h1=>thn h1 λitv a h2=>?_)];obtain⟨it,fp,tn,J,Z,e,I2,TT,st2,f2,q2⟩:=h2;subst e;refine AJ (FW S.nocell (by intro y hy; simp at hy) (λh1 hn O=>?_) S.kind);dsimp only at hn O ⊢;generalize hg2:a.heap.push { cls:=.type "list",dict:=Jt,data:=.seq ([]:List c7).toArray }=G at hn O ⊢;have hCv:G.objs.size=a.heap.objs.size+1:=by rw[<- hg2,B6]
 have hDC:G.objs.size≠a.heap.objs.size:=by rw[hCv]; rwa[G9 _]
 have f:a.heap.objs.size<=G.objs.size:=by rw[hCv]; rwa[Bc _]
 have old:∀ b o,a.heap.get? b=Js o->h1.get? b=Js o:=λb o e=>O.extBut b o (o9 (j5 (i5 e) f)) (c8 _ (hg2 ▸ c8 _ e));have hacc:∃ n,h1.get? a.heap.objs.size=Js { cls:=.type "list",data:=.seq ([]:List c7).toArray n }:=⟨_,O.extBut _ _ (Bk hDC) (c8 _ (hg2 ▸ j9 _ rfl))⟩;have hfp:∀ b∈fp,b<a.heap.objs.size:=λb j=>by
  obtain⟨o,e,_⟩:=TT.obj _ _ st2 b j;rwa[i5 e]
 have cs:=yy (env:=X.env) scope.names [] S.cells (λ_ _ z=>by cases z);have I0:=iQ (T:=T) (tk:=a.toks+([]:List (i9×c7)).length) S I2 f2 hfp (e9 _) f hDC old hacc hn;have st0:tn 0 h1:=TT.keep _ _ _ st2 λb _ o e=>old b o e;obtain⟨W,⟨m0,w0⟩,turn⟩:=q2 ⟨G.objs.size,a,Z,fp⟩ a.heap.objs.size (I2.hok.fresh (e9 _));have fr0:∀ b∈fp,upd Z a.heap.objs.size (.lst []) b=none:=λb j=>by
  rw[zH (o9 (hfp b j))];exact(f2 b j).1
 have B:∀{E:Hp},(∀ b∈fp,E b=Jt)->∀ b∈fp,Xo (cxComp X (T++caps.map (·.1)) scope ⟨G.objs.size,a,Z,fp⟩) [] E b:=λ{E} hn' b j =>
  ⟨hn' b j,o9 (j5 (hfp b j) f),I0.ok.exfs b j,.inl j,λx c e=>(f2 b j).2.2.2.2.1 x c (cs x c e),λp hp=>y9 (show p∈([]:List (c5×By)) from hp) 'd'⟩
 have Y:codeAny 'b' X.A (.compLoop 'j' 0 (.ref it) (.ref a.heap.objs.size) (compEnvC scope (pL X.env scope.names []) G.objs.size X.env))
   (compPost 'b' X.A X.xe use Qv (.ref a.heap.objs.size) G.objs.size) { a with heap:=h1,toks:=a.toks+([]:List (i9×c7)).length }:=by
  erw[codeAny_loop rfl (λn s'=>∃ i q ys E,Inv (cxComp X (T++caps.map (·.1)) scope ⟨G.objs.size,a,Z,fp⟩) [] q E s'/\tn i s'.heap/\(∀ b∈fp,E b=Jt)/\W i n q ys E) (λn s3 hI=>?_) m0 ⟨0,_,[],_,I0,st0,fr0,w0⟩];obtain⟨i,M,ys,P,I3,st3,fr3,w3⟩:=hI;show wpAny _ X.A ((compTurn 'j' 0 (.ref it) (.ref a.heap.objs.size) (compEnvC scope (pL X.env scope.names []) G.objs.size X.env)).onRaise (λx=>do noteFrame x (compEnvC scope (pL X.env scope.names []) G.objs.size X.env); theTreesLotGoes x)) _ _ s3;erw[wpAny_noted ?_];rw[compTurn_list];erw[c6 (CO (c6 ?_))];obtain⟨hD3,turn3⟩:=turn i n M ys P w3;rcases turn3 with ⟨stop,qn⟩ | ⟨go,N,hN,step⟩
  ·refine Zx (TT.done (cxComp X (T++caps.map (·.1)) scope ⟨G.objs.size,a,Z,fp⟩) rfl rfl rfl hc i [] s3 M P _ I3 (B fr3) st3 stop) λr R ⟨hr,I4⟩=>?_;subst hr;refine f8 ?_;obtain⟨m4,hn4,_⟩:=I4.loc;have J4:Inv X Jw σ P R:=by
    erw[I2.call' (s':=R) (ch:=fp) I4.os I4.base I4.hok I4.bare λb j=>?_];obtain⟨_,f1,_,f3,f4,f5⟩:=f2 b j;rwa[f3,f1,f4,f5]
   erw[hfin _ G.objs.size R P J4 qn m4 hn4 I4.free (DB (j5 I2.lt f)) (d9 I2.sz f) (λx c e z=>?_) (λp hp z=>?_)]
   ·obtain⟨v,qq⟩:=I2.cell x c e;rwa[y9 (j5 qq.lt (by rw[z]; exact f)) (AM _)]
   ·rwa[y9 (j5 (i5 (I2.pin p hp).1) (by rw[z]; exact f)) (AM _)]
  ·refine Zx (TT.item (cxComp X (T++caps.map (·.1)) scope ⟨G.objs.size,a,Z,fp⟩) rfl rfl rfl hc i [] s3 M P _ I3 (B fr3) st3 go) λr R ⟨u,hr,h4⟩=>?_;subst hr;refine c6 (Zx h4 λ_ s5 ⟨x,H5,I5,r5,y5,st5,fr5⟩=>?_);have I5':=I5.pinned (B fr5) (TT.obj _ _ st5);refine c6 (Zx (hg _ _ s5 M H5 x u _ I5' r5 (step x H5 y5)) λ_ s6 ⟨L,H6,I6,q6⟩=>?_);have again:∀{s7:d7}{l:St}{zs:List V}{H7:Hp},Inv (cxComp X (T++caps.map (·.1)) scope ⟨G.objs.size,a,Z,fp⟩) ([]++ip fp s5.heap) l H7 s7->N l zs H7 ->
     ∃ m,m<n/\∃ i q ys E,Inv (cxComp X (T++caps.map (·.1)) scope ⟨G.objs.size,a,Z,fp⟩) [] q E s7/\tn i s7.heap/\(∀ b∈fp,E b=Jt)/\W i m q ys E:=λ{s7 l zs H7} I7 n7=>by
    obtain⟨m',hm,w7⟩:=hN l zs H7 n7;erw[m',hm,i+1,l,zs,H7,I7.unpinned,TT.keep _ _ _ st5 λb j o e=>(I7.pin (b,o) (t7 _ (t7 _ (sW j e)))).1,λb j=>?_,w7];obtain⟨o,e,d⟩:=TT.obj _ _ st5 b j;exact(I7.pin (b,o) (t7 _ (t7 _ (sW j e)))).2.1
   erw[c6 (Zx (ht _ _ s6 L H6 _ I6 q6) λok s7 ⟨H7,I7,q7⟩=>?_)];cases ok with
   | false=>rwa[f8 ⟨rfl,again I7 q7⟩]
   | true =>
    erw[c6 (c6 (Zx (he _ _ s7 L H7 _ I7 q7) λy s8 ⟨yv,H8,I8,r8,hD8,hl8,q8⟩=>?_))];erw[c6 (Zx (kQ _ s8 L H8 (.ref a.heap.objs.size) [yv] (.ref a.heap.objs.size) [y] (λ_ H9=>N L (ys++[yv]) H9) I8 rfl (.cons r8 .nil) ⟨_,ys,yv,rfl,rfl,hD8,hl8,q8⟩) λ_ s9 ⟨_,H9,I9,_,q9⟩=>?_)];rwa[f8 (f8 ⟨rfl,again I9 q9⟩)]
 rwa[codeAny_compStart_list Y (TT.self _ 0 _ _ _ st0 Y)]
def Xr{i:Nat}{p f:Dg}(hN:X.N.Nodup)(Z:X.N[i]?=Js y)(j:X.env.scope.names.lookup y=Js .local)(S:zx X caps scope)(hc:X.calm=Ju)(hi:PI X target iter wi)(hg:∀ c,PG (cxComp X (T++caps.map (·.1)) scope c) target (g c))(ht:∀ c,Op (cxComp X (T++caps.map (·.1)) scope c) ifs (tt c))(he:∀ c,PE (cxComp X (T++caps.map (·.1)) scope c) elt (te c))
  (r:swapsWith 'j' (Js (.Name y p)) f.line X.env=pure true:=by rfl) (hs:∀ x,foldedSetIterable iter X.env x=pure x:=by intro _; rfl) :
  PS X (.Assign [.Name y p] 'j' f) (NL (Qu T.length caps wi g tt te) (ZZ i)):=by
 intro M s σ H D I h;rw[exec_Assign_Name_used _ _ _ _ r];refine c6 (CO (c6 ?_));show wpAny _ X.A (do let _ <- comprehension 'j' scope X.env _ (newList []) Jv (eval iter X.env) (Js (assign (.Name y p) X.env))) _ _ s;refine c6 (Bw (Tb (Qv:=λ_ J=>SP X M D .next J) S hc hi hg ht he I h (λD' C Q H3 J4 R Y u hC L hS d n=>?_) hs) (λ_ J hq=>f8 (f8 hq)) λ_ _ e=>e);show wpAny 'b' X.A (assign (.Name y p) X.env (.ref D')) (λ_ l=>∃ m,l.heap.Ns C m/\∀ G,Cj C l.heap G->SP X M D .next { l with heap:=G }) X.xe Q;refine GD (dh J4 hN Z (.inl j) (v:=.ref D') rfl (λP J5 B=>?_) (.inr j));obtain⟨a,O,ha⟩:=B;have E:C≠a:=by
  rcases ha with z | z
  ·rw[z]; rwa[L]
  ·rwa[λe=>d y a z e.symm]
 erw[Y,u.sameBut O E,λG q=>⟨_,H3,?_,R⟩];rwa[J5.turned (t':=P.toks) (λb o B e=>(q.2 b B).trans e) hC L (.inr hS) d n]
end
end L2

namespace L2
end L2

namespace L2
def zr:∀{rs:List c5}{b:List c7},yQ (rs.map V.ref) b->b=rs.map j4
 | [],_,r=>by cases r; rfl
 | a::rs,_,r=>by
  cases r with
  | cons d c =>
   cases d;rw[zr c];rfl
section
variable{X:Cx}
def cK(n:Nat):(Aw n).all (λ_=>Ju)=true:=Ag.mpr λ_ _=>rfl
end
def Same.putNew{H a:Hp}(s:Same H a)(h:H D=Jt):Same H (upd a D o):=λb u q=>by
 rw[zH (zI q h)];rwa[s _ _ q]
abbrev Pr:=c5×Int×Int
abbrev uq(a:List Pr):List V:=(a.map (·.1)).map V.ref
def PrOk(H:Hp)(M:Nat)(a:List Pr):Prop:=∀ t∈a,H t.1=Js (.tup [.int t.2.1,.int t.2.2])/\t.2.1.natAbs<=M/\t.2.2.natAbs<=M
def fM(a:List Pr):(uq a).length=a.length:=by simp[uq]
def oM:∀{xs a:List Int},xs.map V.int=a.map V.int->xs=a
 | [],[],_=>rfl
 | [],_::_,h=>nomatch h
 | _::_,[],h=>nomatch h
 | x::xs,y::a,h=>by
  rw[j8,j8] at h;injection h with h1 h2
  rw[V.int.inj h1,oM h2]
section
variable{X:Cx}
def WI{i:St}{H:Hp}(I:Inv X p i H s){A:An}(o:A.units<cLine){xs c:List Int}(h1:H a=Js (.tup (xs.map V.int)))(h2:H b=Js (.tup (c.map V.int))) :
  Gv A s (.ref a) (.ref b) (decide (xs=c)):=by
 by_cases e:a=b
 ·subst e;rw[h1] at h2;have z:xs=c:=oM (by injection (m8 h2));rw[y7 z];rwa[Hs _]
 ·obtain⟨n,f,p1,_⟩:=I.tuple (SqT.of h1);obtain⟨m,d,p2,_⟩:=I.tuple (SqT.of h2);have q:=SeqAt.RcAt.tuples (A:=A) (s:=s) (l:=a) (b:=b) (items:=n.toArray) (items2:=m.toArray) (e:=λj=>decide (xs[j]?=c[j]?)) p1 p2 o (XE f d);have h:=f.length;have g:=d.length;rw[ac] at h g;rw[f7,f7,<- h,<- g,bK] at q;rwa[SeqAt.EqAt.of_refs e q]
end
end L2

namespace L2
def crs(p q r:Int×Int):Int:=(q.1-p.1)*(r.2-p.2)-(q.2-p.2)*(r.1-p.1)
def ptA(a:List (c5×Int×Int))(i:Nat):Int×Int:=((a[i]?).map (·.2)).getD (0,0)
def leftB(a:List (c5×Int×Int))(i k:Nat):Bool:=decide (0<crs (ptA a i) (ptA a ((i+1)%a.length)) (ptA a k))
def QU(a:List (c5×Int×Int))(i:Nat):Bool:=(Aw (a.length-2)).all λj=>leftB a i ((i+(2+j))%a.length)
def isB(a:List (c5×Int×Int)):Bool:=decide (3<=a.length)&&(decide (a.length<=8)&&(Aw a.length).all (QU a))
end L2

namespace PySem.W
open PySem PySem.Calls PyProof.Rows
def sU{α:Type}(n:Nat)(lt:Nat->Nat->Bool):KasT α->(α->Prop)->Prop
 | .ret a,Q=>Q a
 | .ask i j k,Q=>i<n/\j<n/\sU n lt (k (lt i j)) Q
def sU.bind{α b:Type}{n:Nat}{lt:Nat->Nat->Bool}{f:α->KasT b}{Q:b->Prop} : ∀{t:KasT α},sU n lt t (λa=>sU n lt (f a) Q)->sU n lt (t.bind f) Q
 | .ret _,h=>h
 | .ask _ _ _,h=>⟨h.1,h.2.1,sU.bind h.2.2⟩
def sU.wp{α:Type}{n:Nat}{lt:Nat->Nat->Bool}{b:Nat->Nat->(Bool->d7->Prop)->d7->Prop}{P:α->Prop}{Q:α->d7->Prop}{s:d7}
  (d:∀ i j (C:Bool->d7->Prop),i<n->j<n->C (lt i j) s->b i j C s) (c:∀ a,P a->Q a s):∀{t:KasT α},sU n lt t P->t.kasWp b Q s
 | .ret a,h=>c a h
 | .ask i j _,h=>d i j _ h.1 h.2.1 (sU.wp d c h.2.2)
section
variable{O:KeyOrd}(key:Nat->O.α)
def KP(p:Array Nat)(i:Nat):O.α:=key (p.getD i 0)
def SoT(p:Array Nat)(k:Nat):Prop:=∀ i j,i<=j->j<k->O.kle (KP key p i) (KP key p j)
def NiT(p:Array Nat)(k:Nat):Prop:=∀ i j,i<=j->j<k->O.kle (KP key p j) (KP key p i)
structure PIn(n:Nat)(p:Array Nat):Prop where
 perm:p.Perm (Aj (Aw n))
variable{key}{n:Nat}
def PIn.size(h:PIn n p):p.size=n:=by rw[h.perm.size_eq]; simp
def PIn.lt(h:PIn n p){i:Nat}(hi:i<n):p.getD i 0<n:=by
 have b:=h.size;have e:p.getD i 0=p[i]'(by lia):=by simp[HJ,show i<p.size by lia]
 rw[e];have a:p[i]'(by lia)∈p.toList:=by simp
 have:=(Ey.mp h.perm).mem_iff.mp a;simpa using this
def PIn.rev(h:PIn n p)(i j:Nat):PIn n (kas_rev p i j):=⟨(mirror_perm _ _ _ _).trans h.perm⟩
def PIn.bub(h:PIn n p)(i j:Nat):PIn n (bubble p i j):=⟨(bubble_perm _ _ _).trans h.perm⟩
def sk{p q:Array Nat}{i j:Nat}(h:p[i]?=q[j]?):KP key p i=KP key q j:=by
 unfold KP; rw[Em,Em,h]
def Sn{p:Array Nat}{src d:Nat}(a:src<p.size)(hd:d<=src)(k:Nat) :
  KP key (bubble p src d) k=if k=src-d then KP key p src else if src-d<k/\k<=src then KP key p (k-1) else KP key p k:=by
 have e:=getElem?_bubble a d hd k;split
 ·rename_i h; rw[y6 h] at e; rwa[sk e]
 ·rename_i h
  rw[y4 h] at e;split
  ·rename_i h2; rw[y6 h2] at e; rwa[sk e]
  ·rename_i h2; rw[y4 h2] at e; rwa[sk e]
def WV{p:Array Nat}{i j:Nat}(a:j<=p.size)(k:Nat):KP key (kas_rev p i j) k=if i<=k/\k<j then KP key p (i+j-1-k) else KP key p k:=by
 have e:=getElem?_mirror_all (i:=i) a k;split
 ·rename_i h; rw[y6 h] at e; rwa[sk e]
 ·rename_i h; rw[y4 h] at e; rwa[sk e]
def yi{p:Array Nat}{i j:Nat}(b:j<=p.size)(a:∀ k,i<=k->k<j->KP key p k=KP key p (j-1))(k:Nat):KP key (kas_rev p i j) k=KP key p k:=by
 rw[WV b];split
 ·rw[a _ (by lia) (by lia),a k (by lia) (by lia)]
 ·rfl
abbrev ltK(key:Nat->O.α)(i j:Nat):Bool:=O.blt (key i) (key j)

def Rq : SoT key p 1:=by
 intro i j a b;have e:i=j:=by lia
 subst e;rwa[BV _]
def aU(d:PIn n p){Q:Nat->Prop} : ∀(f a:Nat),1<=a->a+f<=n->SoT key p a ->
  (∀ m,a<=m->m<=a+f->SoT key p m->(m=a+f\/O.klt (KP key p m) (KP key p (m-1)))->Q m)->sU n (ltK key) (kas_asc p f a) Q
 | 0,a,_,_,b,q=>q a (e9 _) (by lia) b (.inl rfl)
 | f+1,a,h1,u,b,q=>by
  exists d.lt (by lia),d.lt (by lia);dsimp only;by_cases c:ltK key (p.getD a 0) (p.getD (a-1) 0)=Ju
  ·rw[y6 c];rwa[q a (e9 _) (by lia) b (.inr c)]
  ·rw[y4 c];erw[aU d f (a+1) (by lia) (by lia) (λi j h v=>?_) λm s r o l=>q m (by lia) (by lia) o (l.imp (by lia) id)];by_cases e:j<a
   ·rwa[b i j h e]
   ·have g:j=a:=by lia
    subst g;by_cases hi:i=j
    ·subst hi; rwa[BV _]
    ·rwa[DQ (b i (j-1) (by lia) (by lia)) (Cd c)]

def cX(b:PIn n p){m:Nat}{Q:Nat×Array Nat->Prop}(h1:1<=m)(e:m<=n)(d:NiT key p m)
  (q:∀ k a,PIn n a->1<=k->k<=n->SoT key a k->Q (k,a)):sU n (ltK key) (kas_tail3 m n p) Q:=by
 have c:m<=p.size:=by rw[b.size]; rwa[e]
 erw[sU.bind (aU (b.rev 0 m) (n-m) m h1 (by lia) (λi j g o=>?_) λk l h f _=>q k _ (b.rev 0 m) (by lia) (by lia) f)];rw[WV c,WV c,y6 (by lia),y6 (by lia)];rwa[d _ _ (by lia) (by lia)]

def mG{Q:Array Nat×Nat×Nat->Prop} : ∀(f:Nat)(p:Array Nat)(a e:Nat),PIn n p->1<=a->a+f=n->NiT key p a->e+1<=a->(∀ i,a-(e+1)<=i->i<a->KP key p i=KP key p (a-1)) ->
  (∀ d m e',PIn n d->1<=m->m<=n->NiT key d m->e'+1<=m->(∀ i,m-(e'+1)<=i->i<m->KP key d i=KP key d (m-1))->Q (d,m,e'))->sU n (ltK key) (kas_desc f p a e) Q
 | 0,p,a,e,b,h1,B,g,u,c,q=>q p a e b h1 (by lia) g u c
 | f+1,p,a,e,b,h1,B,g,u,c,q=>by
  have z:a<=p.size:=by rw[b.size]; lia
  exists b.lt (by lia),b.lt (by lia);dsimp only;by_cases r:ltK key (p.getD a 0) (p.getD (a-1) 0)=Ju
  ·rw[y6 r];have step:∀ d,(∀ k,KP key d k=KP key p k)->NiT key d (a+1):=by
    intro d x i j o A;rw[x,x];by_cases h:j<a
    ·rwa[g i j o h]
    ·have l:j=a:=by lia
     subst l;by_cases hi:i=j
     ·subst hi; rwa[BV _]
     ·rwa[DQ (DF r) (g i (j-1) (by lia) (by lia))]
   split
   ·rwa[mG f _ (a+1) 0 (b.rev _ _) (by lia) (by lia) (step _ (yi z c)) (by lia) (λi w v=>by congr 1; lia) q]
   ·rwa[mG f p (a+1) 0 b (by lia) (by lia) (step _ λ_=>rfl) (by lia) (λi w v=>by congr 1; lia) q]
  ·rw[y4 r];exists b.lt (by lia),b.lt (by lia);dsimp only;by_cases s:ltK key (p.getD (a-1) 0) (p.getD a 0)=Ju
   ·rw[y6 s];rwa[q p a e b h1 (by lia) g u c]
   ·rw[y4 s];have y:KP key p a=KP key p (a-1):=Gb (Cd s) (Cd r);erw[mG f p (a+1) (e+1) b (by lia) (by lia) (λi j o A=>?_) (by lia) (λi w v=>?_) q]
    ·by_cases h:j<a
     ·rwa[g i j o h]
     ·have l:j=a:=by lia
      subst l;by_cases hi:i=j
      ·subst hi; rwa[BV _]
      ·rw[y]; rwa[g i (j-1) (by lia) (by lia)]
    ·rw[show a+1-1=a by lia];by_cases hi:i=a
     ·rw[hi]
     ·rw[y]; rwa[c i (by lia) (by lia)]

def ni(r:PIn n p){m:Nat}{Q:Nat×Array Nat->Prop}(w:m+1<=n)(o:NiT key p (m+1))
  (q:∀ k b,PIn n b->1<=k->k<=n->SoT key b k->Q (k,b)):sU n (ltK key) (kas_descPart m n p) Q:=by
 erw[sU.bind (mG (n-(m+1)) p (m+1) 0 r (by lia) (by lia) o (by lia) (λi v u=>by congr 1; lia) λb k e a h f c x d=>?_)];have l:k<=b.size:=by rw[a.size]; rwa[f]
 dsimp only;split
 ·erw[cX (a.rev _ _) h f (λi j g s=>?_) q];rw[yi l d,yi l d];rwa[c i j g s]
 ·rwa[cX a h f c q]

def WE(b:PIn n p){Q:Nat×Array Nat->Prop}(B:1<=n)
  (q:∀ k f,PIn n f->1<=k->k<=n->SoT key f k->Q (k,f)):sU n (ltK key) (kas_count n p) Q:=by
 erw[sU.bind (aU b (n-1) 1 (e9 _) (by lia) Rq λm v A e x=>?_)];have w:m<=p.size:=by rw[b.size]; lia
 by_cases c:m=n
 ·rw[y6 (by simpa using c)];rwa[q m p b v (by lia) e]
 ·rw[y4 (by simpa using c)];have d:O.klt (KP key p m) (KP key p (m-1)):=x.resolve_left (by lia);split
  ·exists b.lt (by lia),b.lt (by lia);dsimp only;by_cases g:ltK key (p.getD 0 0) (p.getD (m-1) 0)=Ju
   ·rw[y6 g];rwa[q m p b v (by lia) e]
   ·rw[y4 g];have a:∀ k,0<=k->k<m->KP key p k=KP key p (m-1):=by
     intro k _ y;have a1:=e 0 k (by lia) y;have a2:=e k (m-1) (by lia) (by lia);rwa[Gb a2 (DQ (Cd g) a1)]
    erw[ni (b.rev _ _) (by lia) (λi j s z=>?_) q];rw[yi w a,yi w a];by_cases l:j<m
    ·rw[a i (by lia) (by lia),a j (by lia) l]; rwa[BV _]
    ·have r:j=m:=by lia
     subst r;by_cases hi:i=j
     ·subst hi; rwa[BV _]
     ·rw[a i (by lia) (by lia)]; rwa[DF d]
  ·have h:m=1:=by lia
   subst h;erw[ni b (by lia) (λi j s z=>?_) q];by_cases hi:i=j
   ·subst hi; rwa[BV _]
   ·have u:i=0:=by lia
    have o:j=1:=by lia
    subst u; subst o;rwa[DF d]

def kH(c:PIn n p){k:Nat}(e:k<n)(b:SoT key p k){Q:Nat->Prop}
  (q:∀ l,l<=k->(∀ i,i<l->O.kle (KP key p i) (KP key p k))->(∀ i,l<=i->i<k->O.klt (KP key p k) (KP key p i))->Q l):∀(f l r:Nat),l<=r->r<=k->r-l<=f ->
   (∀ i,i<l->O.kle (KP key p i) (KP key p k))->(∀ i,r<=i->i<k->O.klt (KP key p k) (KP key p i))->sU n (ltK key) (kas_place p k f l r) Q
 | 0,l,r,h1,h2,h3,lo,hi=>q l (by lia) lo (by rw[show l=r by lia]; rwa[hi])
 | f+1,l,r,h1,h2,h3,lo,hi=>by
  show sU n (ltK key) (if l >= r then _ else _) Q;by_cases a:l >= r
  ·rw[y6 a];exact q l (by lia) lo (by rw[show l=r by lia]; rwa[hi])
  ·rw[y4 a];exists c.lt e,c.lt (by lia);dsimp only;by_cases d:ltK key (p.getD k 0) (p.getD ((l+r)/2) 0)=Ju
   ·rw[y6 d];rwa[kH c e b q f l ((l+r)/2) (by lia) (by lia) (by lia) lo λi g h=>KeyOrd.klt_of_klt_of_kle d (b _ _ g h)]
   ·rw[y4 d];rwa[kH c e b q f ((l+r)/2+1) r (by lia) h2 (by lia) (λi g=>DQ (b i ((l+r)/2) (by lia) (by lia)) (Cd d)) hi]

def XX{Q:Array Nat->Prop}(q:∀ d,PIn n d->SoT key d n->Q d):∀(f:Nat)(p:Array Nat)(k:Nat),PIn n p->k+f=n->SoT key p k->sU n (ltK key) (kas_bin f p k) Q
 | 0,p,k,a,h,c=>q p a (by rw[<- h]; rwa[c])
 | f+1,p,k,a,h,c=>by
  have b:k<p.size:=by rw[a.size]; lia
  erw[sU.bind (kH a (by lia) c (λl g lo hi=>?_) k 0 k (by lia) (by lia) (by lia) (λi hi=>y9 hi (by lia)) (λi h1 h2=>y9 h2 (by lia)))];erw[XX q f _ (k+1) (a.bub _ _) (by lia) λi j e m=>?_];rw[Sn b (by lia),Sn b (by lia),show k-(k-l)=l by lia]
  repeat' split
  all_goals first
   | (exfalso; lia)
   | exact BV _
   | exact lo _ (by lia)
   | exact DF (hi _ (by lia) (by lia))
   | exact c _ _ (by lia) (by lia)

def Uh{Q:Array Nat->Prop}(f:2<=n)(q:∀ a,PIn n a->SoT key a n->Q a):sU n (ltK key) (kas_sort n) Q:=by
 erw[sU.bind (WE ⟨FF _⟩ (by lia) λk p c e d b=>?_)];dsimp only;split
 ·rw[show max k 1=k by lia];rwa[XX q (n-k) p k c (by lia) b]
 ·exact q p c (by rw[show n=k by lia]; rwa[b])
end
end PySem.W

namespace PySem.W
open PySem PySem.Calls PyProof.Rows
section
variable{prog:o7}{w:w9}{A:An}{E:c7->d7->Prop}{s:d7}
def qL(h:Ae)(a:c5)(b:List c7):Ae:=((h.update a (t5 λ_=>#[])).push (seqObj "tuple" b.toArray 0)).push (seqObj "list" #[] 0)
def bE{h:Ae}{a b:c5}(d:b≠a)(e:h.get? b=Js o):(qL h a c).get? b=Js o:=by
 unfold qL;erw[c8 _ (c8 _ ?_)];rw[Df _ _ _ _ d];rwa[e]
def ZS{b:List c7}{n:Nat}{G:List c7->Prop}{P:ID->d7->Prop}(q:s.heap.get? a=Js (seqObj "list" b.toArray n))(u:b.length<64)
  (D:2<=b.length->∀ Q:FY->d7->Prop,Q x { s with heap:=qL s.heap a b }->wpAny 'k' A (keyKind' b.toArray) Q E { s with heap:=qL s.heap a b })
  (ask:2<=b.length->(kas_sort b.length).kasWp (kas_ask prog w A x b) (λp l=>l={ s with heap:=qL s.heap a b }/\G (p.toList.map λi=>b.getD i Am)) { s with heap:=qL s.heap a b })
  (few:b.length<2->G b)
  (h:∀ out:List c7,out.length=b.length->G out->P (.done (.ret .none)) { s with heap:=sortedHeap s.heap a b out.toArray }) :
  wpAny 'k' A (Eh.«list.sort» ⟨[.ref a],[]⟩) P E s:=by
 have L:a<s.heap.objs.size:=i5 q;obtain⟨v,o⟩:∃ v,(s.heap.update a (t5 λ_=>(#[]:Array c7))).get? a=Js (seqObj "list" #[] v):=⟨_,get?_update_seq q λ_=>#[]⟩;have g:(qL s.heap a b).get? a=Js (seqObj "list" #[] v):=c8 _ (c8 _ o);rw[list_sort_plain];erw[c6 (listItems_at q rfl ?_)];erw[c6 (listUpdate_at q rfl ?_ (by rw[f7,sizeLine_eq]; lia) (Aa _))];erw[c6 (seqEpoch_at o rfl ?_)];refine c6 (FZ ?_ (by show b.length<=_; rw[sizeLine_eq]; lia));erw[c6 (Di ?_ (Aa _))];erw[Bz ?_];show wpAny 'k' A _ P E { s with heap:=qL s.heap a b };dsimp only;by_cases h2:b.toArray.size<2
 ·rw[y6 h2,y6 h2];rw[f7] at h2;refine c6 (f8 ?_);rw[FG];refine c6 (f8 ?_);dsimp only;refine c6 (seqEpoch_at g rfl ?_);have d:(b.toArray.zip b.toArray).map (·.2)=b.toArray:=by
   apply Fg.mp;rw[Array.toList_map,Array.toList_zip];rwa[Ha (e9 _)]
  refine c6 (listUpdate_at g rfl ?_ (Aa _) (by
   erw[d9 (Ej ((congrArg Array.size d).trans f7)) ?_];rw[sizeLine_eq]; lia))
  simp only[bne_self_eq_false,Bh,if_false];erw[f8 ?_];have y:=h b rfl (few h2);rw[<- d] at y;rwa[y]
 ·rw[y4 h2,y4 h2];rw[f7] at h2;have j:2<=b.length:=by lia
  refine c6 (D j _ ?_);refine c6 (Bw (kat_run (E:=E) (Q:=λf l=>l={ s with heap:=qL s.heap a b }/\∃ p:Array Nat,p.size=b.length/\arrOf f=p.map (kas_item (b.toArray.zip b.toArray))/\failedOf f=Jt/\G (p.toList.map λi=>b.getD i Am))
   rfl j u (λB f l a1 a2 J z=>⟨z.1,B,a1,a2,J,z.2⟩) (ask j)) ?_ λ_ _ e=>e)
  rintro⟨⟨⟩,f⟩ l ⟨rfl,p,C,r,I,H⟩;dsimp only;have d:=kat_snds rfl r;have m:(p.toList.map λi=>b.getD i Am).length=b.length:=by rw[ac,Ay,C]
  rw[d];erw[c6 (seqEpoch_at g rfl ?_)];erw[c6 (listUpdate_at g rfl ?_ (Aa _) (by rw[f7,m,sizeLine_eq]; lia))];rw[I];simp only[bne_self_eq_false,Bh,if_false];rwa[f8 (h _ m H)]
def vC(h:Ae)(a:List c7):Ae:=((h.push (seqObj "list" #[] 0)).update h.objs.size (t5 (· ++ a.toArray))).push (seqObj "list" a.toArray 0)
def lH{h:Ae}(e:h.get? b=Js o):(vC h c).get? b=Js o:=by
 have a:b<h.objs.size:=i5 e;unfold vC;erw[c8 _ ?_];rw[Df _ _ _ _ (o9 a),Heap.get?_push_ne _ _ _ (o9 a)];rwa[e]
def VM{a:List c7}{G:List c7->Prop}{Q:c7->d7->Prop}(u:s.heap.IsList l a.toArray)(n:a.length<64)
  (v:2<=a.length->∀ c:d7,(∀ b o,s.heap.get? b=Js o->c.heap.get? b=Js o)->∀(z:c7->d7->Prop)(Q:FY->d7->Prop),Q κ c->wpAny 'k' A.in1.in1 (keyKind' a.toArray) Q z c)
  (ask:2<=a.length->∀ c:d7,(∀ b o,s.heap.get? b=Js o->c.heap.get? b=Js o)->(kas_sort a.length).kasWp (kas_ask prog w A.in1.in1 κ a) (λp g=>g=c/\G (p.toList.map λi=>a.getD i Am)) c)
  (few:a.length<2->G a)
  (h:∀ out:List c7,out.length=a.length->G out->Q (.ref 'c') { s with heap:=sortedAll s.heap a out.toArray }) :
  wpAny 'k' A (call (.builtin "sorted") [.ref l]) Q E s:=by
 refine EO kind_sorted plain_sorted entry_sorted (args_sorted1 _) ?_;unfold Eh.«sorted»;refine c6 (m:=checkCount "sorted" 1 1 _) (f8 ?_);refine c6 (collect_list u ?_ (by rw[sizeLine_eq]; lia));refine c6 (Di ?_ (by rw[sizeLine_eq]; lia));have d:((s.heap.push (seqObj "list" #[] 0)).update s.heap.objs.size (t5 (· ++ a.toArray))).objs.size=s.heap.objs.size+1:=by
  rw[Fh,size_push']
 have f:(vC s.heap a).get? 'c'=Js (seqObj "list" a.toArray 0):=by
  unfold vC;rw[<- d]; rwa[j9 _ rfl]
 have keep:∀ b o,s.heap.get? b=Js o->(qL (vC s.heap a) 'c' a).get? b=Js o:=λb o e=>by
  have j:b<s.heap.objs.size:=i5 e;rwa[bE (o9 (Cn j)) (lH e)]
 show wpAny _ _ _ _ _ { s with heap:=vC s.heap a };rw[d];erw[c6 (Bz (Cz slot_list_sort ⟨_,f,rfl⟩ entry_list_sort ?body (args_list_sort _)))]
 case body =>
  exact ZS (s:={ s with heap:=vC s.heap a }) f n (λh2 y r=>v h2 _ keep _ y r) (λh2=>ask h2 _ keep) few λout q x=>⟨_,rfl,f8 ⟨_,rfl,h out q x⟩⟩
end
end PySem.W

namespace L2
open PySem PySem.Spec PyProof.Rows PySem.W
def cZ:∀ a:List Int,HT.lexLt a a=Jv
 | []=>rfl
 | x::xs=>by rw[HT.lexLt_cons,y6 rfl]; rwa[cZ xs]
def Zv:∀ a b c:List Int,HT.lexLt a b=Ju->HT.lexLt b c=Ju->HT.lexLt a c=Ju
 | [],[],_,h,_=>nomatch h
 | [],_::_,[],_,h=>nomatch h
 | [],_::_,_::_,_,_=>rfl
 | _::_,[],_,h,_=>nomatch h
 | _::_,_::_,[],_,h=>nomatch h
 | x::xs,y::g,z::f,h1,h2=>by
  rw[HT.lexLt_cons] at h1 h2 ⊢;by_cases e:x=y
  ·rw[y6 e] at h1;by_cases d:y=z
   ·rw[y6 d] at h2;rw[y6 (e.trans d)];rwa[Zv xs g f h1 h2]
   ·rw[y4 d] at h2;rw[y4 (by lia),e];rwa[h2]
  ·rw[y4 e] at h1;have j:=of_decide_eq_true h1;by_cases d:y=z
   ·rw[y4 (by lia),<- d];rwa[h1]
   ·rw[y4 d] at h2;have i:=of_decide_eq_true h2;rw[y4 (by lia)];rwa[y7 (by lia)]
def Zy:∀ a b c:List Int,HT.lexLt a c=Ju->HT.lexLt a b=Ju\/HT.lexLt b c=Ju
 | [],_,[],h=>nomatch h
 | [],[],_::_,_=>.inr rfl
 | [],_::_,_::_,_=>.inl rfl
 | _::_,_,[],h=>nomatch h
 | _::_,[],_::_,_=>.inr rfl
 | x::xs,y::i,z::f,h=>by
  rw[HT.lexLt_cons] at h ⊢;rw[HT.lexLt_cons];by_cases e:x=y
  ·by_cases d:y=z
   ·rw[y6 (e.trans d)] at h;rw[y6 e,y6 d];rwa[Zy xs i f h]
   ·rw[y4 (by lia)] at h;right;rw[y4 d,<- e];rwa[h]
  ·by_cases d:y=z
   ·rw[y4 (by lia)] at h;left;rw[y4 e,d];rwa[h]
   ·rw[y4 e,y4 d];by_cases g:x<y
    ·rwa[.inl (y7 g)]
    ·right;by_cases j:x=z
     ·rwa[y7 (by lia)]
     ·rw[y4 j] at h;have:=of_decide_eq_true h;rwa[y7 (by lia)]
def je:∀ a b:List Int,HT.lexLt a b=Jv->HT.lexLt b a=Jv->a=b
 | [],[],_,_=>rfl
 | [],_::_,h,_=>nomatch h
 | _::_,[],_,h=>nomatch h
 | x::xs,y::c,h1,h2=>by
  rw[HT.lexLt_cons] at h1 h2;by_cases e:x=y
  ·rw[y6 e] at h1;rw[y6 e.symm] at h2;rw[e,je xs c h1 h2]
  ·rw[y4 e] at h1;rw[y4 (λz=>e z.symm)] at h2;have f:=of_decide_eq_false h1;have d:=of_decide_eq_false h2;lia
def ordL:KeyOrd where
 α:=List Int
 blt:=HT.lexLt
 irrefl:=cZ
 trans:=Zv
 negTrans:=Zy
 total:=je
def RM(h:Ae)(v:c7)(ns:List Int):Prop:=∃(a:c5)(o:By)(n:Nat)(b:List c7),v=.ref a/\h.get? a=Js o/\o.cls=.type "tuple" /\ o.data=.seq b.toArray n/\yQ (ns.map V.int) b
def RM.keep{h d:Ae}(e:RM h v t)(k:∀ b o,h.get? b=Js o->d.get? b=Js o):RM d v t:=by
 obtain⟨a,o,n,c,i,g,f⟩:=e;rwa[a,o,n,c,i,k _ _ g,f]
section
variable{prog:o7}{w:w9}{A:An}{E:c7->d7->Prop}{s:d7}
def Zk{C:Bool->d7->Prop} : ∀{ns d:List Int}{g f:List c7}(_:yQ (ns.map V.int) g)(_:yQ (d.map V.int) f)(_:ns.length=d.length)(i:Nat)(_:C (HT.lexLt ns d) s),KatLex prog w A Ju Jv C (g.zip f) i s
 | [],[],_,_,c,b,_,i,h=>by
  cases c;cases b;rwa[kat_nil h]
 | [],_::_,_,_,_,_,a,_,_=>nomatch a
 | _::_,[],_,_,_,_,a,_,_=>nomatch a
 | x::xs,y::m,_,_,c,b,a,i,h=>by
  cases c with
  | cons p1 l =>
   cases b with
   | cons p2 j =>
    obtain⟨t,rfl⟩:=p1;obtain⟨n,rfl⟩:=p2;rw[List.zip_cons_cons];erw[kat_cons (DO ?_)];rw[HT.lexLt_cons] at h;by_cases e:x=y
    ·rw[y6 e] at h;rw[show(x == y)=Ju from by simpa using e];exact kat_yes (Zk l j (by simpa using a) (i+1) h)
    ·rw[y4 e] at h;rw[show(x == y)=Jv from by simpa using e];erw[kat_no ?_];cases i with
     | zero=>rwa[oneLt_int h]
     | succ i=>rwa[kat_one _ _ (wpAny_lt_int h)]
def Rj{C:Bool->d7->Prop}(r:RM s.heap u a)(m:RM s.heap v b)(y:a.length=b.length)(h:C (HT.lexLt a b) s):wpAny 'k' A (keyLt' (tuples' Ju) u v) C E s:=by
 obtain⟨p,o,n,i,rfl,x,_,hd,f⟩:=r;obtain⟨q,z,B,g,rfl,c,_,d,e⟩:=m;erw[kat_lt x hd c d ?_];have l:=f.length;have j:=e.length;rw[ac] at l j;rw[show decide (i.toArray.size<g.toArray.size)=Jv from y8 (by rw[f7,f7]; lia)];rwa[Zk f e y 0 h]
def Xc : ∀(a:List c7),(∀ v∈a,∃ x xs,RM h v (x::xs))->∃ fs:List c7,KatTups h a fs/\fs.length=a.length/\∀ v∈fs,∃ i t,v=Ch i t
 | [],_=>⟨[],.nil,rfl,λ_ c=>y9 c (CD)⟩
 | v::a,c=>by
  obtain⟨fs,a1,a2,g⟩:=Xc a λu b=>c u (.tail _ b);obtain⟨x,xs,p,o,n,d,rfl,e,f,hd,r⟩:=c v (.head _);cases r with
  | cons p1 j =>
   obtain⟨t,rfl⟩:=p1;erw[.int x t::fs,GK e f hd rfl a1,by rw[i4,i4,a2],λu b=>?_];rcases g9.mp b with rfl | b
   ·rwa[_,_,rfl]
   ·rwa[g u b]
def bI{c:List c7}{ks:List (List Int)}{m:Nat}{Q:c7->d7->Prop}(M:s.heap.IsList l c.toArray)(B:c.length<64)(r:∀ i,i<c.length->RM s.heap (c.getD i Am) (ks.getD i [])/\(ks.getD i []).length=m+1)
  (h:∀ d:List Nat,d.Perm (Aw c.length)->(d.map λi=>ks.getD i []).Pairwise (λa b=>HT.lexLt b a=Jv) ->
   Q (.ref 'c') { s with heap:=sortedAll s.heap c (d.map λi=>c.getD i Am).toArray }) :
  wpAny 'k' A (call (.builtin "sorted") [.ref l]) Q E s:=by
 refine VM (κ:=tuples' Ju) (G:=λout=>∃ d:List Nat,d.Perm (Aw c.length)/\(d.map λi=>ks.getD i []).Pairwise (λa b=>HT.lexLt b a=Jv)/\out=d.map λi=>c.getD i Am)
  M B (λh2 D kp X S H=>?_) (λh2 D kp=>?_) (λh2=>?_) λout R ⟨d,p1,p2,e⟩=>by rw[e]; rwa[h d p1 p2]
 ·obtain⟨fs,a1,a2,P⟩:=Xc (h:=D.heap) c λv y=>by
   obtain⟨i,hi,rfl⟩:=AE y;obtain⟨e,I⟩:=r i hi;have e':=e.keep kp;rw[show c.getD i Am=c[i] by simp[hi]] at e';cases J:ks.getD i [] with
   | nil=>rw[J] at I; cases I
   | cons x xs=>rw[J] at e'; rwa[x,xs,e']
  refine kat_kind (T:=C0 "int") a1 (by lia) (λv y=>?_) rfl (by first | exact H | (rw[show(C0 "int" != C0 "tuple")=Ju from by first | decide | simp]; rwa[H]));obtain⟨i,t,rfl⟩:=P v y;rwa[.now]
 ·erw[sU.wp (n:=c.length) (lt:=ltK (O:=ordL) λi=>ks.getD i []) (λi j C hi f N=>?_) (λp u=>⟨rfl,u⟩) (Uh (O:=ordL) (key:=λi=>ks.getD i []) h2 λp u L=>?_)]
  ·rwa[Rj ((r i hi).1.keep kp) ((r j f).1.keep kp) (by rw[(r i hi).2,(r j f).2]) N]
  ·refine⟨p.toList,by simpa using Ey.mp u.perm,?_,U⟩;rw[Ai,Db];intro i j hi f o;have z:i<p.size:=by simpa using hi
   have g:j<p.size:=by simpa using f
   have q:=L i j (AC o) (by rw[<- u.size]; rwa[g]);unfold KP at q;rw[show p.getD i 0=p.toList[i] by simp[HJ,z],show p.getD j 0=p.toList[j] by simp[HJ,g]] at q;rwa[q]
 ·erw[Aw c.length,.refl _,?_,?_]
  ·rw[Ai,Db];intro i j hi f o;rw[DG] at f;lia
  ·erw[C8 'd' λi h1 h3=>?_];rw[BJ,Gz];simp[h1]
end
def jP{α a:Type}(f:α->a)(d:α)(e:a)(xs:List α):((Aw xs.length).map λi=>f (xs.getD i d))=xs.map f:=by
 erw[C8 'd' λi h1 h2=>?_];have hi:i<xs.length:=by simpa using h1
 rw[BJ,Gz,BJ];simp[hi]
def rL:∀ a:List c5,yQ (a.map V.ref) (a.map j4)
 | []=>.nil
 | _::a=>.cons rfl (rL a)
section
variable{X:Cx}
def tL:bootBuiltins "sorted" = Js (.builtin "sorted"):=by ac_nf
def oS:vA X (.builtin "sorted") (λxs H Q=>E3 λ(l:c5) (f:List (c5×List Int)) (m:Nat)=>A5 (xs=[.ref l]) (SqL X.K H l ((f.map (·.1)).map V.ref)) (f.length<64) (∀ t∈f,H t.1=Js (.tup (t.2.map V.int))/\t.2.length=m+1) (∀(p:c5)(w:List (c5×List Int)),H p=Jt->w.Perm f->w.Pairwise (λa b=>HT.lexLt b.2 a.2=Jv)->Q (.ref p) (upd H p (.lst ((w.map (·.1)).map V.ref))))):=by
 intro S s P H xs w Q I r h;obtain⟨l,f,m,rfl,N,v,x,q⟩:=h;obtain⟨u,rfl,ru⟩:=yQ.one r;cases ru;obtain⟨j,J,M,R⟩:=I.list N;have O:=zr J;subst O;have A:((f.map (·.1)).map j4).length=f.length:=by rw[ac,ac]
 erw[bI (ks:=f.map (·.2)) (m:=m) M.isList (by rw[A]; rwa[v]) (λi hi=>?_) λg y G=>?_]
 ·rw[A] at hi;have E:=x f[i] (Ap hi);have C:((f.map (·.1)).map j4).getD i Am=j4 f[i].1:=by simp[hi]
  have B:(f.map (·.2)).getD i []=f[i].2:=by simp[hi]
  rw[C,B];erw[?_,E.2];obtain⟨j,L,⟨o,e,c,n,d⟩,_⟩:=I.tuple (SqT.of E.1);rwa[_,o,n,j,rfl,e,c,d,L]
 ·rw[A] at y;have lt:∀ i∈g,i<f.length:=λi hi=>B5.mp (y.mem_iff.mp hi)
  let d:c5×List Int:=(0,[])
  have D:(g.map λi=>f.getD i d).Perm f:=by
   have z:=y.map λi=>f.getD i d;have e:=jP (λt:c5×List Int=>t) d d f;rw[show(Aw f.length).map (λi=>f.getD i d)=f from by simpa using e] at z;rwa[z]
  have C:(g.map λi=>((f.map (·.1)).map j4).getD i Am)=((g.map λi=>f.getD i d).map (·.1)).map j4:=by
   simp only[v8];erw[AA λi hi=>?_];have:=lt i hi;simp[this]
  have B:(g.map λi=>(f.map (·.2)).getD i [])=(g.map λi=>f.getD i d).map (·.2):=by
   rw[v8];erw[AA λi hi=>?_];have:=lt i hi;simp[this]
  rw[B,Ai] at G;rw[C];obtain⟨e,at'⟩:=sortedAll_at s.heap ((f.map (·.1)).map j4) (((g.map λi=>f.getD i d).map (·.1)).map j4).toArray;have fr:H 'c'=none:=I.hok.fresh (Bc _);erw[.ref 'c',_,I.laid (t':=s.toks) (a:=s.heap.objs.size+1) (o:=.lst (((g.map λi=>f.getD i d).map (·.1)).map V.ref)) (λb ob q=>sortedAll_old q) (Bc _) ?_,rfl,q _ _ fr D G];erw[?_,_,e,rL _,at'];rw[ac,ac,D.length_eq];rwa[d9 (AC v) (by rw[sizeLine_eq]; decide)]
end
section
variable{X:Cx}
def rNeV(K:b8):R2:=λx y H Q=>E4 λ(a b:c5) (d c:List (c5×List Int))=>A8 (x=.ref a) (y=.ref b) (SqL K H a ((d.map (·.1)).map V.ref)) (SqL K H b ((c.map (·.1)).map V.ref)) (∀ t∈d,H t.1=Js (.tup (t.2.map V.int))) (∀ t∈c,H t.1=Js (.tup (t.2.map V.int))) (d.map (·.2)=c.map (·.2)) (Q (.bl Jv) H)
def Rx(N:X.A.units+64<cLine):OpR X (compareOp .NotEq) (rNeV X.K):=by
 intro P s J H x y v u Q I m i h;obtain⟨a,b,d,c,rfl,rfl,h1,h2,r,p,e,q⟩:=h;cases m;cases i;obtain⟨M,o,p1,_⟩:=I.list h1;obtain⟨L,n,p2,_⟩:=I.list h2;have G:=zr o;have E:=zr n;subst G E;have B:d.length=c.length:=by
  have z:=congrArg Br e;(rw[ac,ac] at z;assumption)
 refine Jl (e:=λ_=>Ju) p1.isList p2.isList (by simp[B]) (show X.A.units<cLine by lia) (λj C O=>?_) X.prog X.w _ _ ?_
 ·have g:j<d.length:=by simpa using C
  have f:j<c.length:=by lia
  have D:d[j].2=c[j].2:=by
   have z:=congrArg (λl=>l[j]?) e;simp only[e7,d6 g,d6 f,Bj] at z;rwa[m8 z]
  have z:=WI I (A:=X.A.in1) (show X.A.units+1<cLine by lia) (r d[j] (Ap g)) (p c[j] (Ap f));rw[y7 D] at z;simpa using z
 ·rw[cK];rwa[.bl Jv,H,I,rfl,q]
end
end L2

namespace Sea
def Px{a b c p q r:Int}(f:0<p)(e:0<q)(d:0<r)(h1:a*q<=b*p)(h2:b*r<=c*q):a*r<=c*p:=by
 have l:=AU h1 (i3 d);have j:=AU h2 (i3 f);have i:a*q*r=a*r*q:=o4 a q r;have h:b*p*r=b*r*p:=o4 b p r;have g:c*q*p=c*p*q:=o4 c q p;rwa[Ez (by lia) e]
def SE{a b c p q r:Int}(f:0<p)(e:0<q)(d:0<r)(h1:a*q<b*p)(h2:b*r<=c*q):a*r<c*p:=by
 have l:=En h1 d;have j:=AU h2 (i3 f);have i:a*q*r=a*r*q:=o4 a q r;have h:b*p*r=b*r*p:=o4 b p r;have g:c*q*p=c*p*q:=o4 c q p;rwa[EA (by lia) (i3 e)]
def Pc{a b c p q r:Int}(f:0<p)(e:0<q)(d:0<r)(h1:a*q<=b*p)(h2:b*r<c*q):a*r<c*p:=by
 have l:=AU h1 (i3 d);have j:=En h2 f;have i:a*q*r=a*r*q:=o4 a q r;have h:b*p*r=b*r*p:=o4 b p r;have g:c*q*p=c*p*q:=o4 c q p;rwa[EA (by lia) (i3 e)]
def leS(s t:SpT):Prop:=ahB t s=Jv
def fo(s t:SpT):leS s t↔s.2.1*t.2.2.2<t.2.1*s.2.2.2\/(s.2.1*t.2.2.2=t.2.1*s.2.2.2/\s.2.2.1*t.2.2.2<=t.2.2.1*s.2.2.2):=by
 unfold leS ahB;by_cases h:t.2.1*s.2.2.2-s.2.1*t.2.2.2=0
 ·rw[y6 h,decide_eq_false_iff_not];lia
 ·rw[y4 h,decide_eq_false_iff_not];lia
def aT(h:ahB s t=Ju):leS s t:=by
 rw[fo];unfold ahB at h;by_cases e:s.2.1*t.2.2.2-t.2.1*s.2.2.2=0
 ·rw[y6 e] at h;have:=of_decide_eq_true h;lia
 ·rw[y4 e] at h;have:=of_decide_eq_true h;lia
def SV{s t u:SpT}(f:0<s.2.2.2)(e:0<t.2.2.2)(d:0<u.2.2.2)(h1:leS s t)(h2:leS t u):leS s u:=by
 rw[fo] at h1 h2 ⊢;rcases h1 with h1 | ⟨h1,h⟩
 ·left;rcases h2 with h2 | ⟨h2,g⟩
  ·rwa[SE f e d h1 (i3 h2)]
  ·rwa[SE f e d h1 (BA h2)]
 ·rcases h2 with h2 | ⟨h2,g⟩
  ·left;rwa[Pc f e d (BA h1) h2]
  ·right;erw[Hu (Px f e d (BA h1) (BA h2)) ?_,Px f e d h g];have z:=Px (a:=u.2.1) (b:=t.2.1) (c:=s.2.1) d e f (BA h2.symm) (BA h1.symm);rwa[z]
def Rb(xs:List SpT):Prop:=∀ t∈xs,0<t.2.2.2
def jq{p:SpT->Bool} : ∀{xs:List SpT}{x:SpT},x∈xs.takeWhile p->p x=Ju/\x∈xs
 | [],_,h=>nomatch h
 | y::b,x,h=>by
  by_cases a:p y=Ju
  ·rw[EB a] at h;rcases g9.mp h with rfl | h
   ·rwa[a,j7 ..]
   ·rwa[(jq h).1,l7 _ (jq h).2]
  ·rw[EC a] at h;exact nomatch h
def ie{p:SpT->Bool} : ∀{xs:List SpT},xs.dropWhile p=[]\/∃ y a,xs.dropWhile p=y::a/\p y=Jv
 | []=>.inl rfl
 | y::a=>by
  by_cases b:p y=Ju
  ·rw[ED b];rwa[ie]
  ·rw[EF b];exact .inr ⟨y,a,rfl,by simpa using b⟩
def jz:∀(i xs:List SpT),Rb xs->Rb i->xs.Pairwise leS->i.Pairwise leS->(xC xs i).Pairwise leS
 | [],xs,_,_,f,_=>by rw[xC]; rwa[f]
 | o::r,xs,s,wy,f,G=>by
  rw[xC];have v:0<o.2.2.2:=wy o (j7 ..);have u:Rb r:=λt n=>wy t (l7 _ n);obtain⟨q,H⟩:=Bi.mp G;have l:(xs.dropWhile λx=>!ahB o x).Sublist xs:=List.dropWhile_sublist _;have st:(xs.takeWhile λx=>!ahB o x).Sublist xs:=List.takeWhile_sublist _;have wd:Rb (xs.dropWhile λx=>!ahB o x):=λt n=>s t (l.subset n);have E:=jz r (xs.dropWhile λx=>!ahB o x) wd u (f.sublist l) H;have D:∀ y∈xs.dropWhile (λx=>!ahB o x),leS o y:=λy c=>by
   rcases ie (p:=λx=>!ahB o x) (xs:=xs) with e | ⟨z,zs,e,hz⟩
   ·rw[e] at c;exact nomatch c
   ·have d:ahB o z=true:=by simpa using hz
    have w:=f.sublist l;rw[e] at c w;rcases g9.mp c with rfl | h
    ·rwa[aT d]
    ·have B:0<z.2.2.2:=wd z (by rw[e]; rwa[j7 ..]);have j:0<y.2.2.2:=wd y (by rw[e]; rwa[l7 _ h]);rwa[SV v B j (aT d) ((Bi.mp w).1 y h)]
  have A:∀ y∈xC (xs.dropWhile λx=>!ahB o x) r,leS o y:=λy m=>by
   rcases m9.mp ((zj r _).mem_iff.mp m) with h | h
   ·rwa[D y h]
   ·rwa[q y h]
  rw[F0];refine⟨f.sublist st,Bi.mpr ⟨A,E⟩,λa I b g=>?_⟩;obtain⟨pa,ma⟩:=jq I;have la:leS a o:=by
   show ahB o a=Jv;simpa using pa
  rcases g9.mp g with rfl | g
  ·rwa[la]
  ·have C:0<b.2.2.2:=by
    rcases m9.mp ((zj r _).mem_iff.mp g) with h | h
    ·rwa[wd b h]
    ·rwa[u b h]
   rwa[SV (s a ma) v C la (A b g)]
def oO:∀(n:Nat)(xs:List SpT),xs.length<=2^n->Rb xs->(uz n xs).Pairwise leS
 | 0,xs,h,_=>by
  rw[uz]
  match xs,h with
  | [],_=>rwa[.nil]
  | [x],_=>rwa[Dx ..]
  | _::_::_,h=>rw[i4,i4] at h; lia
 | n+1,xs,h,w=>by
  rw[uz];split
  ·rename_i h2
   match xs,h2 with
   | [],_=>rwa[.nil]
   | [x],_=>rwa[Dx ..]
   | _::_::_,h=>rw[i4,i4] at h; lia
  ·have e:2^(n+1)=2^n*2:=IL 2 n;have w1:Rb (xs.take (xs.length/2)):=λt a=>w t (AL a);have b:Rb (xs.drop (xs.length/2)):=λt a=>w t (AX a);erw[jz _ _ (λt a=>w1 t ((vF n _).mem_iff.mp a)) (λt a=>b t ((vF n _).mem_iff.mp a)) (oO n _ (by rw[o3]; lia) w1) (oO n _ (by rw[Ak]; lia) b)]
def WW:∀{xs c:List (List Int)},xs.Perm c->xs.Pairwise (λa b=>HT.lexLt b a=Jv)->c.Pairwise (λa b=>HT.lexLt b a=Jv)->xs=c
 | [],c,h,_,_=>(Iw.mp h).symm
 | x::xs,[],h,_,_=>y9 (Gi.mp h) 'd'
 | x::xs,y::c,h,n,m=>by
  obtain⟨l,j⟩:=Bi.mp n;obtain⟨i,g⟩:=Bi.mp m;have e:x=y:=by
   have f:x∈y::c:=h.mem_iff.mp (j7 ..);have d:y∈x::xs:=h.mem_iff.mpr (j7 ..);rcases g9.mp f with e | f
   ·rwa[e]
   ·rcases g9.mp d with e | d
    ·rwa[e.symm]
    ·rwa[je _ _ (i x f) (l y d)]
  subst e;rw[WW (EG x |>.mp h) j g]
end Sea

namespace L2
section
variable{κ:Type}[DecidableEq κ]
def sV(a:List (κ×V))(k:κ):Option V:=(a.find? λb=>decide (b.1=k)).map (·.2)
def rV(a:List (κ×V))(k:κ)(v:V):List (κ×V) :=
 if (a.any λb=>decide (b.1=k))=Ju then a.map (λb=>if b.1=k then(b.1,v) else b) else a++[(k,v)]
def Xx(a:List (κ×V))(k:κ):List (κ×V):=a.filter λb=>decide (b.1≠k)

def wV{p:κ×V}{r:List (κ×V)}{k:κ}(e:p.1=k):sV (p::r) k=Js p.2:=by simp[sV,AR,e]
def wF{p:κ×V}{r:List (κ×V)}{k:κ}(e:¬ p.1=k):sV (p::r) k=sV r k:=by simp[sV,AR,e]
def mr(k:κ):∀ a:List (κ×V),(a.any λb=>decide (b.1=k))=(sV a k).isSome
 | []=>rfl
 | p::r=>by
  rw[Cq];by_cases e:p.1=k
  ·simp only[wV e,y7 e,Bool.true_or,Option.isSome_some]
  ·rw[wF e,y8 e,Bool.false_or]; rwa[mr k r]
def ZG(k j:κ)(y:V):∀ a:List (κ×V),sV (a.map λb=>if b.1=k then(b.1,y) else b) j=(sV a j).map λx=>if j=k then y else x
 | []=>rfl
 | p::r=>by
  have c:=ZG k j y r;rw[j8];by_cases h:p.1=k
  ·rw[y6 h];by_cases e:p.1=j
   ·rw[wV (p:=(p.1,y)) e,wV e,Bj,y6 (e.symm.trans h)]
   ·rw[wF (p:=(p.1,y)) e,wF e,c]
  ·rw[y4 h];by_cases e:p.1=j
   ·rw[wV (p:=p) e,wV e,Bj,y4 (λz=>h (e.trans z))]
   ·rw[wF (p:=p) e,wF e,c]
def cz(k j:κ)(y:V):∀ a:List (κ×V),sV a k=Jt->sV (a++[(k,y)]) j=if j=k then Js y else sV a j
 | [],_=>by
  by_cases e:k=j
  ·rw[y6 e.symm]; rwa[wV (p:=(k,y)) e]
  ·rw[y4 (λz=>e z.symm)]; rwa[wF (p:=(k,y)) e]
 | p::r,b=>by
  rw[Hb];have c:¬ p.1=k:=λz=>by rw[wV z] at b; cases b
  rw[wF c] at b;have d:=cz k j y r b;by_cases e:p.1=j
  ·rw[wV e,wV e,y4 (λz=>c (e.trans z))]
  ·rw[wF e,wF e,d]
def gK(b:List (κ×V))(k j:κ)(y:V):sV (rV b k y) j=if j=k then Js y else sV b j:=by
 unfold rV;by_cases a:(b.any λc=>decide (c.1=k))=Ju
 ·rw[y6 a,ZG];rw[mr] at a;by_cases e:j=k
  ·obtain⟨x,d⟩:=o6.mp a;rw[y6 e,e,d,Bj,y6 rfl]
  ·rw[y4 e];cases sV b j with
   | none=>rfl
   | some x=>rw[Bj,y4 e]
 ·rw[y4 a];erw[cz k j y b ?_];rw[mr] at a;cases q:sV b k with
  | none=>rfl
  | some x=>rw[q] at a; exact(a rfl).elim
def zn(a:List (κ×V))(k:κ)(v:V):(rV a k v).length<=a.length+1:=by
 unfold rV;split
 ·rw[ac]; lia
 ·rw[g7,i4,BE]; lia
def fV.isSome_eq(r:fV o u):o.isSome=u.isSome:=by
 cases o with
 | none=>cases u with
  | none=>rfl
  | some _=>exact(show False from r).elim
 | some _=>cases u with
  | none=>exact(show False from r).elim
  | some _=>rfl
def KV.val(r:KV a vs)(k:κ):fV (sV a k) (valueAt vs k):=by
 unfold KV at r
 induction r with
 | nil=>rwa[Ao]
 | @cons p q f c h t d =>
  obtain⟨h1,h2⟩:=h;by_cases e:p.1=k
  ·have e':q.1=k:=h1.symm.trans e;have b:valueAt (q::c) k=Js q.2:=by simp[valueAt,AR,e']
   rw[wV e,b]; rwa[h2]
  ·have e':¬ q.1=k:=λz=>e (h1.trans z);have b:valueAt (q::c) k=valueAt c k:=by simp[valueAt,AR,e']
   rw[wF e,b]; rwa[d]
def KV.any(r:KV a vs)(k:κ):(a.any λb=>decide (b.1=k))=vs.any λb=>decide (b.1=k):=by
 unfold KV at r
 induction r with
 | nil=>rfl
 | cons h t c=>rw[Cq,Cq,c,h.1]
def KV.repl(r:KV b vs)(k:κ)(c:xI y u) :
  KV (b.map λa=>if a.1=k then(a.1,y) else a) (vs.map λa=>if a.1=k then(a.1,u) else a):=by
 unfold KV at r ⊢
 induction r with
 | nil=>rwa[.nil]
 | @cons p q g f h t d =>
  rw[j8,j8];erw[.cons ?_ d];obtain⟨h1,h2⟩:=h;by_cases e:p.1=k
  ·rw[y6 e,y6 (h1.symm.trans e)]; rwa[h1,c]
  ·rw[y4 e,y4 (λz=>e (h1.trans z))]; rwa[h1,h2]
def KV.put(r:KV a vs)(k:κ)(b:xI y u):KV (rV a k y) (stored vs k u):=by
 unfold rV stored;rw[r.any k];by_cases e:(vs.any λc=>decide (c.1=k))=Ju
 ·rw[y6 e,y6 e]; rwa[r.repl k b]
 ·rw[y4 e,y4 e]; rwa[IZ r ⟨rfl,b⟩]
def KV.drop(r:KV c vs)(k:κ):KV (Xx c k) (without vs k):=by
 unfold KV at r ⊢;unfold Xx without
 induction r with
 | nil=>rwa[.nil]
 | @cons p q g f h t d =>
  obtain⟨h1,h2⟩:=h;rw[BL,BL];by_cases e:p.1=k
  ·have a:¬ decide (p.1≠k)=true:=by simp[e]
   have b:¬ decide (q.1≠k)=true:=by simp[h1.symm.trans e]
   rw[y4 a,y4 b]; rwa[d]
  ·have e':¬ q.1=k:=λz=>e (h1.trans z);have a:decide (p.1≠k)=true:=by simp[e]
   have b:decide (q.1≠k)=true:=by simp[e']
   rw[y6 a,y6 b]; rwa[.cons ⟨h1,h2⟩ d]
def KV.length(r:KV a vs):a.length=vs.length:=DV r
def ZE(a:List (κ×V))(k:κ):(Xx a k).length<=a.length:=Ce _ _
end


def gg(r:xI (kV k) u):(yP P w).is k u=true:=by
 cases k with
 | inl i=>obtain⟨t,e⟩:=(show ∃ t,u=Ch i t from r); subst e; rwa[aL P w i t]
 | inr x=>obtain⟨t,e⟩:=(show ∃ t,u=Dr x t from r); subst e; rwa[ub P w x t]
def dj : ∀{a:List Key}{b:List c7},yQ (a.map kV) b->ItemsAre (yP P w) a b
 | [],_,r=>by rw[El] at r; cases r; rwa[.nil]
 | k::a,_,r=>by
  rw[j8] at r;cases r with
  | cons h t=>rwa[.cons (gg h) (dj t)]

abbrev KT(H:Hp):List (List Key×V)->List (List Key×c5×c7)->Prop:=GX λp q=>p.1=q.1/\H q.2.1=Js (.tup (p.1.map kV))/\xI p.2 q.2.2
def KT.val{H:Hp}(r:KT H a xs)(k:List Key):fV (sV a k) ((atKey xs k).map (·.2)):=by
 induction r with
 | nil=>rwa[Ao]
 | @cons p q f c h t d =>
  obtain⟨h1,_,h2⟩:=h;by_cases e:p.1=k
  ·have e':q.1=k:=h1.symm.trans e;have b:atKey (q::c) k=Js q.2:=by simp[atKey,AR,e']
   rw[wV e,b]; rwa[h2]
  ·have e':¬ q.1=k:=λz=>e (h1.trans z);have b:atKey (q::c) k=atKey c k:=by simp[atKey,AR,e']
   rw[wF e,b]; rwa[d]
def KT.repl{H:Hp}(r:KT H a xs)(k:List Key)(c:xI y u) :
  KT H (a.map λb=>if b.1=k then(b.1,y) else b) (xs.map (putAt k u)):=by
 induction r with
 | nil=>rwa[.nil]
 | @cons p q g f h t d =>
  rw[j8,j8];erw[.cons ?_ d];obtain⟨h1,h2,h3⟩:=h;unfold putAt;by_cases e:p.1=k
  ·rw[y6 e,y6 (h1.symm.trans e)]; rwa[h1,h2,c]
  ·rw[y4 e,y4 (λz=>e (h1.trans z))]; rwa[h1,h2,h3]
def KT.put{H:Hp}(r:KT H a xs)(k:List Key)(f:H b=Js (.tup (k.map kV)))(c:xI y u) :
  KT H (rV a k y) (storedH xs k b u):=by
 have e:(a.any λd=>decide (d.1=k))=(atKey xs k).isSome:=by
  rw[mr,(r.val k).isSome_eq,CV]
 unfold rV storedH;rw[e];by_cases q:(atKey xs k).isSome=Ju
 ·rw[y6 q,y6 q]; rwa[r.repl k c]
 ·rw[y4 q,y4 q]; rwa[IZ r ⟨rfl,f,c⟩]
def KT.keeps{H d:Hp}(r:KT H a xs)(e:∀ b c,H b=Js (.tup c)->d b=Js (.tup c)):KT d a xs :=
 Paired.mapP r λ_ _ z=>⟨z.1,e _ _ z.2.1,z.2.2⟩

section
variable{P:o7}{w:w9}{H:Hp}{h:Ae}{a:c5}
def Pd(ok:HOk P w H h)(e:Rd H a u):uH P w H h a u:=e.ok ok
def gh(ok:HOk P w H h)(e:Rd H a (.dK b)):b.length<=sizeLine/\(a == sysModules)=Jv/\∃ c,KV b c/\h.DictOf (yP P w) a c :=
 show uH P w H h a (.dK b) from Pd ok e
def UT(ok:HOk P w H h)(e:H a=Js (.dK b)):b.length<=sizeLine/\(a == sysModules)=Jv/\∃ c,KV b c/\h.DictOf (yP P w) a c:=gh ok (.inl e)
def dM{b:List Key}(ok:HOk P w H h)(e:H a=Js (.tup (b.map kV))):(tupleKind (yP P w)).is h b a:=by
 obtain⟨_,c,r,o,h1,h2,n,h3⟩:=(show uH P w H h a (.tup (b.map kV)) from ok a _ e);exact⟨o,c.toArray,n,h1,h2,h3,by simpa using dj r⟩
def Yk(ok:HOk P w H h)(e:Rd H a (.dT b)):b.length<=sizeLine/\(a == sysModules)=Jv /\
  ∃ xs,KT H b xs/\h.DictOfH (tupleKind (yP P w)) a xs:=by
 obtain⟨z,y,xs,r,o,g,i,h1,h2,h3,h4,h5⟩:=(show uH P w H h a (.dT b) from Pd ok e);refine⟨z,y,xs,r,o,g,i,h1,h2,h3,h4,λx c=>?_,h5⟩;have all:∀{l:List (List Key×V)}{m:List (List Key×c5×c7)},KT H l m->∀ x∈m,(tupleKind (yP P w)).is h x.1 x.2.1:=by
  intro l m q
  induction q with
  | nil=>intro x c; exact nomatch c
  | @cons p q n j d t f =>
   intro x c;rcases g9.mp c with e | c
   ·subst e;rwa[dM ok (by rw[<- d.1]; exact d.2.1)]
   ·rwa[f x c]
 rwa[all r x c]
def Oy(ok:HOk P w H h)(e:H a=Js (.dT b)):b.length<=sizeLine/\(a == sysModules)=Jv /\
  ∃ xs,KT H b xs/\h.DictOfH (tupleKind (yP P w)) a xs:=Yk ok (.inl e)
end

def UW(H:Hp)(a:c5)(y:V)(r:Option V):Prop :=
 (∃ c k,Rd H a (.dK c)/\y=kV k/\r=sV c k)\/∃ c k b,Rd H a (.dT c)/\y=.ref b/\H b=Js (.tup (k.map kV))/\r=sV c k
def iA(H:Hp)(a:c5)(y v:V)(d:Hp):Prop :=
 (∃ c k,H a=Js (.dK c)/\y=kV k/\c.length<sizeLine/\d=upd H a (.dK (rV c k v))) \/
 ∃ c k b,H a=Js (.dT c)/\y=.ref b/\H b=Js (.tup (k.map kV))/\c.length<sizeLine/\d=upd H a (.dT (rV c k v))
def iA.k{H:Hp}{k:Key}(e:H a=Js (.dK b))(c:b.length<sizeLine):iA H a (kV k) v (upd H a (.dK (rV b k v))):=.inl ⟨b,k,e,rfl,c,rfl⟩
def iA.t{H:Hp}{k:List Key}(e:H a=Js (.dT c))(f:H b=Js (.tup (k.map kV)))(d:c.length<sizeLine) :
  iA H a (.ref b) v (upd H a (.dT (rV c k v))):=.inr ⟨c,k,b,e,rfl,f,d,rfl⟩


section
variable{X:Cx}{Jw:List (c5×By)}{σ:St}{H:Hp}{s:d7}{a:c5}{y v:V}{u r:c7}{o:Option V}{A:An}{E:c7->d7->Prop}

def Inv.big(I:Inv X Jw σ H s):sysModules<s.heap.objs.size:=by
 have h:mainGlobals<s.heap.objs.size:=(I.mod.glob.keeps I.bk).lt;rwa[IK 'a' h]

def WR{Q:c7->d7->Prop}(B:A.units+1<cLine)(I:Inv X Jw σ H s)(g:UW H a y (Js v))(q:xI y u)(h:∀ d n,Inv X Jw σ H n->xI v d->Q d n) :
  wpAny 'b' A (getItem (.ref a) u) Q E s:=by
 rcases g with ⟨f,k,e,ey,l⟩ | ⟨f,k,b,e,ey,D,l⟩
 ·subst ey;obtain⟨z,hd,x,rel,m⟩:=gh I.hok e;obtain⟨d,i,c⟩:=fV.some_of (v:=v) (o:=valueAt x k) (by rw[l]; rwa[rel.val k]);rwa[Hc (gg q) m.mapOf i (h d _ (I.tok _) c)]
 ·subst ey;cases (show u=j4 b from q);obtain⟨z,hd,xs,rel,m⟩:=Yk I.hok e;obtain⟨d,i,c⟩:=fV.some_of (v:=v) (o:=(atKey xs k).map (·.2)) (by rw[l]; rwa[rel.val k]);obtain⟨p,C,j⟩:=x6.mp i;erw[wpAny_getItem_heap (tupleKind_room_in1 B) (dM I.hok D) m C ?_];rw[j];rwa[h d _ (I.tok _) c]
def d_in{Q:c7->d7->Prop}(j:A.units+1<cLine)(I:Inv X Jw σ H s)(g:UW H a y o)(i:xI y u)(h:∀ f,Inv X Jw σ H f->Q (.bool o.isSome) f) :
  wpAny 'b' A (compareOp .In u (.ref a)) Q E s:=by
 rcases g with ⟨c,k,e,ey,l⟩ | ⟨c,k,b,e,ey,m,l⟩
 ·subst ey;obtain⟨z,hd,n,rel,d⟩:=gh I.hok e;erw[wpAny_in_of (gg i) hd d.mapOf ?_];rw[<- (rel.val k).isSome_eq,<- l];rwa[h _ (I.tok _)]
 ·subst ey;cases (show u=j4 b from i);obtain⟨z,hd,xs,rel,d⟩:=Yk I.hok e;erw[wpAny_in_heap (tupleKind_room_in1 j) (dM I.hok m) hd d ?_];have q:=(rel.val k).isSome_eq;rw[CV] at q;rw[<- q,<- l];rwa[h _ (I.tok _)]
def Qn{Q:c7->d7->Prop}(j:A.units+1<cLine)(I:Inv X Jw σ H s)(g:UW H a y o)(i:xI y u)(h:∀ f,Inv X Jw σ H f->Q (.bool (!o.isSome)) f) :
  wpAny 'b' A (compareOp .NotIn u (.ref a)) Q E s:=by
 rcases g with ⟨c,k,e,ey,l⟩ | ⟨c,k,b,e,ey,m,l⟩
 ·subst ey;obtain⟨z,hd,n,rel,d⟩:=gh I.hok e;erw[wpAny_notIn_of (gg i) hd d.mapOf ?_];rw[<- (rel.val k).isSome_eq,<- l];rwa[h _ (I.tok _)]
 ·subst ey;cases (show u=j4 b from i);obtain⟨z,hd,xs,rel,d⟩:=Yk I.hok e;erw[wpAny_notIn_heap (tupleKind_room_in1 j) (dM I.hok m) hd d ?_];have q:=(rel.val k).isSome_eq;rw[CV] at q;rw[<- q,<- l];rwa[h _ (I.tok _)]
def lT{d:Nat}(I:Inv X Jw σ H s)(f:Mut (H a))(g:Cj a s.heap c)(h:∃ q,c.get? a=Js q)(new:uH X.prog X.w (upd H a ob) c a ob) :
  Inv X Jw σ (upd H a ob) { s with heap:=c,toks:=d } :=
 I.write (x:=a) (e:=a) f (.inl rfl) (λb q i z=>(g.2 b i).trans z) h new
def eQ{f:Hp}{d:Ae}{b:List (Key×V)}(z:b.length<=sizeLine)(hd:(a == sysModules)=Jv)(rel:KV b c)(e:d.DictOf (yP P w) a c) :
  uH P w f d a (.dK b):=⟨z,hd,c,rel,e⟩
def WB{M:Hp}{Q:Unit->d7->Prop}(O:A.units+1<cLine)(I:Inv X Jw σ H s)(g:iA H a y v M)(C:xI y u)(D:xI v r)(h:∀ B,Inv X Jw σ M B->Q () B) :
  wpAny 'b' A (setItem (.ref a) u r) Q E s:=by
 rcases g with ⟨d,k,e,ey,l,p⟩ | ⟨d,k,b,e,ey,L,l,p⟩
 ·subst ey p;obtain⟨z,hd,N,rel,x⟩:=UT I.hok e;have j:N.length<=sizeLine:=by rw[<- rel.length]; rwa[z]
  have n:(rV d k v).length<=sizeLine:=by have:=zn d k v; lia
  erw[wpAny_setItem_pairs (hsz:=j) (gg C) x λG f m=>h _ ?_];have P:∃ q,G.get? a=Js q:=let ⟨q,_,_,i,_⟩:=f;⟨q,i⟩;rwa[lT I (by rw[e]; exact Ao) m P (eQ n hd (rel.put k D) f)]
 ·subst ey p;cases (show u=j4 b from C);obtain⟨z,hd,xs,rel,x⟩:=Oy I.hok e;have j:xs.length<=sizeLine:=by rw[<- DV rel]; rwa[z]
  have n:(rV d k v).length<=sizeLine:=by have:=zn d k v; lia
  erw[wpAny_setItem_heap (hsz:=j) (tupleKind_room_in1 O) (dM I.hok L) x λG f m=>h _ ?_];obtain⟨q,R,S,i,h2,h3,h4,_,h5⟩:=f;erw[lT I (by rw[e]; rwa[Ao]) m ⟨q,i⟩ ⟨n,hd,_,(rel.put k L D).keeps λc T J=>?_,q,R,S,i,h2,h3,h4,h5⟩];rw[zH (fR J e (λz=>nomatch z))];rwa[J]
end

section
variable{X:Cx}{Jw:List (c5×By)}{σ:St}{H:Hp}{s:d7}{a:c5}{kvs:List (Key×V)}{k:Key}{u:c7}{A:An}{E:c7->d7->Prop}
def PU{Q:Unit->d7->Prop}(I:Inv X Jw σ H s)(e:H a=Js (.dK kvs))(g:xI (kV k) u)(l:(sV kvs k).isSome=Ju)(h:∀ d,Inv X Jw σ (upd H a (.dK (Xx kvs k))) d->Q () d) :
  wpAny 'b' A (delItem (.ref a) u) Q E s:=by
 obtain⟨z,hd,f,rel,c⟩:=UT I.hok e;refine wpAny_delItem_slot c.typeIs 'a' EQ
  (call_meetsIn EQ c.typeIs PySem.F.entry_dict_delitem (PySem.F.args_dict_delitem_2 _ _) (meets_dict_delitem_pairs (yP X.prog X.w) a (gg g)) ⟨f,c,by rw[<- rel.length]; exact z,by rw[<- (rel.val k).isSome_eq]; exact l,λm b i=>h _ ?_⟩)
 have j:∃ q,m.get? a=Js q:=let ⟨q,_,_,hq,_⟩:=b;⟨q,hq⟩;rwa[lT I (by rw[e]; exact Ao) i j (eQ (d9 (ZE kvs k) z) hd (rel.drop k) b)]
def d_pop{more:List c7}{Q:c7->d7->Prop}(I:Inv X Jw σ H s)(e:H a=Js (.dK kvs))(d:xI (kV k) u)(l:sV kvs k=Js v)(m:more=[]\/∃ x,more=[x])
  (h:∀ b j,Inv X Jw σ (upd H a (.dK (Xx kvs k))) j->xI v b->Q b j):wpAny 'b' A (call (.builtin "dict.pop") (.ref a::u::more)) Q E s:=by
 obtain⟨z,hd,g,rel,n⟩:=UT I.hok e;obtain⟨b,p,f⟩:=fV.some_of (v:=v) (o:=valueAt g k) (by rw[<- l]; exact rel.val k);have y:(keyPart u).isSome=true:=by
  cases k with
  | inl i=>obtain⟨t,q⟩:=(show ∃ t,u=Ch i t from d); subst q; rfl
  | inr x=>obtain⟨t,q⟩:=(show ∃ t,u=Dr x t from d); subst q; rfl
 have C:argsOk "dict.pop" ⟨.ref a::u::more,[]⟩:=by
  rcases m with q | ⟨x,q⟩
  ·subst q; rwa[PySem.F.args_dict_pop_2 _ _]
  ·subst q; rwa[PySem.F.args_dict_pop_3 _ _ _]
 refine call_meetsIn FM n.typeIs PySem.F.entry_dict_pop C (meets_dict_pop_there (yP X.prog X.w) a (gg d) more m y)
  ⟨g,b,n,by rw[<- rel.length]; exact z,p,λD c r=>h b _ ?_ f⟩
 have B:∃ q,D.get? a=Js q:=let ⟨q,_,_,hq,_⟩:=c;⟨q,hq⟩;rwa[lT I (by rw[e]; exact Ao) r B (eQ (d9 (ZE kvs k) z) hd (rel.drop k) c)]
def d_len{Q:c7->d7->Prop}(I:Inv X Jw σ H s)(e:Rd H a (.dK kvs))(h:∀ t b,Inv X Jw σ H b->Q (.int kvs.length t) b):wpAny 'b' A (call (.builtin "len") [.ref a]) Q E s:=by
 obtain⟨z,hd,d,rel,c⟩:=gh I.hok e;refine call_len_dict hd c (by rw[<- rel.length]; rw[sizeLine_eq] at z; lia) ?_;rw[<- rel.length];rwa[h _ _ (I.tok _)]
end


def NP(i:Av):Prop:=∀ a b,subscripted i Jv a b=operate [a,b] (getItem a b)
def bT{E:c7->d7->Prop}{T id:String}{Q:c7->d7->Prop}
  (m:typeLookup (.type T) "__getitem__" = pure (Js (.builtin id))) (l:NP slice)
  (h:wpAny 'k' A (eval value env) (λo d=>wpAny 'k' A (eval slice env) (λi a=>a.TypeIs o T/\wpAny 'k' A (getItem o i) Q E a) E d) E s) :
  wpAny 'k' A (eval (.Subscript value slice pos) env) Q E s:=by
 refine HG (Bw h (λo d g=>Bw g (λi a b=>?_) λ_ _ x=>x) λ_ _ x=>x);obtain⟨j,b⟩:=b;unfold subscriptTail;refine c6 ?_;rw[getitemInPython_of_ne j.not_modules];refine c6 (wpAny_specialOf j m ?_);have e:wpAny 'k' A (subscripted slice Jv o i) (λr c=>wpAny 'k' A (letTemporaryGo value o r >>= λ_=>pure r) Q E c) E a:=by
  rw[l o i];rwa[wpAny_operating (Bw b (λr c f=>c6 (wpAny_letTemporaryGo (f8 f))) λ_ _ x=>x)]
 first
  | exact f8 (c6 e)
  | exact c6 (f8 (c6 e))
  | exact c6 e

def aK{f:St}{H:Hp}(I:Inv X h f H s)(g:UW H a y o):s.TypeIs (.ref a) "dict" := by
 rcases g with ⟨c,k,e,_,_⟩ | ⟨c,k,b,e,_,_,_⟩
 ·obtain⟨_,_,i,_,d⟩:=gh I.hok e;rwa[d.typeIs]
 ·obtain⟨_,_,xs,_,d⟩:=Yk I.hok e;rwa[d.typeIs]
def tDGet(d ty:TE):TE:=λb H Q=>d b H λx e=>ty b e λy c=>E2 λa v=>A3 (x=.ref a) (UW c a y (Js v)) (Q v c)
def tDIn(ty d:TE):TE:=λb H Q=>ty b H λy e=>d b e λx c=>E2 λa o=>A3 (x=.ref a) (UW c a y o) (Q (.bl o.isSome) c)
def RS(ty d:TE):TE:=λb H Q=>ty b H λy e=>d b e λx c=>E2 λa o=>A3 (x=.ref a) (UW c a y o) (Q (.bl (!o.isSome)) c)
def sDPut(e ty d:TE):TS:=λD b H=>d b H λv h=>e b h λx g=>ty b g λy f=>E2 λa c=>A3 (x=.ref a) (iA f a y v c) (D.nx b c)
section
variable{X:Cx}{o i e value:Av}{pos pos' tpos:Dg}{td ty tv:TE}
def zS(q:X.A.units+1<cLine)(w:PE X o td)(hi:PE X i ty)(r:NP i):PE X (.Subscript o i pos) (tDGet td ty):=by
 intro d s c H Q I h;erw[bT Dc.lookup r (thn (w d s c H _ I h) λu j ⟨x,D,B,m,p⟩=>thn (hi d j c D _ B p) λL J ⟨y,C,f,l,a,v,ex,g,n⟩=>?_)];subst ex;obtain rfl:u=j4 a:=m;rwa[aK f g,WR q f g l λE G z b=>⟨v,C,z,b,n⟩]
def PQ(p:X.A.units+1<cLine)(hi:PE X i ty)(q:PE X o td):PC X .In i o (tDIn ty td):=by
 intro c s b H Q I h;erw[thn (hi c s b H _ I h) λE d ⟨y,B,w,f,m⟩=>thn (q c d b B _ w m) λu D ⟨x,z,v,j,a,n,ex,g,l⟩=>?_];subst ex;obtain rfl:u=j4 a:=j;rwa[d_in p v g f λC r=>⟨.bl n.isSome,z,r,rfl,l⟩]
def VY(p:X.A.units+1<cLine)(hi:PE X i ty)(q:PE X o td):PC X .NotIn i o (RS ty td):=by
 intro c s b H Q I h;erw[thn (hi c s b H _ I h) λE d ⟨y,B,w,f,m⟩=>thn (q c d b B _ w m) λu D ⟨x,z,v,j,a,n,ex,g,l⟩=>?_];subst ex;obtain rfl:u=j4 a:=j;rwa[Qn p v g f λC r=>⟨.bl (!n.isSome),z,r,rfl,l⟩]
def vG(z:X.A.units+1<cLine)(C:PE X o td)(hi:PE X i ty)(w:PE X value tv)(B:swapsWith value (Js (.Subscript o i pos')) pos.line X.env=pure Jv) :
  PS X (.Assign [.Subscript o i pos'] value pos) (sDPut td ty tv):=by
 intro c s b H D I h;erw[wpAny_Assign_Subscript (thn (w c s b H _ I h) λr f ⟨v,O,L,m,q⟩=>thn (C c f b O _ L q) λu d ⟨x,N,J,l,p⟩=>thn (hi c d b N _ J p) λR Q ⟨y,S,G,j,a,M,ex,g,n⟩=>?_) B];subst ex;obtain rfl:u=j4 a:=l;rwa[WB z G g j m λP E=>⟨b,M,E,n⟩]
end


def aZ{H:Hp}(h:Ae)(a:sysModules<h.objs.size):uH P w H (h.push { cls:=.type "dict",data:=.dict #[] }) h.objs.size (.dK []) :=
 ⟨Aa _,x5.mpr (Bk (o9 a)),[],.nil,Heap.DictOf.new h⟩
def UX{H:Hp}(h:Ae)(a:sysModules<h.objs.size):uH P w H (h.push { cls:=.type "dict",data:=.dict #[] }) h.objs.size (.dT []) :=
 ⟨Aa _,x5.mpr (Bk (o9 a)),[],.nil,_,#[],0,j9 _ rfl,⟨rfl,rfl,rfl⟩,rfl,rfl,F1⟩
def OG:TE:=λ_ H Q=>∀ p,H p=Jt->Q (.ref p) (upd H p (.dK []))
def OO:TE:=λ_ H Q=>∀ p,H p=Jt->Q (.ref p) (upd H p (.dT []))
section
variable{X:Cx}{pos:Dg}
def qD:PE X (.Dict [] [] pos) OG:=λc s b H Q I h =>
 Hd ⟨.ref s.heap.objs.size,_,I.laid (a:=s.heap.objs.size) (o:=.dK []) (t':=s.toks) (λ_ _ q=>c8 _ q) (e9 _) (aZ s.heap I.big),rfl,h _ (I.hok.fresh (e9 _))⟩
def Zw:PE X (.Dict [] [] pos) OO:=λc s b H Q I h =>
 Hd ⟨.ref s.heap.objs.size,_,I.laid (a:=s.heap.objs.size) (o:=.dT []) (t':=s.toks) (λ_ _ q=>c8 _ q) (e9 _) (UX s.heap I.big),rfl,h _ (I.hok.fresh (e9 _))⟩
end

def Vr:List (TE×TE)->St->Hp->(List (V×V)->Hp->Prop)->Prop
 | [],_,H,Q=>Q [] H
 | (c,b)::r,a,H,Q=>c a H λx g=>b a g λy f=>Vr r a f λd e=>Q ((x,y)::d) e
abbrev VV:List (V×V)->List (c7×c7)->Prop:=GX λp q=>xI p.1 q.1/\xI p.2 q.2
def PPs(X:Cx)(pos:Dg)(keys:List (Option Av))(a:List Av)(c:List (TE×TE)):Prop :=
 ∀(e:List (c5×By))(s:d7)(b:St)(H:Hp)(Q:List (V×V)->Hp->Prop),Inv X e b H s->Vr c b H Q ->
  wpAny 'b' X.A (evalPairs (pairTrees keys a X.env pos)) (λg h=>∃ d f,Inv X e b f h/\VV d g/\Q d f) X.xe s
def bN : PPs X pos [] [] []:=λb s a H Q I h=>pairTrees_nil_walk ⟨[],H,I,.nil,h⟩
def wL{f e:TE}(z:PE X k f)(r:PE X v e)(w:PPs X pos g d a) :
  PPs X pos (Js k::g) (v::d) ((f,e)::a):=λc s b H Q I h =>
 pairTrees_cons_walk (thn (z c s b H _ I h) λu j ⟨x,G,C,m,p⟩=>thn (r c j b G _ C p) λL i ⟨y,E,B,l,o⟩ =>
  thn (w c i b E _ B o) λJ M ⟨q,D,A,rel,n⟩=>⟨(x,y)::q,D,A,.cons ⟨m,l⟩ rel,n⟩)

def nj(a more:List (Key×V)):List (Key×V):=more.foldl (λb c=>rV b c.1 c.2) a
def KV.merge:∀{more:List (Key×V)}{b:List (Key×c7)}{a:List (Key×V)}{vs:List (Key×c7)},KV more b->KV a vs->KV (nj a more) (merged vs b):=by
 intro more b a vs r;unfold KV at r
 induction r generalizing a vs with
 | nil=>intro q; rwa[q]
 | @cons p q g f h t d =>
  intro c;have e:KV (rV a p.1 p.2) (stored vs q.1 q.2):=by
   have:=c.put p.1 h.2;rw[<- h.1]; rwa[this]
  rwa[d e]
def pK:∀(more a:List (Key×V)),(nj a more).length<=a.length+more.length
 | [],a=>by show a.length<=a.length+0; lia
 | p::r,a=>by
  have h1:=pK r (rV a p.1 p.2);have h2:=zn a p.1 p.2;show(nj (rV a p.1 p.2) r).length<=_;rw[i4]; lia
def iY : ∀{d:List (Key×V)}{f:List (c7×c7)},VV (d.map λg=>(kV g.1,g.2)) f->∃ e,Carries (yP P w) f e/\KV d e
 | [],_,r=>by rw[El] at r; cases r; rwa[[],Ao,.nil]
 | p::d,_,r=>by
  rw[j8] at r;cases r with
  | @cons a b l bs h t =>
   obtain⟨e,c,q⟩:=iY (P:=P) (w:=w) t;obtain⟨j,i⟩:=b;rwa[(p.1,i)::e,⟨gg h.1,rfl,c⟩,.cons ⟨rfl,h.2⟩ q]
def tDisp(b:List (TE×TE)):TE:=λe H Q=>∀ p,H p=Jt->Vr b e (upd H p (.dK [])) λf d=>d p=Js (.dK [])/\∃ a:List (Key×V),A3 (f=a.map (λc=>(kV c.1,c.2))) (a.length<=15) (Q (.ref p) (upd d p (.dK (nj [] a))))
def az(h:PPs X pos keys b d)(g:keys.all (·.isSome)=Ju)(C:keys.length=b.length)(h0:keys≠[])
  (j:keys.length<=15):PE X (.Dict keys b pos) (tDisp d):=by
 intro J s n H Q I q;have B:=I.hok.fresh (e9 s.heap.objs.size);have L:=I.laid (a:=s.heap.objs.size) (o:=.dK []) (h':=s.heap.push { cls:=.type "dict",data:=.dict #[] }) (t':=s.toks) (λ_ _ q=>c8 _ q) (e9 _) (aZ s.heap I.big);refine wpAny_Dict_walk (knd:=yP X.prog X.w) g C h0 j (thn (h J _ n _ _ L (q _ B)) λM N ⟨O,R,m,rel,e,f,E,lk,x⟩=>?_);subst E;obtain⟨r,c,u⟩:=iY (P:=X.prog) (w:=X.w) rel;obtain⟨z,hd,p,v,G⟩:=UT m.hok e;cases v;refine⟨r,c,G,λl i A=>⟨.ref s.heap.objs.size,_,?_,U,x⟩⟩;have y:(nj [] f).length<=sizeLine:=by
  have h1:=pK f [];rw[BE] at h1;rw[sizeLine_eq]; lia
 have D:∃ q,l.get? s.heap.objs.size=Js q:=let ⟨q,_,_,hq,_⟩:=i;⟨q,hq⟩;rwa[lT m (by rw[e]; exact Ao) A D (eQ y hd (u.merge .nil) i)]



end L2

namespace L2
def Ut(h:Ae)(a:c5)(rows:Array CN)(b:Nat):Prop:=∃ ob,h.get? a=Js ob/\ob.ExactDict/\ob.data=.dict rows b
def Ut.at{h c:Ae}{b:Nat}(x:Ut h a rows b)(e:∀ ob,h.get? a=Js ob->c.get? a=Js ob):Ut c a rows b:=let ⟨ob,g,r⟩:=x;⟨ob,e _ g,r⟩
def Ut.typeIs{z:d7}{b:Nat}(x:Ut z.heap a rows b):z.TypeIs (.ref a) "dict" := let ⟨ob,g,c,_⟩:=x;⟨ob,g,c.1⟩
section
variable{prog:o7}{w:w9}{A:An}{E:c7->d7->Prop}{z:d7}{it a:c5}{rows:Array CN}{age k:Nat}
def UI{R:c7->d7->Prop}(c:(a == sysModules)=Jv)(x:Ut z.heap a rows age)(d:R (.ref z.heap.objs.size) { z with heap:=z.heap.push { cls:=.type "dict_keyiterator",data:=.fields #[.ref a,.int 0 0,.int rows.size 0,.int age 0] } }) :
  wpAny 'k' A (pyIter (.ref a)) R E z:=by
 have ty:=x.typeIs;obtain⟨ob,g,_,b⟩:=x;erw[wpAny_pyIter_slot ty He (Cz He ty F.entry_dict_iter ?walk (F.args_dict_iter_1 _))]
 case walk =>
  unfold Eh.«dict.__iter__» Ic;refine c6 (c6 (wpAny_notOrdered_dict ty (show wpAny _ _ (pure (j4 a)) _ _ z from f8 ?_)));show wpAny _ _ (FN a >>= _) _ _ z;unfold FN;rw[y4 (by rw[c]; decide)];erw[c6 (f8 (c6 (EY g b (c6 (FH g b ?_)))))];erw[c6 (AJ (f8 ⟨_,rfl, "dict_keyiterator",_,⟨_,j9 _ rfl,rfl⟩,Bu.lookup,?_⟩))];simpa [rawInt] using d
def Tt{R:Option c7->d7->Prop}(h:z.heap.IsKeyIter it a k rows.size age)(x:Ut z.heap a rows age)(i:k<rows.size)
  (j:∀ f,f.IsKeyIter it a (k+1) rows.size age->Cj it z.heap f->R (Js rows[k].key) { z with heap:=f }):wpAny 'k' A (pyNext (.ref it)) R E z:=by
 have ty:=h.typeIs;obtain⟨m,e,l,c⟩:=id h;obtain⟨ob,g,_,d⟩:=x;unfold pyNext;erw[c6 (Gj (Dw (name:=CI "__next__") ty Bu (Cz Bu ty D8 ?walk (DR _))))]
 case walk =>
  erw[c6 (f8 (c6 (c6 ?_)))]
  first | refine c6 (BO ty (f8 (c6 (EH e c ?_)))) | refine c6 (Cr ty (f8 (c6 (EH e c ?_))))
  simp only[show Ea "dict_keyiterator" = Jv by decide,Bh,if_false];show wpAny _ _ (if (j4 a == Am)=Ju then _ else _) _ _ z;rw[y4 (show ¬ ((j4 a == Am)=Ju) from m7)];erw[c6 (f8 (c6 (EY g d ?_)))];rw[y4 'd'];erw[c6 (f8 (c6 (FH g d ?_)))];rw[y4 'd'];erw[f8 ?_];simp only[show ¬ ((k:Int)<0) from by lia,if_false,Ac,AZ i];erw[c6 ?_]
  first | refine c6 (BO ty (f8 (c6 (DK ty ?_)))) | refine c6 (Cr ty (f8 (c6 (DK ty ?_))))
  show wpAny _ _ (setField (.ref it) 1 (rawInt ((k:Int)+1)) >>= _) _ _ z;refine c6 (DI e c 'd' ?_);have b:(z.heap.update it (BZ (·.setIfInBounds 1 (rawInt ((k:Int)+1))))).IsKeyIter it a (k+1) rows.size age :=
   ⟨_,CQ _ e (DL (CJ c _)),(GL ..).trans l,by rw[CJ c]; simp[rawInt]⟩
  refine c6 (Bz (c6 (DK (s:={ z with heap:=z.heap.update it (BZ (·.setIfInBounds 1 (rawInt ((k:Int)+1)))) }) b.typeIs ?_)));show wpAny _ _ (pure rows[k].key) _ _ _;rwa[f8 (f8 ⟨_,rfl,f8 (j _ b (Cu ..))⟩)]
def RY{R:Option c7->d7->Prop}(j:A.handled=Jt)(f:z.heap.IsKeyIter it a k rows.size age)(x:Ut z.heap a rows age)(i:rows.size<=k)
  (l:∀ h,Heap.ExtBut it z.heap h->R Jt { z with heap:=h }):wpAny 'k' A (pyNext (.ref it)) R E z:=by
 have ty:=f.typeIs;obtain⟨n,d,o,e⟩:=id f;obtain⟨ob,g,_,c⟩:=x;unfold pyNext;erw[c6 (Gj (Dw (name:=CI "__next__") ty Bu (Cz Bu ty D8 ?walk (DR _))))]
 case walk =>
  erw[c6 (f8 (c6 (c6 ?_)))]
  first | refine c6 (BO ty (f8 (c6 (EH d e ?_)))) | refine c6 (Cr ty (f8 (c6 (EH d e ?_))))
  simp only[show Ea "dict_keyiterator" = Jv by decide,Bh,if_false];show wpAny _ _ (if (j4 a == Am)=Ju then _ else _) _ _ z;rw[y4 (show ¬ ((j4 a == Am)=Ju) from m7)];erw[c6 (f8 (c6 (EY g c ?_)))];rw[y4 'd'];erw[c6 (f8 (c6 (FH g c ?_)))];rw[y4 'd'];erw[f8 ?_];simp only[show ¬ ((k:Int)<0) from by lia,if_false,Ac,Fw i];erw[c6 ?_]
  first | refine c6 (BO ty (f8 ?_)) | refine c6 (Cr ty (f8 ?_))
  show wpAny _ _ (setField (.ref it) 0 .none >>= _) _ _ z;refine c6 (DI d e 'd' (show wpAny _ _ (newExc (.type "StopIteration") [] >>= _) _ _ _ from c6 ?_));simp only[newExc,newTuple];refine c6 (AJ (c6 (m:=firstArgMember _ _) (wpAny_of_eq (a:=Am) (by first | rfl | (simp only[firstArgMember]; rfl)) (AJ ?_ (by size_fits)))) (by size_fits));simp only[raiseNew];erw[c6 (wpAny_handled ?_)];rw[show A.in1.handled=Jt from j];erw[c6 (f8 (wpAny_throw ?_))];erw[c6 (wpAny_isInstance (T := "StopIteration") (b:=Ju) ⟨_,j9 _ rfl,rfl⟩ isSubtype_stop ?_)];rwa[f8 (l _ (((Cu ..).extBut.push _).push _))]
def Wy(p:A.handled=Jt)(j:a≠it):Walks prog w A it [it,a] [it] rows.size (λi v=>∃ h:i<rows.size,v=rows[i].key) (λi h=>h.IsKeyIter it a i rows.size age/\Ut h a rows age) where
 sub:=λb c=>by simp at c; simp[c]
 frame:=λ_ _ _ st n=>⟨st.1.at λo e=>n it 'd' o e,st.2.at λo e=>n a 'd' o e⟩
 item:=λi s Q E hi st f=>Tt st.1 st.2 hi λm g d =>
  f _ m s.toks ⟨hi,rfl⟩ ⟨g,st.2.at λo e=>d.extBut a o j e⟩ λb o c e=>d.extBut b o (λh=>c (by simp[h])) e
 done:=λs Q E st f=>RY p st.1 st.2 (e9 _) λm l=>f m s.toks λb o c e=>l b o (λh=>c (by simp[h])) e
 self:=λ_ _ _ _ st f=>wpAny_pyIter_keyiter st.1 f
def XU(c:(a == sysModules)=Jv):PySem.W.KdlSrc prog w "dict" a a rows.size (λi v=>∃ h:i<rows.size,v=rows[i].key) (λh=>Ut h a rows age) where
 type:=λ_ x=>x.typeIs
 there:=λ_ x=>let ⟨_,g,_⟩:=x;⟨i5 g,i5 g⟩
 keep:=λ_ _ x d=>x.at λo e=>d a (.inl rfl) o e
 notList:=by decide
 notTuple:=by decide
 hint:=λ_ _ _ _ x b=>PySem.W.kdl_hint_dict x.typeIs b
 iter:=λ_ s f x=>⟨_,_,(λ_ _ b=>UI c x b),Wy f (let ⟨_,g,_⟩:=x; o9 (i5 g)),⟨⟨_,j9 _ rfl,rfl,rfl⟩,x.at λo e=>c8 _ e⟩⟩
end
section
variable{X:Cx}
def oV(hc:X.calm=Ju):vA X (.type "list") (λxs H Q=>E2 λ(d:c5) (f:List (List Key×V))=>A3 (xs=[.ref d]) (H d=Js (.dT f)) (∀(p:c5)(D:List (c5×List Key)),H p=Jt->D.map (·.2)=f.map (·.1)->(∀ t∈D,H t.1=Js (.tup (t.2.map kV)))->Q (.ref p) (upd H p (.lst ((D.map (·.1)).map V.ref))))):=by
 intro Jw s σ H xs us Q I r h;obtain⟨d,f,rfl,hd,q⟩:=h;obtain⟨u,rfl,ru⟩:=yQ.one r;cases ru;obtain⟨E,G,m,rel,ob,N,C,g,ex,O,x,w⟩:=Oy I.hok hd;have l:N.size=m.length:=size_of_entries x;have i:f.length=m.length:=DV rel;refine Hf (XU (rows:=N) (age:=C) G) (show X.A.handled=Jt from I.ok.hd hc) ⟨ob,g,ex,O⟩ (by rw[l,<- i]; exact E) λh' Y z c keep at' n=>?_;have B:z.toList=((m.map λy=>(y.2.1,y.1)).map (·.1)).map j4:=by
  erw[DE λj=>?_];by_cases M:j<m.length
  ·have R:j<z.size:=by rw[n.1,l]; rwa[M]
   obtain⟨L,e⟩:=n.2 j z[j] (by simp[R]);have T:=entry_at x j;rw[AZ L,d6 M,Bj] at T;have ev:N[j].key=j4 m[j].2.1:=by rw[m8 T]; rfl
   rw[CS,AZ R,e,ev,e7,e7,e7,d6 M];rfl
  ·rw[Bs (by rw[Ay,n.1,l]; lia),Bs (by simp; lia)]
 have b:(m.map λy=>(y.2.1,y.1)).map (·.2)=f.map (·.1)/\∀ t∈m.map (λy=>(y.2.1,y.1)),H t.1=Js (.tup (t.2.map kV)):=by
  clear x l i q B hd E w
  induction rel with
  | nil=>exact⟨rfl,λt Z=>nomatch Z⟩
  | @cons p y ps zs J t S =>
   erw[by rw[j8,j8,j8,S.1,J.1],λP v=>?_];rcases g9.mp v with e | v
   ·subst e;show H y.2.1=Js (.tup (y.1.map kV));rw[<- J.1];rwa[J.2.1]
   ·rwa[S.2 P v]
 have fr:H s.heap.objs.size=none:=I.hok.fresh (e9 _);erw[.ref s.heap.objs.size,_,I.laid (t':=Y) (a:=s.heap.objs.size) (o:=.lst (((m.map λy=>(y.2.1,y.1)).map (·.1)).map V.ref)) keep (e9 _) ?_,rfl,q _ _ fr b.1 b.2];exists by rw[ac,ac,ac,<- i]; exact E,_,c,rL _;rw[<- B,F2];rwa[at']
end
end L2

namespace Sea
abbrev Sd:=c5×Int×Int×Int
abbrev zY(a:List Sd):List V:=(a.map (·.1)).map V.ref
def qb(H:Hp)(a:List Sd):Prop:=∀ t∈a,H t.1=Js (.tup [.int t.2.1,.int t.2.2.1,.int t.2.2.2])/\(t.2.1≠0\/t.2.2.1≠0)/\t.2.1.natAbs<=10^9/\t.2.2.1.natAbs<=10^9/\t.2.2.2.natAbs<=10^13
def qb.same{H c:Hp}(h:qb H a)(s:Same H c):qb c a:=λt b=>⟨s _ _ (h t b).1,(h t b).2⟩
def zO(a:List Sd):(zY a).length=a.length:=by simp[zY]
def vd{i:Nat}(h:(zY a)[i]?=Js v):∃ t,a[i]?=Js t/\v=.ref t.1/\i<a.length:=by
 rw[e7,e7] at h;cases e:a[i]? with
 | none=>rw[e] at h; cases h
 | some t=>rw[e] at h; rwa[t,rfl,(m8 h).symm,(c9.mp e).1]
def xH{ss:List Sd}{i:Nat}{k:Int}(e:k=i)(h:i<ss.length):∃ t,t∈ss/\ss[i]?=Js t/\atI (zY ss) k=Js (.ref t.1):=by
 erw[ss[i],Ap h,d6 h,?_];rw[e];rwa[rE (by rw[e7,e7,d6 h] <;> rfl)]
def vD(a:List Sd)(x y:Int):Bool:=a.all λt=>decide (t.2.1*x+t.2.2.1*y<=0)
def WK(a:List Sd)(n:Nat)(k:List Int):Prop:=∃ j t,j<n/\a[j]?=Js t/\((k=uJ [-t.2.2.1,t.2.1]/\vD a (-t.2.2.1) t.2.1=Ju)\/(k=uJ [t.2.2.1,-t.2.1]/\vD a t.2.2.1 (-t.2.1)=Ju))
def RX(a:List Sd)(k:List Int):¬ WK a 0 k:=λ⟨_,_,h,_⟩=>y9 h (AH _)
def QK{a:List Sd}{n:Nat}(h:a[n]?=Js t)(k:List Int):WK a (n+1) k↔WK a n k\/(k=uJ [-t.2.2.1,t.2.1]/\vD a (-t.2.2.1) t.2.1=Ju)\/(k=uJ [t.2.2.1,-t.2.1]/\vD a t.2.2.1 (-t.2.1)=Ju):=by
 constructor
 ·rintro⟨j,u,c,b,r⟩;by_cases e:j=n
  ·subst e;rw[h] at b;cases b;rwa[.inr r]
  ·rwa[.inl ⟨j,u,by lia,b,r⟩]
 ·rintro(⟨j,u,c,b,r⟩ | r)
  ·rwa[j,u,by lia,b,r]
  ·rwa[n,t,by lia,h,r]
def UG{x y g:Int}(a:0<g):vD ss (x*g) (y*g)=vD ss x y:=by
 unfold vD
 congr 1
 funext t
 erw[decide_eq_decide.mpr ?_];have e:t.2.1*(x*g)+t.2.2.1*(y*g)=(t.2.1*x+t.2.2.1*y)*g:=by rw[n9,x9,x9]
 rw[e];constructor
 ·intro h;by_cases c:t.2.1*x+t.2.2.1*y<=0
  ·rwa[c]
  ·have:=i8 (show 0<t.2.1*x+t.2.2.1*y by lia) a;lia
 ·intro h;have:=g8 (show 0<=-(t.2.1*x+t.2.2.1*y) by lia) (i3 a);rw[o8] at this;lia
def gcd2{x y:Int}(n:x≠0\/y≠0)(c:x.natAbs<=10^9)(b:y.natAbs<=10^9):0<yC [x,y]/\(yC [x,y]:Int)<10^600:=by
 have a:0<yC [x,y]:=by
  rcases n with n | n
  ·rwa[yX (n:=x) 'd' n]
  ·rwa[yX (n:=y) 'd' n]
 have z:(yC [x,y]:Int)<=10^9:=by
  rcases n with n | n
  ·have:=rM (ns:=[x,y]) (n:=x) 'd' n;lia
  ·have:=rM (ns:=[x,y]) (n:=y) 'd' n;lia
 rwa[a,BM z 'h']
def be{x y:Int}(d:0<yC [x,y]):vD ss (x/(yC [x,y]:Int)) (y/(yC [x,y]:Int))=vD ss x y:=by
 have a:(0:Int)<(yC [x,y]:Int):=by lia
 have c:=yJ (ns:=[x,y]) (n:=x) 'd';have b:=yJ (ns:=[x,y]) (n:=y) 'd';have z:=UG (ss:=ss) (x:=x/(yC [x,y]:Int)) (y:=y/(yC [x,y]:Int)) a;rw[c,b] at z;rwa[z.symm]
def Zd(ns:List Int):List Key:=ns.map Dj
def ju(ns:List Int):(Zd ns).map kV=ns.map V.int:=by
 unfold Zd;rw[v8];rfl
def Td(h:Zd a=Zd b):a=b:=by
 have z:=congrArg (List.map kV) h;rw[ju,ju] at z;rwa[oM z]
structure Xv(kvs:List (List Key×V))(ks:List (List Int)):Prop where
 keys:kvs.map (·.1)=ks.map Zd
 nodup:ks.Nodup
def Xv.nil:Xv [] []:=⟨rfl,F1⟩
def Xv.put(h:Xv d i)(k:List Int)(v:V):∃ j,Xv (rV d (Zd k) v) j/\(∀ x,x∈j↔x∈i\/x=k)/\j.length<=i.length+1:=by
 have p:∀ g∈d,∃ x∈i,g.1=Zd x:=λg f=>by
  have z:g.1∈i.map Zd:=by rw[<- h.keys]; rwa[Ab f]
  obtain⟨x,l,e⟩:=o5.mp z;rwa[x,l,e.symm]
 unfold rV;by_cases c:(d.any λg=>decide (g.1=Zd k))=Ju
 ·rw[y6 c];obtain⟨g,f,e⟩:=DS.mp c;obtain⟨x,l,ex⟩:=p g f;have m:x=k:=Td (ex.symm.trans (of_decide_eq_true e));erw[i,⟨?_,h.nodup⟩,λy=>⟨.inl,λz=>z.elim id λz=>by rw[z,<- m]; rwa[l]⟩,Bc _];rw[v8,<- h.keys];erw[AA λa _=>?_];show(if a.1=Zd k then(a.1,v) else a).1=a.1;split <;> rfl
 ·rw[y4 c];have o:k ∉ i:=λq=>c (by
   have z:Zd k∈d.map (·.1):=by rw[h.keys]; rwa[Ab q]
   obtain⟨g,f,e⟩:=o5.mp z;rwa[DS.mpr ⟨g,f,y7 e⟩])
  erw[i++[k],⟨by rw[g5,g5,h.keys]; rfl,?_⟩,λy=>by rw[m9,e8],by rw[g7]; rwa[e9 _]];rw[GM];erw[h.nodup,by simp,λa r b n=>?_];rw[e8] at n;intro e;rwa[o (n ▸ e ▸ r)]
def Xv.len(h:Xv a b):a.length=b.length:=by
 have z:=congrArg Br h.keys;(rw[ac,ac] at z;assumption)
def Xv.refs{H:Hp}{c:List (c5×List Key)}(h:Xv d a)(e:c.map (·.2)=d.map (·.1))(i:∀ t∈c,H t.1=Js (.tup (t.2.map kV))) :
  ∃ b:List (c5×List Int),b.map (·.1)=c.map (·.1)/\b.map (·.2)=a/\∀ u∈b,H u.1=Js (.tup (u.2.map V.int)):=by
 rw[h.keys] at e;clear h
 induction c generalizing a with
 | nil =>
  cases a with
  | nil=>exact⟨[],rfl,rfl,λu f=>nomatch f⟩
  | cons k a=>rwa[y9 e 'd']
 | cons t c l =>
  cases a with
  | nil=>rwa[y9 e 'd']
  | cons k a =>
   rw[j8,j8] at e;injection e with e1 e2
   obtain⟨b,h1,h2,h3⟩:=l e2 λj g=>i j (l7 _ g);erw[(t.1,k)::b,by rw[j8,j8,h1],by rw[j8,h2],λu f=>?_];rcases g9.mp f with rfl | f
   ·have z:=i t (j7 ..);rw[e1,ju] at z;rwa[z]
   ·rwa[h3 u f]
def VG{α:Type}[DecidableEq α]:∀{xs b:List α},xs.Nodup->b.Nodup->(∀ a,a∈xs↔a∈b)->xs.Perm b
 | [],b,_,_,h=>by
  cases b with
  | nil=>rwa[.refl _]
  | cons y b=>rwa[y9 ((h y).mpr (j7 ..)) (CD)]
 | x::xs,b,j,i,h=>by
  have c:=Ax.mp j;have m:x∈b:=(h x).mp (j7 ..);erw[List.Perm.trans ?_ (List.perm_cons_erase m).symm];refine(VG c.2 (i.erase x) λa=>?_).cons x;rw[i.mem_erase_iff];constructor
  ·intro d;rwa[λe=>c.1 (e ▸ d),(h a).mp (l7 _ d)]
  ·rintro⟨f,d⟩;rcases g9.mp ((h a).mpr d) with e | g
   ·rwa[y9 e f]
   ·rwa[g]
structure oX(H:Hp)(l:c5)(ss:List Sd)(us:List (c5×List Int)):Prop where
 at':H l=Js (.lst ((us.map (·.1)).map V.ref))
 all:∀ u∈us,H u.1=Js (.tup (u.2.map V.int))
 rises:(us.map (·.2)).Pairwise (λa b=>HT.lexLt b a=Jv)
 nodup:(us.map (·.2)).Nodup
 mem:∀ k,k∈us.map (·.2)↔WK ss ss.length k
 few:us.length<=80
def oX.eq{H i:Hp}(h:oX H l c f)(d:oX i g a b)(e:∀ k,WK c c.length k↔WK a a.length k):f.map (·.2)=b.map (·.2) :=
 WW (VG h.nodup d.nodup λk=>(h.mem k).trans ((e k).trans (d.mem k).symm)) h.rises d.rises
structure SdSt(H0:Hp)(D:c5)(ss:List Sd)(H:Hp):Prop where
 same:Same H0 H
 new:H0 D=Jt
 at':H D=Js (.lst (zY ss))
 all:qb H ss
end Sea

namespace Sea
def zv{i j:Int}(h:i.natAbs<=10^18):Pq i j:=.inl ⟨by lia,by lia⟩
abbrev P3:=Int×Int×Int
abbrev yp(a:List (c5×P3)):List V:=(a.map (·.1)).map V.ref
def bC(H:Hp)(a:List (c5×P3)):Prop:=∀ t∈a,H t.1=Js (.tup [.int t.2.1,.int t.2.2.1,.int t.2.2.2])/\0<t.2.2.2/\l9 (l9 t.2.1.natAbs t.2.2.1.natAbs) t.2.2.2.natAbs=1
def bC.same{H c:Hp}(h:bC H a)(s:Same H c):bC c a:=λt b=>⟨s _ _ (h t b).1,(h t b).2⟩
def sv(t p:P3):Int:=t.1*p.1+t.2.1*p.2.1-t.2.2*p.2.2
def tn(e s:P3):Int:=e.1*s.2.1-e.2.1*s.1
def dl(e p q:P3):Int:=e.1*(p.2.1*q.2.2-q.2.1*p.2.2)-e.2.1*(p.1*q.2.2-q.1*p.2.2)
def SD(a b u v X Y:Int):(a*a+b*b)*(u*X+v*Y)=(a*Y-b*X)*(a*v-b*u)+(a*X+b*Y)*(a*u+b*v):=by
 simp only[Ah,AY,x8,n9,d8,f9];lia
def jr(s p q:P3):sv s p*q.2.2-sv s q*p.2.2=s.1*(p.1*q.2.2-q.1*p.2.2)+s.2.1*(p.2.1*q.2.2-q.2.1*p.2.2):=by
 unfold sv;simp only[Ah,AY,n9,x8,d8,f9];lia
def Xn(b:sv e p=0)(a:sv e q=0)(s:P3):(e.1*e.1+e.2.1*e.2.1)*(sv s p*q.2.2-sv s q*p.2.2)=dl e p q*tn e s:=by
 have z:=jr e p q;rw[b,a,j3,j3,CK] at z;rw[jr s p q,SD,<- z,j3,CL];rfl
def av{x y h:Int}(a:h*h=1):(x*h)*(y*h)=x*y:=by
 have e:(x*h)*(y*h)=x*y*(h*h):=by simp only[d8,f9]
 rw[e,a,Ck]
def gL{e p q:P3}{h:Int}(i:h*h=1)(j:0<e.1*e.1+e.2.1*e.2.1)(g:sv e p=0)(f:sv e q=0)(b:0<p.2.2)(a:0<q.2.2)(s:P3)(d:(dl e p q*h)*(tn e s*h)<=0)(l:sv s q<=0):sv s p<=0:=by
 have k:=Xn g f s;rw[<- av (x:=dl e p q) (y:=tn e s) i] at k;rw[<- k] at d;have h1:sv s p*q.2.2-sv s q*p.2.2<=0:=by
  by_cases c:sv s p*q.2.2-sv s q*p.2.2<=0
  ·rwa[c]
  ·have:=i8 j (show 0<sv s p*q.2.2-sv s q*p.2.2 by lia);lia
 have h2:sv s q*p.2.2<=0:=by
  have:=g8 (show 0<=-sv s q by lia) (i3 b);rw[o8] at this;lia
 by_cases c:sv s p<=0
 ·rwa[c]
 ·have:=i8 (show 0<sv s p by lia) a;lia
def cU{e p q s:P3}{h:Int}(g:h*h=1)(i:0<e.1*e.1+e.2.1*e.2.1)(f:sv e p=0)(d:sv e q=0)(a:0<p.2.2)(h0:sv s p=0)(j:sv s q<=0)(b:0<tn e s*h):0<=dl e p q*h:=by
 have k:=Xn f d s;rw[h0,j3,<- av (x:=dl e p q) (y:=tn e s) g] at k;have h2:0<=-sv s q*p.2.2:=g8 (by lia) (i3 a);rw[o8] at h2;have h3:=g8 (i3 i) (show 0<=0-sv s q*p.2.2 by lia);rw[k] at h3;by_cases c:0<=dl e p q*h
 ·rwa[c]
 ·have:=i8 (show 0 < -(dl e p q*h) by lia) b;rw[o8] at this;lia
def RR{e p q s:P3}{h:Int}(i:h*h=1)(j:0<e.1*e.1+e.2.1*e.2.1)(g:sv e p=0)(f:sv e q=0)(a:0<p.2.2)(h0:sv s p=0)(b:0<sv s q)(d:0<tn e s*h):dl e p q*h<=0:=by
 have k:=Xn g f s;rw[h0,j3,<- av (x:=dl e p q) (y:=tn e s) i] at k;have h2:=i8 b a;have h3:=g8 (i3 j) (show 0<=sv s q*p.2.2 by lia);have h4:(e.1*e.1+e.2.1*e.2.1)*(0-sv s q*p.2.2) = -((e.1*e.1+e.2.1*e.2.1)*(sv s q*p.2.2)):=by rw[GN,t8]
 rw[h4] at k;by_cases c:dl e p q*h<=0
 ·rwa[c]
 ·have:=i8 (show 0<dl e p q*h by lia) d;lia
def pt3(l:List Int):P3:=match l with
 | [x,y,w]=>(x,y,w)
 | _=>(0,0,1)
def crL(e s:P3):List Int:=uJ (upL (e.2.2*s.2.1-e.2.1*s.2.2) (e.1*s.2.2-e.2.2*s.1) (e.1*s.2.1-e.2.1*s.1))
def ftL(t:P3):List Int:=uJ (upL (t.1*t.2.2) (t.2.1*t.2.2) (t.1*t.1+t.2.1*t.2.1))
structure SC(l:List Int)(p:P3):Prop where
 list:l=[p.1,p.2.1,p.2.2]
 pos:0<p.2.2
 low:l9 (l9 p.1.natAbs p.2.1.natAbs) p.2.2.natAbs=1
def uA(h:tn e s≠0):SC (crL e s) (pt3 (crL e s))/\sv e (pt3 (crL e s))=0/\sv s (pt3 (crL e s))=0:=by
 obtain⟨x,y,w,b,a⟩:=qG (X:=e.2.2*s.2.1-e.2.1*s.2.2) (Y:=e.1*s.2.2-e.2.2*s.1) (W:=e.1*s.2.1-e.2.1*s.1) h;have c:crL e s=[x,y,w]:=b;rw[c];refine⟨⟨U,by have:=a.pos; show 0<w; lia,a.low⟩,?_,?_⟩
 ·have z:=gG (A:=e.1) (B:=e.2.1) (C:=e.2.2) h a (VT e.1 e.2.1 e.2.2 s.1 s.2.1 s.2.2);show e.1*x+e.2.1*y-e.2.2*w=0;lia
 ·have z:=gG (A:=s.1) (B:=s.2.1) (C:=s.2.2) h a (Wj e.1 e.2.1 e.2.2 s.1 s.2.1 s.2.2);show s.1*x+s.2.1*y-s.2.2*w=0;lia
def tS{t:P3}(h:t.1≠0\/t.2.1≠0):0<t.1*t.1+t.2.1*t.2.1:=kZ h
def RH{t:P3}(h:t.1≠0\/t.2.1≠0):SC (ftL t) (pt3 (ftL t))/\sv t (pt3 (ftL t))=0:=by
 have d:=tS h;obtain⟨x,y,w,b,a⟩:=qG (X:=t.1*t.2.2) (Y:=t.2.1*t.2.2) (W:=t.1*t.1+t.2.1*t.2.1) (by lia);have c:ftL t=[x,y,w]:=b;rw[c];exists ⟨U,by have:=a.pos; show 0<w; lia,a.low⟩;have z:=gG (A:=t.1) (B:=t.2.1) (C:=t.2.2) (show t.1*t.1+t.2.1*t.2.1≠0 by lia) a (by simp only[x8,d8,f9]);show t.1*x+t.2.1*y-t.2.2*w=0;lia
def inW(a:List Sd)(p:P3):Prop:=∀ t∈a,sv t.2 p<=0
def nN(a:List Sd)(e:P3)(h:Int):Option Nat->Prop
 | none=>∀ t∈a,tn e t.2*h<=0
 | some j=>∃ t,a[j]?=Js t/\0<tn e t.2*h/\∀ u∈a,0<tn e u.2*h->sv u.2 'r'<=0
def yG{x h:Int}(h0:0<x*h):x≠0:=λz=>by rw[z,j3] at h0; rwa[y9 h0 'a']
def iL{e z:P3}{h:Int}{j:Nat}(g:h*h=1)(i:0<e.1*e.1+e.2.1*e.2.1)(d:sv e z=0)(m:0<z.2.2)(b:inW a z)(gt:a[j]?=Js t)(h0:0<tn e t.2*h)(o:∀ u∈a,0<tn e u.2*h->sv u.2 'r'<=0):inW a 'r':=λu f=>by
 obtain⟨c,l,c2⟩:=uA (yG h0);by_cases n:0<tn e u.2*h
 ·rwa[o u f n]
 ·have p:=cU g i l d c.pos c2 (b t (f6 gt)) h0;erw[gL g i l d c.pos m u.2 ?_ (b u f)];have:=g8 p (show 0<=-(tn e u.2*h) by lia);rw[t8] at this;lia
def WD{e z p:P3}(j:0<e.1*e.1+e.2.1*e.2.1)(g:sv e z=0)(c:0<z.2.2)(d:inW a z)(i:sv e p=0)(f:0<p.2.2)(n1:nN a e 1 Jt)(n2:nN a e (-1) Jt):inW a p:=λu b=>by
 have m:=n1 u b;have l:=n2 u b;rw[Ck] at m;have n:tn e u.2=0:=by
  rw[t8,Ck] at l;lia
 erw[gL (h:=1) 'a' j i g f c u.2 ?_ (d u b)];rw[n,j3,AD];rwa[Dy _]
def WL(t p z:P3)(b a:Int):sv t (b*p.1+a*z.1,b*p.2.1+a*z.2.1,b*p.2.2+a*z.2.2)=b*sv t p+a*sv t z:=by
 unfold sv;simp only[Ah,x8,d8,f9];lia
def between(wp:inW a p)(f:inW a z)(g:0<p.2.2)(d:0<z.2.2)(c:0<sv e p)(h:sv e z<=0):∃ m:P3,sv e m=0/\0<m.2.2/\inW a m:=by
 erw[(-sv e z*p.1+sv e p*z.1,-sv e z*p.2.1+sv e p*z.2.1,-sv e z*p.2.2+sv e p*z.2.2),?_,?_,λt b=>?_]
 ·rw[WL,o8,d8 (sv e p)];lia
 ·have h1:=g8 (show 0<=-sv e z by lia) (i3 g);have h2:=i8 c d;show 0 < -sv e z*p.2.2+sv e p*z.2.2;lia
 ·rw[WL];have h1:=g8 (show 0<=-sv e z by lia) (show 0<=-sv t.2 p by have:=wp t b; lia);have h2:=g8 (i3 c) (show 0<=-sv t.2 z by have:=f t b; lia);rw[t8] at h1 h2;lia
end Sea

namespace L2
section
variable{X:Cx}{pos:Dg}
def tPar3(i j k:Nat)(c:TA):TS:=λD a H=>c a H λb d=>E3 λu v w=>b=[u,v,w]/\D.nx (((a.set i (Js u)).set j (Js v)).set k (Js w)) d
def QP{i j k:Nat}{a b c:Av}{kt k2 pt2}(hc:X.calm=Ju)(L:X.N.Nodup)(hi:X.N[i]?=Js x)(hj:X.N[j]?=Js y)(hk:X.N[k]?=Js z)(J:i≠j)(G:i≠k)(E:j≠k)
  (R:X.env.scope.names.lookup x=Js .local) (Q:X.env.scope.names.lookup y=Js .local) (P:X.env.scope.names.lookup z=Js .local) (ha:PA X [a,b,c] O)
  (hw:swappedStores [.Tuple [.Name x r,.Name y n,.Name z m] kt pt] (.Tuple [a,b,c] k2 pt2) X.env=pure (Js [x,y,z]))
  (hs:swapsWithSole [.Tuple [.Name x r,.Name y n,.Name z m] kt pt] (.Tuple [a,b,c] k2 pt2) pos.line X.env=pure false:=by rfl) :
  PS X (.Assign [.Tuple [.Name x r,.Name y n,.Name z m] kt pt] (.Tuple [a,b,c] k2 pt2) pos) (tPar3 i j k O):=by
 intro T s M H D I h;rw[exec_Assign_arm];refine c6 (CO ?_);rw[hs];refine c6 (f8 ?_);rw[y4 'a'];refine c6 (Tuple_ (thn (ha _ T s M H _ I h) λus f ⟨vs,Z,I1,r1,g⟩=>?_));obtain⟨u,v,t,e1,g⟩:=g;subst e1;obtain⟨u1,u2,u3,rfl,ru,rv,rt⟩:∃ u1 u2 u3,us=[u1,u2,u3]/\xI u u1/\xI v u2/\xI t u3:=by
  cases r1 with
  | cons p q =>
   cases q with
   | cons p' q' =>
    cases q' with
    | cons B l =>
     cases l;rwa[_,_,_,rfl,p,p',B]
 refine AJ ?_ (by show 3<=sizeLine; decide);have I2:Inv X T M Z { f with heap:=f.heap.push { cls:=.type "tuple",data:=.seq [u1,u2,u3].toArray } }:=I1.kept (t':=f.toks) λb o e=>c8 _ e;rw[hw];erw[c6 (f8 ?_)];show wpAny 'b' X.A (do rule "assign.swapped-stores"; let d <- unpackItems (.ref f.heap.objs.size) 3 Jt; assignInOrder [λv=>bindName X.env z v,λv=>bindName X.env y v,λv=>bindName X.env x v] d.reverse; pure G0) _ _ _;erw[c6 (HD (c6 (unpackItems_tuple (items:=#[u1,u2,u3]) (I.ok.hd hc) (G4 f.heap _) λS C=>?_)))];have I3:=I2.kept (h':=S) (t':=f.toks) λb o e=>C b o (o9 (i5 e)) e;show wpAny _ _ (assignInOrder [λv=>bindName X.env z v,λv=>bindName X.env y v,λv=>bindName X.env x v] [u3,u2,u1] >>= λ_=>pure G0) _ _ _;erw[c6 (assignInOrder_cons (DA (vI I3 L hk (.inl P) rt (λs2 I4=>?_) (.inr P))))];erw[assignInOrder_cons (DA (vI I4 L hj (.inl Q) rv (λs3 I5=>?_) (.inr Q)))];erw[assignInOrder_cons (DA (vI I5 L hi (.inl R) ru (λs4 Y=>assignInOrder_nil (f8 ?_)) (.inr R)))];rw[Fd (Js t) (Js v) (Bk E),Fd (Js t) (Js u) (Bk G),Fd (Js v) (Js u) (Bk J)] at Y;rwa[_,Z,Y,g]
end
end L2
namespace Sea
def Qi(h:tn e s≠0):crL e s=crL s e:=by
 unfold crL;have c:s.2.2*e.2.1-s.2.1*e.2.2 = -(e.2.2*s.2.1-e.2.1*s.2.2):=by rw[d8 s.2.2,d8 s.2.1]; lia
 have b:s.1*e.2.2-s.2.2*e.1 = -(e.1*s.2.2-e.2.2*s.1):=by rw[d8 s.1,d8 s.2.2]; lia
 have a:s.1*e.2.1-s.2.1*e.1 = -(e.1*s.2.1-e.2.1*s.1):=by rw[d8 s.1,d8 s.2.1]; lia
 rw[c,b,a,Rt (show e.1*s.2.1-e.2.1*s.1≠0 from h)]
end Sea

namespace Sea
def lZ(e p q:P3):dl e p q = -dl e q p:=by
 unfold dl;simp only[Ah];lia
def Pe{a b X Y:Int}(e:0<a*a+b*b)(h1:a*X+b*Y=0)(h2:a*Y-b*X=0):X=0/\Y=0:=by
 have d:(a*a+b*b)*X=a*(a*X+b*Y)-b*(a*Y-b*X):=by
  simp only[Ah,x8,n9,d8,f9];lia
 have c:(a*a+b*b)*Y=b*(a*X+b*Y)+a*(a*Y-b*X):=by
  simp only[Ah,x8,n9,d8,f9];lia
 rw[h1,h2,AD,AD] at d c;constructor
 ·rcases i7.mp d with z | z
  ·lia
  ·rwa[z]
 ·rcases i7.mp c with z | z
  ·lia
  ·rwa[z]
def ij{e p q:P3}(c:0<e.1*e.1+e.2.1*e.2.1)(b:sv e p=0)(a:sv e q=0)(hd:dl e p q=0):p.1*q.2.2=q.1*p.2.2/\p.2.1*q.2.2=q.2.1*p.2.2:=by
 have z:=jr e p q;rw[b,a,j3,j3,CK] at z;have w:=Pe c z.symm hd;lia
def iO{x y w b a v:Int}(g:0<v)(h1:x*v=b*w)(h2:y*v=a*w)(low:l9 (l9 x.natAbs y.natAbs) w.natAbs=1):w.natAbs ∣ v.natAbs:=by
 have f:w.natAbs ∣ v.natAbs*x.natAbs:=by
  rw[<- Au,d8,h1,Au];rwa[CF _ _]
 have e:w.natAbs ∣ v.natAbs*y.natAbs:=by
  rw[<- Au,d8,h2,Au];rwa[CF _ _]
 have c:w.natAbs ∣ v.natAbs*w.natAbs:=CF _ _;have d:=Hm (Hm f e) c;rw[Hg,Hg,low,IX] at d;rwa[d]
def tK{p q:P3}(pp:0<p.2.2)(b:0<q.2.2)(lp:l9 (l9 p.1.natAbs p.2.1.natAbs) p.2.2.natAbs=1)(c:l9 (l9 q.1.natAbs q.2.1.natAbs) q.2.2.natAbs=1)(h1:p.1*q.2.2=q.1*p.2.2)(h2:p.2.1*q.2.2=q.2.1*p.2.2):p=q:=by
 have h:=iO b h1 h2 lp;have g:=iO pp h1.symm h2.symm c;have e:=DT h g;have a:p.2.2=q.2.2:=by lia
 rw[a] at h1 h2;have f:=B8 (by lia) h1;have d:=B8 (by lia) h2;rwa[Ev f (Ev d a)]
def Cor(a:List Sd)(P:P3):Prop:=∃ t∈a,∃ u∈a,tn t.2 u.2≠0/\P=pt3 (crL t.2 u.2)/\inW a P
def jI(a:List Sd)(e:P3)(h:Int)(b:List P3):Prop:=nN a e h Jt\/∃(j:Nat)(t:Sd),a[j]?=Js t/\0<tn e t.2*h/\(∀ u∈a,0<tn e u.2*h->sv u.2 'r'<=0)/\pt3 (crL e t.2)∈b
def jI.app{h:Int}{c d:List P3}(f:jI b e h c):jI b e h (c++d):=by
 rcases f with f | ⟨j,t,g,p,a,m⟩
 ·rwa[.inl f]
 ·rwa[.inr ⟨j,t,g,p,a,C3 _ m⟩]
def RP{b:List Sd}{e:P3}{s:Sd}{h:Int}(o:h*h=1)(q:0<e.1*e.1+e.2.1*e.2.1)(u:s∈b)(n:0<tn e s.2*h)(A:inW b (pt3 (crL e s.2)))(f:jI b e h r):pt3 (crL e s.2)∈r:=by
 rcases f with f | ⟨j,t,g,p,a,m⟩
 ·have:=f s u;lia
 ·obtain⟨d,l,y⟩:=uA (yG n);obtain⟨c,i,x⟩:=uA (yG p);have E:=cU o q l i d.pos y (a s u n) n;have C:=cU o q i l c.pos x (A t (f6 g)) p;rw[lZ,o8] at C;have D:dl e (pt3 (crL e s.2)) 'r'*h=0:=by lia
  have B:dl e (pt3 (crL e s.2)) 'r'=0:=by
   have z:dl e (pt3 (crL e s.2)) 'r'*h*h=0:=by rw[D,j3]
   rw[x9,o,Ck] at z;rwa[z]
  obtain⟨w,v⟩:=ij q l i B;rw[tK d.pos c.pos d.low c.low w v];rwa[m]
def RQ{x:Int}(h:x≠0):∃ k:Int,(k=1\/k = -1)/\k*k=1/\0<x*k:=by
 by_cases c:0<x
 ·rwa[1,.inl rfl,by decide,by lia]
 ·rwa[-1,.inr rfl,by decide,by lia]
def Zn(h:tn e s≠0)(f:e.1.natAbs<=10^9)(d:e.2.1.natAbs<=10^9)(c:e.2.2.natAbs<=10^13)(b:s.1.natAbs<=10^9)(c2:s.2.1.natAbs<=10^9)(c3:s.2.2.natAbs<=10^13) :
  (pt3 (crL e s)).1.natAbs<=10^40/\(pt3 (crL e s)).2.1.natAbs<=10^40/\(pt3 (crL e s)).2.2.natAbs<=10^40:=by
 obtain⟨x,y,w,g,a⟩:=qG (X:=e.2.2*s.2.1-e.2.1*s.2.2) (Y:=e.1*s.2.2-e.2.2*s.1) (W:=e.1*s.2.1-e.2.1*s.1) h;have i:crL e s=[x,y,w]:=g;rw[i];have p:=zE e.2.2 s.2.1 c c2;have o:=zE e.2.1 s.2.2 d c3;have n:=zE e.1 s.2.2 f c3;have m:=zE e.2.2 s.1 c b;have l:=zE e.1 s.2.1 f c2;have j:=zE e.2.1 s.1 d b;have u:=a.xle;have r:=a.yle;have q:=a.wle;erw[?_,?_,?_]
 ·show x.natAbs<=10^40;lia
 ·show y.natAbs<=10^40;lia
 ·show w.natAbs<=10^40;lia
def ZD{α:Type}[DecidableEq α]:∀{xs ys:List α},xs.Nodup->(∀ a∈xs,a∈ys)->xs.length<=ys.length
 | [],_,_,_=>Aa _
 | x::xs,ys,d,h=>by
  have b:=Ax.mp d;have m:x∈ys:=h x (j7 ..);have z:=ZD (ys:=ys.erase x) b.2 λa c=>by
   have ne:a≠x:=λe=>b.1 (by rw[<- e]; rwa[c]);exact(List.mem_erase_of_ne ne).mpr (h a (l7 _ c))
  have:=List.length_erase_of_mem m;have f:0<ys.length:=List.length_pos_of_mem m;rw[i4];lia
end Sea

namespace Sea
def qk(x:Int):Int:=if x<0 then -x else x
def yV(a b:Int):Int:=qk a+qk b
def qS{a b:Int}(h:a≠0\/b≠0):0<yV a b:=by
 unfold yV qk;split <;> split <;> lia
def par{e1 e2 s1 s2:Int}(h:e1*s2=e2*s1)(a:e2*s2<=0):qk e2*s1+qk s2*e1=0:=by
 unfold qk;rw[d8 e1 s2] at h;by_cases c:e2<0
 ·rw[y6 c];by_cases d:s2<0
  ·have:=Bm c d;lia
  ·rw[y4 d,o8];lia
 ·rw[y4 c];by_cases d:s2<0
  ·rw[y6 d,o8];lia
  ·rw[y4 d];have z:e2*s2=0:=by
    have:=g8 (show 0<=e2 by lia) (show 0<=s2 by lia);lia
   rcases i7.mp z with z | z
   ·rw[z,j3] at h;rw[z,j3,h];rfl
   ·rw[z,j3] at h;rw[z,j3,<- h];rfl
def iR{x y:Int}(h:x+y<0)(c:0<=x*y):x<=0/\y<=0:=by
 by_cases b:x<=0
 ·by_cases a:y<=0
  ·rwa[b,a]
  ·by_cases d:x=0
   ·lia
   ·have:=BF (show x<0 by lia) (show 0<y by lia);lia
 ·by_cases a:y<0
  ·have:=Cg (show 0<x by lia) a;lia
  ·lia
def Oj(x:Int):0<=x*x:=by
 by_cases h:0<=x
 ·rwa[g8 h h]
 ·rwa[i3 (Bm (by lia) (by lia))]
def UH{e s f P:P3}(l:tn e s=0)(p:0<e.1*e.1+e.2.1*e.2.1)(o:e.1≠0\/e.2.1≠0)(fw:0<f.2.2)(n:0<P.2.2)(h1:sv e f=0)(h2:0<sv s f)(h3:sv s P<=0)(h4:0<sv e P) :
  yV e.1 e.2.1*s.1+yV s.1 s.2.1*e.1=0/\yV e.1 e.2.1*s.2.1+yV s.1 s.2.1*e.2.1=0/\yV e.1 e.2.1*s.2.2+yV s.1 s.2.1*e.2.2<0:=by
 have m:=jr e P f;have w:=jr s P f;rw[h1,j3] at m;have p1:=i8 h4 fw;have p2:=i8 h2 n;have p3:sv s P*f.2.2<=0:=by
  have:=g8 (show 0<=-sv s P by lia) (i3 fw);rw[o8] at this;lia
 have k:=SD e.1 e.2.1 s.1 s.2.1 (P.1*f.2.2-f.1*P.2.2) (P.2.1*f.2.2-f.2.1*P.2.2);rw[<- m,<- w,show e.1*s.2.1-e.2.1*s.1=0 from l,AD,Be] at k;have n1:(e.1*e.1+e.2.1*e.2.1)*(sv s P*f.2.2-sv s f*P.2.2)<0:=Cg p (by lia);rw[k] at n1;have d:e.1*s.1+e.2.1*s.2.1<0:=by
  by_cases c:e.1*s.1+e.2.1*s.2.1<0
  ·rwa[c]
  ·have:=g8 (show 0<=sv e P*f.2.2-0 by lia) (show 0<=e.1*s.1+e.2.1*s.2.1 by lia);lia
 have g:e.1*s.2.1=e.2.1*s.1:=by unfold tn at l; lia
 have pr:0<=(e.1*s.1)*(e.2.1*s.2.1):=by
  have r:(e.1*s.1)*(e.2.1*s.2.1)=(e.1*s.2.1)*(e.2.1*s.1):=by simp only[d8,f9]
  rw[r,<- g];rwa[Oj _]
 obtain⟨j,i⟩:=iR d pr;have a1:=par (e1:=e.1) (e2:=e.1) (s1:=s.1) (s2:=s.1) rfl j;have a2:=par (e1:=e.1) (e2:=e.2.1) (s1:=s.1) (s2:=s.2.1) g i;have z:=par (e1:=e.2.1) (e2:=e.1) (s1:=s.2.1) (s2:=s.1) g.symm j;have y:=par (e1:=e.2.1) (e2:=e.2.1) (s1:=s.2.1) (s2:=s.2.1) rfl i;have b:yV e.1 e.2.1*s.1+yV s.1 s.2.1*e.1=0:=by
  unfold yV;rw[n9,n9];lia
 have a:yV e.1 e.2.1*s.2.1+yV s.1 s.2.1*e.2.1=0:=by
  unfold yV;rw[n9,n9];lia
 exists b,a;have h:=qS o;generalize yV e.1 e.2.1=u at b a h ⊢;generalize yV s.1 s.2.1=v at b a ⊢;have q:(u*s.2.2+v*e.2.2)*f.2.2=(u*s.1+v*e.1)*f.1+(u*s.2.1+v*e.2.1)*f.2.1-u*sv s f-v*sv e f:=by
  unfold sv;simp only[Ah,x8,n9,d8,f9];lia
 rw[b,a,h1,j3,j3,AD] at q;have x:=i8 h h2;by_cases c:u*s.2.2+v*e.2.2<0
 ·rwa[c]
 ·have:=g8 (show 0<=u*s.2.2+v*e.2.2 by lia) (i3 fw);lia
structure Tn(ss:List Sd)(j:Nat)(e:Sd)(P:P3):Prop where
 at':ss[j]?=Js e
 pos:0<P.2.2
 ahead:inW (ss.take j) P
 out:0<sv e.2 P
 no:∀ z:P3,sv e.2 z=0->0<z.2.2->¬ inW (ss.take j) z
def Tn.none{j:Nat}(S:Tn b j e P)(z:P3)(c:0<z.2.2):¬ inW b z:=λa=>by
 obtain⟨m,g,f,d⟩:=between S.ahead (λu h=>a u (AL h)) S.pos c S.out (a e (f6 S.at'));rwa[S.no m g f d]
def cS{e p f s:P3}(i:0<e.1*e.1+e.2.1*e.2.1)(d:sv e p=0)(g:sv e f=0)(a:0<p.2.2)(fw:0<f.2.2)(b:tn e s=0)(c:sv s f<=0):sv s p<=0:=by
 erw[gL (h:=1) 'a' i d g a fw s ?_ c];rw[b,j3,AD];rwa[Dy _]
def nZ{x h:Int} : x * -h = -(x*h):=t8 _ _
def ZJ{e f:P3}{h:Int}(i:h*h=1)(x:0<e.1*e.1+e.2.1*e.2.1)(q:sv e f=0)(fw:0<f.2.2)(no:∀ z:P3,sv e z=0->0<z.2.2->¬ inW g z)(d:∀ t∈g,tn e t.2=0->sv t.2 f<=0)(n:nN g e h Jt)(o:nN g e (-h) r):False:=by
 cases r with
 | none =>
  erw[no f q fw λt m=>d t m ?_];have a:=n t m;have b:=o t m;rw[nZ] at b;have z:tn e t.2*h=0:=by lia
  rcases i7.mp z with z | z
  ·rwa[z]
  ·rw[z] at i;rwa[y9 i 'a']
 | some j =>
  obtain⟨t,gt,v,w⟩:=o;obtain⟨p,s,c2⟩:=uA (yG v);erw[no _ s p.pos λu l=>?_];by_cases c:0<tn e u.2 * -h
  ·rwa[w u l c]
  ·have a:=n u l;rw[nZ] at c;have z:tn e u.2*h=0:=by lia
   rcases i7.mp z with z | z
   ·rwa[cS x s q p.pos fw z (d u l z)]
   ·rw[z] at i;rwa[y9 i 'a']
def QN{e f P:P3}{a b:Sd}{h:Int}(o:h*h=1)(r:0<e.1*e.1+e.2.1*e.2.1)(N:sv e f=0)(fw:0<f.2.2)(no:∀ z:P3,sv e z=0->0<z.2.2->¬ inW g z)(s:∀ t∈g,tn e t.2=0->sv t.2 f<=0)
  (ma:a∈g) (J:b∈g) (l:0<tn e a.2*h) (q:0<tn e b.2 * -h) (G:∀ u∈g,0<tn e u.2*h->sv u.2 (pt3 (crL e a.2))<=0) (E:∀ u∈g,0<tn e u.2 * -h->sv u.2 (pt3 (crL e b.2))<=0)
  (H:0<P.2.2) (v:inW g P) (I:0<sv e P) :
  0<tn b.2 e*h/\0<tn e a.2*h/\0<tn a.2 b.2*h/\(tn b.2 e*a.2.2.2+tn e a.2*b.2.2.2+tn a.2 b.2*e.2.2)*h<0:=by
 obtain⟨sa,a1,a2⟩:=uA (yG l);obtain⟨w,y,R⟩:=uA (yG q);have j : -h * -h=1:=by rw[Eb]; rwa[o]
 have i:0<sv b.2 (pt3 (crL e a.2)):=by
  by_cases c:0<sv b.2 (pt3 (crL e a.2))
  ·rwa[c]
  ·erw[y9 ?_ (no _ a1 sa.pos)];have d:=cU j r y a1 w.pos R (show sv b.2 (pt3 (crL e a.2))<=0 by lia) q;intro u n;by_cases Q:0<tn e u.2*h
   ·rwa[G u n Q]
   ·by_cases c2:0<tn e u.2 * -h
    ·erw[gL j r a1 y sa.pos w.pos u.2 ?_ (E u n c2)];rw[lZ,o8] ;have:=g8 d (i3 c2);rw[o8];lia
    ·rw[nZ] at c2;have z:tn e u.2*h=0:=by lia
     rcases i7.mp z with z | z
     ·rwa[cS r a1 N sa.pos fw z (s u n z)]
     ·rw[z] at o;rwa[y9 o 'a']
 have A:0<tn b.2 e*h:=by
  rw[nZ] at q;have z:tn b.2 e = -tn e b.2:=by unfold tn; rw[d8 b.2.1,d8 b.2.2.1]; lia
  rw[z,o8];lia
 have S:∀ z:P3,tn b.2 e*sv a.2 z+tn e a.2*sv b.2 z+tn a.2 b.2*sv e z = -((tn b.2 e*a.2.2.2+tn e a.2*b.2.2.2+tn a.2 b.2*e.2.2)*z.2.2):=λz=>by
  unfold tn sv;simp only[Ah,AY,x8,n9,d8,f9];lia
 have m:=S (pt3 (crL e a.2));rw[a1,a2,AD,AD,Be,CL] at m;have x:=S P;generalize tn b.2 e*a.2.2.2+tn e a.2*b.2.2.2+tn a.2 b.2*e.2.2=M at m x ⊢;have L:M*h<0:=by
  have p:=i8 l i;have O:tn e a.2*h*sv b.2 (pt3 (crL e a.2)) = -(M*h*(pt3 (crL e a.2)).2.2):=by
   rw[o4,m,o8,o4]
  rw[O] at p;by_cases c:M*h<0
  ·rwa[c]
  ·have:=g8 (show 0<=M*h by lia) (i3 sa.pos);lia
 refine⟨A,l,?_,L⟩;have T:tn b.2 e*h*sv a.2 P+tn e a.2*h*sv b.2 P+tn a.2 b.2*h*sv e P = -(M*h*P.2.2):=by
  have z:(tn b.2 e*sv a.2 P+tn e a.2*sv b.2 P+tn a.2 b.2*sv e P)*h = -(M*P.2.2)*h:=by rw[x]
  rw[o8,o4 M] at z;rw[<- z,n9,n9,o4,o4 (tn e a.2),o4 (tn a.2 b.2)]
 have D:=g8 (i3 A) (show 0<=-sv a.2 P by have:=v a ma; lia);have C:=g8 (i3 l) (show 0<=-sv b.2 P by have:=v b J; lia);have B:=i8 (show 0 < -(M*h) by lia) H;rw[t8] at D C;rw[o8] at B;by_cases c:0<tn a.2 b.2*h
 ·rwa[c]
 ·have:=g8 (show 0<=-(tn a.2 b.2*h) by lia) (i3 I);rw[o8] at this;lia
def xP{x h:Int}(a:h=1\/h = -1)(b:0<x*h):qk x=x*h:=by
 unfold qk;rcases a with rfl | rfl
 ·rw[y4 (by lia)];lia
 ·rw[y6 (by lia)];lia
def YC(a b e:P3):tn b e*a.1+tn e a*b.1+tn a b*e.1=0/\tn b e*a.2.1+tn e a*b.2.1+tn a b*e.2.1=0:=by
 unfold tn;constructor
 ·simp only[AY,Ah,d8,f9];lia
 ·simp only[AY,Ah,d8,f9];lia
def aP(a:List Sd)(b:List (Int×Int)):Prop :=
 (∃(i j:Nat)(u v:Int)(s t:Sd),b=[((i:Int),u),((j:Int),v)]/\i<j/\a[i]?=Js s/\a[j]?=Js t/\0<u/\0<v/\u<=10^19/\v<=10^19 /\
  u*s.2.1+v*t.2.1=0/\u*s.2.2.1+v*t.2.2.1=0/\u*s.2.2.2+v*t.2.2.2<0) \/
 ∃(i j k:Nat)(u v x:Int)(s t r:Sd),b=[((i:Int),u),((j:Int),v),((k:Int),x)]/\i<j/\j<k/\a[i]?=Js s/\a[j]?=Js t/\a[k]?=Js r/\0<u/\0<v/\0<x/\u<=10^19/\v<=10^19/\x<=10^19 /\
  u*s.2.1+v*t.2.1+x*r.2.1=0/\u*s.2.2.1+v*t.2.2.1+x*r.2.2.1=0/\u*s.2.2.2+v*t.2.2.2+x*r.2.2.2<0
def NI{x g:Int}(a:0<g)(h:x*g=0):x=0:=by
 rcases i7.mp h with z | z
 ·rwa[z]
 ·lia
def n_of{x g:Int}(a:0<g)(h:x*g<0):x<0:=by
 by_cases c:x<0
 ·rwa[c]
 ·have:=g8 (show 0<=x by lia) (i3 a);lia
def SJ{ws:List Int}{n:Int}(h:n∈ws)(h0:0<n)(a:n<=10^30):0<yC ws/\(yC ws:Int)<10^600:=by
 exists yX h (by lia);have h1:=rM h (show n≠0 by lia);exact BM (show(yC ws:Int)<=10^30 by lia) 'h'
def kW{a:List Int}{n:Int}(h:n∈a)(h0:0<n):0<n/(yC a:Int)/\n/(yC a:Int)<=n:=by
 have b:=yX h (show n≠0 by lia);have e:=yJ h;have p:0<n/(yC a:Int):=by
  by_cases c:0<n/(yC a:Int)
  ·rwa[c]
  ·have:=g8 (show 0<=-(n/(yC a:Int)) by lia) (show(0:Int)<=(yC a:Int) by lia);rw[o8] at this;lia
 exists p;have:=BP (show(1:Int)<=(yC a:Int) by lia) (i3 p);lia
def XF{d:List Sd}{i j:Nat}{c V:Int}(f:i<j)(u:d[i]?=Js s)(gt:d[j]?=Js t)(r:0<c)(q:0<V)(y:c<=10^19)(x:V<=10^19)
  (p:c*s.2.1+V*t.2.1=0) (o:c*s.2.2.1+V*t.2.2.1=0) (n:c*s.2.2.2+V*t.2.2.2<0):aP d ([(i:Int),(j:Int)].zip (uJ [c,V])):=by
 have e:c∈[c,V]:=by simp
 have m:V∈[c,V]:=by simp
 have g:(0:Int)<(yC [c,V]:Int):=by have:=yX e (show c≠0 by lia); lia
 have l:=kW e r;have h:=kW m q;have w:=yJ e;have v:=yJ m;have sum:∀ a b:Int,(c/(yC [c,V]:Int)*a+V/(yC [c,V]:Int)*b)*(yC [c,V]:Int)=c*a+V*b:=λa b=>by
  rw[n9,o4,w,o4,v]
 erw[.inl ⟨i,j,c/(yC [c,V]:Int),V/(yC [c,V]:Int),s,t,rfl,f,u,gt,l.1,h.1,BN l.2 y,BN h.2 x,?_,?_,?_⟩]
 ·rwa[NI g (by rw[sum]; exact p)]
 ·rwa[NI g (by rw[sum]; exact o)]
 ·rwa[n_of g (by rw[sum]; exact n)]
def bL{e:List Sd}{i j k:Nat}{d V X:Int}(h:i<j)(g:j<k)(A:e[i]?=Js s)(gt:e[j]?=Js t)(B:e[k]?=Js r)(z:0<d)(y:0<V)(x:0<X)(I:d<=10^19)(H:V<=10^19)(G:X<=10^19)
  (w:d*s.2.1+V*t.2.1+X*r.2.1=0) (v:d*s.2.2.1+V*t.2.2.1+X*r.2.2.1=0) (u:d*s.2.2.2+V*t.2.2.2+X*r.2.2.2<0):aP e ([(i:Int),(j:Int),(k:Int)].zip (uJ [d,V,X])):=by
 have f:d∈[d,V,X]:=by simp
 have q:V∈[d,V,X]:=by simp
 have p:X∈[d,V,X]:=by simp
 have l:(0:Int)<(yC [d,V,X]:Int):=by have:=yX f (show d≠0 by lia); lia
 have o:=kW f z;have n:=kW q y;have m:=kW p x;have E:=yJ f;have D:=yJ q;have C:=yJ p;have sum:∀ a b c:Int,(d/(yC [d,V,X]:Int)*a+V/(yC [d,V,X]:Int)*b+X/(yC [d,V,X]:Int)*c)*(yC [d,V,X]:Int)=d*a+V*b+X*c:=λa b c=>by
  rw[n9,n9,o4,E,o4,D,o4,C]
 erw[.inr ⟨i,j,k,d/(yC [d,V,X]:Int),V/(yC [d,V,X]:Int),X/(yC [d,V,X]:Int),s,t,r,rfl,h,g,A,gt,B,o.1,n.1,m.1,BN o.2 I,BN n.2 H,BN m.2 G,?_,?_,?_⟩]
 ·rwa[NI l (by rw[sum]; exact w)]
 ·rwa[NI l (by rw[sum]; exact v)]
 ·rwa[n_of l (by rw[sum]; exact u)]
def sum2{u v:Int}{s t z:P3}(h1:u*s.1+v*t.1=0)(h2:u*s.2.1+v*t.2.1=0):u*sv s z+v*sv t z = -((u*s.2.2+v*t.2.2)*z.2.2):=by
 have e:u*sv s z+v*sv t z=(u*s.1+v*t.1)*z.1+(u*s.2.1+v*t.2.1)*z.2.1-(u*s.2.2+v*t.2.2)*z.2.2:=by
  unfold sv;simp only[Ah,x8,n9,d8,f9];lia
 rw[e,h1,h2,j3,j3];lia
def sum3{u v x:Int}{s t r z:P3}(h1:u*s.1+v*t.1+x*r.1=0)(h2:u*s.2.1+v*t.2.1+x*r.2.1=0):u*sv s z+v*sv t z+x*sv r z = -((u*s.2.2+v*t.2.2+x*r.2.2)*z.2.2):=by
 have e:u*sv s z+v*sv t z+x*sv r z=(u*s.1+v*t.1+x*r.1)*z.1+(u*s.2.1+v*t.2.1+x*r.2.1)*z.2.1-(u*s.2.2+v*t.2.2+x*r.2.2)*z.2.2:=by
  unfold sv;simp only[Ah,x8,n9,d8,f9];lia
 rw[e,h1,h2,j3,j3];lia
def cL{u x:Int}(a:0<u)(b:x<=0):u*x<=0:=by
 have:=g8 (i3 a) (show 0<=-x by lia);rw[t8] at this;lia
def aP.no(h:aP n q)(z:P3)(m:0<z.2.2):¬ inW n z:=λa=>by
 rcases h with ⟨i,j,u,v,s,t,_,_,l,gt,g,f,_,_,d,c,b⟩ | ⟨i,j,k,u,v,x,s,t,r,_,_,_,l,gt,p,g,f,o,_,_,_,d,c,b⟩
 ·have e:=sum2 (z:=z) (s:=s.2) (t:=t.2) d c;have a1:=cL g (a s (f6 l));have a2:=cL f (a t (f6 gt));have w:=BF b m;lia
 ·have e:=sum3 (z:=z) (s:=s.2) (t:=t.2) (r:=r.2) d c;have a1:=cL g (a s (f6 l));have a2:=cL f (a t (f6 gt));have y:=cL o (a r (f6 p));have w:=BF b m;lia
def SU(a:List Sd)(P:P3):Prop:=P=(0,0,1)\/(∃ t∈a,P=pt3 (ftL t.2))\/∃ t∈a,∃ u∈a,tn t.2 u.2≠0/\P=pt3 (crL t.2 u.2)
def wc{e:P3}{h:Int}(j:h*h=1)(l:0<e.1*e.1+e.2.1*e.2.1):∀ d:List Sd,(∀ t∈d,tn e t.2*h<=0)\/∃ t∈d,0<tn e t.2*h/\∀ u∈d,0<tn e u.2*h->sv u.2 'r'<=0
 | []=>.inl λ_ h=>nomatch h
 | s::d=>by
  by_cases g:0<tn e s.2*h
  ·obtain⟨f,q,o⟩:=uA (yG g);rcases wc j l d with n | ⟨t,mt,i,a⟩
   ·erw[.inr ⟨s,j7 ..,g,λu b c=>?_⟩];rcases g9.mp b with rfl | b
    ·rwa[BA o]
    ·have:=n u b;lia
   ·obtain⟨m,r,v⟩:=uA (yG i);by_cases p:sv s.2 'r'<=0
    ·erw[.inr ⟨t,l7 _ mt,i,λu b c=>?_⟩];rcases g9.mp b with rfl | b
     ·rwa[p]
     ·rwa[a u b c]
    ·have w:=RR j l q r f.pos o (show 0<sv s.2 'r' by lia) g;erw[.inr ⟨s,j7 ..,g,λu b c=>?_⟩];rcases g9.mp b with rfl | b
     ·rwa[BA o]
     ·erw[gL j l q r f.pos m.pos u.2 ?_ (a u b c)];have:=g8 (show 0<=-(dl e (pt3 (crL e s.2)) 'r'*h) by lia) (i3 c);rw[o8] at this;lia
  ·rcases wc j l d with n | ⟨t,mt,i,a⟩
   ·erw[.inl λu b=>?_];rcases g9.mp b with rfl | b
    ·lia
    ·rwa[n u b]
   ·erw[.inr ⟨t,l7 _ mt,i,λu b c=>?_⟩];rcases g9.mp b with rfl | b
    ·rwa[y9 c g]
    ·rwa[a u b c]
end Sea

namespace L2
open PySem PySem.Spec PyProof.Rows PySem.W
section
variable{X:Cx}
def du:vA X (.builtin "sorted") (λxs H Q=>E2 λ(l:c5) (ns:List Int)=>A4 (xs=[.ref l]) (SqL X.K H l (ns.map V.int)) (ns.length<64) (∀(p:c5)(c:List Int),H p=Jt->c.Perm ns->c.Pairwise (·<=·)->Q (.ref p) (upd H p (.lst (c.map V.int))))):=by
 intro y s v H xs w Q I r h;obtain⟨l,ns,rfl,j,f,q⟩:=h;obtain⟨u,rfl,ru⟩:=yQ.one r;cases ru;obtain⟨d,g,i,x⟩:=I.list j;have m:=g.length;rw[ac] at m;erw[sorted_ints (ns:=ns) i.isList (iN g) (by lia) λout c a1 a2 n=>?_];obtain⟨e,at'⟩:=sortedAll_at s.heap d out;have fr:H 'c'=none:=I.hok.fresh (Bc _);erw[.ref 'c',_,I.laid (t':=s.toks) (a:=s.heap.objs.size+1) (o:=.lst (c.map V.int)) (λb ob q=>sortedAll_old q) (Bc _) ?_,rfl,q _ c fr a2 n];refine⟨?_,out.toList,e,kC a1,by simpa using at'⟩;rw[ac,a2.length_eq];rwa[d9 (AC f) (by rw[sizeLine_eq]; decide)]
end
def VD{ns:List Int}{i:Nat}{k:Int}(e:k=i)(h:i<ns.length):∃ n,ns[i]?=Js n/\atI (ns.map V.int) k=Js (.int n):=by
 erw[ns[i],d6 h,?_];rw[e];rwa[rE (by rw[e7,d6 h] <;> rfl)]
def YK{a b:Int}{f:List Int}(h:f.Perm [a,b])(s:f.Pairwise (·<=·)):(f=[a,b]/\a<=b)\/(f=[b,a]/\b<=a):=by
 match f,h,s,h.length_eq with
 | [c,d],h,s,_ =>
  have le:c<=d:=by simpa using s
  have g:c∈[a,b]:=h.mem_iff.mp (j7 ..);rw[g9,e8] at g;rcases g with rfl | rfl
  ·have z:=EG c |>.mp h
   have e:=Gd.mp z;cases e;rwa[.inl ⟨rfl,le⟩]
  ·have z:=EG c |>.mp (h.trans (List.Perm.swap c a []))
   have e:=Gd.mp z;cases e;rwa[.inr ⟨rfl,le⟩]
def Ud(H:Hp)(a:List Pr):Prop:=∀ t∈a,H t.1=Js (.tup [.int t.2.1,.int t.2.2])
def Ud.same{H b:Hp}(h:Ud H a)(s:Same H b):Ud b a:=λt c=>s _ _ (h t c)
end L2

namespace Sea
def NN{a b x y u v:Int}(e:a≠0\/b≠0)(h1:a*x+b*y=0)(h2:a*u+b*v=0):x*v-y*u=0:=by
 have d:a*(x*v-y*u)=(a*x+b*y)*v-(a*u+b*v)*y:=by
  simp only[Ah,n9,x8,d8,f9];lia
 have c:b*(x*v-y*u)=(a*u+b*v)*x-(a*x+b*y)*u:=by
  simp only[Ah,n9,x8,d8,f9];lia
 rw[h1,h2,j3,j3,CK] at d c;rcases e with h | h
 ·exact(i7.mp d).resolve_left h
 ·exact(i7.mp c).resolve_left h
def TW{x y u v:Int}(h1:l9 x.natAbs y.natAbs=1)(h2:l9 u.natAbs v.natAbs=1)(h:x*v-y*u=0)(a:0<x*u+y*v):x=u/\y=v:=by
 have e:x.natAbs*v.natAbs=y.natAbs*u.natAbs:=by
  rw[<- Au,<- Au]
  congr 1
  lia
 have o:x.natAbs ∣ u.natAbs:=Bf (m:=y.natAbs) h1 (by rw[<- e]; rwa[CW _ _]);have l:u.natAbs ∣ x.natAbs:=Co (n:=v.natAbs) h2 (by rw[e]; rwa[CF _ _]);have d:l9 y.natAbs x.natAbs=1:=by rw[Fv]; rwa[h1]
 have b:l9 v.natAbs u.natAbs=1:=by rw[Fv]; rwa[h2]
 have j:y.natAbs ∣ v.natAbs:=Bf (m:=x.natAbs) d (by rw[e]; rwa[CW _ _]);have i:v.natAbs ∣ y.natAbs:=Co (n:=u.natAbs) b (by rw[<- e]; rwa[CF _ _]);have ex:=DT o l;have ey:=DT j i;have g:x=u\/x = -u:=by lia
 have f:y=v\/y = -v:=by lia
 have q:0<=u*u:=by
  by_cases c:0<=u
  ·rwa[g8 c c]
  ·rwa[i3 (Bm (by lia) (by lia))]
 have p:0<=v*v:=by
  by_cases c:0<=v
  ·rwa[g8 c c]
  ·rwa[i3 (Bm (by lia) (by lia))]
 rcases g with rfl | rfl
 ·rcases f with rfl | rfl
  ·rwa[rfl,rfl]
  ·rw[o8,d8 v] at h;have z:x*v=0:=by lia
   rcases i7.mp z with z | z
   ·rw[z,j3,o8] at a;lia
   ·rw[z];rwa[rfl,rfl]
 ·rcases f with rfl | rfl
  ·rw[o8,d8 y] at h;have z:u*y=0:=by lia
   rcases i7.mp z with z | z
   ·rw[z];rwa[rfl,rfl]
   ·rw[z,j3,o8] at a;lia
  ·rw[o8,o8] at a;lia
structure uC(ss:List Sd)(x y:Int):Prop where
 low:l9 x.natAbs y.natAbs=1
 way:∀ t∈ss,t.2.1*x+t.2.2.1*y<=0
 edge:∃ t∈ss,(t.2.1≠0\/t.2.2.1≠0)/\t.2.1*x+t.2.2.1*y=0
def jd{a b p q:Int}(h:a*p+b*q=0)(n:p<=0)(m:q<=0)(e:0<a*b):p=0/\q=0:=by
 have j:a≠0:=λz=>by rw[z,j3] at e; lia
 have i:b≠0:=λz=>by rw[z,AD] at e; lia
 by_cases c:0<a
 ·have l:0<b:=by
   by_cases d:0<b
   ·rwa[d]
   ·have:=Cg c (show b<0 by lia);lia
  have g:=g8 (i3 c) (show 0<=-p by lia);have f:=g8 (i3 l) (show 0<=-q by lia);rw[t8] at g f;exact⟨(i7.mp (show a*p=0 by lia)).resolve_left j,(i7.mp (show b*q=0 by lia)).resolve_left i⟩
 ·have l:b<0:=by
   by_cases d:b<0
   ·rwa[d]
   ·have:=BF (show a<0 by lia) (show 0<b by lia);lia
  have g:=g8 (show 0<=-a by lia) (show 0<=-p by lia);have f:=g8 (show 0<=-b by lia) (show 0<=-q by lia);rw[Eb] at g f;exact⟨(i7.mp (show a*p=0 by lia)).resolve_left j,(i7.mp (show b*q=0 by lia)).resolve_left i⟩
def NU(a b h e g d f c:Int):(g*c-d*f)*(a*h+b*e)+(f*e-c*h)*(a*g+b*d)+(h*d-e*g)*(a*f+b*c)=0:=by
 simp only[Ah,AY,n9,x8,d8,f9];lia
def ZP{x y:Int}(h:l9 x.natAbs y.natAbs=1):x≠0\/y≠0:=by
 by_cases c:x=0
 ·right;intro z;rw[c,z] at h;rwa[y9 h 'a']
 ·rwa[.inl c]
def uC.contra{b a d c i g:Int}(w1:uC f b a)(n:uC f d c)(m:uC f i g)(h:b*c-a*d=0)(q:b*d+a*c<0):b*g-a*i=0:=by
 obtain⟨t,mt,o,p⟩:=m.edge;have p1:=w1.way t mt;have p2:=n.way t mt;have r:=kZ (ZP w1.low);have e:(b*b+a*a)*(t.2.1*d+t.2.2.1*c)=(b*d+a*c)*(t.2.1*b+t.2.2.1*a)+(b*c-a*d)*(t.2.2.1*b-t.2.1*a):=by
  simp only[Ah,AY,n9,x8,d8,f9];lia
 rw[h,j3,CL] at e;have l:=g8 (show 0<=b*b+a*a by lia) (show 0<=-(t.2.1*d+t.2.2.1*c) by lia);have j:=g8 (show 0<=-(b*d+a*c) by lia) (show 0<=-(t.2.1*b+t.2.2.1*a) by lia);rw[t8] at l;rw[Eb] at j;have z:t.2.1*b+t.2.2.1*a=0:=(i7.mp (show(b*d+a*c)*(t.2.1*b+t.2.2.1*a)=0 by lia)).resolve_left (by lia);rwa[NN o z p]
def NE{x y u v:Int}(h:x*v-y*u=0)(n1:x≠0\/y≠0)(n2:u≠0\/v≠0):x*u+y*v≠0:=λz=>by
 have e:(x*x+y*y)*(u*u+v*v)=(x*u+y*v)*(x*u+y*v)+(x*v-y*u)*(x*v-y*u):=by
  simp only[Ah,AY,n9,x8,d8,f9];lia
 rw[h,z,j3,CL] at e;have b:=kZ n1;have a:=kZ n2;have:=i8 (show 0<x*x+y*y by lia) (show 0<u*u+v*v by lia);lia
def uC.same{f b e a:Int}(w1:uC i f b)(g:uC i e a)(d:¬ (f=e/\b=a))(h:f*a-b*e=0):f*e+b*a<0:=by
 have:=NE h (ZP w1.low) (ZP g.low);by_cases c:0<f*e+b*a
 ·rwa[y9 (TW w1.low g.low h c) d]
 ·lia
def Yn{f d i g l j:Int}(w1:uC w f d)(s:uC w i g)(r:uC w l j)(o:¬ (f=i/\d=g))(n:¬ (f=l/\d=j))(m:¬ (i=l/\g=j)):False:=by
 have par:∀{f d i g l j:Int},uC w f d->uC w i g->uC w l j->¬ (f=i/\d=g)->¬ (f=l/\d=j)->¬ (i=l/\g=j)->f*g-d*i≠0:=λ{f d i g l j} w1 s r o n m h=>by
  have A:=w1.same s o h;have h13:=w1.contra s r h A;have I:=w1.same r n h13;have hN:=kZ (ZP w1.low);have e:(f*f+d*d)*(i*l+g*j)=(f*i+d*g)*(f*l+d*j)+(f*g-d*i)*(f*j-d*l):=by
   simp only[Ah,AY,n9,x8,d8,f9];lia
  have B:(f*f+d*d)*(i*j-g*l)=(f*i+d*g)*(f*j-d*l)-(f*g-d*i)*(f*l+d*j):=by
   simp only[Ah,AY,n9,x8,d8,f9];lia
  rw[h,h13,j3,CL] at e;rw[h,h13,j3,AD,CK] at B;have z:=(i7.mp B).resolve_left (by lia);have H:=s.same r m z;have p:=Bm A I;have q:=Cg (show 0<f*f+d*d by lia) H;lia
 have sw:∀ x y u v:Int,x*v-y*u = -(u*y-v*x):=λx y u v=>by rw[d8 u,d8 v]; lia
 have T:i*j-g*l≠0:=par s r w1 m (λz=>o ⟨z.1.symm,z.2.symm⟩) (λz=>n ⟨z.1.symm,z.2.symm⟩);have S:l*d-j*f≠0:=par r w1 s (λz=>n ⟨z.1.symm,z.2.symm⟩) (λz=>m ⟨z.1.symm,z.2.symm⟩) o;have C:f*g-d*i≠0:=par w1 s r o n m;obtain⟨t1,Q,n1,R⟩:=w1.edge;obtain⟨E,P,n2,B⟩:=s.edge;obtain⟨D,O,n3,e3⟩:=r.edge;have N:=NU t1.2.1 t1.2.2.1 f d i g l j;have M:=NU E.2.1 E.2.2.1 f d i g l j;have L:=NU D.2.1 D.2.2.1 f d i g l j;rw[R,AD,Be] at N;rw[B,AD,CL] at M;rw[e3,AD,CL] at L;have Z:¬ 0<(l*d-j*f)*(f*g-d*i):=λp=>by
  have z:=jd N (s.way t1 Q) (r.way t1 Q) p;rwa[C (NN n1 R z.1)]
 have Y:¬ 0<(i*j-g*l)*(f*g-d*i):=λp=>by
  have z:=jd M (w1.way E P) (r.way E P) p;rwa[C (NN n2 z.1 B)]
 have X:¬ 0<(i*j-g*l)*(l*d-j*f):=λp=>by
  have z:=jd L (w1.way D O) (s.way D O) p;rwa[C (NN n3 z.1 z.2)]
 generalize i*j-g*l=a at *;generalize l*d-j*f=b at *;generalize f*g-d*i=c at *;have G:∀{p q:Int},p≠0->q≠0->¬ 0<p*q->(0<p/\q<0)\/(p<0/\0<q):=λ{p q} hp hq h=>by
  by_cases cp:0<p
  ·by_cases J:0<q
   ·rwa[y9 (i8 cp J) h]
   ·rwa[.inl ⟨cp,by lia⟩]
  ·by_cases J:0<q
   ·rwa[.inr ⟨by lia,J⟩]
   ·rwa[y9 (Bm (by lia) (by lia)) h]
 have s1:=G S C Z;have s2:=G T C Y;have s3:=G T S X;lia
def WK.dir{a:List Sd}{n:Nat}(m:∀ t∈a,t.2.1≠0\/t.2.2.1≠0)(h:WK a n k):∃ x y:Int,k=[x,y]/\uC a x y:=by
 obtain⟨j,t,_,gt,h⟩:=h;have mt:=f6 gt;have i:=m t mt;have one:∀ X Y:Int,(X≠0\/Y≠0)->t.2.1*X+t.2.2.1*Y=0->k=uJ [X,Y]->vD a X Y=Ju->∃ x y:Int,k=[x,y]/\uC a x y:=λX Y d e p b=>by
  obtain⟨x,y,c,o,_,low,_⟩:=jA d;have ex:x=X/(yC [X,Y]:Int)/\y=Y/(yC [X,Y]:Int):=by
   have z:[X/(yC [X,Y]:Int),Y/(yC [X,Y]:Int)]=[x,y]:=c;cases z;rwa[rfl,rfl]
  erw[x,y,p.trans c,low,λu l=>?_,t,mt,i,?_]
  ·have z:=be (ss:=a) o;rw[b,<- ex.1,<- ex.2] at z;rwa[of_decide_eq_true (Ag.mp z u l)]
  ·have q:(0:Int)<(yC [X,Y]:Int):=by lia
   have g:=yJ (ns:=[X,Y]) (n:=X) 'd';have f:=yJ (ns:=[X,Y]) (n:=Y) 'd';rw[<- ex.1] at g;rw[<- ex.2] at f;have z:(t.2.1*x+t.2.2.1*y)*(yC [X,Y]:Int)=0:=by
    rw[n9,x9,x9,g,f];rwa[e]
   rcases i7.mp z with z | z
   ·rwa[z]
   ·lia
 rcases h with ⟨e,b⟩ | ⟨e,b⟩
 ·rwa[one _ _ (by lia) (by rw[t8,d8 t.2.2.1]; lia) e b]
 ·rwa[one _ _ (by lia) (by rw[t8,d8 t.2.2.1]; lia) e b]
def Tk{f:List Sd}{n:Nat}{d:List (List Int)}(e:∀ t∈f,t.2.1≠0\/t.2.2.1≠0)(nd:d.Nodup)(h:∀ k∈d,WK f n k):d.length<=2:=by
 match d,nd,h with
 | [],_,_=>rwa[Aa _]
 | [_],_,_=>exact(by decide:1<=2)
 | [_,_],_,_=>rwa[e9 2]
 | a::b::c::r,nd,h =>
  obtain⟨q,m,rfl,w1⟩:=(h a 'd').dir e;obtain⟨p,l,rfl,i⟩:=(h b 'd').dir e;obtain⟨o,j,rfl,g⟩:=(h c 'd').dir e;simp only[Ax,g9,not_or] at nd;exact(Yn w1 i g (λz=>nd.1.1 (by rw[z.1,z.2])) (λz=>nd.1.2.1 (by rw[z.1,z.2])) (λz=>nd.2.1.1 (by rw[z.1,z.2]))).elim
end Sea

namespace Sea
def dt(s g:P3):Int:=s.1*g.1+s.2.1*g.2.1
def uh(s t:P3):tn s t = -tn t s:=by
 unfold tn;rw[d8 s.1,d8 s.2.1];lia
def bM(s:P3):tn s s=0:=by
 unfold tn;rw[d8];lia
def Xj(t e g:P3):tn t e*(g.1*g.1+g.2.1*g.2.1)=tn t g*dt e g+tn g e*dt t g:=by
 unfold tn dt;simp only[Ah,AY,x8,n9,d8,f9];lia
def PR(t u e g:P3):tn t u*tn e g=tn t e*tn u g+tn t g*tn e u:=by
 unfold tn;simp only[Ah,AY,d8,f9];lia
def vH{x y:Int}(h:0<x*y)(a:0<y):0<x:=by
 by_cases c:0<x
 ·rwa[c]
 ·have:=g8 (show 0<=-x by lia) (i3 a);rw[o8] at this;lia
def fU{α:Type}{p q:α->Bool} : ∀{l:List α},(∀ a∈l,p a=Ju->q a=Ju)->(∃ a∈l,q a=Ju/\p a=Jv)->l.countP p<l.countP q
 | [],_,⟨_,h,_⟩=>nomatch h
 | x::l,h,⟨a,f,g,p1⟩=>by
  have le:l.countP p<=l.countP q:=List.countP_mono_left λb e=>h b (l7 _ e);rw[Hh,Hh];rcases g9.mp f with rfl | f
  ·rw[g,p1];simp;lia
  ·have z:=fU (λb e=>h b (l7 _ e)) ⟨a,f,g,p1⟩;by_cases d:p x=Ju
   ·rw[d,h x (j7 ..) d];lia
   ·have c:p x=false:=by simpa using d
    rw[c,y4 'a'];lia
structure aS(ss:List Sd)(g:P3):Prop where
 nz:∀ t∈ss,t.2.1≠0\/t.2.2.1≠0
 gz:g.1≠0\/g.2.1≠0
 ways:∀ t∈ss,∀ h:Int,(h=1\/h = -1)->(∀ s∈ss,tn t.2 s.2*h<=0)->tn t.2 g*h<=0
 lead:¬ ∀ s∈ss,dt s.2 g<=0
 one:∀ t∈ss,tn t.2 g=0->0<dt t.2 g->∀ P:P3,0<P.2.2->sv t.2 P=0->¬ inW ss P
def aS.right(B:aS a g)(two:∀ t∈a,0<tn t.2 g->∃ e∈a,0<tn t.2 e.2/\(∀ u∈a,0<tn t.2 u.2->sv u.2 (pt3 (crL t.2 e.2))<=0)/\¬ (0<tn g e.2/\inW a (pt3 (crL t.2 e.2)))) :
  ∀(n:Nat)(t:Sd),t∈a->0<tn t.2 g->a.countP (λu=>decide (0<tn u.2 g)&&decide (0<tn t.2 u.2))<n->∀ P:P3,0<P.2.2->sv t.2 P=0->inW a P->False
 | 0,_,_,_,h,_,_,_,_=>y9 h (AH _)
 | n+1,t,mt,f,x,P,s,v,r=>by
  have C:=tS (B.nz t mt);obtain⟨e,d,l,A,i⟩:=two t mt f;obtain⟨j,D⟩:=C5 d;have w1:=iL (h:=1) 'a' C v s r D (by lia) (λu o c=>A u o (by lia));obtain⟨m,E,c2⟩:=uA (show tn t.2 e.2≠0 by lia);have w:¬ 0<tn g e.2:=λz=>i ⟨z,w1⟩;have G:=uh g e.2;by_cases h0:tn g e.2=0
  ·have k:=Xj t.2 e.2 g;rw[h0,j3,CL] at k;have p:=i8 l (tS B.gz);rw[k,d8] at p;rwa[B.one e d (by lia) (vH p f) _ m.pos c2 w1]
  ·have b:0<tn e.2 g:=by lia
   erw[aS.right B two n e d b (j5 (fU (q:=λu=>decide (0<tn u.2 g)&&decide (0<tn t.2 u.2)) (λu o c=>?_) ⟨e,d,?_,?_⟩) (GO x)) _ m.pos c2 w1]
   ·rw[AG,decide_eq_true_iff,decide_eq_true_iff] at c ⊢;exists c.1;have k:=PR t.2 u.2 e.2 g;have p1:=i8 l c.1;have p2:=i8 f c.2;rwa[vH (y:=tn e.2 g) (by lia) b]
   ·rw[y7 b,y7 l];rfl
   ·rw[y8 (p:=0<tn e.2 e.2) (by rw[bM]; decide),FT]
def aS.left(B:aS a g)(rt:∀ t∈a,0<tn t.2 g->∀ P:P3,0<P.2.2->sv t.2 P=0->inW a P->False) :
  ∀(n:Nat)(t:Sd),t∈a->0<tn g t.2->a.countP (λu=>decide (0<tn g u.2)&&decide (0<tn u.2 t.2))<n->∀ P:P3,0<P.2.2->sv t.2 P=0->inW a P->False
 | 0,_,_,_,h,_,_,_,_=>y9 h (AH _)
 | n+1,t,mt,i,s,P,o,r,m=>by
  have l:=tS (B.nz t mt);have at':=uh t.2 g;rcases wc (h:=-1) 'a' l a with no | ⟨e,me,he,ha⟩
  ·have:=B.ways t mt (-1) (.inr rfl) no;lia
  ·obtain⟨j,v⟩:=C5 me;have w1:=iL (h:=-1) 'a' l r o m v he ha;obtain⟨f,C,c2⟩:=uA (yG he);have a1:=uh t.2 e.2;have a2:=uh g e.2;have c:0<tn e.2 t.2:=by lia
   by_cases h1:0<tn e.2 g
   ·rwa[rt e me h1 _ f.pos c2 w1]
   ·by_cases h0:tn e.2 g=0
    ·have k:=Xj e.2 t.2 g;rw[h0,j3,Be] at k;have p:=i8 c (tS B.gz);rw[k,d8] at p;rwa[B.one e me h0 (vH p i) _ f.pos c2 w1]
    ·have b:0<tn g e.2:=by lia
     erw[aS.left B rt n e me b (j5 (fU (q:=λu=>decide (0<tn g u.2)&&decide (0<tn u.2 t.2)) (λu z d=>?_) ⟨e,me,?_,?_⟩) (GO s)) _ f.pos c2 w1]
     ·rw[AG,decide_eq_true_iff,decide_eq_true_iff] at d ⊢;exists d.1;have k:=PR u.2 t.2 e.2 g;have p1:=i8 d.2 i;have p2:=i8 d.1 c;have A:tn u.2 t.2*tn g e.2=tn u.2 e.2*tn g t.2+tn g u.2*tn e.2 t.2:=by
       have x:=uh e.2 g;have w:=uh u.2 g;rw[x,at',w,t8,t8,o8] at k;lia
      rwa[vH (y:=tn g e.2) (by lia) b]
     ·rw[y7 b,y7 c];rfl
     ·rw[y8 (p:=0<tn e.2 e.2) (by rw[bM]; decide),FT]
def Pk(B:aS a g)(two:∀ t∈a,0<tn t.2 g->∃ e∈a,0<tn t.2 e.2/\(∀ u∈a,0<tn t.2 u.2->sv u.2 (pt3 (crL t.2 e.2))<=0)/\¬ (0<tn g e.2/\inW a (pt3 (crL t.2 e.2))))
  {z:P3} (f:0<z.2.2) (m:inW a z):False:=by
 have rt:∀ t∈a,0<tn t.2 g->∀ P:P3,0<P.2.2->sv t.2 P=0->inW a P->False:=λt mt b=>B.right two _ t mt b (B3 _);have p:∀ t∈a,0<tn g t.2->∀ P:P3,0<P.2.2->sv t.2 P=0->inW a P->False:=λt mt b=>B.left rt _ t mt b (B3 _)
 let d:P3:=(g.2.1*z.2.2,-(g.1*z.2.2),g.2.1*z.1-g.1*z.2.1)
 have n:sv d z=0:=by
  show g.2.1*z.2.2*z.1 + -(g.1*z.2.2)*z.2.1-(g.2.1*z.1-g.1*z.2.1)*z.2.2=0;simp only[AY,Ah,o8,t8,d8,f9];lia
 have t0:∀ t:P3,tn d t=dt t g*z.2.2:=λt=>by
  show g.2.1*z.2.2*t.2.1 - -(g.1*z.2.2)*t.1=(t.1*g.1+t.2.1*g.2.1)*z.2.2;simp only[n9,x8,o8,t8,d8,f9];lia
 have o:d.1≠0\/d.2.1≠0:=by
  rcases B.gz with h | h
  ·right;show -(g.1*z.2.2)≠0;have:=Aq h (show z.2.2≠0 by lia);lia
  ·left;rwa[Aq h (by lia)]
 have l:=tS o;rcases wc (h:=1) 'a' l a with no | ⟨t,mt,b,ha⟩
 ·erw[B.lead λs q=>?_];have:=no s q;rw[t0,Ck] at this;by_cases c:dt s.2 g<=0
  ·rwa[c]
  ·have:=i8 (show 0<dt s.2 g by lia) f;lia
 ·obtain⟨j,r⟩:=C5 mt;have w1:=iL (h:=1) 'a' l n f m r b ha;obtain⟨i,v,c2⟩:=uA (yG b);have hd:0<dt t.2 g:=by
   rw[t0,Ck] at b;rwa[vH b f]
  have w:=uh g t.2;by_cases h1:0<tn t.2 g
  ·rwa[rt t mt h1 _ i.pos c2 w1]
  ·by_cases h0:tn t.2 g=0
   ·rwa[B.one t mt h0 hd _ i.pos c2 w1]
   ·rwa[p t mt (by lia) _ i.pos c2 w1]
end Sea

namespace L2
open PySem PySem.Spec PyProof.Rows PySem.W
def SR(h:Ae)(v:c7)(x:Int):Prop:=∃(a:c5)(o:By)(n:Nat)(t:Jn)(b:List c7),v=.ref a/\h.get? a=Js o/\o.cls=.type "tuple" /\ o.data=.seq (Ch x t::b).toArray n
def SR.keep{h c:Ae}{x:Int}(e:SR h v x)(k:∀ b o,h.get? b=Js o->c.get? b=Js o):SR c v x:=by
 obtain⟨a,o,n,t,r,g,f,d⟩:=e;rwa[a,o,n,t,r,g,k _ _ f,d]
def To:kas_sort 2=.ask 1 0 λc=>if c=Ju then .ret #[1,0] else .ret #[0,1]:=by
 have e:kas_sort 2=.ask 1 0 λc=>match c with | true=>.ret #[1,0] | false=>.ret #[0,1]:=by
  unfold kas_sort;show KasT.ask 1 0 _=_
  congr 1
  funext c
  cases c <;> rfl
 rw[e]
 congr 1
 funext c
 cases c <;> rfl
section
variable{prog:o7}{w:w9}{A:An}{E:c7->d7->Prop}{s:d7}
def Xh{x y:Int}{C:Bool->d7->Prop}(g:SR s.heap u x)(f:SR s.heap v y)(j:x≠y)(h:C (decide (x<y)) s):wpAny 'k' A (keyLt' (tuples' Ju) u v) C E s:=by
 obtain⟨p,o,n,t,d,rfl,i,_,hd⟩:=g;obtain⟨q,l,m,e,c,rfl,a,_,b⟩:=f;erw[kat_lt i hd a b ?_];show KatLex prog w A Ju _ C ((Ch x t,Ch y e)::d.zip c) 0 s;erw[kat_cons (DO ?_)];rw[show(x == y)=Jv from by simpa using j];rwa[kat_no (oneLt_int h)]
def Yw{u v:c7}{x y:Int}{Q:c7->d7->Prop}(I:s.heap.IsList l [u,v].toArray)(r:SR s.heap u x)(m:SR s.heap v y)(H:x≠y)
  (h:Q (.ref 'c') { s with heap:=sortedAll s.heap [u,v] (if y<x then [v,u] else [u,v]).toArray }) :
  wpAny 'k' A (call (.builtin "sorted") [.ref l]) Q E s:=by
 refine VM (κ:=tuples' Ju) (G:=λout=>out=if y<x then [v,u] else [u,v]) I (by show 2<64; decide) (λh2 b kp X S B=>?_) (λh2 b kp=>?_) (λh2=>y9 (show 2<2 from h2) 'a') λout a e=>by rw[e]; rwa[h]
 ·have f:=r.keep kp;have d:=m.keep kp;obtain⟨p,o,n,t,O,M,D,J,hd⟩:=f;obtain⟨q,P,R,C,N,L,g,j,i⟩:=d;have a1:KatTups b.heap [u,v] [.int x t,.int y C]:=by
   rw[M,L];rwa[GK D J hd rfl (GK g j i rfl .nil)]
  refine kat_kind (T:=C0 "int") a1 (by show 0<2; decide) (λz a=>?_) rfl (by first | exact B | (rw[show(C0 "int" != C0 "tuple")=Ju from by first | decide | simp]; rwa[B]));rcases g9.mp a with rfl | a
  ·rwa[.now]
  ·rw[e8] at a;rw[a];rwa[.now]
 ·rw[show [u,v].length=2 from rfl,To];show kas_ask prog w A.in1.in1 (tuples' Ju) [u,v] 1 0 _ b;erw[Xh (m.keep kp) (r.keep kp) (λz=>H z.symm) ?_];by_cases c:y<x
  ·rw[y7 c,y6 c];rwa[rfl,rfl]
  ·rw[y8 c,y4 c];rwa[rfl,rfl]
end
section
variable{X:Cx}
def eA:vA X (.builtin "sorted") (λxs H Q=>E7 λ(l a b:c5) (x y:Int) (f z:List V)=>A6 (xs=[.ref l]) (SqL X.K H l [.ref a,.ref b]) (H a=Js (.tup (.int x::f))) (H b=Js (.tup (.int y::z))) (x≠y) (∀ p:c5,H p=Jt->Q (.ref p) (upd H p (.lst (if y<x then [.ref b,.ref a] else [.ref a,.ref b]))))):=by
 intro P s M H xs f Q I r h;obtain⟨l,a,b,x,y,A,w,rfl,E,j,J,G,q⟩:=h;obtain⟨u,rfl,ru⟩:=yQ.one r;cases ru;obtain⟨i,B,D,O⟩:=I.list E;have L:=zr (rs:=[a,b]) B;subst L;have m:∀{a:c5}{x:Int}{f:List V},H a=Js (.tup (.int x::f))->SR s.heap (.ref a) x:=λ{a x f} j=>by
  obtain⟨i,C,⟨o,e,c,n,d⟩,_⟩:=I.tuple (SqT.of j);cases C with
  | cons p1 N =>
   obtain⟨t,rfl⟩:=p1;rwa[_,o,n,t,_,rfl,e,c,d]
 erw[Yw (u:=.ref a) (v:=.ref b) D.isList (m j) (m J) G ?_];have fr:H 'c'=none:=I.hok.fresh (Bc _);by_cases c:y<x
 ·rw[y6 c];have g:=q _ fr;rw[y6 c] at g;obtain⟨e,at'⟩:=sortedAll_at s.heap [.ref a,.ref b] [j4 b,j4 a].toArray;exact⟨.ref 'c',_,I.laid (t':=s.toks) (a:=s.heap.objs.size+1) (o:=.lst [.ref b,.ref a]) (λb ob q=>sortedAll_old q) (Bc _) ⟨(by show 2<=sizeLine; rw[sizeLine_eq]; decide),_,e,rL [b,a],at'⟩,rfl,g⟩
 ·rw[y4 c];have g:=q _ fr;rw[y4 c] at g;obtain⟨e,at'⟩:=sortedAll_at s.heap [.ref a,.ref b] [j4 a,j4 b].toArray;exact⟨.ref 'c',_,I.laid (t':=s.toks) (a:=s.heap.objs.size+1) (o:=.lst [.ref a,.ref b]) (λb ob q=>sortedAll_old q) (Bc _) ⟨(by show 2<=sizeLine; rw[sizeLine_eq]; decide),_,e,rL [a,b],at'⟩,rfl,g⟩
def tOrT(K:b8)(d c:TE):TE:=λb H Q=>d b H λx a=>∃ k,TruV K x a k/\if k=Ju then Q x a else c b a Q
def Nd{a b:Av}{d:List Av}{m l:TE}(y:PE X a m)(w:PE X (.BoolOp .Or (b::d) pos) l):PE X (.BoolOp .Or (a::b::d) pos) (tOrT X.K m l):=by
 intro j s i H Q I h;erw[BoolOp_or (thn (y j s i H _ I h) λv u ⟨x,p,A,n,f⟩=>?_)];obtain⟨k,q,f⟩:=f;erw[thn (Nn j u i p x v (λc g=>g=p/\c=k) A n ⟨k,q,rfl,rfl⟩) λc r ⟨g,o,e,z⟩=>?_];subst e z;cases c with
 | false=>rwa[w j r i g Q o f]
 | true=>rwa[x,g,o,n,f]
end
def ifSf{a b:i9}{A B:Prop}(h:a≠b)(c:B):if decide (V.str a=V.str b)=Ju then A else B:=by
 rw[y8 (λz=>h (by injection z))];rwa[c]
def ifSt{A B:Prop}(b:A):if decide (V.str a=V.str a)=Ju then A else B:=by
 rw[y7 rfl];rwa[b]
def cut4{ok:c5->Int->Int->Hp->Prop}{G:Prop}{R:c5->Int->Int->Hp->Prop}(h1:(∀ p x y G,ok p x y G->R p x y G)->G)(h2:∀ p x y G,ok p x y G->R p x y G):G:=h1 h2
end L2

namespace Sea
def Far(c:List Sd)(g P:P3)(d:List (Int×Int×Int)):Prop :=
 (∃(i:Nat)(p q:Int)(s:Sd),d=[((i:Int),p,q)]/\c[i]?=Js s/\0<p/\0<q/\p<=10^19/\q<=10^19/\l9 p.natAbs q.natAbs=1/\p*s.2.1=q*g.1/\p*s.2.2.1=q*g.2.1/\sv s.2 P=0) \/
 ∃(i j:Nat)(p q b a:Int)(s t:Sd),d=[((i:Int),p,q),((j:Int),b,a)]/\i<j/\c[i]?=Js s/\c[j]?=Js t/\(0<p/\0<q/\p<=10^19/\q<=10^19/\l9 p.natAbs q.natAbs=1)/\(0<b/\0<a/\b<=10^19/\a<=10^19/\l9 b.natAbs a.natAbs=1) /\
  p*s.2.1*a+b*t.2.1*q=q*a*g.1/\p*s.2.2.1*a+b*t.2.2.1*q=q*a*g.2.1/\sv s.2 P=0/\sv t.2 P=0
def UB(x:Int):qk (-x)=qk x:=by
 unfold qk;split <;> split <;> lia
def Uo(c:tn s g=0)(hd:0<dt s g):yV g.1 g.2.1*s.1=yV s.1 s.2.1*g.1/\yV g.1 g.2.1*s.2.1=yV s.1 s.2.1*g.2.1:=by
 have d:g.1*s.2.1=g.2.1*s.1:=by
  unfold tn at c;rw[d8 g.1,d8 g.2.1];rw[d8 s.1,d8 s.2.1] at c;rw[d8 s.2.1 g.1,d8 s.1 g.2.1];lia
 have pr:0<=(g.1 * -s.1)*(g.2.1 * -s.2.1):=by
  have f:(g.1 * -s.1)*(g.2.1 * -s.2.1)=(g.1*s.2.1)*(g.2.1*s.1):=by
   simp only[t8,o8,D7,d8,f9]
  rw[f,<- d];rwa[Oj _]
 obtain⟨b,a⟩:=iR (show g.1 * -s.1+g.2.1 * -s.2.1<0 by
  unfold dt at hd;rw[t8,t8,d8 g.1,d8 g.2.1];lia) pr
 have e:g.1 * -s.2.1=g.2.1 * -s.1:=by rw[t8,t8,d]
 have a1:=par (e1:=g.1) (e2:=g.1) (s1:=-s.1) (s2:=-s.1) rfl b;have a2:=par (e1:=g.1) (e2:=g.2.1) (s1:=-s.1) (s2:=-s.2.1) e a;have i:=par (e1:=g.2.1) (e2:=g.1) (s1:=-s.2.1) (s2:=-s.1) e.symm b;have h:=par (e1:=g.2.1) (e2:=g.2.1) (s1:=-s.2.1) (s2:=-s.2.1) rfl a;rw[UB,t8] at a1 a2 i h;unfold yV;constructor
 ·rw[n9,n9];lia
 ·rw[n9,n9];lia
def Wx{x y k:Int}(a:k≠0)(h:x*k=y*k):x=y:=B8 a h
def fv{t b x y:Int}(pt:yq t b x y)(a:0<t)(c:0<b):0<x/\0<y:=by
 have d:=pt.pos;erw[?_,by lia];have e:=pt.eq;have p:=i8 (show 0<y by lia) a;rw[<- e] at p;rwa[vH p c]
def RD{a:List Sd}{g P:P3}{i:Nat}{x y:Int}(m:a[i]?=Js s)(ns:s.2.1≠0\/s.2.2.1≠0)(j:g.1≠0\/g.2.1≠0)(l:tn s.2 g=0)(hd:0<dt s.2 g)(pt:yq (yV g.1 g.2.1) (yV s.2.1 s.2.2.1) x y)(r:yV g.1 g.2.1<=10^19)(q:yV s.2.1 s.2.2.1<=10^19)(h:sv s.2 P=0):Far a g P [((i:Int),x,y)]:=by
 obtain⟨o,n⟩:=Uo l hd;have d:=qS ns;have f:=qS j;obtain⟨c,b⟩:=fv pt f d;have xl:=pt.xle;have p:=pt.yle;have e:=pt.eq;erw[.inl ⟨i,x,y,s,rfl,m,c,b,by lia,by lia,pt.low,?_,?_,h⟩]
 ·erw[Wx (k:=yV s.2.1 s.2.2.1) (by lia) ?_];rw[o4,e,x9,show yV g.1 g.2.1*s.2.1=yV s.2.1 s.2.2.1*g.1 from o,x9,d8 g.1]
 ·erw[Wx (k:=yV s.2.1 s.2.2.1) (by lia) ?_];rw[o4,e,x9,show yV g.1 g.2.1*s.2.2.1=yV s.2.1 s.2.2.1*g.2.1 from n,x9,d8 g.2.1]
def Ua(s t g:P3):tn g t*s.1+tn s g*t.1=tn s t*g.1/\tn g t*s.2.1+tn s g*t.2.1=tn s t*g.2.1:=by
 unfold tn;constructor
 ·simp only[AY,Ah,d8,f9];lia
 ·simp only[AY,Ah,d8,f9];lia
def XM{p q f d A B W a b c:Int}(g:W≠0)(h1:p*W=q*A)(h2:f*W=d*B)(h:A*a+B*b=W*c):p*a*d+f*b*q=q*d*c:=by
 refine Wx g ?_;have e:(p*a*d+f*b*q)*W=p*W*(a*d)+f*W*(b*q):=by
  simp only[n9,x8,d8,f9]
 rw[e,h1,h2];have i:q*A*(a*d)+d*B*(b*q)=q*d*(A*a+B*b):=by
  simp only[x8,n9,d8,f9]
 rw[i,h];simp only[d8,f9]
def Qp{d:List Sd}{i j:Nat}{p q b a:Int}(o:d[i]?=Js s)(gt:d[j]?=Js t)(n:0<tn s.2 t.2)(v:0<tn g t.2)(u:0<tn s.2 g)(p1:yq (tn g t.2) (tn s.2 t.2) p q)(p2:yq (tn s.2 g) (tn s.2 t.2) b a)
  (H:tn g t.2<=10^19) (G:tn s.2 g<=10^19) (E:tn s.2 t.2<=10^19) (h:sv s.2 P=0) (f:sv t.2 P=0) (r:i≠j):Far d g P (if j<i then [((j:Int),b,a),((i:Int),p,q)] else [((i:Int),p,q),((j:Int),b,a)]):=by
 obtain⟨w,c2⟩:=Ua s.2 t.2 g;obtain⟨a1,a2⟩:=fv p1 v n;obtain⟨y,x⟩:=fv p2 u n;have D:=p1.xle;have C:=p1.yle;have B:=p2.xle;have A:=p2.yle;have m:=XM (show tn s.2 t.2≠0 by lia) p1.eq p2.eq w;have l:=XM (show tn s.2 t.2≠0 by lia) p1.eq p2.eq c2;have w1:0<p/\0<q/\p<=10^19/\q<=10^19/\l9 p.natAbs q.natAbs=1:=⟨a1,a2,by lia,by lia,p1.low⟩;have e:0<b/\0<a/\b<=10^19/\a<=10^19/\l9 b.natAbs a.natAbs=1:=⟨y,x,by lia,by lia,p2.low⟩;by_cases c:j<i
 ·rw[y6 c];erw[.inr ⟨j,i,b,a,p,q,t,s,rfl,c,gt,o,e,w1,?_,?_,f,h⟩]
  ·rw[d8 a q];have z:p*s.2.1*a+b*t.2.1*q=q*a*g.1:=m;lia
  ·rw[d8 a q];have z:p*s.2.2.1*a+b*t.2.2.1*q=q*a*g.2.1:=l;lia
 ·rw[y4 c];rwa[.inr ⟨i,j,p,q,b,a,s,t,rfl,by lia,o,gt,w1,e,m,l,h,f⟩]
def XH{a b c x y w:Int}(h:a*x+b*y-c*w=0):a*x+b*y=c*w:=by lia
def Tx{t:P3}(h:t.1≠0\/t.2.1≠0)(c:t.1.natAbs<=10^9)(b:t.2.1.natAbs<=10^9)(d:t.2.2.natAbs<=10^13):(pt3 (ftL t)).1.natAbs<=10^40/\(pt3 (ftL t)).2.1.natAbs<=10^40/\(pt3 (ftL t)).2.2.natAbs<=10^40:=by
 have p:=tS h;obtain⟨x,y,w,e,a⟩:=qG (X:=t.1*t.2.2) (Y:=t.2.1*t.2.2) (W:=t.1*t.1+t.2.1*t.2.1) (by lia);have f:ftL t=[x,y,w]:=e;rw[f];have l:=zE t.1 t.2.2 c d;have j:=zE t.2.1 t.2.2 b d;have i:=zE t.1 t.1 c c;have g:=zE t.2.1 t.2.1 b b;have o:=a.xle;have n:=a.yle;have m:=a.wle;erw[?_,?_,?_]
 ·show x.natAbs<=10^40;lia
 ·show y.natAbs<=10^40;lia
 ·show w.natAbs<=10^40;lia
def SU.small(c:SU f P)(a:∀ t∈f,(t.2.1≠0\/t.2.2.1≠0)/\t.2.1.natAbs<=10^9/\t.2.2.1.natAbs<=10^9/\t.2.2.2.natAbs<=10^13):P.1.natAbs<=10^40/\P.2.1.natAbs<=10^40/\P.2.2.natAbs<=10^40:=by
 rcases c with rfl | ⟨t,mt,rfl⟩ | ⟨t,mt,u,g,h,rfl⟩
 ·rwa[by decide,by decide,by decide]
 ·obtain⟨n,e,d,b⟩:=a t mt;rwa[Tx n e d b]
 ·obtain⟨_,e,d,b⟩:=a t mt;obtain⟨_,l,j,i⟩:=a u g;rwa[Zn h e d b l j i]
end Sea

namespace Sea
def Far.most(h:Far y g P B){z:P3}(N:0<z.2.2)(A:0<P.2.2)(n:inW y z):(g.1*z.1+g.2.1*z.2.1)*P.2.2<=(g.1*P.1+g.2.1*P.2.1)*z.2.2:=by
 have e:∀{X Y k:Int},0<k->X*k<=Y*k->X<=Y:=λJ h=>Ez h J;rcases h with ⟨i,p,q,s,rfl,w,u,f,_,_,_,m,l,E⟩ | ⟨i,j,p,q,D,b,s,t,rfl,L,w,gt,⟨u,f,_⟩,⟨r,d,_⟩,m,l,I,H⟩
 ·refine e f ?_;have a1:(g.1*z.1+g.2.1*z.2.1)*P.2.2*q=p*(s.2.1*z.1+s.2.2.1*z.2.1)*P.2.2:=by
   have a:(g.1*z.1+g.2.1*z.2.1)*P.2.2*q=(q*g.1*z.1+q*g.2.1*z.2.1)*P.2.2:=by
    simp only[n9,x8,d8,f9]
   rw[a,<- m,<- l];simp only[n9,x8,d8,f9]
  have a2:(g.1*P.1+g.2.1*P.2.1)*z.2.2*q=p*(s.2.1*P.1+s.2.2.1*P.2.1)*z.2.2:=by
   have a:(g.1*P.1+g.2.1*P.2.1)*z.2.2*q=(q*g.1*P.1+q*g.2.1*P.2.1)*z.2.2:=by
    simp only[n9,x8,d8,f9]
   rw[a,<- m,<- l];simp only[n9,x8,d8,f9]
  have o:=XH (show s.2.1*P.1+s.2.2.1*P.2.1-s.2.2.2*P.2.2=0 from E);have C:s.2.1*z.1+s.2.2.1*z.2.1-s.2.2.2*z.2.2<=0:=n s (f6 w);rw[a1,a2,o];have x:p*(s.2.1*z.1+s.2.2.1*z.2.1)*P.2.2<=p*(s.2.2.2*z.2.2)*P.2.2:=AU (BP (by lia) (i3 u)) (i3 A);erw[BN x (BA ?_)];simp only[d8,f9]
 ·refine e (i8 f d) ?_;have c:∀ v:P3,(g.1*v.1+g.2.1*v.2.1)*(q*b)=p*b*(s.2.1*v.1+s.2.2.1*v.2.1)+D*q*(t.2.1*v.1+t.2.2.1*v.2.1):=λv=>by
   have a:(g.1*v.1+g.2.1*v.2.1)*(q*b)=(q*b*g.1)*v.1+(q*b*g.2.1)*v.2.1:=by
    simp only[n9,x8,d8,f9]
   rw[a,<- m,<- l];simp only[n9,x8,d8,f9];lia
  rw[o4,c z,o4 (g.1*P.1+g.2.1*P.2.1),c P];have G:=XH (show s.2.1*P.1+s.2.2.1*P.2.1-s.2.2.2*P.2.2=0 from I);have ob:=XH (show t.2.1*P.1+t.2.2.1*P.2.1-t.2.2.2*P.2.2=0 from H);have C:s.2.1*z.1+s.2.2.1*z.2.1-s.2.2.2*z.2.2<=0:=n s (f6 w);have O:t.2.1*z.1+t.2.2.1*z.2.1-t.2.2.2*z.2.2<=0:=n t (f6 gt);rw[G,ob];have M:=BP (show s.2.1*z.1+s.2.2.1*z.2.1<=s.2.2.2*z.2.2 by lia) (i3 (i8 u d));have c2:=BP (show t.2.1*z.1+t.2.2.1*z.2.1<=t.2.2.2*z.2.2 by lia) (i3 (i8 r f));have x:=AU (Int.add_le_add M c2) (i3 A);erw[BN x (BA ?_)];simp only[n9,x8,d8,f9]
structure FarNums(x y m:Int)(P:P3):Prop where
 a1:(-x*P.2.2).natAbs<=10^60
 a2:(-y*P.2.2).natAbs<=10^60
 top:(x*P.1+y*P.2.1).natAbs<=10^60
 t0:(-(x*P.1+y*P.2.1)).natAbs<=10^60
 t1:(-(x*P.1+y*P.2.1)-1).natAbs<=10^60
 u1:(-x*P.2.2*m).natAbs<=10^60
 u2:(-y*P.2.2*m).natAbs<=10^60
 u3:(-(x*P.1+y*P.2.1)*m-1).natAbs<=10^60
 nw : -x*P.2.2≠0\/-y*P.2.2≠0
 nm : -x*P.2.2*m≠0\/-y*P.2.2*m≠0
 wd:P.2.2.natAbs<=10^60
end Sea

namespace L2

def tU{x:i9} : ∀(names:List (i9×Cm))(n:Nat)(a:List (i9×c5)),((x,AV)∈names\/∃ c,a.lookup x=Js c)->∃ c,(cellsFrom n names a).lookup x=Js c
 | [],_,_,h=>h.elim (λz=>nomatch z) id
 | (y,k)::r,n,a,h=>by
  unfold cellsFrom;by_cases d:(k == AV)=Ju
  ·rw[y6 d];erw[tU r (n+1) ((y,n)::a) ?_];cases b:x == y with
   | true=>rwa[.inr ⟨n,by rw[t9,b]⟩]
   | false =>
    rcases h with h | ⟨c,h⟩
    ·rcases g9.mp h with e | e
     ·injection e with e1 _
      subst e1;simp at b
     ·rwa[.inl e]
    ·rwa[.inr ⟨c,by rw[t9,b]; exact h⟩]
  ·rw[y4 d];erw[tU r n a ?_];rcases h with h | h
   ·rcases g9.mp h with e | e
    ·injection e with _ e2
     subst e2;rwa[y9 rfl d]
    ·rwa[.inl e]
   ·rwa[.inr h]
def qC:∀(names:List (i9×Cm))(h:Ae)(d:List (i9×c5))(x:i9)(c:c5),(cellsFrom h.objs.size names d).lookup x=Js c ->
  (h.objs.size<=c/\(pushCells h names).IsCell c Jt/\(x,AV)∈names)\/d.lookup x=Js c
 | [],_,_,_,_,e=>.inr e
 | (y,k)::r,h,d,x,c,e=>by
  unfold cellsFrom at e;unfold pushCells;by_cases f:(k == AV)=Ju
  ·rw[y6 f] at e;rw[y6 f];have sz:(h.push { cls:=.type "cell",data:=.cell Jt }).objs.size=h.objs.size+1:=B6 ..;rcases qC r (h.push { cls:=.type "cell",data:=.cell Jt }) ((y,h.objs.size)::d) x c (by rw[sz]; rwa[e]) with ⟨a,b,m⟩ | e'
   ·exact .inl ⟨by rw[sz] at a; exact EZ a,b,l7 _ m⟩
   ·rw[t9] at e';cases g:x == y with
    | true =>
     rw[g] at e';have j:h.objs.size=c:=m8 e';have ex:x=y:=by simpa using g
     have i:k=AV:=by simpa using f
     subst j ex i;rwa[.inl ⟨e9 _,⟨_,pushCells_keeps r _ _ _ (j9 _ rfl),rfl⟩,j7⟩]
    | false =>
     rw[g] at e';rwa[.inr e']
  ·rw[y4 f] at e;rw[y4 f];rcases qC r h d x c e with ⟨a,b,m⟩ | e'
   ·rwa[.inl ⟨a,b,l7 _ m⟩]
   ·rwa[.inr e']
def zq:∀(names:List (i9×Cm))(n:Nat)(a:List (i9×c5)),(∀ x y c,a.lookup x=Js c->a.lookup y=Js c->x=y)->(∀ x c,a.lookup x=Js c->c<n) ->
  ∀ x y c,(cellsFrom n names a).lookup x=Js c->(cellsFrom n names a).lookup y=Js c->x=y
 | [],_,_,hi,_=>hi
 | (z,k)::r,n,a,hi,h=>by
  unfold cellsFrom;by_cases i:(k == AV)=Ju
  ·rw[y6 i];erw[zq r (n+1) ((z,n)::a) (λx y c f b=>?_) λx c e=>?_]
   ·rw[t9] at f b;cases d:x == z with
    | true =>
     rw[d] at f;cases g:y == z with
     | true=>rw[show x=z by simpa using d,show y=z by simpa using g]
     | false =>
      rw[g] at b;have:=h y c b;rw[<- m8 f] at this;rwa[y9 this (AM _)]
    | false =>
     rw[d] at f;cases g:y == z with
     | true =>
      rw[g] at b;have:=h x c f;rw[<- m8 b] at this;rwa[y9 this (AM _)]
     | false =>
      rw[g] at b;rwa[hi x y c f b]
   ·rw[t9] at e;cases d:x == z with
    | true=>rw[d] at e; rw[<- m8 e]; rwa[B3 _]
    | false=>rw[d] at e; rwa[Cn (h x c e)]
  ·rw[y4 i];rwa[zq r n a hi h]
def mO(a:Cs)(x:i9):Bool:=a.names.any λy=>y.1 == x&&y.2 == .cell
structure OwnScope(X:Cx)(caps:List (i9×Nat))(scope:Cs):Prop where
 kind:scope.kind=.function
 dis:(scope.names.all λx=>!(x.2 == .free) || !mO scope x.1)=Ju
 loc:∀ y∈scope.names,y.2=.local->scope.names.lookup y.1=Js .local
 clos:(scope.names.all λx=>!(x.2 == .free)||(X.env.cells.lookup x.1).isSome)=Ju
 cap:iq X scope caps
section
variable{X:Cx}{T:List i9}{caps:List (i9×Nat)}{scope:Cs}{elt target iter:Av}{ifs:List Av}{pos cpos:Dg}{wi:TI}{g:CC->TG}{tt:CC->TT}{te:CC->TE}

def rEqE(K:b8):R2:=λx y H Q=>E3 λ(a b:c5) (c:List c5)=>A5 (x=.ref a) (y=.ref b) (SqL K H a (c.map V.ref)) (SqL K H b []) (Q (.bl c.isEmpty) H)
def OK(d:X.A.units<cLine):OpR X (compareOp .Eq) (rEqE X.K):=by
 intro C s p H x y v u Q I i f h;obtain⟨a,b,c,rfl,rfl,h1,h2,q⟩:=h;cases i;cases f;obtain⟨B,m,p1,_⟩:=I.list h1;obtain⟨z,l,p2,_⟩:=I.list h2;have o:=zr m;have n:=yQ.zero l;subst o n;cases c with
 | nil =>
  erw[SeqAt.RcAt.lists (e:=λ_=>Ju) p1.isList p2.isList rfl d (λj g _=>y9 g 'd') X.prog X.w _ _ ?_];rwa[.bl Ju,H,I,rfl,q]
 | cons r c =>
  erw[SeqAt.RcAt.lists_lengths p1.isList p2.isList 'd' d X.prog X.w _ _ ?_];rwa[.bl Jv,H,I,rfl,q]
end
end L2

namespace Sea
def InC(a:List Sd)(x y:Int):Prop:=∀ t∈a,t.2.1*x+t.2.2.1*y<=0
def fL{x y:Int} : vD b x y=Ju↔InC b x y:=by
 unfold vD InC;rw[Ag];rwa[λh t a=>of_decide_eq_true (h t a),λh t a=>y7 (h t a)]
def zb{p q:Int}(b:0<p)(h:p*q<=0):q<=0:=by
 erw[Int.not_lt.mp λa=>?_];have:=i8 b a;lia
def ve{a b m n:Int}(h:a*m+b*n=0)(u v:Int):(a*a+b*b)*(u*m+v*n)=(a*n-b*m)*(v*a-u*b):=by
 have e:(a*a+b*b)*(u*m+v*n)-(a*n-b*m)*(v*a-u*b)=(a*m+b*n)*(a*u+b*v):=by
  simp only[Ah,AY,n9,x8,d8,f9,x9];lia
 rw[h,j3] at e;lia
def RJ{a b:Int}(h:a≠0\/b≠0):0<a*a+b*b:=kZ h
def bJ{t:Sd}{m n:Int}(i:t.2.1≠0\/t.2.2.1≠0)(h:t.2.1*m+t.2.2.1*n=0)(o:m≠0\/n≠0)(f:InC c m n):InC c (-t.2.2.1) t.2.1\/InC c t.2.2.1 (-t.2.1):=by
 have pos:=RJ i;have j:t.2.1*n-t.2.2.1*m≠0:=λz=>by
  have g:=ve h 1 0;have b:=ve h 0 1;rw[z,j3 (0*t.2.1-1*t.2.2.1)] at g;rw[z,j3 (1*t.2.1-0*t.2.2.1)] at b;have r:m=0:=by
   rcases i7.mp g with q | q
   ·lia
   ·lia
  have p:n=0:=by
   rcases i7.mp b with q | q
   ·lia
   ·lia
  rcases o with q | q
  ·rwa[q r]
  ·rwa[q p]
 rcases Int.lt_or_gt_of_ne j with l | l
 ·refine .inr λu d=>?_;have e:=ve h u.2.1 u.2.2.1;have a:(t.2.1*t.2.1+t.2.2.1*t.2.2.1)*(u.2.1*m+u.2.2.1*n)<=0:=Ba (i3 pos) (f u d);rw[e] at a;have b:(t.2.1*n-t.2.2.1*m)*(u.2.2.1*t.2.1-u.2.1*t.2.2.1)=(-(t.2.1*n-t.2.2.1*m))*(u.2.1*t.2.2.1+u.2.2.1 * -t.2.1):=by
   rw[o8,<- t8]
   congr 1
   rw[t8];lia
  rw[b] at a;rwa[zb (by lia) a]
 ·refine .inl λu d=>?_;have e:=ve h u.2.1 u.2.2.1;have a:(t.2.1*t.2.1+t.2.2.1*t.2.2.1)*(u.2.1*m+u.2.2.1*n)<=0:=Ba (i3 pos) (f u d);rw[e] at a;have b:u.2.2.1*t.2.1-u.2.1*t.2.2.1=u.2.1 * -t.2.2.1+u.2.2.1*t.2.1:=by
   rw[t8];lia
  rw[b] at a;rwa[zb l a]
def dB{t:Sd} : InC [t] (-t.2.2.1) t.2.1:=λu a=>by
 rw[e8.mp a];have:t.2.1 * -t.2.2.1+t.2.2.1*t.2.1=0:=by rw[t8,d8 t.2.2.1]; lia
 lia
def InC.cons{s:Sd}{r:List Sd}{x y:Int}(h1:s.2.1*x+s.2.2.1*y<=0)(h2:InC r x y):InC (s::r) x y:=λt a=>by
 rcases g9.mp a with e | e
 ·rw[e]; rwa[h1]
 ·rwa[h2 t e]
def InC.tail{s:Sd}{r:List Sd}{x y:Int}(h:InC (s::r) x y):InC r x y:=λt a=>h t (l7 _ a)
def jh{x y:Int}(d:x≠0\/y≠0):∀{ss:List Sd},(∀ t∈ss,t.2.1≠0\/t.2.2.1≠0)->ss≠[]->InC ss x y->∃ t∈ss,InC ss (-t.2.2.1) t.2.1\/InC ss t.2.2.1 (-t.2.1)
 | [],_,h,_=>y9 rfl h
 | [t],_,_,_=>⟨t,e8.mpr rfl,.inl dB⟩
 | s::b::r,m,_,hd=>by
  obtain⟨t,mt,p⟩:=jh d (ss:=b::r) (λt mt=>m t (l7 _ mt)) 'd' hd.tail;have c:t∈s::b::r:=l7 _ mt;have ns:=m s j7;have one:∀ f g:Int,InC (b::r) f g->(InC (s::b::r) f g\/InC (s::b::r) (-f) (-g))\/∃ t∈s::b::r,InC (s::b::r) (-t.2.2.1) t.2.1\/InC (s::b::r) t.2.2.1 (-t.2.1):=λf g n=>by
   by_cases w:s.2.1*f+s.2.2.1*g<=0
   ·rwa[.inl (.inl (n.cons w))]
   have l:0<s.2.1*f+s.2.2.1*g:=by lia
   have v:=hd s j7;have o:s.2.1*((s.2.1*f+s.2.2.1*g)*x-'u'*f)+s.2.2.1*((s.2.1*f+s.2.2.1*g)*y-'u'*g)=0:=by
    simp only[Ah,n9,x8,d8,f9,x9];lia
   have A:InC (s::b::r) ((s.2.1*f+s.2.2.1*g)*x-'u'*f) ((s.2.1*f+s.2.2.1*g)*y-'u'*g):=by
    refine InC.cons (BA o) λu i=>?_;have e:u.2.1*((s.2.1*f+s.2.2.1*g)*x-'u'*f)+u.2.2.1*((s.2.1*f+s.2.2.1*g)*y-'u'*g)
      =(s.2.1*f+s.2.2.1*g)*(u.2.1*x+u.2.2.1*y)+(-'u')*(u.2.1*f+u.2.2.1*g):=by
     simp only[Ah,n9,x8,o8,t8,Ja,d8,f9,x9];lia
    rw[e];have E:=Ba (i3 l) (hd.tail u i);have D:=Ba (a:=-'u') (by lia) (n u i);lia
   by_cases j:(s.2.1*f+s.2.2.1*g)*x-'u'*f=0/\(s.2.1*f+s.2.2.1*g)*y-'u'*g=0
   ·-- the other way of f
    refine .inl (.inr λu i=>?_);have ne:s.2.1*x+s.2.2.1*y≠0:=λz=>by
     have h1:=j.1;have h2:=j.2;rw[z,j3,Int.sub_zero] at h1 h2;rcases d with q | q
     ·exact(i7.mp h1).elim (λe=>by lia) q
     ·exact(i7.mp h2).elim (λe=>by lia) q
    have lt:s.2.1*x+s.2.2.1*y<0:=by lia
    have e:(-'u')*(u.2.1 * -f+u.2.2.1 * -g)=(s.2.1*f+s.2.2.1*g)*(u.2.1*x+u.2.2.1*y):=by
     have a1:(s.2.1*f+s.2.2.1*g)*x='u'*f:=by lia
     have a2:(s.2.1*f+s.2.2.1*g)*y='u'*g:=by lia
     have C:(s.2.1*f+s.2.2.1*g)*(u.2.1*x+u.2.2.1*y)=u.2.1*((s.2.1*f+s.2.2.1*g)*x)+u.2.2.1*((s.2.1*f+s.2.2.1*g)*y):=by
      rw[x8,f9,f9 (s.2.1*f+s.2.2.1*g) u.2.2.1]
     have B:(-'u')*(u.2.1 * -f+u.2.2.1 * -g)=u.2.1*('u'*f)+u.2.2.1*('u'*g):=by
      rw[t8,t8,<- Ja,Eb,x8,f9,f9 'u' u.2.2.1]
     rw[C,B,a1,a2]
    have z:=Ba (i3 l) (hd u i);rw[<- e] at z;rwa[zb (by lia) z]
   ·erw[.inr ⟨s,j7,bJ ns o ?_ A⟩];by_cases h1:(s.2.1*f+s.2.2.1*g)*x-'u'*f=0
    ·rwa[.inr λh2=>j ⟨h1,h2⟩]
    ·rwa[.inl h1]
  rcases p with h | h
  ·rcases one _ _ h with (q | q) | q
   ·rwa[t,c,.inl q]
   ·rw[D7] at q;rwa[t,c,.inr q]
   ·rwa[q]
  ·rcases one _ _ h with (q | q) | q
   ·rwa[t,c,.inr q]
   ·rw[D7] at q;rwa[t,c,.inl q]
   ·rwa[q]
def Sg{a:List Sd}(g:∀ t∈a,t.2.1≠0\/t.2.2.1≠0)(ne:a≠[])(h:∀ k,¬ WK a a.length k){x y:Int}(b:x≠0\/y≠0):vD a x y=false:=by
 cases e:vD a x y with
 | false=>rfl
 | true =>
  obtain⟨t,mt,f⟩:=jh b g ne (fL.mp e);obtain⟨j,c,i⟩:=AE mt;have d:a[j]?=Js t:=by rw[d6 c,i]
  rcases f with q | q
  ·rwa[y9 ⟨j,t,c,d,.inl ⟨rfl,fL.mpr q⟩⟩ (h _)]
  ·rwa[y9 ⟨j,t,c,d,.inr ⟨rfl,fL.mpr q⟩⟩ (h _)]
end Sea

namespace Sea
def awB(N:Nat):List (Int×Int)->Int->Bool
 | [],_=>Ju
 | c::b,a=>if a<=c.1/\c.1<N/\1<=c.2 then awB N b (c.1+1) else Jv
def OE(a:List Sd)(f:Sd->Int)(n:Int):Int:=match a[n.toNat]? with
 | some t=>f t
 | none=>0
def QS(a:List Sd)(f:Sd->Int):List (Int×Int)->Int->Int
 | [],T=>T
 | c::b,T=>QS a f b (T+c.2*OE a f c.1)
def fAt(k:Int)(t:Sd):Int:=if k=0 then t.2.1 else if k=1 then t.2.2.1 else t.2.2.2
structure PrSt(H0:Hp)(D:c5)(cs:List Pr)(H:Hp):Prop where
 same:Same H0 H
 new:H0 D=Jt
 at':H D=Js (.lst (uq cs))
 all:Ud H cs
end Sea

namespace L2
def dD:bootBuiltins "sum" = Js (.builtin "sum"):=by ac_nf
def iJ(ns:List Int):∀ n,n<=ns.length->preSum (λi=>ns.getD i 0) n=(ns.take n).sum
 | 0,_=>by simp[preSum]
 | n+1,h=>by
  have a:n<ns.length:=h;rw[preSum,iJ ns n (AC a),Az,d6 a,Hv];simp[List.getD,d6 a]
def mY:∀{ns:List Int}{a:List c7},yQ (ns.map V.int) a->∀(i:Nat)(v:c7),a[i]?=Js v->∃ t,v=.int (ns.getD i 0) t
 | [],a,r,i,v,h=>by
  have e:=yQ.zero r;subst e;simp at h
 | n::ns,a,r,i,v,h=>by
  cases r with
  | cons c b =>
   match i,h with
   | 0,h =>
    obtain⟨t,rfl⟩:=c;rwa[t,(m8 h).symm]
   | i+1,h=>rwa[mY b i v h]
section
variable{X:Cx}
def yj(d:X.calm=Ju):vA X (.builtin "sum") (λxs H Q=>E2 λ(p:c5) (ns:List Int)=>A3 (xs=[.ref p]) (SqL X.K H p (ns.map V.int)) (Q (.int ns.sum) H)):=by
 intro N s G H xs J Q I r h;obtain⟨p,ns,rfl,y,q⟩:=h;obtain⟨u,rfl,m⟩:=jQ r;cases m;obtain⟨a,j,n,L⟩:=I.list y;have f:s.heap.IsList p a.toArray:=n.isList;have b:p<s.heap.objs.size:=by obtain⟨o,B,_⟩:=f; rwa[i5 B]
 have w:a.length=ns.length:=by
  have z:=j.length;rw[ac] at z;rwa[z.symm]
 refine call_sum_walkG (DC f ?_);refine⟨_,[_,p],[_],_,_,_,λi=>ns.getD i 0,U,Jk (A:=X.A.in1) (I.ok.hd d) _ p (o9 b) a.toArray,
  ⟨⟨_,j9 _ rfl,rfl,rfl⟩,f.push _⟩,λc d=>?_,λi v x=>mY j i v (by simpa using x),λM l g D=>?_⟩
 ·have sz:(s.heap.push { cls:=.type "list_iterator",data:=.fields #[.ref p,.int 0 0] }).objs.size=s.heap.objs.size+1:=B6 ..;show c<(s.heap.push { cls:=.type "list_iterator",data:=.fields #[.ref p,.int 0 0] }).objs.size;rw[sz];simp only[g9,CD,or_false] at d;rcases d with e | e
  ·rw[e]; rwa[B3 _]
  ·rw[e]; rwa[Cn b]
 ·erw[.int ns.sum,H,I.kept (t':=l) λc o e=>D c o (λC=>?_) (c8 _ e),⟨g,?_⟩,q]
  ·have E:=e8.mp C;have z:=i5 e;rw[E] at z;rwa[AM _ z]
  ·have e:a.toArray.size=ns.length:=by simp[w]
   rw[e,iJ ns ns.length (e9 _),v9]
end
end L2

namespace Sea
def Rr(n:Nat)(a:List (Int×Int)):List (Int×Int):=a.filter λc=>decide (c.1<(n:Int))
structure Apart(ss es:List Sd)(cs:List (Int×Int)):Prop where
 out:∀ v:P3,0<v.2.2->inW es v->QS ss (fAt 2) (Rr ss.length cs) 0*v.2.2<QS ss (fAt 0) (Rr ss.length cs) 0*v.1+QS ss (fAt 1) (Rr ss.length cs) 0*v.2.1
 ins:∀ v:P3,inW ss v->QS ss (fAt 0) (Rr ss.length cs) 0*v.1+QS ss (fAt 1) (Rr ss.length cs) 0*v.2.1<=QS ss (fAt 2) (Rr ss.length cs) 0*v.2.2
 few:(∃ z:P3,0<z.2.2/\inW ss z)->(Rr ss.length cs).length<=2
end Sea

namespace Sea
def mF{a b:Int}{m n:Nat}(h1:a.natAbs<=m)(h2:b.natAbs<=n):yV a b<=((m+n:Nat):Int):=by
 unfold yV qk;split <;> split <;> lia
structure PIb(t:TE)(σ:St)(i:Int)(n:Nat):Prop where
 rd:∀(H:Hp)(Q:VK),Q (.int i) H->t σ H Q
 le:i.natAbs<=n
abbrev PB(xs:List (c5×List Pr)):List V:=(xs.map (·.1)).map V.ref
structure Leads(G:Hp)(lo:c5)(M:Nat)(xs:List (c5×List Pr)):Prop where
 at':G lo=Js (.lst (PB xs))
 all:∀ u∈xs,u.1≠lo/\G u.1=Js (.lst (uq u.2))/\PrOk G M u.2
end Sea

namespace L2
open PySem PySem.Spec PyProof.Rows PySem.W
def cdO(c:c5)(a:i9):HO:=.ext λh=>h.CodeRec (.ref c) a
def fnO(f:c5)(c b:i9)(params:DN)(body:List Af)(a:Cs)(clos:List (i9×c5))(i:c5):HO :=
 .ext λh=>∃ d g e,h.get? f=Js (fnMade c b params body a clos d g i e)
def RC(P:c5)(pos:Dg)(a:i9)(H:Hp):Prop:=∃ b:Array c7,H P=Js (.tbl b)/\TriplesOk b.toList/\(codeAmong pos b.toList=Jt\/∃ c,codeAmong pos b.toList=Js (.ref c)/\H c=Js (cdO c a))
structure aM(base:Ae)(mg:i9->Option c7)(c P:c5):Prop where
 code:CodeHd base c P
 blt:∃ bm ob,mg "__builtins__" = Js (.ref bm)/\bm≠builtinsNs/\bm≠mainGlobals/\base.get? bm=Js ob/\ob.cls=.type "module" /\ ob.dict=Js builtinsNs/\ob.data=.plain
def Nu{H:Hp}{h:Ae}(r:h.CodeRec (.ref c) a):uH P w H h c (cdO c a):=by
 obtain⟨i,o,d,t,e,b,hd,f⟩:=id r;cases e;erw[r,⟨o,b⟩,λh1 h2 g k=>?_];obtain⟨_,o,d,t,e,b,hd,f⟩:=g;cases e;rwa[_,o,d,t,rfl,k _ b,hd,f]
def Su{H:Hp}{h:Ae}(e:h.get? f=Js (fnMade c b params body a clos g j l i)) :
  uH P w H h f (fnO f c b params body a clos l) :=
 ⟨⟨g,j,i,e⟩,⟨_,e⟩,λ_ _ ⟨d,p,v,e⟩ k=>⟨d,p,v,k _ e⟩⟩
def tDef(i:Nat)(P:c5)(pos:Dg)(d a:i9)(params:DN)(body:List Af)(c:Cs)(clos:List (i9×c5)):TS:=λD h H=>RC P pos a H/\∀(f g:c5)(e:Hp),H f=Jt->f≠P->e f=Js (fnO f d a params body c clos g)->e g=Js (cdO g a)->RC P pos a e->(∀ b o,b≠P->H b=Js o->e b=Js o)->D.nx (h.set i (Js (.ref f))) e
section
variable{X:Cx}
def Nq{i:Nat}{params:DN}(N:aM X.base X.mg c P)(hcd:X.env.code=.ref c)(hcl:closureFor g X.env=pure clos)
  (hN:X.N.Nodup) (hi:X.N[i]?=Js f) (hx:Loc X.env.scope f) (hd0:params.defaults=[]:=by rfl) (hk0:params.kw_defaults=[]:=by rfl) (ha:annTrees params Jt X.env=[]:=by rfl)
  (hf:X.fn f=Ju\/X.env.scope.names.lookup f=Js .local:=by first | exact .inl rfl | exact .inr rfl | assumption) :
  PS X (.FunctionDef f params body [] Jt [] g Jt f pos) (tDef i P pos f (qualnameIn X.env f f) params body g clos):=by
 intro Jw s σ H D I h;obtain⟨⟨Y,w,T,hc⟩,h⟩:=h;have R:s.heap.get? P=Js (tabObj Y):=I.hok P _ w;have G:s.heap.Ns mainGlobals X.mg:=I.ok.mod.glob.keeps I.bk;have hgP:mainGlobals≠P:=λz=>by
  obtain⟨o,es,ep,e,d,_⟩:=id G;rw[z,R] at e;cases e;cases d
 have p:s.heap.BuiltinsAt X.mg P:=by
  obtain⟨bm,ob,b1,b2,b3,b4,b5,b6,b7⟩:=N.blt;erw[bm,ob,b1,b2,b3,λz=>?_,I.bk _ _ b4,b5,b6,b7];have e:=I.bk _ _ b4;rw[z,R] at e;cases e;cases b5
 erw[nestDef_K hd0 hk0 ha ?_];rcases hc with hn | ⟨m,hc',B⟩
 ·erw[makeFunction_K (mg:=X.mg) hcl I.ok.glob G hcd (N.code.keeps I.bk) R T hn hgP p λm O M l tk hx' A y hrec Z=>?_]
  let o:By:=fnMade f (qualnameIn X.env f f) params body g clos M ((X.mg "__name__").getD .none) m O
  let x:=Y ++ #[rawInt pos.line,rawInt pos.col,.ref m]
  let Q:=upd (upd (upd H P (.tbl x)) m (cdO m (qualnameIn X.env f f))) l.objs.size (fnO l.objs.size f (qualnameIn X.env f f) params body g clos m)
  have C:P<s.heap.objs.size:=i5 R;have hcf:m≠l.objs.size:=o9 y;have nc:∀ b,b<s.heap.objs.size->b≠m:=λb p=>o9 (j5 p A);have nf:∀ b,b<s.heap.objs.size->b≠l.objs.size:=λb p=>o9 (j5 p (d9 A (AC y)));have S:H l.objs.size=none:=I.hok.fresh (d9 A (AC y));have fP:l.objs.size≠P:=λz=>y9 C (by rw[<- z]; exact Hi (d9 A (AC y)));have cP:m≠P:=(nc P C).symm;have up:∀ b,b<s.heap.objs.size->b≠P->Q b=H b:=λb p hbP=>by
   show upd (upd (upd H P _) m _) l.objs.size _ b=_;rw[zH (nf b p),zH (nc b p),zH hbP]
  have lt:∀ b u,H b=Js u->b<s.heap.objs.size:=λb u e=>I.hok.lt e;have kp:∀ b u,b≠P->s.heap.get? b=Js u->(l.push o).get? b=Js u:=λb u p e=>c8 _ (hx' b u p e);have L:Q P=Js (.tbl x):=by
   show upd (upd (upd H P _) m _) l.objs.size _ P=_;rw[zH fP.symm,zH cP.symm,zA]
  have J:Q m=Js (cdO m (qualnameIn X.env f f)):=by
   show upd (upd (upd H P _) m _) l.objs.size _ m=_;rw[zH hcf,zA]
  have ef3:Q l.objs.size=Js (fnO l.objs.size f (qualnameIn X.env f f) params body g clos m):=zA;have j:∀ b u,b≠P->H b=Js u->Q b=Js u:=λb u p e=>by rw[up b (lt b u e) p]; rwa[e]
  have I3:Inv X Jw σ Q { s with heap:=l.push o,toks:=tk }:=by
   erw[I.un (h':=l.push o) (t':=tk) ⟨λb u e n _ _=>?_,λb u e n _ _=>?_,λb u e n _=>?_,λb u e _=>?_,λb xs e=>?_,λb u v e=>?_,λb qs e=>?_⟩ λa u e=>?_]
   ·exact kp b u (λz=>by rw[z,w] at n; cases n) e
   ·exact⟨u.slots,kp b u (λz=>by rw[z,w] at n; cases n) e⟩
   ·rw[up b (i5 e) (λz=>by rw[z,w] at n; cases n)]; rwa[n]
   ·by_cases p:b=P
    ·rw[p]; rwa[_,c8 _ Z]
    ·rwa[u,kp b u p e]
   ·exact j b _ (λz=>by rw[z,w] at e; cases e) e
   ·exact j b _ (λz=>by rw[z,w] at e; cases e) e
   ·by_cases p:b=P
    ·rw[p,w] at e;cases e;rwa[_,by rw[p]; exact L]
    ·rwa[#[],by rw[j b _ p e]; simp]
   ·by_cases h1:a=l.objs.size
    ·rw[h1,ef3] at e;cases e;rw[h1];rwa[Su (j9 _ rfl)]
    ·by_cases h2:a=m
     ·rw[h2,J] at e;cases e;rw[h2];obtain⟨d,ob,vs,t,e1,ho,r⟩:=hrec;cases e1;rwa[Nu ⟨_,ob,vs,t,rfl,c8 _ ho,r⟩]
     ·by_cases h3:a=P
      ·rw[h3,L] at e;cases e;rw[h3];rwa[c8 _ Z]
      ·have e':H a=Js u:=by
        have z:upd (upd (upd H P (.tbl x)) m (cdO m (qualnameIn X.env f f))) l.objs.size (fnO l.objs.size f (qualnameIn X.env f f) params body g clos m) a=Js u:=e;(rw[zH h1,zH h2,zH h3] at z;assumption)
       refine(I.hok a u e').stay (λb v p q=>kp b v (λz=>?_) q) (λb q=>j b _ (λz=>by rw[z,w] at q; cases q) q) λb xs q=>j b _ (λz=>by rw[z,w] at q; cases q) q;rcases p with p | p
       ·rwa[h3 (by rw[<- p]; exact z)]
       ·rw[z,w] at p; cases p
  erw[vI I3 hN hi hx (v:=.ref l.objs.size) rfl (λs' I'=>⟨_,_,I',h _ m Q S fP ef3 J ⟨x,L,?_,.inr ⟨m,?_,J⟩⟩ j⟩) hf]
  ·show TriplesOk (Y ++ #[rawInt pos.line,rawInt pos.col,.ref m]).toList;rw[Ge];rwa[TriplesOk_snoc _ _ _ _ T]
  ·show codeAmong pos (Y ++ #[rawInt pos.line,rawInt pos.col,.ref m]).toList=_;rw[Ge];rwa[codeAmong_snoc _ T hn]
 ·erw[makeFunction_hit (mg:=X.mg) hcl I.ok.glob G hcd (N.code.keeps I.bk) R T hc' p λO M l tk hk E=>?_];have S:H l.objs.size=none:=I.hok.fresh E;have fP:l.objs.size≠P:=λz=>y9 (i5 R) (by rw[<- z]; rwa[Hi E]);have j:∀ b u,b≠P->H b=Js u->upd H l.objs.size (fnO l.objs.size f (qualnameIn X.env f f) params body g clos m) b=Js u:=λb u _ e=>by rw[zH (zI e S)]; rwa[e]
  have I3:=I.laid (a:=l.objs.size) (o:=fnO l.objs.size f (qualnameIn X.env f f) params body g clos m) (t':=tk) (h':=l.push (fnMade f (qualnameIn X.env f f) params body g clos M ((X.mg "__name__").getD .none) m O))
   (λb u e=>c8 _ (hk b u e)) E (Su (j9 _ rfl))
  erw[vI I3 hN hi hx (v:=.ref l.objs.size) rfl (λs' I'=>⟨_,_,I',h _ m _ S fP zA ?_ ⟨Y,?_,T,.inr ⟨m,hc',?_⟩⟩ j⟩) hf]
  ·rw[zH (zI B S)]; rwa[B]
  ·rw[zH fP.symm]; rwa[w]
  ·rw[zH (zI B S)]; rwa[B]
end
structure qz(N:List i9)(x y:i9)(j:Nat)(sc:Cs):Prop where
 kind:sc.kind=.function
 co:sc.isCoroutine=Jv
 gen:sc.isGenerator=Jv
 nd:N.Nodup
 par:N[0]?=Js x
 loc:sc.names.lookup x=Js .local
 cap:N[j]?=Js y
 fr:sc.names.lookup y=Js .free
 own:mO sc y=Jv
 only:(sc.names.all λz=>!(z.2 == .free)||z.1 == y)=Ju
def iC(g:CXT)(P:o7)(w:w9)(K:b8)(mg:i9->Option c7)(base:Ae)(N:List i9)(b:i9)(a:Cs)(f:c5)(d:c7)(clos:List (i9×c5))(A:An)(outer:List D4)(s:d7)(H:Hp)(E:XK):Cx where
 prog:=P
 w:=w
 K:=K
 mg:=mg
 base:=base
 A:=A.deeper (envX b a s.heap.objs.size f d (cellsFrom 'c' a.names clos))
 N:=N
 s₀:=s
 H₀:=H
 env:=envX b a s.heap.objs.size f d (cellsFrom 'c' a.names clos)
 outer:=outer
 stack:=envX b a s.heap.objs.size f d (cellsFrom 'c' a.names clos)::outer
 ex:=[]
 calm:=Ju
 fn:=mO a
 pn:=[]
 xe:=λe h=>wpAny (model P w) (A.deeper (envX b a s.heap.objs.size f d (cellsFrom 'c' a.names clos))) (leaving (envX b a s.heap.objs.size f d (cellsFrom 'c' a.names clos)) e) (λ_ c=>g outer H s E e c) (λe' c=>g outer H s E e' c) h
def fY(N:List i9)(j:Nat)(v:V):St:=(Cy N.length Jt).set j (Js v)
def YI{CX:CXT}{K:b8}{mg:i9->Option c7}{j:Nat}{A:An}{H:Hp}{E:XK}
  (S:qz N x y j g) (hd:A.handled=Jt) (B:YM P w K mg base A outer s H) (X:s.heap.IsCell l (Js u)) (hH:H l=Jt) (rv:xI v u) :
  Inv (iC CX P w K mg base N qual g f cd [(y,l)] A outer s H E) [] (fY N j v) H { s with heap:=pushCells (s.heap.push { cls:=.type "frame",data:=.dict #[] }) g.names }:=by
 have sz:(s.heap.push { cls:=.type "frame",data:=.dict #[] }).objs.size=s.heap.objs.size+1:=B6 ..;have O:∀(z:i9)(c:c5),Al z [(y,l)]=Js c->z=y/\c=l:=λz c e=>by
  rw[t9] at e;cases n:z == y with
  | true=>rw[n] at e; exact⟨by simpa using n,(m8 e).symm⟩
  | false=>rw[n] at e; cases e
 have C:∀ b o,s.heap.get? b=Js o->(pushCells (s.heap.push { cls:=.type "frame",data:=.dict #[] }) g.names).get? b=Js o:=λb o e=>pushCells_keeps _ _ b o (c8 _ e);have Q:l<s.heap.objs.size:=X.lt;have ey:(cellsFrom 'c' g.names [(y,l)]).lookup y=Js l:=by
  obtain⟨d,L⟩:=tU (x:=y) g.names 'c' [(y,l)] (.inr ⟨l,by simp⟩);rcases qC g.names (s.heap.push { cls:=.type "frame",data:=.dict #[] }) [(y,l)] y d (by rw[sz]; rwa[L]) with ⟨_,_,m⟩ | z
  ·have h2:mO g y=true:=DS.mpr ⟨_,m,by simp⟩;rw[S.own] at h2;cases h2
  ·rw[L,(O y d z).2]
 have r:∀ z c,(cellsFrom 'c' g.names [(y,l)]).lookup z=Js c ->
   (s.heap.objs.size+1<=c/\(pushCells (s.heap.push { cls:=.type "frame",data:=.dict #[] }) g.names).IsCell c Jt/\(z,AV)∈g.names)\/(z=y/\c=l):=λz c e=>by
  rcases qC g.names (s.heap.push { cls:=.type "frame",data:=.dict #[] }) [(y,l)] z c (by rw[sz]; rwa[e]) with q | q
  ·rw[sz] at q; rwa[.inl q]
  ·rwa[.inr (O z c q)]
 have hn:(pushCells (s.heap.push { cls:=.type "frame",data:=.dict #[] }) g.names).Ns s.heap.objs.size (λ_=>Jt):=(Heap.Ns.new s.heap (.type "frame")).keeps (pushCells_keeps _ _);have D:∀ b:c5,b ∉ (iC CX P w K mg base N qual g f cd [(y,l)] A outer s H E).ex:=λb z=>y9 (show b∈([]:List c5) from z) 'd';have T:j<N.length:=(c9.mp S.cap).1;refine⟨⟨B.mod,S.kind,U,U,e9 _,zq g.names _ _ (λa b c I e2=>by rw[(O a c I).1,(O b c e2).1]) (λa c e=>by rw[(O a c e).2]; exact Cn Q),λz n=>?_,λz c hf e=>?_,λ_=>hd,FS B.frames,.inr ⟨rfl,rfl⟩,λb z=>y9 z (D b),B.bs,B.bsz,λb _ _=>D b,λb z=>y9 z (D b),B.funs,B.frf⟩,
  rfl,B.bare,Un.kept C,⟨_,hn,λi z v' h1 h2 h3=>?_⟩,λz c e=>?_,B.hok.fresh (e9 _),λz c e=>?_,λp hp=>y9 (show p∈([]:List (c5×By)) from hp) 'd',B.hok.kept C,?_⟩
 ·have n:g.names.lookup z=Js .cell\/g.names.lookup z=Js .free:=n;rcases n with n | n
  ·rwa[tU g.names _ _ (.inl (Bo n))]
  ·have h:=Ag.mp S.only _ (Bo n);have Y:z=y:=by simpa using h
   rw[Y];rwa[l,ey]
 ·rcases r z c e with ⟨a,_,_⟩ | ⟨I,_⟩
  ·rwa[EZ a]
  ·have h2:mO g z=true:=hf;rw[I,S.own] at h2;cases h2
 ·unfold fY at h2;by_cases J:j=i
  ·subst J;rw[CH (by rw[BH]; exact T)] at h2;cases h2;have ez:z=y:=by
    have M:N[j]?=Js z:=h1;rw[S.cap] at M;exact(m8 M).symm
   subst ez;obtain⟨o,R,G⟩:=X;rwa[u,rv,.inr ⟨.inr S.fr,l,ey,o,C l o R,G⟩]
  ·rw[D5 J,Du] at h2;split at h2 <;> cases h2
 ·rcases r z c e with ⟨_,q,_⟩ | ⟨_,I⟩
  ·rwa[Jt,q]
  ·obtain⟨o,R,G⟩:=X;rw[I];rwa[_,o,C l o R,G]
 ·rcases r z c e with ⟨a,_,_⟩ | ⟨_,I⟩
  ·rwa[B.hok.fresh (EZ a)]
  ·rw[I]; rwa[hH]
 ·unfold fY;rw[Dm,BH];rfl
def Tr{CX:CXT}{K:b8}{mg:i9->Option c7}{k:Nat}{j:Nat}{H:Hp}{Q:VK}{E:XK}
  (S:qz N x y j a) (G:Room (k+1) A) (M:YM P w K mg base A outer s H) (hc:s.heap.IsCell h (Js R)) (hH:H h=Jt) (D:xI O R) (o:xI v u)
  (ef:H f=Js (fnO f c b params body a [(y,h)] d)) (ec:H d=Js (cdO d b))
  (m:∀ z T B,bindArgs (fnX c b params body a [(y,h)] .none .none z T Jt (.ref d) B) ⟨[u],[]⟩=pure [(x,u)])
  (l:Room k (A.deeper (envX b a s.heap.objs.size f (.ref d) (cellsFrom 'c' a.names [(y,h)]))) ->
   ∃ t,PSs (iC CX P w K mg base N b a f (.ref d) [(y,h)] A outer s H E) body t/\t { nx:=λ_ i=>Q .non i,rt:=Q } ((fY N j O).set 0 (Js v)) H) :
  codeAny (model P w) A (.call (.ref f) ⟨[u],[]⟩) (CR CX outer P w H s Q E) s:=by
 obtain⟨⟨z,T,B,L⟩,_⟩:=M.hok f _ ef;obtain⟨p,_⟩:=M.hok d _ ec;refine codeAny_call_function G.depth L rfl S.co S.gen rfl p ?_;rw[m];refine f8 ?_;simp only[newFunctionEnv,Option.isSome_none,Bh,if_false];refine c6 (wpAny_alloc ?_);refine c6 (wpAny_layCells _ (λc kind cells=>by cases I:kind == AV <;> simp[I]) _ _ _ _ ?_);rw[show({ s with heap:=s.heap.push { cls:=.type "frame",data:=.dict #[] } } : d7).heap.objs.size=s.heap.objs.size+1 from B6 ..];have I0:=YI (CX:=CX) (qual:=b) (f:=f) (cd:=.ref d) (E:=E) S G.hd M hc hH D;rw[Ht];refine c6 (c6 (c6 ?_));refine vI (X:=iC CX P w K mg base N b a f (.ref d) [(y,h)] A outer s H E) I0 S.nd S.par (.inl S.loc) o (λZ Y=>f8 ?_) (.inr S.loc);dsimp only;rw[List.forIn_nil];refine f8 (f8 ⟨Y.nolimit,codeAny_func ?_⟩);obtain⟨t,ht,hq⟩:=l (G.deeper _);refine Bw (ht [] Z _ H _ Y hq) (λfl C n=>?_) λe C n=>n;have r:∀{g:St}{i:Hp}{v:V}{u:c7},Inv (iC CX P w K mg base N b a f (.ref d) [(y,h)] A outer s H E) [] g i C->xI v u->Q v i->CE outer P w H s Q u C :=
  λ{g i v u} J o q=>⟨v,i,J.os,J.bare,J.base,J.hok,o,q⟩
 cases fl with
 | ret u =>
  obtain⟨v,g,i,J,o,q⟩:=n;rwa[r J o q]
 | next =>
  obtain⟨g,i,J,q⟩:=n;rwa[r (v:=V.non) (u:=Am) J rfl q]
 | brk =>
  obtain⟨_,_,_,q⟩:=n;rwa[AN q]
 | cont =>
  obtain⟨_,_,_,q⟩:=n;rwa[AN q]
end L2
namespace PySem.W
open PySem PySem.Calls PyProof.Rows
section
variable{prog:o7}{w:w9}{A:An}{E:c7->d7->Prop}{s:d7}{a kS:c5}{vs:List c7}{kz:List Int}{keys:Array c7}{e e1:Nat}{P:ID->d7->Prop}
def ic{st:SortSt}(g:s.heap.get? kS=Js (seqObj "list" keys e))(i:s.heap.get? a=Js (seqObj "list" #[] e1))(j:kS≠a)
  (o:EU keys.toList kz) (n:kz.length=vs.length) (r:vs.length<64) (m:(arrOf st).Perm (keys.zip vs.toArray)) (q:SortedTo (arrOf st) (arrOf st).size) (l:failedOf st=Jt)
  (h:∀ out:Array c7,out.size=vs.length->KskOut Jv kz vs out.toList->P (.done (.ret .none)) { s with heap:=(s.heap.update kS (t5 λ_=>#[])).update a (t5 λ_=>out) }) :
  wpAny 'k' A (ksk_tail a Jv e1 (.ref kS) st) P E s:=by
 have f:keys.size=vs.length:=by
  have h1:=o.length;rw[Ay] at h1;lia
 have c:((arrOf st).map (·.2)).size=vs.length:=by rw[HK,m.size_eq,HM,f,f7,IM]
 have p:=Cu s.heap kS (t5 λ_=>(#[]:Array c7));have d:(s.heap.update kS (t5 λ_=>(#[]:Array c7))).get? a=Js (seqObj "list" #[] e1):=(p.2 a j.symm).trans i;unfold ksk_tail
 try dsimp only
 erw[c6 (listUpdate_at g rfl ?_ (by rw[f,sizeLine_eq]; lia) (Aa _))];erw[c6 (wpAny_letGo ?_)];erw[c6 (seqEpoch_at d rfl ?_)];erw[c6 (listUpdate_at d rfl ?_ (Aa _) (d9 (Ej c) (by rw[sizeLine_eq]; lia)))];rw[l];simp only[bne_self_eq_false,Bh,if_false];erw[f8 (h _ c ?_)];have z:=ksk_out (b:=Jv) o m q;simpa using z
def Vj(l:s.heap.get? kS=Js (seqObj "list" keys e))(m:s.heap.get? a=Js (seqObj "list" #[] e1))(n:kS≠a)
  (o:EU keys.toList kz) (c:kz.length=vs.length) (f:vs.length<64)
  (h:∀ out:Array c7,out.size=vs.length->KskOut Jv kz vs out.toList->P (.done (.ret .none)) { s with heap:=(s.heap.update kS (t5 λ_=>#[])).update a (t5 λ_=>out) }) :
  wpAny 'k' A (ksk_end a Jv vs.toArray e1 (.ref kS) keys) P E s:=by
 have g:keys.size=vs.length:=by
  have h1:=o.length;rw[Ay] at h1;lia
 have d:(keys.zip vs.toArray).size=vs.length:=by rw[HM,g,f7,IM]
 unfold ksk_end;simp only[Bh,if_false];by_cases h2:vs.toArray.size<2
 ·rw[y6 h2,y6 h2];erw[c6 (f8 ?_)];rw[FG];erw[c6 (f8 ?_)]
  try dsimp only
  erw[ic (st:=Jm general' (keys.zip vs.toArray) #[] 7 Jt) l m n o c f (FF _) ?_ rfl h];intro i j v u;have p:j<(keys.zip vs.toArray).size:=u;rw[d] at p;rw[f7] at h2;have:i=j:=by lia
  subst this;rwa[Dy _]
 ·rw[y4 h2,y4 h2];rw[f7] at h2;rw[ksk_kind o (by rw[g]; lia)];refine c6 (f8 ?_);refine c6 (Bw (wpS_sortRuns (a₀:=keys.zip vs.toArray) (st:=Jm oneType' (keys.zip vs.toArray) #[] 7 Jt)
   (Q:=λ_ b=>(arrOf b).Perm (keys.zip vs.toArray)/\failedOf b=Jt/\SortedTo (arrOf b) (keys.zip vs.toArray).size)
   (ksk_intKeys o) ⟨FF _,rfl,rfl,rfl⟩ (by rw[d]; lia) (by rw[d]; rwa[f]) λb a1 a2 y=>⟨a1,a2,y⟩) ?_ λ_ _ e=>e)
  rintro⟨⟨⟩,b⟩ z ⟨rfl,q,x,r⟩
  try dsimp only
  rwa[ic l m n o c f q (by rw[q.size_eq]; exact r) x h]
end
end PySem.W
namespace L2
open PySem PySem.Spec PyProof.Rows PySem.W
def QD{e:List c5}{c:c5->Int}(h:KskOut Jv (e.map c) (e.map j4) out):∃ f:List c5,f.Perm e/\f.Pairwise (λa b=>c a<=c b)/\out=f.map j4:=by
 obtain⟨m,i,rfl,n⟩:=h;have u:(e.map c).zip (e.map j4)=e.map λr=>(c r,j4 r):=by
  rw[List.zip_map,List.zip_eq_zipWith,List.zipWith_self,v8];rwa[AA λ_ _=>rfl]
 rw[u] at i
 let back:c7->c5:=λv=>match v with | .ref a=>a | _=>0
 have j:∀ p∈m,p=(c (back p.2),j4 (back p.2)):=λp d=>by
  obtain⟨r,_,rfl⟩:=o5.mp (i.mem_iff.mp d);rfl
 erw[m.map λp=>back p.2,?_,?_,?_]
 ·have z:=i.map λp=>back p.2;rw[v8] at z;have l:e.map ((λp:Int×c7=>back p.2) ∘ λr=>(c r,j4 r))=e:=by
   erw[GJ (AA λr _=>?_) (F3 e)];rfl
  rw[l] at z;rwa[z]
 ·rw[Ai];erw[n.imp_of_mem λ{p q} d s o=>?_];have g:p.1<=q.1:=by simpa using o
  have w:p.1=c (back p.2):=congrArg Prod.fst (j p d);have l:q.1=c (back q.2):=congrArg Prod.fst (j q s);rw[<- w,<- l];rwa[g]
 ·rw[v8];rwa[AA λp d=>congrArg Prod.snd (j p d)]
section
variable{X:Cx}
def Yi{M:St}{H:Hp}{h:List c5}{d:c5->Int}{Q:VK}(I:Inv X Jw M H s)(hl:SqL X.K H l (h.map V.ref))(h64:h.length<64)
  (turn:∀ r∈h,∀(E:List (c5×By))(H1:Hp)(s1:d7),Same H H1->Inv X E M H1 s1->wpAny 'b' X.A.in1.in1 (call (.ref f) [.ref r]) (λu Y=>∃ t H2,u=.int (d r) t/\Inv X E M H2 Y/\Same H1 H2) (λ_ _=>False) s1)
  (q:∀(p:c5)(N:List c5)(T:Hp),H p=Jt->Same H T->T p=Js (.lst (N.map V.ref))->N.Perm h->N.Pairwise (λa b=>d a<=d b)->Q (.ref p) T) :
  wpAny 'b' X.A (call (.builtin "sorted") [.ref l] [(CI "key",.ref f)]) (EP X Jw M Q) X.xe s:=by
 obtain⟨its,rv,pl,hz⟩:=I.list hl;have ei:=zr rv;subst ei;have g:(h.map j4).length=h.length:=ac ..;refine call_function_entry_kw kind_sorted plain_sorted entry_sorted (ksk_s1 _ _) ?_;unfold Eh.«sorted»;refine c6 (m:=checkCount "sorted" 1 1 _) (f8 ?_);refine c6 (collect_list pl.isList ?_ (by rw[g,sizeLine_eq]; lia));refine c6 (Di ?_ (by rw[g,sizeLine_eq]; lia));have hsz:((s.heap.push (seqObj "list" #[] 0)).update s.heap.objs.size (t5 (· ++ (h.map j4).toArray))).objs.size=s.heap.objs.size+1:=by
  rw[Fh,size_push']
 have O:(vC s.heap (h.map j4)).get? 'c'=Js (seqObj "list" (h.map j4).toArray 0):=by
  unfold vC;rw[<- hsz]; rwa[j9 _ rfl]
 show wpAny _ _ _ _ _ { s with heap:=vC s.heap (h.map j4) };rw[hsz];erw[c6 (Bz (wpAny_call_entry_kw slot_list_sort ⟨_,O,rfl⟩ entry_list_sort ?body (ksk_l1 _ _)))]
 case body =>
 show wpAny 'b' X.A.in1.in1 (Eh.«list.sort» ⟨[.ref 'c'],[(CI "key",.ref f)]⟩) _ _ _;rw[ksk_t1];obtain⟨S,ho1⟩:∃ S,((vC s.heap (h.map j4)).update (s.heap.objs.size+1) (t5 λ_=>(#[]:Array c7))).get? (s.heap.objs.size+1)=Js (seqObj "list" #[] S):=⟨_,get?_update_seq O λ_=>#[]⟩;unfold ksk_tree;refine c6 (listItems_at O rfl ?_);refine c6 (listUpdate_at O rfl ?_ (by rw[f7,g,sizeLine_eq]; lia) (Aa _));refine c6 (seqEpoch_at ho1 rfl ?_);refine c6 (FZ ?_ (by show(h.map j4).length<=_; rw[g,sizeLine_eq]; lia));refine c6 (Di ?_ (Aa _));refine Bz ?_;dsimp only;generalize hh1:((vC s.heap (h.map j4)).update 'c' (t5 λ_=>(#[]:Array c7))).push (seqObj "tuple" (h.map j4).toArray 0)=h1;have keep1:∀ b o,s.heap.get? b=Js o->h1.get? b=Js o:=λb o e=>by
  have hlt:b<s.heap.objs.size:=i5 e;rw[<- hh1];erw[c8 _ ?_];rw[Df _ _ _ _ (o9 (Cn hlt))];rwa[lH e]
 have ea1:h1.get? 'c'=Js (seqObj "list" #[] S):=by rw[<- hh1]; rwa[c8 _ ho1]
 have R:h1.objs.size=s.heap.objs.size+3:=by
  rw[<- hh1,size_push',Fh];unfold vC;rw[size_push',hsz]
 have fa:H 'c'=none:=I.hok.fresh (Bc _);have fk:H h1.objs.size=none:=I.hok.fresh (by rw[R]; lia);have P:h1.objs.size≠s.heap.objs.size+1:=by rw[R]; lia
 have Z:s.heap.objs.size+1≠X.env.locals:=DB (Cn I.lt);have I1:Inv X Jw M H { s with heap:=h1 }:=I.kept (t':=s.toks) keep1;have I2:Inv X (Jw++[(s.heap.objs.size+1,seqObj "list" #[] S)]) M (upd H h1.objs.size (.lst [])) { s with heap:=h1.push (seqObj "list" #[] 0) }:=by
  have J:=I1.laid (a:=h1.objs.size) (o:=.lst []) (t':=s.toks) (h':=h1.push (seqObj "list" #[] 0)) (λb u e=>c8 _ e) (e9 _) ⟨Aa _,[],0,.nil,j9 _ rfl⟩;erw[J.pins_of λp hp=>?_];rcases m9.mp hp with hp | hp
  ·rwa[J.pin p (t7 _ hp)]
  ·rw[e8.mp hp];refine⟨c8 _ ea1,?_,Z,I.nofs (Bc _),λv z=>nomatch z⟩;rw[zH P.symm];rwa[fa]
 have Y:Same H (upd H h1.objs.size (.lst [])):=zC fk _;show wpAny 'b' X.A.in1.in1 (ksk_rest 'c' (.ref f) Jv (h.map j4).toArray S (.ref h1.objs.size)) _ _ { s with heap:=h1.push (seqObj "list" #[] 0) };unfold ksk_rest;erw[c6 (HD ?_)];rw[List.forIn_toArray];erw[c6 (ksk_fold (λi s'=>∃ T,Inv X (Jw++[(s.heap.objs.size+1,seqObj "list" #[] S)]) M T s'/\Same H T/\T h1.objs.size=Js (.lst ((h.take i).map λr=>V.int (d r)))) (h.map j4) 0 _ ⟨_,I2,Y,zA⟩ ?step ?done)]
 case step =>
  rintro j x s' hx ⟨H1,J,sH,eK⟩;rw[GP] at eK ⊢;rw[e7] at hx;cases er:h[j]? with
  | none=>rw[er] at hx; cases hx
  | some r =>
   rw[er] at hx;cases hx;have hj:j<h.length:=(c9.mp er).1;refine c6 (Gj (Bw (turn r (f6 er) _ H1 s' sH J) (λu Y hu=>?_) λ_ _ hF=>hF.elim));obtain⟨t,H2,rfl,J2,sH2⟩:=hu;dsimp only;have eK2:=sH2 _ _ eK;obtain⟨zl,ks,n,rk,ek⟩:=J2.hok _ _ eK2;have lk:ks.length=j:=by
    have z:=rk.length;rw[ac,o3] at z;lia
   erw[c6 (listUpdate_at ek rfl ?_ (by rw[f7,lk,sizeLine_eq]; lia) (d9 (Ej (Array.size_push ..)) (by rw[f7,lk,sizeLine_eq]; lia)))];obtain⟨c2,hc2⟩:∃ c2,(Y.heap.update h1.objs.size (t5 (·.push (.int (d r) t)))).get? h1.objs.size=Js (seqObj "list" (ks.toArray.push (.int (d r) t)) c2):=⟨_,get?_update_seq ek (·.push (.int (d r) t))⟩;have et:(h.take (j+1)).map (λr=>V.int (d r))=(h.take j).map (λr=>V.int (d r))++[V.int (d r)]:=by rw[GQ,er]; simp
   have J3:=J2.write (x:=h1.objs.size) (e:=h1.objs.size) (o:=.lst ((h.take (j+1)).map λr=>V.int (d r))) (t':=Y.toks) (h':=Y.heap.update h1.objs.size (t5 (·.push (.int (d r) t)))) (by rw[eK2]; exact trivial) (.inl rfl)
    (λb u L e=>by rw[Df _ _ _ _ L]; rwa[e]) ⟨_,hc2⟩ ⟨by rw[ac,o3,sizeLine_eq]; lia,ks++[.int (d r) t],c2,by rw[et]; exact rk.append (.cons ⟨t,rfl⟩ .nil),by rw[hc2]; simp[seqObj]⟩
   erw[f8 ⟨rfl,_,J3,λb o e=>?_,zA⟩];rw[zH (zI e fk)];rwa[sH2 _ _ (sH _ _ e)]
 case done =>
  rintro B ⟨H3,J,sH,eK⟩;rw[GP,g,v9] at eK;obtain⟨zl,ks,n,rk,ek⟩:=J.hok _ _ eK
  try dsimp only
  refine c6 (listItems_at ek rfl ?_);obtain⟨ea3,na3,_⟩:=J.pin (s.heap.objs.size+1,seqObj "list" #[] S) (t7 _ (t7 _ (e8.mpr rfl)));have hki:EU ks.toArray.toList (h.map d):=by
   rw[Gf];erw[iN ?_];rw[v8];rwa[rk]
  refine Vj (keys:=ks.toArray) (kz:=h.map d) ek ea3 P hki (by rw[ac,ac]) (by rw[g]; exact h64) λout hout hko=>⟨_,rfl,f8 ⟨_,rfl,?_⟩⟩;obtain⟨N,pm,pw,eo⟩:=QD hko;have hb2:=Cu B.heap h1.objs.size (t5 λ_=>(#[]:Array c7));obtain⟨c3,hc3⟩:∃ c3,(B.heap.update h1.objs.size (t5 λ_=>(#[]:Array c7))).get? h1.objs.size=Js (seqObj "list" #[] c3):=⟨_,get?_update_seq ek λ_=>#[]⟩;have J4:=J.write (x:=h1.objs.size) (e:=h1.objs.size) (o:=.lst []) (t':=B.toks) (h':=B.heap.update h1.objs.size (t5 λ_=>(#[]:Array c7))) (by rw[eK]; exact trivial) (.inl rfl)
   (λb u L e=>(hb2.2 b L).trans e) ⟨_,hc3⟩ ⟨Aa _,[],c3,.nil,hc3⟩
  have D:upd H3 h1.objs.size (.lst []) 'c'=none:=by rw[zH P.symm]; rwa[na3]
  have ea4:(B.heap.update h1.objs.size (t5 λ_=>(#[]:Array c7))).get? 'c'=Js (seqObj "list" #[] S):=(hb2.2 _ P.symm).trans ea3;obtain⟨c4,hc4⟩:∃ c4,((B.heap.update h1.objs.size (t5 λ_=>(#[]:Array c7))).update (s.heap.objs.size+1) (t5 λ_=>out)).get? (s.heap.objs.size+1)=Js (seqObj "list" out c4):=⟨_,get?_update_seq ea4 λ_=>out⟩;have G:=Cu (B.heap.update h1.objs.size (t5 λ_=>(#[]:Array c7))) 'c' (t5 λ_=>out);have J4':Inv X Jw M (upd H3 h1.objs.size (.lst [])) { B with heap:=B.heap.update h1.objs.size (t5 λ_=>(#[]:Array c7)) }:=J4.unpinned;have J5:Inv X Jw M (upd (upd H3 h1.objs.size (.lst [])) 'c' (.lst (N.map V.ref))) { B with heap:=(B.heap.update h1.objs.size (t5 λ_=>(#[]:Array c7))).update 'c' (t5 λ_=>out) }:=by
   refine Inv.step (s:={ B with heap:=B.heap.update h1.objs.size (t5 λ_=>(#[]:Array c7)) }) (h':=(B.heap.update h1.objs.size (t5 λ_=>(#[]:Array c7))).update 'c' (t5 λ_=>out)) (H':=upd (upd H3 h1.objs.size (.lst [])) 'c' (.lst (N.map V.ref))) (g':=B.gens) (t':=B.toks) (d':=B.drawn) (ch:=[s.heap.objs.size+1]) J4' (λb L=>?_) (λb o _ _ C e _=>(G.2 b (λz=>C (by simp[z]))).trans e) (λb o _ _ C e _=>⟨o.slots,(G.2 b (λz=>C (by simp[z]))).trans e⟩) (λb o C _ n=>by rw[zH (λz=>C (by simp[z]))]; exact n)
    (λb o C e=>⟨o,(G.2 b (λz=>C (by simp[z]))).trans e⟩) (λb xs e=>by rw[zH (zI e D)]; rwa[e]) (λb o u e=>by rw[zH (zI e D)]; rwa[e]) (λb ps e=>⟨#[],by rw[zH (zI e D),e]; simp⟩) (λm hm=>hm.sameBut G Z.symm) (λb u e=>?_) J4'.bare
   ·have eb:b=s.heap.objs.size+1:=by simpa using L
    subst eb;erw[.inr (Nat.le_succ_of_le I.sz),Z,λx c e z=>?_,λp hp z=>?_]
    ·obtain⟨v,qq⟩:=I.cell x c e;rwa[AM _ (j5 qq.lt (by rw[z]; exact Bc _))]
    ·rwa[AM _ (j5 (i5 (I.pin p hp).1) (by rw[z]; exact Bc _))]
   ·by_cases L:b=s.heap.objs.size+1
    ·rw[L,zA] at e;cases e;rw[L];exists by rw[ac,pm.length_eq,sizeLine_eq]; lia,N.map j4,c4,rL N;rw[hc4,<- eo]
    ·rw[zH L] at e;refine(J4'.hok b u e).stay (λc v C q=>(G.2 c (λz=>?_)).trans q) (λc q=>by rw[zH (zI q D)]; rwa[q]) λc xs q=>by rw[zH (zI q D)]; rwa[q]
     rcases C with C | C
     ·rwa[L (by rw[<- C]; exact z)]
     ·rw[z,D] at C; cases C
  erw[.ref 'c',_,J5,rfl,q _ N _ fa (λb o e=>?_) zA pm pw];rw[zH (zI e fa),zH (zI e fk)];rwa[sH _ _ e]
end
def PY(X:Cx)(d:St)(H:Hp)(f:c5)(i:List c5)(b:c5->Int):Prop:=∀ r∈i,∀(a:List (c5×By))(c:Hp)(e:d7),Same H c->Inv X a d c e ->
 wpAny 'b' X.A.in1.in1 (call (.ref f) [.ref r]) (λu h=>∃ t g,u=.int (b r) t/\Inv X a d g h/\Same c g) (λ_ _=>False) e
def Pn(X:Cx)(n m:TA):TE:=λg H Q=>n g H λxs o=>m g o λj e=>E4 λ(l f:c5) (d:List c5) (c:c5->Int)=>A6 (xs=[.ref l]) (j=[.ref f]) (SqL X.K e l (d.map V.ref)) (d.length<64) (PY X g e f d c) (∀(p:c5)(h:List c5)(i:Hp),e p=Jt->Same e i->i p=Js (.lst (h.map V.ref))->h.Perm d->h.Pairwise (λa b=>c a<=c b)->Q (.ref p) i)
section
variable{X:Cx}
def UV{e kf:Av}{p pos a:Dg}(B:Gl X "sorted")(y:X.mg "sorted" = Jt)(D:PA X [e] i)(A:PK X [⟨Js "key",kf,a⟩] g)
  (C:backTo pos (starEach [e] X.env)=(Jv,eval e X.env)::backTo pos (starEach [] X.env):=by rfl) (b:(backTo pos (starEach [e] X.env)).any (·.1)=false:=by rfl):PE X (.Call (.Name "sorted" p) [e] [⟨Js "key",kf,a⟩] pos) (Pn X i g):=by
 intro j s d H Q I h;erw[BI (dk I B y tL ?_ 'a' 'a')];erw[callWith_kw (thn (D pos j s d H _ I h) λN m ⟨xs,J,G,r,w⟩=>?_) C b];erw[thn (A pos j m d J _ G w) λM O ⟨L,R,E,o,l,f,P,x,ex,ey,z,c,ok,q⟩=>?_];subst ex ey;obtain⟨u,rfl,ru⟩:=yQ.one r;obtain⟨v,rfl,n⟩:=yQ.one o;cases ru;cases n;rwa[Yi E z c ok q]
def TV{σ:St}{H:Hp}{k j jy:Nat}{rs:List c5}{d:c5->Int}
  (S:qz N x y j a) (hr:Room (k+3) X.A) (M:X.env.cells.lookup y=Js C) (hy:X.N[jy]?=Js y) (hk:X.env.scope.names.lookup y=Js .cell) (evc:σ[jy]?=Js (Js O))
  (ef:H f=Js (fnO f g b params body a [(y,C)] I)) (ec:H I=Js (cdO I b))
  (p:∀ s R B u,bindArgs (fnX g b params body a [(y,C)] .none .none s R Jt (.ref I) B) ⟨[u],[]⟩=pure [(x,u)])
  (o:∀ r∈rs,∀(A:An)(outer:List D4)(G:d7)(i:Hp),Same H i->Room k (A.deeper (envX b a G.heap.objs.size f (.ref I) (cellsFrom (G.heap.objs.size+1) a.names [(y,C)]))) ->
   ∃ t,PSs (iC CX0 X.prog X.w X.K X.mg X.base N b a f (.ref I) [(y,C)] A outer G i E0).nox body t/\t { nx:=λ_ D=>V.non=.int (d r)/\Same i D,rt:=λv D=>v=.int (d r)/\Same i D } ((fY N j O).set 0 (Js (.ref r))) i):PY X σ H f rs d:=by
 intro r Y T i G P J;obtain⟨m,_,hl⟩:=J.loc;obtain⟨u,ru,l⟩:=hl jy y O hy evc (.inr (.inl hk));have n:G.heap.IsCell C (Js u):=by
  rcases l with ⟨z,_⟩ | ⟨_,c,e,q⟩
  ·have z':X.env.scope.names.lookup y=Js .local:=z;rw[hk] at z';cases z'
  ·rw[M] at e;cases e;rwa[q]
 erw[Gs (codeAny_mono (Tr (CX:=CX0) (Q:=λv D=>v=.int (d r)/\Same i D) (E:=E0) (v:=.ref r) S hr.in1.in1 J.env0.in1.in1 n (J.freeC y C M) ru rfl (P _ _ ef) (P _ _ ec) (λs R B=>p s R B _) λZ=>?_) λr' s' L=>?_)]
 ·obtain⟨t,h,q⟩:=o r Y X.A.in1.in1 X.stack G i P Z;rwa[t,h.nox,q]
 ·cases r' with
  | error e=>rwa[L]
  | ok fl =>
   cases fl with
   | ret w' =>
    obtain⟨v,D,J2,rv,e,s2⟩:=J.after L;subst e;obtain⟨t,rfl⟩:=rv;rwa[t,D,rfl,J2,s2]
   | next=>rwa[AN L]
   | brk=>rwa[AN L]
   | cont=>rwa[AN L]
end
def Vd{K:b8}{mg mb:i9->Option c7}{CX:CXT}{k:Nat}{x:i9}{sp:Sp}{f:d7}{J:List c7}
  (KX:K.In f.heap) (O:f.heap.Ns mainGlobals mg) (i:f.heap.Ns builtinsNs mb) (hbb:∀ x:i9,x ≠ "__name__" -> mb x=bootBuiltins x) (Q:f.heap.NoLimit) (hg:f.gens = #[])
  (E:f.heap.get? a=Js { cls:=.type "list",data:=.seq J.toArray }) (hi:EU J ns) (hl:ns.length<=sizeLine) (hr:Room k callerA)
  (hC:CodeHd f.heap c j) (G:f.heap.get? j=Js (tabObj #[])) (hKT:K.lookup j=Jt)
  (hbm:∃ L ob,mg "__builtins__" = Js (.ref L)/\L≠builtinsNs/\L≠mainGlobals/\f.heap.get? L=Js ob/\ob.cls=.type "module" /\ ob.dict=Js builtinsNs/\ob.data=.plain)
  (F:∀ base:Ae,K.In base->base.Ns mainGlobals mg->aM base mg c j->yI P w K mg base CX k fa fd [x] sp) (D:∀(s:d7)(u:c7),Fp s fd ⟨[u],[]⟩ [(x,u)])
  (hsp:∀ H:Hp,H j=Js (.tbl #[])->SqL K H a (ns.map V.int)->sp [.ref a] H (λv _=>v=.bl Ju) λ_ _ _=>False)
  (hCX:∀ H e p,CX [] H f (λ_ _ _=>False) e p->False) :
  codeAny (model P w) callerA (.call (.ref fa) ⟨[.ref a],[]⟩) (λr p=>r=.ok (.ret (.bool Ju))/\OldK f.heap p.heap/\p.os=f.os/\Ei p.gens) f:=by
 have rv:=kC hi;have N:=hi.length;have R:a≠j:=λz=>by rw[z,G] at E; cases E
 have C:∀ H:Hp,(∀ b,H b=Jt\/((∃ o xs,H b=Js (.frz o (.lst xs)))/\b=a)\/b=j)->H j=Js (.tbl #[])->SqL K H a (ns.map V.int)->HOk P w H f.heap->(H a≠Jt->K.lookup a=Jt) ->
   codeAny (model P w) callerA (.call (.ref fa) ⟨[.ref a],[]⟩) (λr p=>r=.ok (.ret (.bool Ju))/\OldK f.heap p.heap/\p.os=f.os/\Ei p.gens) f:=by
  intro H Z S hS hok hK;have g:∀{b:c5}{o:By},f.heap.get? b=Js o->H b=Jt->(Uv f.heap H).get? b=Js o:=λe n=>Tu e n;have no:∀{b:c5}{o:By},f.heap.get? b=Js o->(∀ xs n,o.data≠.seq xs n)->o.cls≠.none->H b=none:=λ{b o} e d c=>by
   rcases Z b with z | ⟨_,z⟩ | z
   ·rwa[z]
   ·rw[z,E] at e; cases e; rwa[y9 rfl (d _ _)]
   ·rw[z,G] at e; cases e; rwa[y9 rfl c]
  have noD:∀{b:c5}{o:By}{es:Array CN}{ep:Nat},f.heap.get? b=Js o->o.data=.dict es ep->H b=none:=λ{b o es ep} e d=>by
   rcases Z b with z | ⟨_,z⟩ | z
   ·rwa[z]
   ·rw[z,E] at e; cases e; cases d
   ·rw[z,G] at e; cases e; cases d
  have A:∀{b:c5}{m:i9->Option c7},f.heap.Ns b m->(Uv f.heap H).Ns b m:=λ{b m} ⟨o,es,ep,e,d,r⟩=>⟨o,es,ep,g e (noD e d),d,r⟩;have T:K.In (Uv f.heap H):=λb o e=>g (KX b o e) (by
   rcases Z b with z | ⟨⟨ob,xs,z⟩,ez⟩ | z
   ·rwa[z]
   ·rw[ez,hK (by rw[<- ez,z]; simp)] at e; cases e
   ·rw[z,hKT] at e; cases e)
  have hNB:aM (Uv f.heap H) mg c j:=by
   erw[?_,?_]
   ·obtain⟨o,vs',X,tf,I,tg,inF,M,tt,Y,e2,e3,r⟩:=hC;exact⟨o,vs',X,tf,I,tg,inF,M,tt,g Y (no Y (λxs n z=>by rw[e3] at z; cases z) (λz=>by rw[e2] at z; cases z)),e2,e3,r⟩
   ·obtain⟨L,ob,b1,b2,b3,b4,b5,b6,b7⟩:=hbm;exact⟨L,ob,b1,b2,b3,g b4 (no b4 (λxs n z=>by rw[b7] at z; cases z) (λz=>by rw[b5] at z; cases z)),b5,b6,b7⟩
  have hM:Mod K mg (Uv f.heap H):=⟨T,A O,⟨mb,A i,hbb⟩,let ⟨mc,h1,h2⟩:=Q;⟨mc,A h1,h2⟩⟩;have e0:YM P w K mg (Uv f.heap H) callerA [] f H:=⟨rfl,hM,λb o e=>RE e,Ej (Vs _ _),trivial,λb i=>y9 (show b∈([]:List c5) from i) 'd',hok,.of_eq hg⟩;erw[codeAny_mono ((F _ T (A O) hNB).run callerA [] f H ⟨[.ref a],[]⟩ [.ref a] [.ref a] _ _ hr e0 (D f (.ref a)) (.cons rfl .nil) (hsp H S hS)) λr p h=>?_];cases r with
  | error e=>exact(hCX H e p h).elim
  | ok fl =>
   cases fl with
   | next=>rwa[AN h]
   | brk=>rwa[AN h]
   | cont=>rwa[AN h]
   | ret u =>
    obtain⟨v,H',os,bare,un,B,r',q⟩:=h;have q':v=.bl true:=q;subst q';obtain rfl:u=Go true:=r';obtain⟨more,eT⟩:=un.tbls j _ S;have eT':p.heap.get? j=Js (tabObj (#[]++more)):=B j _ eT;erw[rfl,⟨λb o e=>?_,λb o e=>?_⟩,os,bare]
    ·rcases Z b with z | ⟨⟨ob,xs,z⟩,ez⟩ | z
     ·exact .inl (un.keep b o e z (by intro z; exact y9 (show b∈([]:List c5) from z) 'd') 'd')
     ·have z2:=un.frzs b ob _ z;obtain⟨Y,_⟩:=hok b _ z;obtain⟨e2,_⟩:=B b _ z2;rw[e] at Y; cases Y;rwa[.inl e2]
     ·subst z;rw[G] at e;cases e;rwa[.inr (.inl ⟨(hC.tab G).isCodeTable,rfl,#[],more,rfl,eT'⟩)]
    ·rwa[un.there b o e 'd']
 cases hk:K.lookup a with
 | some o =>
  have e:=KX a o hk;rw[E] at e;cases e;refine C (λb=>if b=j then Js (.tbl #[]) else Jt) (λb=>?_) (y6 rfl) (.inr ⟨_,J.toArray,_,hk,rfl,rfl,rfl,by rw[f7,N]; exact hl,by simpa using rv⟩) (λb u z=>?_) λz=>y9 (y4 R) z
  ·by_cases i:b=j
   ·rwa[.inr (.inr i)]
   ·rwa[.inl (y4 i)]
  ·by_cases i:b=j
   ·have y:=(y6 i).symm.trans z;cases y;subst i;rwa[G]
   ·have y:=(y4 i).symm.trans z;cases y
 | none =>
  refine C (λb=>if b=a then Js (.frz { cls:=.type "list",data:=.seq J.toArray } (.lst (ns.map V.int))) else if b=j then Js (.tbl #[]) else Jt) (λb=>?_) ((y4 R.symm).trans (y6 rfl)) (.inl (.inr ⟨{ cls:=.type "list",data:=.seq J.toArray },y6 rfl⟩)) (λb u z=>?_) λ_=>hk
  ·by_cases i:b=a
   ·rwa[.inr (.inl ⟨⟨_,_,y6 i⟩,i⟩)]
   ·by_cases l:b=j
    ·rwa[.inr (.inr l)]
    ·rwa[.inl ((y4 i).trans (y4 l))]
  ·by_cases i:b=a
   ·have y:=(y6 i).symm.trans z;cases y;subst i;rwa[E,by rw[ac]; exact hl,J,_,rv,E]
   ·by_cases l:b=j
    ·have y:=((y4 i).trans (y6 l)).symm.trans z;cases y;subst l;rwa[G]
    ·have y:=((y4 i).trans (y4 l)).symm.trans z;cases y
def Ot(s:Af):Dg:=match s with
 | .FunctionDef _ _ _ _ _ _ _ _ _ p=>p
 | _=>⟨0,0,0,0⟩
def Fun.okC{K:b8}{mg:i9->Option c7}{st:Af}{fd:AW}{k:Nat}{e:Sp}(F:Fun K x a st f fd)(S:zJ N g (zF st))(len:∀ c H Q E,e c H Q E->c.length=g.length)
  (d:∀(b:c7)(A:An)(outer:List D4)(s:d7)(H:Hp)(c:List V)(Q:VK)(E:XK),fd.code=b->Room k (A.deeper (envOfC a (zF st) s.heap.objs.size f b))->e c H Q E ->
   ∃ t,PSs (cxOf CX0 P w K mg base N a (zF st) f b A outer s H E).nox (xJ st) t/\t { nx:=λ_ o=>Q .non o,rt:=Q } (start N c) H):yI P w K mg base CX0 (k+1) f fd g e:=by
 obtain⟨u,r,kV,n,p,v,b,ct,l,rfl,lk,j⟩:=F.ex;erw[QG lk j S len λA outer s H c Q E m i=>?_];obtain⟨t,h,q⟩:=d b A outer s H c Q E rfl m i;rwa[t,h.nox,q]
end L2

namespace Sea
def wy(O A:P3):Int×Int:=(A.1*O.2.2-O.1*A.2.2,A.2.1*O.2.2-O.2.1*A.2.2)
def tn2(a b:Int×Int):Int:=a.1*b.2-a.2*b.1
def c3(O A B:P3):Int:=O.1*(A.2.1*B.2.2-B.2.1*A.2.2)-O.2.1*(A.1*B.2.2-B.1*A.2.2)+O.2.2*(A.1*B.2.1-B.1*A.2.1)
def XD(O A B:P3):tn2 (wy O A) (wy O B)=O.2.2*c3 O A B:=by
 unfold tn2 wy c3;grind
def WP(O A B:P3):c3 O B A = -c3 O A B:=by
 unfold c3;grind
def fwd(a:Int×Int):Prop:=0<a.1\/(a.1=0/\0<a.2)
def Pl(i:fwd a)(g:fwd b)(m:fwd c)(h1:0<tn2 a b)(h2:0<tn2 b c):0<tn2 a c:=by
 obtain⟨p1,f⟩:=a;obtain⟨p2,l⟩:=b;obtain⟨p3,e⟩:=c;unfold fwd at i g m;unfold tn2 at h1 h2 ⊢;dsimp only at i g m h1 h2 ⊢;have id:(p1*e-f*p3)*p2=(p1*l-f*p2)*p3+(p2*e-l*p3)*p1:=by grind
 have n:0<p2:=by
  rcases g with h | ⟨h,j⟩
  ·rwa[h]
  ·subst h;rw[j3,GN] at h2;have d:0<=p3:=by lia
   have:=g8 (i3 j) d;lia
 have p:0<p1:=by
  rcases i with h | ⟨h,j⟩
  ·rwa[h]
  ·subst h;rw[j3,GN] at h1;have:=g8 (i3 j) (i3 n);lia
 have d:0<=p3:=by lia
 have r:=g8 (i3 h1) d;have q:=i8 h2 p;have o:0<(p1*e-f*p3)*p2:=by rw[id]; lia
 rcases E1 (p1*e-f*p3) 0 with h | h | h
 ·have:=BF h n;lia
 ·rw[h,j3] at o;lia
 ·rwa[h]
def bh(h:ahB s t=Ju):fwd (wy s.2 t.2):=by
 have z:leS s t:=aT h;have a:¬ leS t s:=λq=>by unfold leS at q; rw[h] at q; cases q
 rw[fo] at z a;unfold fwd wy;dsimp only;lia
def QL{e f p q:P3}(h:tn e f≠0)(n:0<p.2.2)(m:0<q.2.2)(i:sv e p=0)(g:sv f p=0)(d:sv e q=0)(c:sv f q=0):p.1*q.2.2=q.1*p.2.2/\p.2.1*q.2.2=q.2.1*p.2.2:=by
 unfold sv at i g d c;unfold tn at h;have b:(e.1*f.2.1-e.2.1*f.1)*(p.1*q.2.2-q.1*p.2.2)=0:=by grind
 have a:(e.1*f.2.1-e.2.1*f.1)*(p.2.1*q.2.2-q.2.1*p.2.2)=0:=by grind
 have l:=(i7.mp b).resolve_left h;have j:=(i7.mp a).resolve_left h;lia
def kI(c:Cor a P):∃ e f:P3,tn e f≠0/\sv e P=0/\sv f P=0/\(∀ Q,inW a Q->sv e Q<=0/\sv f Q<=0)/\inW a P/\0<P.2.2/\l9 (l9 P.1.natAbs P.2.1.natAbs) P.2.2.natAbs=1:=by
 obtain⟨t,l,u,j,h,rfl,w⟩:=c;obtain⟨b,i,g⟩:=uA h;rwa[t.2,u.2,h,i,g,λQ d=>⟨d t l,d u j⟩,w,b.pos,b.low]
def Ve(cO:Cor c O)(cA:Cor c A)(cB:Cor c B){l m n:Int}(D:0<m)(C:0<n)(L:l*A.1=m*B.1+n*O.1)(J:l*A.2.1=m*B.2.1+n*O.2.1)(I:l*A.2.2=m*B.2.2+n*O.2.2):O=A:=by
 obtain⟨e,f,d,o,j,b,_,q,y⟩:=kI cA;obtain⟨_,_,_,_,_,_,h,p,x⟩:=kI cO;obtain⟨_,_,_,_,_,_,i,_,_⟩:=kI cB;have a:∀ g:P3,sv g A=0->sv g B<=0->sv g O<=0->sv g O=0:=λg E H G=>by
  have z:l*sv g A=m*sv g B+n*sv g O:=by unfold sv; grind
  rw[E,AD] at z;have u:=g8 (i3 D) (show 0<=-sv g B by lia);rw[t8] at u;have s:=g8 (i3 C) (show 0<=-sv g O by lia);rw[t8] at s;have r:n*sv g O=0:=by lia
  exact(i7.mp r).resolve_left (by lia)
 obtain⟨w,v⟩:=QL d p q (a e o (b B i).1 (b O h).1) (a f j (b B i).2 (b O h).2) o j;rwa[tK p q x y w v]
def aY(cO:Cor b O)(cA:Cor b A)(cB:Cor b B)(w:O≠A)(v:O≠B)(c:A≠B){s t:Int}(u:0<s)(r:0<t)(f:s*(wy O A).1=t*(wy O B).1)(e:s*(wy O A).2=t*(wy O B).2):False:=by
 obtain⟨_,_,_,_,_,_,_,d,x⟩:=kI cO;obtain⟨_,_,_,_,_,_,_,o,q⟩:=kI cA;obtain⟨_,_,_,_,_,_,_,j,p⟩:=kI cB;unfold wy at f e;dsimp only at f e;rcases E1 (s*A.2.2-t*B.2.2) 0 with h | h | h
 ·rwa[v (Ve (l:=t*O.2.2) (m:=s*O.2.2) (n:=t*B.2.2-s*A.2.2) cO cB cA (i8 u d) (by lia) (by grind) (by grind) (by grind))]
 ·erw[c (tK o j q p ?_ ?_)]
  ·have z:O.2.2*(s*A.1-t*B.1)=0:=by grind
   have i:=(i7.mp z).resolve_left (by lia);have a:s*(A.1*B.2.2-B.1*A.2.2)=0:=by grind
   have g:=(i7.mp a).resolve_left (by lia);lia
  ·have z:O.2.2*(s*A.2.1-t*B.2.1)=0:=by grind
   have i:=(i7.mp z).resolve_left (by lia);have a:s*(A.2.1*B.2.2-B.2.1*A.2.2)=0:=by grind
   have g:=(i7.mp a).resolve_left (by lia);lia
 ·rwa[w (Ve (l:=s*O.2.2) (m:=t*O.2.2) (n:=s*A.2.2-t*B.2.2) cO cA cB (i8 r d) h (by grind) (by grind) (by grind))]
def UJ(cO:Cor c O)(cA:Cor c A)(cB:Cor c B)(f:O≠A)(e:O≠B)(a:A≠B)(j:fwd (wy O A))(i:fwd (wy O B)):c3 O A B≠0:=λz=>by
 have b:=XD O A B;rw[z,AD] at b;unfold tn2 at b;rcases j with h | ⟨h,g⟩
 ·rcases i with k | ⟨k,d⟩
  ·rwa[aY (s:=(wy O B).1) (t:=(wy O A).1) cO cA cB f e a k h (d8 _ _) (by grind)]
  ·rw[k,AD] at b;have:=i8 h d;lia
 ·rcases i with k | ⟨k,d⟩
  ·rw[h,j3] at b;have:=i8 g k;lia
  ·rwa[aY (s:=(wy O B).2) (t:=(wy O A).2) cO cA cB f e a d g (by rw[h,k]; simp) (d8 _ _)]
def SS(O:P3)(a:List P3)(B:P3):Nat:=(a.filter λA=>decide (0<tn2 (wy O A) (wy O B))).length
def dR{α:Type}{p q:α->Bool} : ∀{l:List α},(∀ a∈l,p a=Ju->q a=Ju)->(∃ a∈l,q a=Ju/\p a=Jv)->(l.filter p).length<(l.filter q).length
 | [],_,h=>by obtain⟨a,h,_⟩:=h; cases h
 | x::l,c,h=>by
  have le:∀(l:List α),(∀ a∈l,p a=Ju->q a=Ju)->(l.filter p).length<=(l.filter q).length:=λl=>by
   induction l with
   | nil=>intro _; rwa[e9 _]
   | cons y l f =>
    intro j;have z:=f λa b=>j a (.tail _ b);rw[BL,BL];cases d:p y with
    | true =>
     rw[j y (.head _) d,y6 rfl,y6 rfl,i4,i4];lia
    | false =>
     rw[y4 'a'];split
     ·rw[i4]; lia
     ·rwa[z]
  have m:=le l λa b=>c a (.tail _ b);rw[BL,BL];obtain⟨a,b,i,d⟩:=h;rcases g9.mp b with e | b
  ·subst e;rw[i,d,y6 rfl,y4 'a',i4];lia
  ·have f:=dR (l:=l) (λa b=>c a (.tail _ b)) ⟨a,b,i,d⟩;cases g:p x with
   | true =>
    rw[c x (.head _) g,y6 rfl,y6 rfl,i4,i4];lia
   | false =>
    rw[y4 'a'];split
    ·rw[i4]; lia
    ·rwa[f]
def Up(a:Int×Int):tn2 a a=0:=by unfold tn2; grind
def OM{O:P3}{b:List P3}{A B:P3}(c:∀ C∈b,C=O\/fwd (wy O C))(g:A∈b)(l:fwd (wy O A))(j:fwd (wy O B))(h:0<tn2 (wy O A) (wy O B)):SS O b A<SS O b B:=by
 erw[dR (λC f d=>?_) ⟨A,g,y7 h,?_⟩]
 ·have a:=of_decide_eq_true d;rcases c C f with e | i
  ·have z:wy O O=(0,0):=by unfold wy; rw[CK,CK]
   rw[e,z] at a;unfold tn2 at a;simp at a
  ·rwa[y7 (Pl i l j a h)]
 ·rw[Up];rfl
def WN{qs rs us:List P3}(cO:Cor ss O)(m:∀ C∈qs,C=O\/fwd (wy O C))(b:∀ A∈rs,Cor ss A/\A∈qs/\O≠A/\fwd (wy O A))(nd:us.Nodup)(a:us.Perm rs)(f:us.Pairwise λA B=>SS O qs A<=SS O qs B) :
  us.Pairwise λA B=>0<c3 O A B:=by
 refine(Jq f nd).imp_of_mem λ{A B} o n ⟨h,ne⟩=>?_;obtain⟨cA,p,j,d⟩:=b A (a.mem_iff.mp o);obtain⟨cB,l,i,c⟩:=b B (a.mem_iff.mp n);obtain⟨_,_,_,_,_,_,_,g,_⟩:=kI cO;have nz:=UJ cO cA cB j i ne d c;rcases E1 (c3 O A B) 0 with z | z | z
 ·have e:0<tn2 (wy O B) (wy O A):=by
   rw[XD,WP];rwa[i8 g (by lia)]
  have:=OM m l c d e;lia
 ·rwa[y9 z nz]
 ·rwa[z]
end Sea

namespace Sea
def fz{e:P3}{h:Int}(l:h*h=1)(m:0<e.1*e.1+e.2.1*e.2.1):∀{i:List Sd},(∃ t∈i,0<tn e t.2*h)->∃ t∈i,0<tn e t.2*h/\∀ u∈i,0<tn e u.2*h->sv u.2 'r'<=0
 | [],h=>by obtain⟨t,c,_⟩:=h; cases c
 | x::r,hex=>by
  by_cases j:∃ t∈r,0<tn e t.2*h
  ·obtain⟨t,c,f,tm⟩:=fz l m j;by_cases g:0<tn e x.2*h
   ·by_cases v:sv x.2 'r'<=0
    ·erw[t,.tail _ c,f,λu a b=>?_];rcases g9.mp a with rfl | a
     ·rwa[v]
     ·rwa[tm u a b]
    ·erw[x,.head _,g,λu a b=>?_];obtain⟨n,q,p⟩:=uA (yG g);obtain⟨s,o,w⟩:=uA (yG f);rcases g9.mp a with rfl | a
     ·rw[p];rwa[Dy _]
     ·have d:=RR l m q o n.pos p (by lia) g;erw[gL l m q o n.pos s.pos u.2 ?_ (tm u a b)];have z:=g8 (show 0<=-(dl e (pt3 (crL e x.2)) 'r'*h) by lia) (i3 b);rw[o8] at z;lia
   ·erw[t,.tail _ c,f,λu a b=>?_];rcases g9.mp a with rfl | a
    ·rwa[y9 b g]
    ·rwa[tm u a b]
  ·obtain⟨t,c,f⟩:=hex;rcases g9.mp c with rfl | c
   ·erw[t,.head _,f,λu a b=>?_];rcases g9.mp a with rfl | a
    ·rw[(uA (yG f)).2.2];rwa[Dy _]
    ·rwa[y9 ⟨u,a,b⟩ j]
   ·rwa[y9 ⟨t,c,f⟩ j]
def ce{e z:P3}(a:0<e.1*e.1+e.2.1*e.2.1)(b:sv e z=0)(d:0<z.2.2)(f:inW c z)(h1:∃ t∈c,0<tn e t.2*1)(h2:∃ t∈c,0<tn e t.2*(-1))
  (w:∀ t∈c,tn e t.2≠0->inW c 'r'->sv g 'r'<=0):sv g z<=0:=by
 obtain⟨t,o,m,tm⟩:=fz 'a' a h1;obtain⟨u,n,l,y⟩:=fz 'a' a h2;obtain⟨r,v,B⟩:=uA (yG m);obtain⟨q,s,A⟩:=uA (yG l);obtain⟨i,hi,I⟩:=AE o;obtain⟨j,C,H⟩:=AE n;have w1:=iL 'a' a b d f (by rw[d6 hi,I]) m tm;have x:=iL 'a' a b d f (by rw[d6 C,H]) l y;have G:=w t o (yG m) w1;have E:=w u n (yG l) x;have N:=cU 'a' a v b r.pos B (f t o) m;have M:=cU 'a' a s b q.pos A (f u n) l;by_cases D:0<=tn e g
 ·erw[gL (h:=1) 'a' a b v d r.pos g ?_ G];rw[lZ e z];have p:=g8 N (show 0<=tn e g*1 by lia);rw[o8,o8];lia
 ·erw[gL (h:=1) 'a' a b s d q.pos g ?_ E];rw[lZ e z];have p:=g8 M (show 0<=-(tn e g*1) by lia);have L:dl e (pt3 (crL e u.2)) z*(-1) * -(tn e g*1)=dl e (pt3 (crL e u.2)) z*tn e g:=by grind
  have J : -dl e (pt3 (crL e u.2)) z*1*(tn e g*1) = -(dl e (pt3 (crL e u.2)) z*tn e g):=by grind
  rw[L] at p;rw[J];lia
def zi(b:∀ x y:Int,(x≠0\/y≠0)->vD a x y=Jv){e:P3}(g:e.1≠0\/e.2.1≠0){h:Int}(d:h=1\/h = -1):∃ t∈a,0<tn e t.2*h:=by
 have z:=b (-e.2.1*h) (e.1*h) (by rcases d with rfl | rfl <;> lia);unfold vD at z;obtain⟨t,c,q⟩:=List.all_eq_false.mp z;exists t,c;have f:¬ (t.2.1*(-e.2.1*h)+t.2.2.1*(e.1*h)<=0):=λy=>q (y7 y);have i:t.2.1*(-e.2.1*h)+t.2.2.1*(e.1*h)=tn e t.2*h:=by unfold tn; grind
 lia
def hull{c:List Sd}(h:∀ t∈c,t.2.1≠0\/t.2.2.1≠0)(ne:c≠[])(d:∀ x y:Int,(x≠0\/y≠0)->vD c x y=Jv)(v:∀ C,Cor c C->sv g C<=0){p:P3}(m:0<p.2.2)(wp:inW c p):sv g p<=0:=by
 obtain⟨t0,r,rfl⟩:=EI ne;have o:=h t0 (.head _);have edge:∀ t∈t0::r,∀ q:P3,0<q.2.2->sv t.2 q=0->inW (t0::r) q->sv g q<=0:=λt f q s w j=>by
  erw[ce (tS (h t f)) w s j (zi d (h t f) (.inl rfl)) (zi d (h t f) (.inr rfl)) λu i b a=>?_];rwa[v _ ⟨t,f,u,i,b,rfl,a⟩]
 have h0:t0.2.1*p.2.2≠0\/t0.2.2.1*p.2.2≠0:=o.imp (λz=>Aq z (by lia)) λz=>Aq z (by lia);erw[ce (e:=(t0.2.1*p.2.2,t0.2.2.1*p.2.2,t0.2.1*p.1+t0.2.2.1*p.2.1)) (tS h0) (by unfold sv; grind) m wp (zi d h0 (.inl rfl)) (zi d h0 (.inr rfl)) λu i b a=>?_];obtain⟨l,A,n⟩:=uA b;rwa[edge u i _ l.pos n a]
structure Rg(ss:List Sd)(O:P3)(rest:List P3):Prop where
 nz:∀ t∈ss,t.2.1≠0\/t.2.2.1≠0
 ne:ss≠[]
 nw:∀ x y:Int,(x≠0\/y≠0)->vD ss x y=Jv
 mem:∀ P:P3,P∈O::rest↔Cor ss P
 fw:∀ A∈rest,O≠A/\fwd (wy O A)
 left:rest.Pairwise λA B=>0<c3 O A B
section
variable{ss:List Sd}{O:P3}{rest:List P3}{p:P3}
def Rg.cO(R:Rg ss O rest):Cor ss O:=(R.mem O).mp (.head _)
def Rg.cA(R:Rg ss O rest){k:Nat}(a:k<rest.length):Cor ss rest[k]:=(R.mem _).mp (.tail _ (Ap a))
def c3_z2(A B:P3):c3 A B B=0:=by unfold c3; grind
end
end Sea

namespace Sea
def arS(O:P3)(r:Nat->P3):Nat->Int×Int
 | 0=>(0,1)
 | j+1=>((arS O r j).1*(r (j+1)).2.2+c3 O (r j) (r (j+1))*(arS O r j).2,(arS O r j).2*(r j).2.2)
def arB(O:P3)(r:Nat->P3)(j:Nat):Int:=2*O.2.2*(arS O r j).2*(r j).2.2
structure Fq(x y N B:Int):Prop where
 pos:1<=y
 low:l9 x.natAbs y.natAbs=1
 eq:x*B=y*N
def Fq.yle{x y N B:Int}(f:Fq x y N B)(b:B≠0):y.natAbs<=B.natAbs:=by
 have d:y.natAbs ∣ x.natAbs*B.natAbs:=by
  rw[<- Au,f.eq,Au];rwa[CW _ _]
 have a:=Bf (Fi f.low) d;rwa[DW (by lia) a]
def Fq.xle{x y N B:Int}(f:Fq x y N B)(b:B≠0):x.natAbs<=N.natAbs:=by
 by_cases a:N=0
 ·have z:=f.eq;rw[a,AD] at z;have:=(i7.mp z).resolve_right b;rw[this];rwa[Aa _]
 ·have d:x.natAbs ∣ y.natAbs*N.natAbs:=by
   rw[<- Au,<- f.eq,Au];rwa[CW _ _]
  have c:=Bf f.low d;rwa[DW (by lia) c]
def XC{g d f b x y N P a w e c:Int}(j:0<a)(o:0<w)(i:1<=d)(h:1<=b)(n:g*(2*a*P*w)=d*N)(m:f*(2*a*w*e)=b*c)(l:x*(d*b)=y*(g*b+f*d)) :
  x*(2*a*(P*w)*e)=y*(N*e+c*P):=by
 have k:(x*(2*a*(P*w)*e)-y*(N*e+c*P))*(d*b*(2*a*w))=0:=by
  have a1:x*(2*a*(P*w)*e)*(d*b*(2*a*w))=(x*(d*b))*((2*a*P*w)*(2*a*w*e)):=by grind
  have a2:y*(g*b+f*d)*((2*a*P*w)*(2*a*w*e))=y*((g*(2*a*P*w))*(b*(2*a*w*e))+(f*(2*a*w*e))*(d*(2*a*P*w))):=by grind
  rw[AY,a1,l,a2,n,m];grind
 have n1:d*b*(2*a*w)≠0:=Aq (Aq (by lia) (by lia)) (Aq (by lia) (by lia));have:=(i7.mp k).resolve_right n1;lia
def Fq.plus{O:P3}{r:Nat->P3}{j:Nat}{e d b c x y:Int}(h:0<O.2.2)(g:0<(r j).2.2)(f:Fq e d (arS O r j).1 (arB O r j))(p2:yq (O.2.2*c3 O (r j) (r (j+1))) (2*O.2.2^2*(r j).2.2*(r (j+1)).2.2) b c)
  (p:yq (e*c+b*d) (d*c) x y):Fq x y (arS O r (j+1)).1 (arB O r (j+1)):=by
 exists p.pos,p.low;have i:b*(2*O.2.2*(r j).2.2*(r (j+1)).2.2)=c*c3 O (r j) (r (j+1)):=by
  have z:=p2.eq;have k:(b*(2*O.2.2*(r j).2.2*(r (j+1)).2.2)-c*c3 O (r j) (r (j+1)))*O.2.2=0:=by
   have a:b*(2*O.2.2^2*(r j).2.2*(r (j+1)).2.2)=b*(2*O.2.2*(r j).2.2*(r (j+1)).2.2)*O.2.2:=by grind
   rw[a] at z;rw[AY,z];grind
  have:=(i7.mp k).resolve_right (by lia);lia
 rwa[XC h g f.pos p2.pos f.eq i p.eq]
def aR{r:Nat->P3} : ∀ j,(∀ i,i<j->0<(r i).2.2)->0<(arS O r j).2
 | 0,_=>(show(0:Int)<1 by decide)
 | j+1,h=>i8 (aR j λi hi=>h i (by lia)) (h j (by lia))
def bF{O:P3}{r:Nat->P3}{j:Nat}(a:0<O.2.2)(h:∀ i,i<=j->0<(r i).2.2):0<arB O r j :=
 i8 (i8 (i8 'a' a) (aR j λi hi=>h i (by lia))) (h j (e9 _))
def Nl{r:Nat->P3} : ∀ j,(∀ i,i<=j->0<(r i).2.2)->(∀ i,i<j->0<=c3 O (r i) (r (i+1)))->0<=(arS O r j).1
 | 0,_,_=>(show(0:Int)<=0 by decide)
 | j+1,h,a=>by
  have c:=g8 (Nl j (λi hi=>h i (by lia)) λi hi=>a i (by lia)) (i3 (h (j+1) (e9 _)));have b:=g8 (a j (by lia)) (i3 (aR (O:=O) (r:=r) j λi hi=>h i (by lia)));show 0<=(arS O r j).1*(r (j+1)).2.2+c3 O (r j) (r (j+1))*(arS O r j).2;lia
structure bu(p:P3):Prop where
 x:p.1.natAbs<=10^23
 y:p.2.1.natAbs<=10^23
 w:p.2.2.natAbs<=10^19
 pos:0<p.2.2
def VU(i:bu O)(e:bu A)(c:bu B):(c3 O A B).natAbs<=10^66:=by
 have z:(10:Nat)^23*10^19=10^42:=by ac_nf
 have v:(10:Nat)^23*10^23=10^46:=by ac_nf
 have u:(10:Nat)^23*(10^42+10^42)=2*10^65:=by ac_nf
 have s:(10:Nat)^19*(10^46+10^46)=2*10^65:=by ac_nf
 have q:=zE A.2.1 B.2.2 e.y c.w;have p:=zE B.2.1 A.2.2 c.y e.w;have o:=zE A.1 B.2.2 e.x c.w;have m:=zE B.1 A.2.2 c.x e.w;have l:=zE A.1 B.2.1 e.x c.y;have j:=zE B.1 A.2.1 c.x e.y;rw[z] at q p o m;rw[v] at l j;have h:=zE O.1 (A.2.1*B.2.2-B.2.1*A.2.2) i.x (n:=10^42+10^42) (by lia);have g:=zE O.2.1 (A.1*B.2.2-B.1*A.2.2) i.y (n:=10^42+10^42) (by lia);have f:=zE O.2.2 (A.1*B.2.1-B.1*A.2.1) i.w (n:=10^46+10^46) (by lia);rw[u] at h g;rw[s] at f;have r:6*(10:Nat)^65<=10^66:=by ac_nf
 unfold c3;generalize O.1*(A.2.1*B.2.2-B.2.1*A.2.2)=a at h ⊢;generalize O.2.1*(A.1*B.2.2-B.1*A.2.2)=b at g ⊢;generalize O.2.2*(A.1*B.2.1-B.1*A.2.1)=d at f ⊢;clear q p o m l j z v u s;generalize (10:Nat)^65=M at h g f r;generalize (10:Nat)^66=C at r ⊢;lia
def fN{r:Nat->P3}(a:bu O):∀ j,(∀ i,i<=j->bu (r i))->(arS O r j).1.natAbs<=j*10^(66+19*j)/\(arS O r j).2.natAbs<=10^(19*j)
 | 0,_=>⟨(show(0:Int).natAbs<=0*10^(66+19*0) by decide),(show(1:Int).natAbs<=10^(19*0) by decide)⟩
 | j+1,h=>by
  obtain⟨h1,h2⟩:=fN a j λi hi=>h i (by lia);have d:=zE (arS O r j).1 (r (j+1)).2.2 h1 (h (j+1) (e9 _)).w;have c:=zE (c3 O (r j) (r (j+1))) (arS O r j).2 (VU a (h j (by lia)) (h (j+1) (e9 _))) h2;have b:=zE (arS O r j).2 (r j).2.2 h2 (h j (by lia)).w;have g:(10:Nat)^(66+19*(j+1))=10^(66+19*j)*10^19:=by rw[<- Hn]; congr 1
  have f:(10:Nat)^(19*(j+1))=10^(19*j)*10^19:=by rw[<- Hn]; congr 1
  have e:(10:Nat)^66*10^(19*j)=10^(66+19*j):=by rw[<- Hn]
  have l:(10:Nat)^(66+19*j)<=10^(66+19*j)*10^19:=Nat.le_mul_of_pos_right _ 'a';erw[?_,by rw[f]; rwa[b]];show((arS O r j).1*(r (j+1)).2.2+c3 O (r j) (r (j+1))*(arS O r j).2).natAbs<=(j+1)*10^(66+19*(j+1));rw[e] at c;rw[Gh] at d;rw[g,Jb,Jc];have t:=BB ((arS O r j).1*(r (j+1)).2.2) (c3 O (r j) (r (j+1))*(arS O r j).2);lia
def Vi{r:Nat->P3}{j:Nat}(b:bu O)(a:j<=16)(h:∀ i,i<=j->bu (r i)):(arS O r j).1.natAbs<=10^372:=by
 have z:=(fN b j h).1;refine d9 z (d9 (FV a (F4 'a' (show 66+19*j<=370 by lia))) 'h')
def Vh{r:Nat->P3}{j:Nat}(a:bu O)(d:j<=16)(h:∀ i,i<=j->bu (r i)):(arB O r j).natAbs<=10^343:=by
 have z:=(fN a j h).2;have c:=zE (2*O.2.2) (arS O r j).2 (m:=2*10^19) (by have:=a.w; lia) (d9 z (F4 'a' (show 19*j<=304 by lia)));have b:=zE (2*O.2.2*(arS O r j).2) (r j).2.2 c (h j (e9 _)).w;rwa[d9 b 'h']
def gH{b:List Sd}(d:∀ t∈b,t.2.1.natAbs<=10^9/\t.2.2.1.natAbs<=10^9/\t.2.2.2.natAbs<=10^13)(c:Cor b P):bu P:=by
 obtain⟨e,m,s,l,h,rfl,_⟩:=c;obtain⟨j,i,g⟩:=d e m;obtain⟨f,c2,c3⟩:=d s l;obtain⟨x,y,w,n,a⟩:=qG (X:=e.2.2.2*s.2.2.1-e.2.2.1*s.2.2.2) (Y:=e.2.1*s.2.2.2-e.2.2.2*s.2.1) (W:=e.2.1*s.2.2.1-e.2.2.1*s.2.1) h;have o:crL e.2 s.2=[x,y,w]:=n;rw[o];have z:=zE e.2.2.2 s.2.2.1 g c2;have v:=zE e.2.2.1 s.2.2.2 i c3;have u:=zE e.2.1 s.2.2.2 j c3;have r:=zE e.2.2.2 s.2.1 g f;have q:=zE e.2.1 s.2.2.1 j c2;have p:=zE e.2.2.1 s.2.1 i f;have D:=a.xle;have C:=a.yle;have B:=a.wle;have A:=a.pos;exact⟨by show x.natAbs<=_; lia,by show y.natAbs<=_; lia,by show w.natAbs<=_; lia,by show 0<w; lia⟩
def Rg.nodup(R:Rg b O a):(O::a).Nodup:=by
 refine Ax.mpr ⟨λh=>(R.fw O h).1 rfl,?_⟩;rw[BC] ;exact R.left.imp λ{A B} h e=>by
  rw[e,c3_z2] at h;rwa[y9 h 'a']
end Sea

namespace HT
end HT
namespace PySem.W
open PySem PySem.Calls PyProof.Rows
end PySem.W
namespace L2
open PySem PySem.Spec PyProof.Rows PySem.W
end L2

namespace PyProof.Rows
end PyProof.Rows
namespace L2
open PySem PySem.Spec PyProof.Rows PySem.W
section
variable{X:Cx}
def VI{a:c7->c7->IA c7}(h1:OpR X a f)(h2:OpR X a e):OpR X a (λx y H Q=>f x y H Q\/e x y H Q):=by
 intro g s b H x y v u Q I d c h;rcases h with h | h
 ·rwa[h1 g s b H x y v u Q I d c h]
 ·rwa[h2 g s b H x y v u Q I d c h]
end
end L2

namespace Sea
def mT(b x y:Int)(t:P3):P3:=(t.1,t.2.1,b*t.2.2+t.1*x+t.2.1*y)
structure Rel(b x y:Int)(P P':P3):Prop where
 pos:0<P.2.2
 pos':0<P'.2.2
 ex:(b*P.1+x*P.2.2)*P'.2.2=P'.1*P.2.2
 ey:(b*P.2.1+y*P.2.2)*P'.2.2=P'.2.1*P.2.2
def qP(P:P3):Prop:=0<P.2.2/\l9 (l9 P.1.natAbs P.2.1.natAbs) P.2.2.natAbs=1
def fi(b x y:Int)(P:P3):P3:=pt3 (uJ (upL (b*P.1+x*P.2.2) (b*P.2.1+y*P.2.2) P.2.2))
section
variable{b x y:Int}
def Rel.sv(h:Rel b x y P a)(t:P3):Sea.sv (mT b x y t) a*P.2.2=b*Sea.sv t P*a.2.2:=by
 have d:=h.ex;have c:=h.ey;unfold Sea.sv mT;dsimp only;have z:(t.1*a.1+t.2.1*a.2.1-(b*t.2.2+t.1*x+t.2.1*y)*a.2.2)*P.2.2=t.1*(a.1*P.2.2)+t.2.1*(a.2.1*P.2.2)-(b*t.2.2+t.1*x+t.2.1*y)*a.2.2*P.2.2:=by grind
 rw[z,<- d,<- c];grind
def Rel.svle(f:0<b)(h:Rel b x y P a)(t:P3):Sea.sv (mT b x y t) a<=0↔Sea.sv t P<=0:=by
 have e:=h.sv t;have p1:=h.pos;have p2:=h.pos';constructor
 ·intro z;rcases Fx 0 (Sea.sv t P) with c | c
  ·exfalso;have g:=i8 (i8 f c) p2;have d:=g8 (show 0<=-Sea.sv (mT b x y t) a by lia) (i3 p1);rw[o8] at d;lia
  ·rwa[c]
 ·intro z;rcases Fx 0 (Sea.sv (mT b x y t) a) with c | c
  ·exfalso;have g:=i8 c p1;have d:=g8 (g8 (i3 f) (show 0<=-Sea.sv t P by lia)) (i3 p2);rw[t8,o8] at d;lia
  ·rwa[c]
def Rel.c3(e:Rel b x y O d)(g:Rel b x y A c)(f:Rel b x y B a):Sea.c3 d c a*(O.2.2*A.2.2*B.2.2)=b*b*Sea.c3 O A B*(d.2.2*c.2.2*a.2.2):=by
 have i:=e.ex;have h:=e.ey;have a1:=g.ex;have a2:=g.ey;have l:=f.ex;have j:=f.ey;have z:Sea.c3 d c a*(O.2.2*A.2.2*B.2.2)=(d.1*O.2.2)*((c.2.1*A.2.2)*(a.2.2*B.2.2)-(a.2.1*B.2.2)*(c.2.2*A.2.2))-(d.2.1*O.2.2)*((c.1*A.2.2)*(a.2.2*B.2.2)-(a.1*B.2.2)*(c.2.2*A.2.2))+(d.2.2*O.2.2)*((c.1*A.2.2)*(a.2.1*B.2.2)-(a.1*B.2.2)*(c.2.1*A.2.2)):=by
  unfold Sea.c3;grind
 rw[z,<- i,<- h,<- a1,<- a2,<- l,<- j];unfold Sea.c3;grind
def vz{a c d e:Int}(i:0<c)(g:0<e)(h:a*c=d*e):0<a↔0<d:=by
 constructor
 ·intro z;have j:=i8 z i;rcases Fx 0 d with y | y
  ·rwa[y]
  ·have f:=g8 (show 0<=-d by lia) (i3 g);rw[o8] at f;lia
 ·intro z;have j:=i8 z g;rcases Fx 0 a with y | y
  ·rwa[y]
  ·have f:=g8 (show 0<=-a by lia) (i3 i);rw[o8] at f;lia
def Rel.c3pos(i:0<b)(f:Rel b x y O j)(h:Rel b x y A m)(g:Rel b x y B l):0<Sea.c3 j m l↔0<Sea.c3 O A B:=by
 have e:=f.c3 h g;have p:=i8 (i8 f.pos h.pos) g.pos;have n:=i8 (i8 f.pos' h.pos') g.pos';rw[vz p n e];have o:=i8 i i;have z:=vz (a:=b*b*Sea.c3 O A B) (c:=1) (d:=Sea.c3 O A B) (e:=b*b) 'a' o (by rw[Ck,d8]);rwa[z]
def Rel.fn(a:Rel b x y P Q)(e:Rel b x y P R)(d:qP Q)(c:qP R):Q=R:=by
 have p:=a.pos;have i:=a.ex;have h:=a.ey;have g:=e.ex;have f:=e.ey;erw[tK d.1 c.1 d.2 c.2 ?_ ?_]
 ·have k:(Q.1*R.2.2-R.1*Q.2.2)*P.2.2=0:=by
   have z:(Q.1*R.2.2-R.1*Q.2.2)*P.2.2=(Q.1*P.2.2)*R.2.2-(R.1*P.2.2)*Q.2.2:=by grind
   rw[z,<- i,<- g];grind
  have:=(i7.mp k).resolve_right (by lia);lia
 ·have k:(Q.2.1*R.2.2-R.2.1*Q.2.2)*P.2.2=0:=by
   have z:(Q.2.1*R.2.2-R.2.1*Q.2.2)*P.2.2=(Q.2.1*P.2.2)*R.2.2-(R.2.1*P.2.2)*Q.2.2:=by grind
   rw[z,<- h,<- f];grind
  have:=(i7.mp k).resolve_right (by lia);lia
def Rel.dx(h:Rel b x y P c)(k:Rel b x y Q a):(c.1*a.2.2-a.1*c.2.2)*(P.2.2*Q.2.2)=b*(P.1*Q.2.2-Q.1*P.2.2)*(c.2.2*a.2.2):=by
 have e:=h.ex;have d:=k.ex;have z:(c.1*a.2.2-a.1*c.2.2)*(P.2.2*Q.2.2)=(c.1*P.2.2)*(a.2.2*Q.2.2)-(a.1*Q.2.2)*(c.2.2*P.2.2):=by grind
 rw[z,<- e,<- d];grind
def Rel.dy(h:Rel b x y P c)(k:Rel b x y Q a):(c.2.1*a.2.2-a.2.1*c.2.2)*(P.2.2*Q.2.2)=b*(P.2.1*Q.2.2-Q.2.1*P.2.2)*(c.2.2*a.2.2):=by
 have e:=h.ey;have d:=k.ey;have z:(c.2.1*a.2.2-a.2.1*c.2.2)*(P.2.2*Q.2.2)=(c.2.1*P.2.2)*(a.2.2*Q.2.2)-(a.2.1*Q.2.2)*(c.2.2*P.2.2):=by grind
 rw[z,<- e,<- d];grind
def ay{a c d e:Int}(g:0<c)(f:0<e)(h:a*c=d*e):a=0↔d=0:=by
 constructor
 ·intro z;rw[z,j3] at h;exact(i7.mp h.symm).resolve_right (by lia)
 ·intro z;rw[z,j3] at h;exact(i7.mp h).resolve_right (by lia)
def Rel.inj(h:0<b)(c:Rel b x y P R)(a:Rel b x y Q R)(e:qP P)(d:qP Q):P=Q:=by
 have g:=i8 c.pos a.pos;have f:=i8 c.pos' a.pos';have ex:=c.dx a;have ey:=c.dy a;rw[CK,j3] at ex ey;erw[tK e.1 d.1 e.2 d.2 ?_ ?_]
 ·have z:=(i7.mp ex.symm).resolve_right (by lia);have:=(i7.mp z).resolve_left (by lia);lia
 ·have z:=(i7.mp ey.symm).resolve_right (by lia);have:=(i7.mp z).resolve_left (by lia);lia
def leP(P Q:P3):Prop:=leS (0,P) (0,Q)
def lJ(P Q:P3):ahB (0,P) (0,Q)=Ju↔P.1*Q.2.2-Q.1*P.2.2<0\/(P.1*Q.2.2-Q.1*P.2.2=0/\P.2.1*Q.2.2-Q.2.1*P.2.2<0):=by
 unfold ahB;dsimp only;split
 ·rename_i h
  rw[decide_eq_true_iff];lia
 ·rename_i h
  rw[decide_eq_true_iff];lia
def Rel.ah(i:0<b)(h:Rel b x y P e)(k:Rel b x y Q c):ahB (0,e) (0,c)=Ju↔ahB (0,P) (0,Q)=true:=by
 have g:=i8 h.pos k.pos;have f:=i8 h.pos' k.pos';have ex:=h.dx k;have ey:=h.dy k;have l:e.1*c.2.2-c.1*e.2.2<0↔P.1*Q.2.2-Q.1*P.2.2<0:=by
  have z:=vz (a:=-(e.1*c.2.2-c.1*e.2.2)) (d:=-(P.1*Q.2.2-Q.1*P.2.2)) g (i8 i f) (by rw[o8,o8,ex]; grind);lia
 have j:e.2.1*c.2.2-c.2.1*e.2.2<0↔P.2.1*Q.2.2-Q.2.1*P.2.2<0:=by
  have z:=vz (a:=-(e.2.1*c.2.2-c.2.1*e.2.2)) (d:=-(P.2.1*Q.2.2-Q.2.1*P.2.2)) g (i8 i f) (by rw[o8,o8,ey]; grind);lia
 have m:e.1*c.2.2-c.1*e.2.2=0↔P.1*Q.2.2-Q.1*P.2.2=0:=ay g (i8 i f) (by rw[ex]; grind);rw[lJ,lJ,l,j,m]
def Tv(c:qP P)(a:qP Q)(h1:leP P Q)(h2:leP Q P):P=Q:=by
 have n1:¬ ahB (0,Q) (0,P)=true:=by intro z; have h1:ahB (0,Q) (0,P)=false:=h1; rw[h1] at z; cases z
 have n2:¬ ahB (0,P) (0,Q)=true:=by intro z; have h2:ahB (0,P) (0,Q)=false:=h2; rw[h2] at z; cases z
 rw[lJ] at n1 n2;rwa[tK c.1 a.1 c.2 a.2 (by lia) (by lia)]
def uu{P:P3}(h:0<P.2.2):Rel b x y P (fi b x y P)/\qP (fi b x y P)/\uJ (upL (b*P.1+x*P.2.2) (b*P.2.1+y*P.2.2) P.2.2)=[(fi b x y P).1,(fi b x y P).2.1,(fi b x y P).2.2]:=by
 obtain⟨u,v,w,e,a⟩:=qG (X:=b*P.1+x*P.2.2) (Y:=b*P.2.1+y*P.2.2) (W:=P.2.2) (by lia);unfold fi;rw[e];have p:=a.pos;exact⟨⟨h,(by show 0<w; lia),a.ex.symm,a.ey.symm⟩,⟨(by show 0<w; lia),a.low⟩,rfl⟩
def Mv(b x y:Int)(c a:List Sd):Prop:=a.map (·.2)=c.map λt=>mT b x y t.2
def Mv.fwd(h:Mv b x y d a){t:Sd}(e:t∈d):∃ c∈a,c.2=mT b x y t.2:=by
 have z:mT b x y t.2∈a.map (·.2):=by rw[h]; rwa[Ab (f:=λt:Sd=>mT b x y t.2) e]
 obtain⟨c,h1,h2⟩:=o5.mp z;rwa[c,h1,h2]
def Mv.bwd(h:Mv b x y d a){c:Sd}(e:c∈a):∃ t∈d,c.2=mT b x y t.2:=by
 have z:c.2∈d.map λt=>mT b x y t.2:=by rw[<- h]; rwa[Ab (f:=λt:Sd=>t.2) e]
 obtain⟨t,h1,h2⟩:=o5.mp z;rwa[t,h1,h2.symm]
def Mv.len(h:Mv b x y c a):a.length=c.length:=by
 have z:=congrArg Br h;(rw[ac,ac] at z;assumption)
def Mv.inW(h:Mv b x y e a)(f:0<b)(r:Rel b x y P P'):Sea.inW a P'↔Sea.inW e P:=by
 constructor
 ·intro w t g;obtain⟨d,h1,h2⟩:=h.fwd g;have z:=w d h1;rw[h2] at z;exact(r.svle f t.2).mp z
 ·intro w d c;obtain⟨t,h1,h2⟩:=h.bwd c;rw[h2];exact(r.svle f t.2).mpr (w t h1)
def Mv.place(h:Mv b x y f c)(d:0<b):(∃ z:P3,0<z.2.2/\Sea.inW c z)↔∃ z:P3,0<z.2.2/\Sea.inW f z:=by
 constructor
 ·rintro⟨z,a,e⟩;erw[(z.1-x*z.2.2,z.2.1-y*z.2.2,b*z.2.2),i8 d a,(h.inW d ⟨i8 d a,a,?_,?_⟩).mp e]
  ·dsimp only;grind
  ·dsimp only;grind
 ·rintro⟨z,a,e⟩;erw[(b*z.1+x*z.2.2,b*z.2.1+y*z.2.2,z.2.2),a,(h.inW d (P:=z) (P':=(b*z.1+x*z.2.2,b*z.2.1+y*z.2.2,z.2.2)) ⟨a,a,rfl,rfl⟩).mpr e]
def SF(h:tn t u≠0):Rel b x y (pt3 (crL t u)) (pt3 (crL (mT b x y t) (mT b x y u))):=by
 obtain⟨p,q,w,e,g⟩:=qG (X:=t.2.2*u.2.1-t.2.1*u.2.2) (Y:=t.1*u.2.2-t.2.2*u.1) (W:=t.1*u.2.1-t.2.1*u.1) h;obtain⟨f,d,a,e',c⟩:=qG (X:=(mT b x y t).2.2*(mT b x y u).2.1-(mT b x y t).2.1*(mT b x y u).2.2) (Y:=(mT b x y t).1*(mT b x y u).2.2-(mT b x y t).2.2*(mT b x y u).1) (W:=(mT b x y t).1*(mT b x y u).2.1-(mT b x y t).2.1*(mT b x y u).1) h;have l:crL t u=[p,q,w]:=e;have c2:crL (mT b x y t) (mT b x y u)=[f,d,a]:=e';rw[l,c2];have a1:=g.ex;have a2:=g.ey;have j:=c.ex;have i:=c.ey;have p1:=g.pos;have p2:=c.pos;unfold mT at j i;dsimp only at j i;refine⟨(by show 0<w; lia),(by show 0<a; lia),?_,?_⟩
 ·show(b*p+x*w)*a=f*w;have k:((b*p+x*w)*a-f*w)*(t.1*u.2.1-t.2.1*u.1)=0:=by
   have z:((b*p+x*w)*a-f*w)*(t.1*u.2.1-t.2.1*u.1)=b*(p*(t.1*u.2.1-t.2.1*u.1))*a+x*w*a*(t.1*u.2.1-t.2.1*u.1)-(f*(t.1*u.2.1-t.2.1*u.1))*w:=by grind
   rw[z,a1,j];grind
  have:=(i7.mp k).resolve_right h;lia
 ·show(b*q+y*w)*a=d*w;have k:((b*q+y*w)*a-d*w)*(t.1*u.2.1-t.2.1*u.1)=0:=by
   have z:((b*q+y*w)*a-d*w)*(t.1*u.2.1-t.2.1*u.1)=b*(q*(t.1*u.2.1-t.2.1*u.1))*a+y*w*a*(t.1*u.2.1-t.2.1*u.1)-(d*(t.1*u.2.1-t.2.1*u.1))*w:=by grind
   rw[z,a2,i];grind
  have:=(i7.mp k).resolve_right h;lia
def uD(c:Cor d P):qP P:=by
 obtain⟨t,_,u,_,h,rfl,_⟩:=c;obtain⟨a,_,_⟩:=uA h;rwa[a.pos,a.low]
def Mv.cor(h:Mv b x y l a)(B:0<b)(c:Cor l P):Cor a (fi b x y P):=by
 have v:=uD c;obtain⟨s,w,_⟩:=uu (b:=b) (x:=x) (y:=y) v.1;obtain⟨t,A,u,z,o,e,r⟩:=c;obtain⟨g,j,q⟩:=h.fwd A;obtain⟨f,i,p⟩:=h.fwd z;have d:tn g.2 f.2≠0:=by rw[q,p]; rwa[o]
 have n:Rel b x y P (pt3 (crL g.2 f.2)):=by rw[q,p,e]; rwa[SF o]
 obtain⟨m,_,_⟩:=uA d;have C:=s.fn n w ⟨m.pos,m.low⟩;rw[C];rwa[g,j,f,i,d,rfl,(h.inW B n).mpr r]
def Mv.cor'(h:Mv b x y m a)(A:0<b)(c:Cor a l):∃ P,Cor m P/\l=fi b x y P:=by
 have f:=uD c;obtain⟨C,i,B,g,d,e,q⟩:=c;obtain⟨t,z,p⟩:=h.bwd i;obtain⟨u,w,o⟩:=h.bwd g;have j:tn t.2 u.2≠0:=by rw[p,o] at d; rwa[d]
 have n:Rel b x y (pt3 (crL t.2 u.2)) l:=by rw[e,p,o]; rwa[SF j]
 obtain⟨r,_,_⟩:=uA j;obtain⟨s,v,_⟩:=uu (b:=b) (x:=x) (y:=y) r.pos;rwa[_,⟨t,z,u,w,j,rfl,(h.inW A n).mp q⟩,n.fn s f v]
def Wv(g:0<b)(d:qP P)(c:qP Q)(e:fi b x y P=fi b x y Q):P=Q:=by
 have f:=(uu (b:=b) (x:=x) (y:=y) d.1).1;have a:=(uu (b:=b) (x:=x) (y:=y) c.1).1;rw[<- e] at a;rwa[f.inj g a d c]
def NQ{α:Type}{R:α->α->Prop} : ∀{xs d:List α},xs.Perm d->(∀ a∈xs,∀ c∈xs,R a c->R c a->a=c)->xs.Pairwise R->d.Pairwise R->xs=d
 | [],d,h,_,_,_=>(Iw.mp h).symm
 | u::n,[],h,_,_,_=>y9 (Gi.mp h) 'd'
 | u::n,v::p,h,o,r,q=>by
  obtain⟨m,l⟩:=Bi.mp r;obtain⟨j,i⟩:=Bi.mp q;have e:u=v:=by
   have g:u∈v::p:=h.mem_iff.mp (j7 ..);have f:v∈u::n:=h.mem_iff.mpr (j7 ..);rcases g9.mp g with e | g
   ·rwa[e]
   ·rcases g9.mp f with e | f
    ·rwa[e.symm]
    ·rwa[o u (.head _) v (.tail _ f) (m v f) (j u g)]
  subst e;rw[NQ (EG u |>.mp h) (λa w c s=>o a (.tail _ w) c (.tail _ s)) l i]
def Mv.list(h:Mv b x y q i)(j:0<b){g d:List P3}(n:g.Nodup)(w:d.Nodup)(m:∀ P,P∈g↔Cor q P)(o:∀ P,P∈d↔Cor i P)(r:g.Pairwise leP)(v:d.Pairwise leP):d=g.map (fi b x y):=by
 have low:∀{P},P∈g->qP P:=λf=>uD ((m _).mp f);have nd:(g.map (fi b x y)).Nodup:=by
  rw[HN,Ai];rwa[Bt (λ{P Q} f p ne e=>ne (Wv j (low f) (low p) e)) n]
 erw[NQ (R:=leP) ((EJ w nd).mpr λC=>?_) (λa A c z h1 h2=>Tv (uD ((o a).mp A)) (uD ((o c).mp z)) h1 h2) v ?_]
 ·rw[o,o5];constructor
  ·intro c;obtain⟨P,B,e⟩:=h.cor' j c;rwa[P,(m P).mpr B,e.symm]
  ·rintro⟨P,f,rfl⟩;rwa[h.cor j ((m P).mp f)]
 ·rw[Ai];erw[Bt (λ{P Q} f p l=>?_) r];have u:=(uu (b:=b) (x:=x) (y:=y) (low f).1).1;have s:=(uu (b:=b) (x:=x) (y:=y) (low p).1).1;show ahB (0,fi b x y Q) (0,fi b x y P)=Jv;have l:ahB (0,Q) (0,P)=false:=l;cases e:ahB (0,fi b x y Q) (0,fi b x y P) with
  | false=>rfl
  | true =>
   rw[(s.ah j u).mp e] at l;cases l
def Mv.way(h:Mv b x y c a)(u v:Int):vD a u v=vD c u v:=by
 unfold vD;have e:∀ l:List Sd,(l.all λt=>decide (t.2.1*u+t.2.2.1*v<=0))=(l.map (·.2)).all λt=>decide (t.1*u+t.2.1*v<=0):=λl=>by rw[DJ]; rfl
 rw[e,e,h,DJ,DJ];rfl
def Mv.wk(h:Mv b x y d c)(k:List Int):WK c c.length k↔WK d d.length k:=by
 have at':∀(j:Nat)(a:Sd),c[j]?=Js a->∃ t,d[j]?=Js t/\a.2=mT b x y t.2:=λj a e=>by
  have z:=congrArg (λl:List P3=>l[j]?) h;simp only[e7,e,Bj] at z;cases g:d[j]? with
  | none=>rw[g] at z; cases z
  | some t=>rw[g] at z; rwa[t,rfl,m8 z]
 have m:∀(j:Nat)(t:Sd),d[j]?=Js t->∃ a,c[j]?=Js a/\a.2=mT b x y t.2:=λj t e=>by
  have z:=congrArg (λl:List P3=>l[j]?) h;simp only[e7,e,Bj] at z;cases g:c[j]? with
  | none=>rw[g] at z; cases z
  | some a=>rw[g] at z; rwa[a,rfl,m8 z]
 rw[h.len];constructor
 ·rintro⟨j,a,f,g,r⟩;obtain⟨t,i,e⟩:=at' j a g;rw[h.way,h.way,show a.2.1=t.2.1 by rw[e]; rfl,show a.2.2.1=t.2.2.1 by rw[e]; rfl] at r;rwa[j,t,f,i,r]
 ·rintro⟨j,t,f,g,r⟩;obtain⟨a,i,e⟩:=m j t g;exists j,a,f,i;rw[h.way,h.way,show a.2.1=t.2.1 by rw[e]; rfl,show a.2.2.1=t.2.2.1 by rw[e]; rfl];rwa[r]
def Se{O O':P3}{r r':Nat->P3} : ∀ j:Nat,(∀ i,i<j->c3 O' (r' i) (r' (i+1))*(O.2.2*(r i).2.2*(r (i+1)).2.2)=b*b*c3 O (r i) (r (i+1))*(O'.2.2*(r' i).2.2*(r' (i+1)).2.2))->(arS O' r' j).1*arB O r j=b*b*(arS O r j).1*arB O' r' j
 | 0,_=>by
  show(0:Int)*_=b*b*0*_;rw[j3,AD,j3]
 | j+1,h=>by
  have d:=Se (O:=O) (O':=O') (r:=r) (r':=r') j λi hi=>h i (by lia);have l:=h j (by lia);unfold arB at d ⊢;show((arS O' r' j).1*(r' (j+1)).2.2+c3 O' (r' j) (r' (j+1))*(arS O' r' j).2)*(2*O.2.2*((arS O r j).2*(r j).2.2)*(r (j+1)).2.2)=b*b*((arS O r j).1*(r (j+1)).2.2+c3 O (r j) (r (j+1))*(arS O r j).2)*(2*O'.2.2*((arS O' r' j).2*(r' j).2.2)*(r' (j+1)).2.2);generalize (arS O' r' j).1=g at *;generalize (arS O r j).1=N at *;generalize (arS O' r' j).2=f at *;generalize (arS O r j).2=Q at *;generalize c3 O' (r' j) (r' (j+1))=e at *;generalize c3 O (r j) (r (j+1))=c at *;generalize (r (j+1)).2.2=v at *;generalize (r' (j+1)).2.2=a at *;generalize (r j).2.2=u at *;generalize (r' j).2.2=n at *;generalize O.2.2=w at *;generalize O'.2.2=m at *;have z:(g*a+e*f)*(2*w*(Q*u)*v)=(g*(2*w*Q*u))*a*v+2*Q*f*(e*(w*u*v)):=by grind
  rw[z,d,l];grind
def VF{p q c a:Int}(h:c*q=a*p)(m:1<=q)(e:1<=a)(l:l9 p.natAbs q.natAbs=1)(d:l9 c.natAbs a.natAbs=1):c=p/\a=q:=by
 have j:q.natAbs ∣ a.natAbs*p.natAbs:=by rw[<- Au,<- h,Au]; rwa[CF _ _]
 have i:a.natAbs ∣ c.natAbs*q.natAbs:=by rw[<- Au,h,Au]; rwa[CW _ _]
 have g:=Co (Fi l) j;have f:=Bf (Fi d) i;have eq:a=q:=by
  have:=DT g f;lia
 erw[?_,eq];rw[eq,d8] at h;rwa[Int.eq_of_mul_eq_mul_left (by lia) h]
def Fq.wide{p q d c N B g a:Int}(f:Fq p q N B)(l:Fq d c g a)(j:0<B)(h:0<a)(e:g*B=b*b*N*a):d*q=c*(p*b*b):=by
 have n:=f.eq;have m:=l.eq;have k:(d*q-c*(p*b*b))*(B*a)=0:=by
  have z:(d*q-c*(p*b*b))*(B*a)=(d*a)*q*B-c*b*b*(p*B)*a:=by grind
  rw[z,n,m];have i:c*g*q*B-c*b*b*(q*N)*a=c*q*(g*B-b*b*N*a):=by grind
  rw[i,e,CK,AD]
 have nz:B*a≠0:=BX (i8 j h);have:=(i7.mp k).resolve_right nz;lia
end
end Sea

namespace L2
def sz0:0<=sizeLine:=by decide
def sz1:1<=sizeLine:=by decide
def sz2:2<=sizeLine:=by decide
def sz3:3<=sizeLine:=by decide
def gt2:(0:Int)<2:=by decide
def gt3:(0:Int)<3:=by decide
def gt4:(0:Int)<4:=by decide
def gt5:(0:Int)<5:=by decide
section
variable{X:Cx}{x:i9}{p pos:Dg}{a b e c:Av}{es:List Av}{t:TA}{te ta tb:TE}{id T:String}{r:List V->Hp->VK->Prop}{n:Nat}{ps:List i9}{sp:Sp}
def Ph(h:starEach (e::es) X.env=(Jv,eval e X.env)::starEach es X.env)(f:PE X e te)(d:PA X es t):PA X (e::es) (TD te t):=zG f d h
def OP(h:PE X (.Name x pos) te):PE X (.Name x pos) te:=h
def m_sub(h:PE X (.Subscript a b pos) te):PE X (.Subscript a b pos) te:=h
def PL(h:PE X 't' te):PE X 't' te:=h
def m_bin(h:PE X (.BinOp a d b pos) te):PE X (.BinOp a d b pos) te:=h
def m_cmp{d:HC}(h:PE X (.Compare a [d] [b] pos) te):PE X (.Compare a [d] [b] pos) te:=h
def NG{f:HC}(h:PT X (.Compare a [f] [b] pos) d):PT X (.Compare a [f] [b] pos) d:=h
def Qj(h:PW X (.BoolOp f es pos) d):PT X (.BoolOp f es pos) d:=h.pt
def m_val{f:TE}(g:∀ d,isTrue e X.env d=(do let v <- d; standAt e.pos; holding [v] (truthy v)))(h:PE X e f):PT X e (tB f):=dw h g
def m_ix(d:Wd b)(g:PE X a ta)(f:PE X b tb):PE X (.Subscript a b pos) (tOp (NV X.K) ta tb):=qN vB g f d
def ao(m:vA X (.builtin id) r)(g:bootBuiltins x=Js (.builtin id))(i:X.mg x=Jt)(j:Gl X x)(h:x ≠ "__name__")(f:(x ==("__debug__" : i9))=Jv)
  (l:starEach (e::es) X.env=(Jv,eval e X.env)::starEach es X.env) (d:(backTo pos (starEach es X.env)).any (·.1)=Jv) (o:PA X (e::es) t):PE X 't' (tCB r t):=yK m j i g o h f l d
def NJ(m:vA X (.type T) r)(g:bootBuiltins x=Js (.type T))(i:X.mg x=Jt)(j:Gl X x)(h:x ≠ "__name__")(f:(x ==("__debug__" : i9))=Jv)
  (l:starEach (e::es) X.env=(Jv,eval e X.env)::starEach es X.env) (d:(backTo pos (starEach es X.env)).any (·.1)=Jv) (o:PA X (e::es) t):PE X 't' (tCB r t):=xY m j i g o h f l d
def m_own{K:b8}{mg:i9->Option c7}(h:Has P w K mg B x n ps sp)(m:X.prog=P/\X.w=w/\X.K=K/\X.mg=mg/\X.base=B)(g:Room n X.A)(i:Gl X x)(f:(x ==("__debug__" : i9))=Jv)
  (j:starEach (e::es) X.env=(Jv,eval e X.env)::starEach es X.env) (d:(backTo pos (starEach es X.env)).any (·.1)=Jv) (l:PA X (e::es) t):PE X 't' (Yd sp [] E0 t):=by
 obtain⟨rfl,rfl,rfl,rfl,rfl⟩:=m;rwa[zZ h g i l f j d]
def zQ(i:Nat){te:TE}(j:X.N.Nodup)(h:PE X e te)(hi:X.N[i]?=Js x:=by rfl)(d:Loc X.env.scope x:=by first | exact BW rfl | exact Fu rfl)(f:swapsWith e (Js (.Name x pos')) pos.line X.env=pure false:=by rfl)
  (g:X.fn x=Ju\/X.env.scope.names.lookup x=Js .local:=by first | exact .inl rfl | exact .inr rfl | assumption):PS X (.Assign [.Name x pos'] e pos) (NL te (ZZ i)):=iz j hi d h f g
def uG(i:Nat)(g:X.N.Nodup)(hi:X.N[i]?=Js x:=by rfl)(d:Loc X.env.scope x:=by first | exact BW rfl | exact Fu rfl)(f:X.fn x=Ju\/X.env.scope.names.lookup x=Js .local:=by first | exact .inl rfl | exact .inr rfl | assumption) :
  PG X (.Name x pos) (ZZ i):=lV g hi d f
def og{to:TE}{g d:Dg}(m:PE X o to)(q:PA X (e::es) t)
  (i:attributeBase o "append" X.env (eval o X.env)=eval o X.env:=by rfl)
  (j:((backTo d (starEach (e::es) X.env)).all (λx=>!x.1)&&(backToKw d (keywordEach [] X.env)).all (λx=>x.1.isSome)
   && decide ((e::es).length+([]:List Ek).length+(if ([]:List Ek).isEmpty then 0 else 1)<30))=true:=by rfl)
  (h:(g.endLine == d.line)=true:=by rfl) (l:starEach (e::es) X.env=(Jv,eval e X.env)::starEach es X.env:=by rfl) (f:(backTo d (starEach es X.env)).any (·.1)=false:=by rfl) :
  PE X (.Call (.Attribute o "append" g) (e::es) [] d) (tBM X.K "list" Uy to t):=RF Fj PySem.F.slot_list_append PySem.F.type_list_append kQ m q i j h l f
end
end L2

namespace L2
def InB(B:Ae)(a:b8->Prop):Prop:=∃ K:b8,K.In B/\a K
abbrev Cx.withK(X:Cx)(K:b8):Cx:={ X with K:=K }
def Mod.withK{K a:b8}{mg:i9->Option c7}(m:Mod K mg B)(h:a.In B):Mod a mg B:={ m with kin:=h }
section
variable{X:Cx}{Jw:List (c5×By)}{σ:St}{H:Hp}{s:d7}{K:b8}
def Cx.Ok.withK(ok:X.Ok)(h:K.In X.base):(X.withK K).Ok :=
 ⟨ok.mod.withK h,ok.kind,ok.glob,ok.blt,ok.above,ok.inj,ok.has,ok.cab,ok.hd,ok.frames,ok.stk,ok.exf,ok.bs,ok.bsz,ok.noex,ok.exfs,ok.funs,ok.frf⟩
def Cx.Ok.unK(ok:(X.withK K).Ok)(h:Mod X.K X.mg X.base):X.Ok :=
 ⟨h,ok.kind,ok.glob,ok.blt,ok.above,ok.inj,ok.has,ok.cab,ok.hd,ok.frames,ok.stk,ok.exf,ok.bs,ok.bsz,ok.noex,ok.exfs,ok.funs,ok.frf⟩
def Inv.withK(I:Inv X Jw σ H s)(h:K.In X.base):Inv (X.withK K) Jw σ H s:=⟨I.ok.withK h,I.os,I.bare,I.base,I.loc,I.cell,I.free,I.freeC,I.pin,I.hok,I.len⟩
def Inv.unK(I:Inv (X.withK K) Jw σ H s)(h:Mod X.K X.mg X.base):Inv X Jw σ H s:=⟨I.ok.unK h,I.os,I.bare,I.base,I.loc,I.cell,I.free,I.freeC,I.pin,I.hok,I.len⟩
end
section
variable{X:Cx}{o e value:Av}{es:List Av}{f m:i9}{pos pos' apos:Dg}{ta tv:TE}{t:TA}{C g:c5}{n:Nat}{ps:List i9}{sp:Sp}
inductive TFld(C:c5)(f:i9)(x:V)(H:Hp)(Q:VK):Prop where
 | mk (a dx:c5) (fs:List (i9×V)) (v:V) (ex:x=.ref a) (ea:H a=Js (.ins C dx fs)) (l:fs.lookup f=Js v) (q:Q v H)
def tFld2(C:c5)(f:i9)(ta:TE):TE:=λa H Q=>ta a H λx b=>TFld C f x b Q
def uf(j:InB X.base λK=>Cls K C/\ui K C f)(i:PE X e ta)(p:attributeBase e f X.env (eval e X.env)=eval e X.env:=by rfl):PE X (.Attribute e f pos) (tFld2 C f ta):=by
 obtain⟨K,w,c,n⟩:=j;intro y s b H Q I h;erw[QC p (thn (i y s b H _ I h) λu G ⟨x,B,A,d,a,dx,fs,v,ex,r,l,q⟩=>?_)];subst ex;obtain rfl:u=j4 a:=d;rwa[Yp (X:=X.withK K) (A.withK w) r c n l λD E z ru=>⟨v,B,z.unK I.ok.mod,ru,q⟩]
inductive SFld(C:c5)(f:i9)(y x:V)(H:Hp)(Q:Hp->Prop):Prop where
 | mk (a dx:c5) (fs:List (i9×V)) (ex:x=.ref a) (ea:H a=Js (.ins C dx fs)) (l:fs.length<1000) (q:Q (upd H a (.ins C dx (md f y fs))))
def sFld2(C:c5)(f:i9)(ta tv:TE):TS:=λD a H=>tv a H λy c=>ta a c λx b=>SFld C f y x b (D.nx a)
def jb(A:InB X.base λK=>Cls K C/\ui K C f)(B:PE X o ta)(w:PE X value tv)(z:swapsWith value (Js (.Attribute o f pos')) pos.line X.env=pure false:=by rfl):PS X (.Assign [.Attribute o f pos'] value pos) (sFld2 C f ta tv):=by
 obtain⟨K,G,c,n⟩:=A;intro d s b H D I h;erw[plainObj_wpAny_Assign_Attribute (thn (w d s b H _ I h) λu i ⟨y,N,M,j,q⟩=>thn (B d i b N _ M q) λv P ⟨x,Q,L,p,a,dx,fs,ex,E,l,r⟩=>?_) z];subst ex;obtain rfl:v=j4 a:=p;rwa[ZY (X:=X.withK K) (L.withK G) E c n l j λO J=>⟨b,_,J.unK I.ok.mod,r⟩]
def kU(h:Has X.prog X.w X.K X.mg X.base x n ps sp)(c:Room n X.A)(d:Gl X x)(a:(x ==("__debug__" : i9))=false:=by decide):PE X (.Call (.Name x p) [] [] pos) (Yd sp [] E0 Pw):=by
 obtain⟨f,fd,F,b,k,m⟩:=h;rwa[UP F c d m k b .nil ZR a]
def Vf(P:o7)(w:w9)(K:b8)(mg:i9->Option c7)(base:Ae)(g:c5)(n:Nat)(ps:List i9)(sp:Sp):Prop :=
 ∃ fd:AW,yI P w K mg base CX0 n g fd ps sp/\∀ a:List c7,a.length=ps.length->bindArgs fd ⟨a,[]⟩=pure (ps.zip a)
inductive TMeth(C:c5)(m:i9)(x:V)(H:Hp)(q:Prop):Prop where
 | mk (a dx:c5) (fs:List (i9×V)) (ex:x=.ref a) (ea:H a=Js (.ins C dx fs)) (l:fs.lookup m=Jt) (k:q)
def Rv(C:c5)(m:i9)(sp:Sp)(ta:TE)(t:TA):TE:=λa H Q=>ta a H λx b=>TMeth C m x b (t a b λc d=>sp (x::c) d Q E0)
def Us(S:InB X.base λK=>Cls K C/\So K C m g)(h:Vf X.prog X.w X.K X.mg X.base g n ps sp)(P:Room n X.A)(R:PE X o ta)(T:PA X (e::es) t)
  (i:starEach (e::es) X.env=(Jv,eval e X.env)::starEach es X.env:=by rfl) (j:(backTo pos (starEach es X.env)).any (·.1)=false:=by rfl)
  (O:eval (.Call (.Attribute o m apos) (e::es) [] pos) X.env=(do
   let B <- eval o X.env
   standAt apos.atName
   let (f,first) <- holding [B] (getMethod B m d)
   callWith pos f first (backTo pos (starEach (e::es) X.env)) (backToKw pos (keywordEach [] X.env))):=by rfl) :
  PE X (.Call (.Attribute o m apos) (e::es) [] pos) (Rv C m sp ta t):=by
 obtain⟨K,p,c,D⟩:=S;obtain⟨fd,F,b⟩:=h;intro E s v H Q I h;erw[FO (pl:=d) (thn (R E s v H _ I h) λu L ⟨x,Z,J,M,a,dx,fs,ex,Y,l,q⟩=>?_) O];subst ex;obtain rfl:u=j4 a:=M;erw[iy (X:=X.withK K) (J.withK p) Y c D l ?_];erw[Dp (first:=[.ref a]) (h₀:=X.base) (K:=K) p D.kp (thn (T pos E L v Z _ J q) λz s2 ⟨y,H2,G,r,N⟩=>⟨(G.withK p).kIn,?_⟩) i j];rwa[eN (us:=.ref a::z) (vs:=.ref a::y) (dvs:=[]) (ds:=[]) F P (.all b) .nil ZR G (.cons rfl r) (by rw[CM]; exact N)]
def qQ(E:InB X.base λK=>Cls K C/\So K C m g)(h:Vf X.prog X.w X.K X.mg X.base g n ps sp)(B:Room n X.A)(D:PE X o ta)
  (z:eval (.Call (.Attribute o m apos) [] [] pos) X.env=(do
   let j <- eval o X.env
   standAt apos.atName
   let (f,first) <- holding [j] (getMethod j m d)
   callWith pos f first (backTo pos (starEach [] X.env)) (backToKw pos (keywordEach [] X.env))):=by rfl) :
  PE X (.Call (.Attribute o m apos) [] [] pos) (Rv C m sp ta Pw):=by
 obtain⟨K,r,c,p⟩:=E;obtain⟨fd,F,b⟩:=h;intro J s v H Q I h;erw[FO (pl:=d) (thn (D J s v H _ I h) λu L ⟨x,M,i,y,a,dx,fs,ex,G,l,q⟩=>?_) z];subst ex;obtain rfl:u=j4 a:=y;erw[iy (X:=X.withK K) (i.withK r) G c p l ?_];rwa[Ee (first:=[.ref a]) (i.withK r).kIn p.kp (eN (us:=[.ref a]) (vs:=[.ref a]) (dvs:=[]) (ds:=[]) F B (.all b) .nil ZR i (.cons rfl .nil) q)]
def On(C:c5)(sp:Sp):TE:=λ_ H Q=>∀ x dx,H x=Jt->H dx=Jt->dx≠x->sp [.ref x] (upd (upd H dx (.own x)) x (.ins C dx [])) (λv a=>v=.non/\Q (.ref x) a) E0
def yI.withK{K p:b8}{mg:i9->Option c7}{k:Nat}{f:c5}(F:yI P w K mg B CX0 k f fd ps sp)(h:K.In B):yI P w p mg B CX0 k f fd ps sp :=
 ⟨F.len,λA outer s H a i d Q E j c l r b=>F.run A outer s H a i d Q E j { c with mod:=c.mod.withK h } l r b⟩
def Vx(j:InB X.base λK=>Mk K C g)(h:Vf X.prog X.w X.K X.mg X.base g n ps sp)(c:Room (n+1) X.A)(d:X.mg x=Js (.ref C))(i:Gl X x:=by rfl)(a:(x ==("__debug__" : i9))=false:=by decide) :
  PE X (.Call (.Name x p) [] [] pos) (On C sp):=by
 obtain⟨K,l,M⟩:=j;obtain⟨fd,F,b⟩:=h;intro G s D H Q I h;erw[BI (yd I i d ?_ a)];have J:=I.withK l;erw[Ee J.kIn M.kp (Bw (Sy (X:=X.withK K) (us:=[]) (vs:=[]) (dvs:=[]) (ds:=[]) M (F.withK I.ok.mod.kin) c (.all b) .nil ZR J .nil h) (λu E ⟨v,B,y,r,q⟩=>⟨v,B,y.unK I.ok.mod,r,q⟩) λ_ _ z=>z)]
end
end L2

namespace L2
structure M1(X:Cx)(o:Av)(m:i9)(apos:Dg)(e:Av)(cpos:Dg):Prop where
 base:attributeBase o m X.env (eval o X.env)=eval o X.env
 few:((backTo cpos (starEach [e] X.env)).all (λx=>!x.1)&&(backToKw cpos (keywordEach [] X.env)).all (λx=>x.1.isSome)
  && decide (([e]:List Av).length+([]:List Ek).length+(if ([]:List Ek).isEmpty then 0 else 1)<30))=Ju
 line:(apos.endLine == cpos.line)=Ju
 trees:backTo cpos (starEach [e] X.env)=[(Jv,eval e X.env)]
structure M2(X:Cx)(o:Av)(m:i9)(apos:Dg)(e f:Av)(cpos:Dg):Prop where
 base:attributeBase o m X.env (eval o X.env)=eval o X.env
 few:((backTo cpos (starEach [e,f] X.env)).all (λx=>!x.1)&&(backToKw cpos (keywordEach [] X.env)).all (λx=>x.1.isSome)
  && decide (([e,f]:List Av).length+([]:List Ek).length+(if ([]:List Ek).isEmpty then 0 else 1)<30))=Ju
 line:(apos.endLine == cpos.line)=Ju
 trees:backTo cpos (starEach [e,f] X.env)=[(Jv,eval e X.env),(Jv,eval f X.env)]

def IsD(H:Hp)(a:c5):Prop:=(∃ b,Rd H a (.dK b))\/∃ b,Rd H a (.dT b)
def Pj{g:St}{H:Hp}(I:Inv X h g H s)(d:IsD H a) :
  s.TypeIs (.ref a) "dict" /\ (∀ b,j4 a=.ref b->∃ ob,s.heap.get? b=Js ob/\ob.dict=Jt)/\(a == sysModules)=false:=by
 rcases d with ⟨f,e⟩ | ⟨f,e⟩
 ·obtain⟨_,hd,i,_,c⟩:=gh I.hok e;erw[c.typeIs,λb q=>?_,hd];cases q;obtain⟨ob,_,_,h1,h2,_⟩:=c;rwa[ob,h1,h2.2.1]
 ·obtain⟨_,hd,xs,_,c⟩:=Yk I.hok e;erw[c.typeIs,λb q=>?_,hd];cases q;obtain⟨ob,_,_,h1,h2,_⟩:=c;rwa[ob,h1,h2.2.1]


def OS(f ty:TE):TE:=λc H Q=>f c H λx e=>∃ a,A3 (x=.ref a) (IsD e a) (ty c e λy d=>E3 λb k v=>A4 (d a=Js (.dK b)) (y=kV k) (sV b k=Js v) (Q v (upd d a (.dK (Xx b k)))))
section
variable{X:Cx}{o e f:Av}{apos cpos:Dg}{td ty tx:TE}
def gT(A:PE X o td)(B:PE X e ty)(m:M1 X o "pop" apos e cpos):PE X (.Call (.Attribute o "pop" apos) [e] [] cpos) (OS td ty):=by
 intro g s c H Q I h;erw[GR m.base m.few m.line PySem.F.plainAttrs_dict FM PySem.F.type_dict_pop (thn (A g s c H _ I h) λu n ⟨x,G,i,q,a,ex,d,w⟩=>?_)];subst ex;obtain rfl:u=j4 a:=q;obtain⟨t1,j,_⟩:=Pj i d;exists t1,j;rw[m.trees];erw[Ft rfl (D6 (Gr (thn (B g n c G _ i w) λN M ⟨y,O,E,p,z,k,v,C,ey,l,r⟩=>GI ?_)))];subst ey;rwa[d_pop E C p l (.inl rfl) λJ L D b=>⟨v,_,D,b,r⟩]
end

section
variable{X:Cx}{Jw:List (c5×By)}{σ:St}{H:Hp}{s:d7}{a:c5}{kvs:List (Key×V)}{A:An}{E:c7->d7->Prop}
def TX{Q:c7->d7->Prop}(I:Inv X Jw σ H s)(e:Rd H a (.dK kvs))(h:∀ p d,H p=Jt->Inv X Jw σ (upd H p (.dK kvs)) d->Q (.ref p) d):wpAny 'b' A (call (.type "dict") [.ref a]) Q E s:=by
 obtain⟨z,hd,j,rel,i⟩:=gh I.hok e;erw[kt_call_dict hd i (by rw[<- rel.length]; rwa[z]) λl c g=>?_];erw[h _ _ (I.hok.fresh (e9 _)) (I.laid (a:=s.heap.objs.size) (o:=.dK kvs) (t':=s.toks) (λb q f=>?_) (e9 _) (eQ z (x5.mpr (Bk (o9 I.big))) rel c))];exact(g.2 b (o9 (i5 f))).trans (c8 _ f)
end


end L2


namespace L2
section
variable{X:Cx}{Jw:List (c5×By)}{σ:St}{H:Hp}{s:d7}{d:c5}{kvs:List (Key×V)}
def KV.at{vs:List (Key×c7)} : ∀{kvs:List (Key×V)}{vs:List (Key×c7)}{i:Nat}{k:Key}{v:V},KV kvs vs->kvs[i]?=Js (k,v)->∃ u,vs[i]?=Js (k,u)/\xI v u
 | _,_,_,_,_,.nil,e=>by simp at e
 | _,_,0,k,v,.cons (a:=a) (b:=b) ⟨f,c⟩ _,e=>by
  simp at e;subst e;exact⟨b.2,by rw[show(k,b.2)=b from by rw[show k=b.1 from f]]; rfl,c⟩
 | _,_,i+1,k,v,.cons _ t,e=>KV.at (vs:=[]) (i:=i) t (by simpa using e)
def Itc(a:Hp->Prop)(xs:List V):It:=⟨λi H=>a H/\i<xs.length,λi H x b=>b=H/\xs[i]?=Js x,λi H=>a H/\xs.length<=i⟩
variable{tg l:Av}{te:TE}{apos pos:Dg}
end
end L2

namespace L2
section
variable{φ:Hp->Prop}{xs:List V}{g:TG}{tb:TS}{E:Uu}{σ σ0:St}{H H1:Hp}{D:c5}{tt:TT}{te:TE}{Q:VK}
def for_c(a:Nat->St->Hp->Prop)(h0:a 0 σ H)(l:∀ i σ H,a i σ H->φ H)
  (o:∀ i x σ H,xs[i]?=Js x->a i σ H->g x σ H λb h=>tb { E with nx:=a (i+1),ct:=a (i+1),bk:=E.nx } b h) (hd:∀ σ H,a xs.length σ H->E.nx σ H) :
  ∃ W:Nat->Nat->St->Hp->Prop,(∃ m,W 0 m σ H)/\∀ i m σ H,W i m σ H ->
   ((Itc φ xs).stop i H/\E.nx σ H)\/((Itc φ xs).go i H/\∃ N:St->Hp->Prop,(∀ c d,N c d->∃ j,j<m/\W (i+1) j c d)/\∀ x d,(Itc φ xs).yld i H x d->g x σ d λb h=>tb { E with nx:=N,ct:=N,bk:=E.nx } b h):=by
 exists λi m σ H=>m=xs.length-i/\i<=xs.length/\a i σ H,⟨xs.length,by simp,Aa _,h0⟩;rintro i m σ H ⟨rfl,hi,p⟩;by_cases f:i<xs.length
 ·erw[.inr ⟨⟨l i σ H p,f⟩,a (i+1),λc d n=>⟨xs.length-(i+1),by lia,rfl,f,n⟩,λx d ⟨e,y⟩=>?_⟩];subst e;rwa[o i x σ _ y p]
 ·have e:i=xs.length:=by lia
  subst e;rwa[.inl ⟨⟨l _ σ H p,e9 _⟩,hd σ H p⟩]
def Nv(d:Nat->St->List V->Hp->Prop)(h0:d 0 σ0 [] (upd H1 D (.lst [])))(r:∀ i σ a H,d i σ a H->φ H/\H D=Js (.lst a))
  (o:∀ i x σ a H,xs[i]?=Js x->d i σ a H->g x σ H λc s=>tt c s λb j =>
   if b=Ju then te c j λy h=>h D=Js (.lst a)/\a.length<sizeLine/\d (i+1) c (a++[y]) (upd h D (.lst (a++[y]))) else d (i+1) c a j)
  (hd:∀ σ a H,d xs.length σ a H->Q (.ref D) H):gM (Itc φ xs) D g tt te σ0 H1 Q:=by
 exists λi m σ a H=>m=xs.length-i/\i<=xs.length/\d i σ a H,⟨xs.length,by simp,Aa _,h0⟩;rintro i m σ a H ⟨rfl,hi,p⟩;obtain⟨q,n⟩:=r i σ a H p;exists n;by_cases f:i<xs.length
 ·erw[.inr ⟨⟨q,f⟩,d (i+1),λl v u z=>⟨xs.length-(i+1),by lia,rfl,f,z⟩,λx u ⟨e,y⟩=>?_⟩];subst e;rwa[o i x σ a _ y p]
 ·have e:i=xs.length:=by lia
  subst e;rwa[.inl ⟨⟨q,e9 _⟩,hd σ a H p⟩]
def RZ(b:Nat->St->List V->Hp->Prop)(h0:b 0 σ0 [] (upd H1 D (.lst [])))(h:∀ i σ a H,b i σ a H->φ H/\H D=Js (.lst a))
  (f:∀ i x σ a H,xs[i]?=Js x->b i σ a H->g x σ H λc j=>te c j λy d=>d D=Js (.lst a)/\a.length<sizeLine/\b (i+1) c (a++[y]) (upd d D (.lst (a++[y]))))
  (hd:∀ σ a H,b xs.length σ a H->Q (.ref D) H):gM (Itc φ xs) D g Nx te σ0 H1 Q:=Nv b h0 h (λi x σ a H e p=>f i x σ a H e p) hd
end
section
variable{X:Cx}{x y:i9}{p pos:Dg}{i e:Av}{es:List Av}{ty:TE}{t:TA}
def Zj{n:Int}(a:∃ k,X.mg x=Js (.int n k))(b:Gl X x:=by rfl)(hd:(x ==("__debug__" : i9))=false:=by decide):PE X (.Name x pos) (tC (.int n)):=λ_ _ _ H _ I h=>by
 obtain⟨k,a⟩:=a;rwa[yd I b a ⟨.int n,H,I,⟨k,rfl⟩,h⟩ hd]
def Pp(P:o7)(w:w9)(B:Ae)(a:c5)(b:List (Key×V)):Prop:=∃ c,KV b c/\B.DictOf (yP P w) a c
def tGet(a:List (Key×V))(ty:TE):TE:=λb H Q=>ty b H λy c=>E2 λ(k:Key) (v:V)=>A3 (y=kV k) (sV a k=Js v) (Q v c)
def Ry{g:St}{H:Hp}{E:c7->d7->Prop}{Q:c7->d7->Prop}(z:Pp X.prog X.w X.base a b)(I:Inv X n g H s)(l:sV b k=Js v)(r:xI (kV k) u)
  (h:∀ c m,Inv X n g H m->xI v c->Q c m):s.TypeIs (.ref a) "dict" /\ wpAny 'b' X.A (getItem (.ref a) u) Q E s:=by
 obtain⟨j,rel,d⟩:=z;have d:s.heap.DictOf (yP X.prog X.w) a j:=d.at λo e=>I.bk a o e;obtain⟨c,q,f⟩:=fV.some_of (v:=v) (o:=valueAt j k) (by rw[<- l]; rwa[rel.val k]);rwa[d.typeIs,Hc (gg r) d.mapOf q (h c _ (I.tok _) f)]
def UC(o:Pp X.prog X.w X.base a b)(m:X.mg x=Js (.ref a))(hi:PE X i ty)(j:NP i:=by exact λ_ _=>rfl)(n:Gl X x:=by rfl)(hd:(x ==("__debug__" : i9))=false:=by decide) :
  PE X (.Subscript (.Name x p) i pos) (tGet b ty):=by
 intro q s d H Q I h;erw[bT Dc.lookup j (yd I n m (thn (hi q s d H _ I h) λD C ⟨y,z,u,f,k,v,ey,l,g⟩=>?_) hd)];subst ey;rwa[Ry o u l f λA B r c=>⟨v,z,r,c,g⟩]
structure Nc(P:o7)(w:w9)(K:b8)(mg:i9->Option c7)(B:Ae)(m:Nat)(kvs:List (Key×V))(k:Key)(sp:Sp):Prop where
 mk ::
 has:∃(x:i9)(f:c5)(n:Nat)(ps:List i9),sV kvs k=Js (.ref f)/\mg x=Js (.ref f)/\Has P w K mg B x n ps sp/\n<=m
def tTab(tab:List (Key×Sp))(ty:TE)(t:TA):TE:=λa H Q=>ty a H λy f=>E2 λ(k:Key) (b:Sp)=>A3 (y=kV k) ((k,b)∈tab) (t a f λc d=>b c d Q E0)
def Of{m:Nat}{tab:List (Key×Sp)}(R:Pp X.prog X.w X.base a d)(N:X.mg x=Js (.ref a))(T:∀ r∈tab,Nc X.prog X.w X.K X.mg X.base m d r.1 r.2)(L:Room m X.A)(hi:PE X i ty)(S:PA X (e::es) t)
  (J:NP i:=by rwa[λ_ _=>rfl]) (O:Gl X x:=by rfl) (hd:(x ==("__debug__" : i9))=false:=by decide)
  (P:starEach (e::es) X.env=(Jv,eval e X.env)::starEach es X.env:=by rfl) (o:(backTo pos (starEach es X.env)).any (·.1)=false:=by rfl)
  (q:eval (.Call (.Subscript (.Name x p) i j) (e::es) [] pos) X.env=(do callWith pos (<- eval (.Subscript (.Name x p) i j) X.env) [] (backTo pos (starEach (e::es) X.env)) (backToKw pos (keywordEach [] X.env))):=by rfl) :
  PE X (.Call (.Subscript (.Name x p) i j) (e::es) [] pos) (tTab tab ty t):=by
 intro v s u H Q I h;erw[Call_ (bT Dc.lookup J (yd I O N (thn (hi v s u H _ I h) λiv s2 ⟨y,H2,Z,C,k,sp,ey,mem,E⟩=>?_) hd)) q];subst ey;obtain⟨x',f,n,ps,l,G,⟨f',fd,F,b,kp,c⟩,M⟩:=(T _ mem).has;rw[G] at c;cases c;erw[Ry R Z l C λw' B Y g=>?_];cases g;erw[Dp (h₀:=X.base) I.ok.mod.kin kp (thn (S pos v B u H2 _ Y E) λus s4 ⟨vs,H4,z,r,D⟩=>⟨z.kIn,?_⟩) P o];rwa[eN (dvs:=[]) (ds:=[]) F (L.mono M) b .nil ZR z r (by rw[CM]; exact D)]
end
def oG:bootBuiltins "dict" = Js (.type "dict"):=by ac_nf
section
variable{X:Cx}
def xa:vA X (.type "dict") (λxs H Q=>E2 λ(a:c5) (b:List (Key×V))=>A3 (xs=[.ref a]) (Rd H a (.dK b)) (∀ p,H p=Jt->Q (.ref p) (upd H p (.dK b)))):=by
 intro j s f H xs g Q I r h;obtain⟨a,b,rfl,d,q⟩:=h;obtain⟨u,rfl,ru⟩:=jQ r;cases ru;rwa[TX I d λp i c e=>⟨.ref p,_,e,rfl,q p c⟩]
def pN:vA X (.builtin "len") (λxs H Q=>E2 λ(a:c5) (b:List (Key×V))=>A3 (xs=[.ref a]) (Rd H a (.dK b)) (Q (.int b.length) H)):=by
 intro i s e H xs f Q I r h;obtain⟨a,b,rfl,c,q⟩:=h;obtain⟨u,rfl,ru⟩:=jQ r;cases ru;rwa[d_len I c λt g d=>⟨.int b.length,H,d,⟨t,rfl⟩,q⟩]
def cD : ∀{e:List CN}{a:List (Key×V)}{d:List (Key×c7)},KV a d->Pairs (yP P w) e d->yQ (a.map λg=>kV g.1) (e.map (·.key))
 | _,_,_,.nil,.nil=>.nil
 | _,_,_,.cons ⟨f,_⟩ t,.cons h _ p=>by
  erw[.cons ?_ (cD t p)];dsimp only;rw[f];rcases yW h with ⟨j,t,c,b⟩ | ⟨x,t,c,b⟩
  ·rw[c,b]; rwa[t,rfl]
  ·rw[c,b]; rwa[t,rfl]
def oR(M:X.calm=Ju):vA X (.type "list") (λxs H Q=>E2 λ(d:c5) (b:List (Key×V))=>A3 (xs=[.ref d]) (Rd H d (.dK b)) (∀ p,H p=Jt->Q (.ref p) (upd H p (.lst (b.map λn=>kV n.1))))):=by
 intro Y s N H xs P Q I r h;obtain⟨d,b,rfl,hd,q⟩:=h;obtain⟨u,rfl,ru⟩:=yQ.one r;cases ru;obtain⟨D,w,O,rel,ob,m,l,g,ex,y,S,J,R⟩:=gh I.hok hd;have B:=cD rel J;have v:m.size=b.length:=by
  have z:=B.length;rw[ac,ac,Ay] at z;rwa[z.symm]
 refine Hf (XU (rows:=m) (age:=l) w) (show X.A.handled=Jt from I.ok.hd M) ⟨ob,g,ex,y⟩ (by rw[v]; exact D) λT G i c keep at' f=>?_;have x:i.toList=m.toList.map (·.key):=by
  erw[DE λj=>?_];by_cases E:j<m.size
  ·have C:j<i.size:=by rw[f.1]; rwa[E]
   obtain⟨L,e⟩:=f.2 j i[j] (by simp[C]);rw[CS,AZ C,e,e7,CS,AZ E];rfl
  ·rw[Bs (by rw[Ay,f.1]; lia),Bs (by simp; lia)]
 erw[.ref s.heap.objs.size,_,I.laid (t':=G) (a:=s.heap.objs.size) (o:=.lst (b.map λn=>kV n.1)) keep (e9 _) ?_,rfl,q _ (I.hok.fresh (e9 _))];exists by rw[ac]; exact D,_,c,B;rw[<- x,F2];rwa[at']
end
end L2

namespace L2
def cH(x:i9):List V:=x.cps.toList.map λc=>.str ⟨#[c]⟩
section
variable{X:Cx}{tg l:Av}{te:TE}
def Tc{K:b8}{tg:Av}(x:i9)(t:Jn)(f:c5):Pi P w K tg (Itc (λ_=>True) (cH x)) [f] f (λi h=>h.IsStrIter f "str_ascii_iterator" x t i) where
 mem:=by simp
 obj:=λi h st b g=>by
  have e:b=f:=by simpa using g
  subst e;obtain⟨o,e,c,d⟩:=st;exact⟨o,e,λv z=>by rw[d] at z; cases z⟩
 keep:=λi h n ⟨o,N,r⟩ k=>⟨o,k f 'd' o N,r⟩
 item:=by
  intro X q p u J i L s G H E I m st ⟨_,hi⟩;subst q p u;have a:i<x.cps.size:=by unfold cH at hi; rw[ac,Ay] at hi; rwa[hi]
  obtain⟨D,C,O,B,A,y⟩:=m f 'd';erw[wpAny_pyNext_ascii_item st (c:=x.cps[i]) (AZ a) λn j M=>?_];have S:Inv X L G H { s with heap:=n,toks:=s.toks+1 }:=I.turned (t':=s.toks+1) (λb o g e=>(M.2 b g).trans e) D C B A y;obtain⟨o,e,c,R⟩:=id j;exact⟨_,U,Th (s:={ s with heap:=n,toks:=s.toks+1 }) e c R 'a' ⟨.str ⟨#[x.cps[i]]⟩,H,S,⟨_,U⟩,⟨U,by unfold cH; rw[e7,CS,AZ a]; rfl⟩,j,λb g=>(m b g).1⟩⟩
 done:=by
  intro X q p u J i L s G H E I m st ⟨_,hi⟩;subst q p u;have a:x.cps.size<=i:=by unfold cH at hi; rw[ac,Ay] at hi; rwa[hi]
  obtain⟨D,C,O,B,A,y⟩:=m f 'd';rwa[wpAny_pyNext_ascii_end (I.ok.hd J) st (Fw a) λn Q=>⟨rfl,I.turned (t':=s.toks) (λb o g e=>Q b o g e) D C B A y⟩]
 self:=λ_ _ _ _ _ st h=>wpAny_pyIter_striter_ascii st h
def iStr(te:TE):TI:=λa H R=>te a H λv b=>∃ x:i9,A3 (v=.str x) (x.cps.all (· < 128)=Ju) (R (Itc (λ_=>True) (cH x)) b)
def NF(g:PE X l te):PI X tg l (iStr te):=by
 intro m s d H R I h;erw[thn (g m s d H _ I h) λv a ⟨y,n,c,f,x,e,j,q⟩=>?_];subst e;obtain⟨t,rfl⟩:=f;erw[wpAny_pyIter_ascii j ?_];erw[a.heap.objs.size,[a.heap.objs.size],_,_,n,rfl,c.kept (t':=a.toks) λb o e=>c8 _ e,Tc x t _,⟨_,j9 _ rfl,rfl,rfl⟩,λb i=>?_,q];have e:b=a.heap.objs.size:=by simpa using i
 subst e;rwa[c.fpOk (e9 _) (c.hok.fresh (e9 _))]
def dm:OpR X (compareOp .LtE) (λx y H Q=>E2 λi j=>A3 (x=.str i) (y=.str j) (Q (.bl (!decide (j.cps.toList<i.cps.toList))) H)):=by
 intro e s c H x y v u Q I b a h;obtain⟨i,j,rfl,rfl,q⟩:=h;obtain⟨t,rfl⟩:=b;obtain⟨d,rfl⟩:=a;rwa[PySem.P.le_str (yO I q rfl)]
def Sv:SlR X (λx lo hi H Q=>∃ z:i9,x=.str z/\z.length<=sizeLine/\Q (.str (C9 z lo hi)) H):=by
 intro m s f H x v D C lo hi E Q I p y r g h;obtain⟨z,rfl,w,q⟩:=h;obtain⟨t,rfl⟩:=p;have a:∀(l u:Option (Int×Jn)),l.map (·.1)=lo->u.map (·.1)=hi->(sliceMade z t l u Jt).post (EP X m f Q) s:=λl u B A=>by
  subst B A;rwa[post_val_or_str (t:=t) (s:=s) (Q:=EP X m f Q) ⟨d9 (Fy z _ _) w,λn k=>⟨.str (C9 z _ _),H,I.tok k,⟨n,rfl⟩,q⟩⟩]
 exists "str",_,F.slot_str_getitem.lookup,typeIs_str _ _ _;obtain⟨o,d,e,hd⟩:=y;cases r with
 | none =>
  cases g with
  | none=>rwa[CG (l:=Jt) (u:=Jt) (st:=Jt) ⟨o,d,e,hd⟩ rfl (a Jt Jt rfl rfl)]
  | int j b=>rwa[CG (l:=Jt) (u:=Js (j,b)) (st:=Jt) ⟨o,d,e,hd⟩ rfl (a Jt (Js (j,b)) rfl rfl)]
 | int i c =>
  cases g with
  | none=>rwa[CG (l:=Js (i,c)) (u:=Jt) (st:=Jt) ⟨o,d,e,hd⟩ rfl (a (Js (i,c)) Jt rfl rfl)]
  | int j b=>rwa[CG (l:=Js (i,c)) (u:=Js (j,b)) (st:=Jt) ⟨o,d,e,hd⟩ rfl (a (Js (i,c)) (Js (j,b)) rfl rfl)]
def cF:∀{a:List i9}{b:List c7},yQ (a.map V.str) b->∃ l:List (i9×Jn),b=strValues l/\l.map (·.1)=a
 | [],_,.nil=>⟨[],rfl,rfl⟩
 | x::a,_,.cons ⟨t,e⟩ r=>by
  obtain⟨l,d,c⟩:=cF r;subst e;rwa[(x,t)::l,by rw[d]; rfl,by rw[j8,c]]
def Ux(a:i9):∀ b:List i9,(Fk a b).length<=(b.map (·.length)).sum+b.length*a.length
 | []=>Aa _
 | [y]=>by
  show y.length<=_;simp
 | y::z::l=>by
  have c:=Ux a (z::l);have e:(Fk a (y::z::l)).length=y.length+a.length+(Fk a (z::l)).length:=by
   show(y++a++Fk a (z::l)).length=_;rw[strLen_append,strLen_append]
  rw[e];simp only[j8,Gk,i4,Nat.succ_mul] at c ⊢;lia
def mH(a:i9)(b:List i9):Nat:=(b.map (·.length)).sum+b.length*a.length
def RL:MtR X "str.join" (λx xs H Q=>∃(b:i9)(a:c5)(e:List i9),x=.str b/\xs=[.ref a]/\SqL X.K H a (e.map V.str)/\mH b e<=sizeLine/\Q (.str (Fa b e)) H):=by
 intro B s w H x xs v A Q I i j h;obtain⟨b,a,e,rfl,rfl,o,f,q⟩:=h;obtain⟨t,rfl⟩:=i;obtain⟨u,rfl,ru⟩:=yQ.one j;cases ru;obtain⟨m,r,p,_⟩:=I.list o;obtain⟨l,rfl,c⟩:=cF r;have n:Builtin.Str.tooLong ((l.map (·.1)).toArray.foldl (· + ·.length+b.length) 0)=false:=by
  rw[c,IE];exact y8 (by unfold mH at f; lia)
 refine call_meets F.slot_str_join (typeIs_str _ _ _) F.entry_str_join (F.args_str_join_2 _ _) (meets_str_join_list b t a l n) ⟨p.isList,?_⟩;have g:∀ d:List i9,(Fa b d).length<=mH b d:=λd=>by
  rw[Eo];rwa[Ux b d]
 match l,c with
 | [],c =>
  subst c;rwa[d9 (g []) f,⟨.str _,H,I.tok _,⟨_,rfl⟩,q⟩]
 | [y],c =>
  subst c;rwa[.str y.1,H,I,⟨y.2,rfl⟩,q]
 | y::z::l,c =>
  subst c;rwa[d9 (g _) f,⟨.str _,H,I.tok _,⟨_,rfl⟩,q⟩]
end
end L2

namespace Sea
inductive Dt where
 | int (i:Int)
 | str (x:i9)
 | tup (l:List Dt)
mutual
def Rep(H:Hp):Dt->V->Prop
 | .int i,v=>v=.int i
 | .str x,v=>v=.str x
 | .tup l,v=>∃(a:c5)(xs:List V),v=.ref a/\H a=Js 'w'/\wH H l xs
def wH(H:Hp):List Dt->List V->Prop
 | [],xs=>xs=[]
 | d::l,xs=>∃(x:V)(r:List V),xs=x::r/\Rep H d x/\wH H l r
end
def tZ(φ:c5->Prop)(H c:Hp):Prop:=∀ b o,¬ φ b->H b=Js o->c b=Js o\/∃(ob:By)(a:List (Key×V)),o=.dK a/\c b=Js (.frz ob (.dK a))
abbrev Sam(H a:Hp):Prop:=tZ (λ_=>False) H a
section
variable{φ ψ:c5->Prop}{H H1 H2:Hp}{a:c5}{xs:List V}
def tZ.of(s:Same H H1):tZ φ H H1:=λb o _ e=>.inl (s b o e)
def tZ.refl(H:Hp):tZ φ H H:=λ_ _ _ e=>.inl e
def tZ.trans(s:tZ φ H H1)(t:tZ φ H1 H2):tZ φ H H2:=λb o n e=>by
 rcases s b o n e with d | ⟨ob,c,g,d⟩
 ·rwa[t b o n d]
 ·subst g;rcases t b _ n d with f | ⟨_,_,z,_⟩
  ·rwa[.inr ⟨ob,c,rfl,f⟩]
  ·cases z
def tZ.wider(s:tZ φ H H1)(h:∀ b,φ b->ψ b):tZ ψ H H1:=λb o n e=>s b o (λz=>n (h b z)) e
def tZ.lst(s:tZ φ H H1)(n:¬ φ a)(e:H a=Js (.lst xs)):H1 a=Js (.lst xs):=by
 rcases s a _ n e with z | ⟨_,_,z,_⟩
 ·rwa[z]
 ·cases z
def tZ.tup(s:tZ φ H H1)(n:¬ φ a)(e:H a=Js 'w'):H1 a=Js 'w':=by
 rcases s a _ n e with z | ⟨_,_,z,_⟩
 ·rwa[z]
 ·cases z
def tZ.ins(s:tZ φ H H1)(n:¬ φ a)(e:H a=Js (.ins C dx fs)):H1 a=Js (.ins C dx fs):=by
 rcases s a _ n e with z | ⟨_,_,z,_⟩
 ·rwa[z]
 ·cases z
def tZ.rd(s:tZ φ H H1)(n:¬ φ a)(e:Rd H a (.dK b)):Rd H1 a (.dK b):=by
 rcases e with e | ⟨ob,e⟩
 ·rcases s a _ n e with z | ⟨ob,c,z,w⟩
  ·rwa[.inl z]
  ·cases z;rwa[.inr ⟨ob,w⟩]
 ·rcases s a _ n e with z | ⟨_,_,z,_⟩
  ·rwa[.inr ⟨ob,z⟩]
  ·cases z
end
mutual
def Rep.sam{c:c5->Prop}{H g:Hp}(s:tZ c H g)(f:∀ b xs,H b=Js 'w'->¬ c b):∀{d:Dt}{v:V},Rep H d v->Rep g d v
 | .int _,_,h=>by rw[Rep] at h ⊢; rwa[h]
 | .str _,_,h=>by rw[Rep] at h ⊢; rwa[h]
 | .tup l,v,h=>by
  rw[Rep] at h ⊢;obtain⟨a,xs,e,h1,h2⟩:=h;rwa[a,xs,e,s.tup (f a xs h1) h1,wH.sam s f h2]
def wH.sam{a:c5->Prop}{H f:Hp}(s:tZ a H f)(c:∀ b xs,H b=Js 'w'->¬ a b):∀{l:List Dt}{xs:List V},wH H l xs->wH f l xs
 | [],_,h=>by rw[wH] at h ⊢; rwa[h]
 | d::l,xs,h=>by
  rw[wH] at h ⊢;obtain⟨x,r,e,h1,h2⟩:=h;rwa[x,r,e,Rep.sam s c h1,wH.sam s c h2]
end
section
variable{H H1:Hp}
def no_f{H:Hp} : ∀ b xs,H b=Js 'w'->¬ (λ_:c5=>False) b:=λ_ _ _ z=>z
def Rep.to(h:Rep H d v)(s:Sam H H1):Rep H1 d v:=h.sam s no_f
def wH.to(h:wH H l xs)(s:Sam H H1):wH H1 l xs:=h.sam s no_f
def xV{i:Int} : Rep H (.int i) v↔v=.int i:=by rw[Rep]
def xR : Rep H (.str x) v↔v=.str x:=by rw[Rep]
def tQ : Rep H (.tup l) v↔∃(a:c5)(xs:List V),v=.ref a/\H a=Js 'w'/\wH H l xs:=by rw[Rep]
def yN : wH H [] xs↔xs=[]:=by rw[wH]
def zN{d:Dt}{l:List Dt} : wH H (d::l) xs↔∃(x:V)(r:List V),xs=x::r/\Rep H d x/\wH H l r:=by rw[wH]
def wH.length:∀{l:List Dt}{xs:List V},wH H l xs->xs.length=l.length
 | [],_,h=>by rw[yN.mp h]; rfl
 | d::l,_,h=>by
  obtain⟨x,r,e,_,h2⟩:=zN.mp h;rw[e,i4,i4,wH.length h2]
def wH.at:∀{l:List Dt}{xs:List V}{i:Nat}{d:Dt},wH H l xs->l[i]?=Js d->∃ x,xs[i]?=Js x/\Rep H d x
 | [],_,_,_,_,e=>by simp at e
 | d::l,_,0,_,h,e=>by
  obtain⟨x,r,ex,h1,_⟩:=zN.mp h;simp at e;subst e;rwa[x,by rw[ex]; rfl,h1]
 | d::l,_,i+1,a,h,e=>by
  obtain⟨x,r,ex,_,h2⟩:=zN.mp h;obtain⟨y,h3,h4⟩:=wH.at (i:=i) (d:=a) h2 (by simpa using e);exact⟨y,by rw[ex]; simpa using h3,h4⟩
def wH.back:∀{l:List Dt}{xs:List V}{i:Nat}{x:V},wH H l xs->xs[i]?=Js x->∃ d,l[i]?=Js d/\Rep H d x
 | [],_,i,x,h,e=>by rw[yN.mp h] at e; simp at e
 | d::l,_,0,x,h,e=>by
  obtain⟨y,r,ex,h1,_⟩:=zN.mp h;rw[ex] at e;simp at e;subst e;rwa[d,rfl,h1]
 | d::l,_,i+1,x,h,e=>by
  obtain⟨y,r,ex,_,h2⟩:=zN.mp h;rw[ex] at e;obtain⟨a,h3,h4⟩:=wH.back (i:=i) (x:=x) h2 (by simpa using e);exact⟨a,by simpa using h3,h4⟩
def wH.app:∀{l m:List Dt}{xs a:List V},wH H l xs->wH H m a->wH H (l++m) (xs++a)
 | [],_,_,_,h,k=>by rw[yN.mp h]; rwa[k]
 | d::l,_,_,_,h,k=>by
  obtain⟨x,r,e,h1,h2⟩:=zN.mp h;rw[e];rwa[zN.mpr ⟨x,_,rfl,h1,wH.app h2 k⟩]
def wH.one(h:Rep H d v):wH H [d] [v]:=zN.mpr ⟨v,[],rfl,h,yN.mpr rfl⟩
def wH.two(h:Rep H d v)(k:Rep H e u):wH H [d,e] [v,u]:=zN.mpr ⟨v,_,rfl,h,.one k⟩
end
structure uI(H:Hp)(kvs:List (Key×V))(es:List (Key×Dt)):Prop where
 keys:kvs.map (·.1)=es.map (·.1)
 vals:wH H (es.map (·.2)) (kvs.map (·.2))
def yh(H:Hp)(a:c5)(c:List (Key×Dt)):Prop:=∃ b,Rd H a (.dK b)/\uI H b c
def look(a:List (Key×Dt))(k:Key):Option Dt:=(a.find? λe=>decide (e.1=k)).map (·.2)
def NM(a:List (Key×Dt))(k:Key)(d:Dt):List (Key×Dt):=if a.any (λe=>decide (e.1=k)) then a.map λe=>if e.1=k then(e.1,d) else e else a++[(k,d)]
def uI.nil{H:Hp} : uI H [] []:=⟨rfl,yN.mpr rfl⟩
def uI.cons_iff{H:Hp}{k:Key}{d:Dt}{b:List (Key×Dt)} : uI H a ((k,d)::b)↔∃(v:V)(r:List (Key×V)),a=(k,v)::r/\Rep H d v/\uI H r b:=by
 constructor
 ·rintro⟨h1,h2⟩;cases a with
  | nil=>simp at h1
  | cons p r =>
   obtain⟨j,v⟩:=p;simp only[j8,Hw] at h1;obtain⟨h,g⟩:=h1;subst h;obtain⟨x,i,e,h3,h4⟩:=zN.mp h2;simp only[j8,Hw] at e;obtain⟨f,c⟩:=e;subst f c;rwa[v,r,rfl,h3,g,h4]
 ·rintro⟨v,r,rfl,h1,h2⟩;rwa[by simp[h2.keys],zN.mpr ⟨v,_,rfl,h1,h2.vals⟩]
def uI.nil_iff{H:Hp}(h:uI H a []):a=[]:=by
 have:=h.keys;simpa using this
def uI.to{H c:Hp}(h:uI H a b)(s:Sam H c):uI c a b:=⟨h.keys,h.vals.to s⟩
def uI.sam{c:c5->Prop}{H e:Hp}(h:uI H a d)(s:tZ c H e)(f:∀ b xs,H b=Js 'w'->¬ c b):uI e a d:=⟨h.keys,h.vals.sam s f⟩
def yh.to{H c:Hp}(h:yh H a b)(s:Sam H c):yh c a b:=let ⟨kvs,h1,h2⟩:=h;⟨kvs,s.rd id h1,h2.to s⟩
def uI.length{H:Hp}(h:uI H a b):a.length=b.length:=by
 have:=congrArg Br h.keys;simpa using this
def uI.get{H:Hp} : ∀{b:List (Key×Dt)}{a:List (Key×V)}{d:Dt},uI H a b->look b k=Js d->∃ v,sV a k=Js v/\Rep H d v
 | [],_,_,_,e=>by simp[look] at e
 | (c,f)::b,a,d,h,e=>by
  obtain⟨v,r,rfl,h1,h2⟩:=uI.cons_iff.mp h;by_cases z:c=k
  ·rw[wV z];simp only[look,AR,y7 z,Bj,Fb] at e;subst e;rwa[v,rfl,h1]
  ·rw[wF z];erw[uI.get h2 ?_];simp only[look,AR,y8 z] at e;rwa[e]
def uI.none{H:Hp} : ∀{b:List (Key×Dt)}{a:List (Key×V)},uI H a b->look b k=Jt->sV a k=Jt
 | [],_,h,_=>by rw[h.nil_iff]; rfl
 | (c,d)::b,a,h,e=>by
  obtain⟨v,r,rfl,h1,h2⟩:=uI.cons_iff.mp h;by_cases z:c=k
  ·simp[look,AR,z] at e
  ·rw[wF z];erw[uI.none h2 ?_];simp only[look,AR,y8 z] at e;rwa[e]
def uI.isSome{H:Hp}(h:uI H a b):(sV a k).isSome=(look b k).isSome:=by
 cases e:look b k with
 | none=>rw[h.none e]; rfl
 | some d =>
  obtain⟨v,z,_⟩:=h.get e;rw[z];rfl
def uI.any{H:Hp}{k:Key} : ∀{b:List (Key×Dt)}{a:List (Key×V)},uI H a b->(a.any λe=>decide (e.1=k))=b.any λe=>decide (e.1=k)
 | [],_,h=>by rw[h.nil_iff]; rfl
 | (c,d)::b,a,h=>by
  obtain⟨v,r,rfl,h1,h2⟩:=uI.cons_iff.mp h;rw[Cq,Cq,uI.any h2]
def uI.rep{H:Hp}{k:Key}(b:Rep H d v):∀{c:List (Key×Dt)}{a:List (Key×V)},uI H a c->uI H (a.map λe=>if e.1=k then(e.1,v) else e) (c.map λe=>if e.1=k then(e.1,d) else e)
 | [],_,h=>by rw[h.nil_iff]; rwa[.nil]
 | (f,g)::c,a,h=>by
  obtain⟨u,r,rfl,h1,h2⟩:=uI.cons_iff.mp h;rw[j8,j8];by_cases z:f=k
  ·rw[y6 z,y6 z];rwa[uI.cons_iff.mpr ⟨v,_,rfl,b,uI.rep b h2⟩]
  ·rw[y4 z,y4 z];rwa[uI.cons_iff.mpr ⟨u,_,rfl,h1,uI.rep b h2⟩]
def uI.app{H:Hp}{k:Key}(c:Rep H d v):∀{b:List (Key×Dt)}{a:List (Key×V)},uI H a b->uI H (a++[(k,v)]) (b++[(k,d)])
 | [],_,h=>by rw[h.nil_iff]; rwa[uI.cons_iff.mpr ⟨v,[],rfl,c,.nil⟩]
 | (e,f)::b,a,h=>by
  obtain⟨u,r,rfl,h1,h2⟩:=uI.cons_iff.mp h;rwa[uI.cons_iff.mpr ⟨u,_,rfl,h1,uI.app c h2⟩]
def uI.put{H:Hp}(h:uI H a c)(b:Rep H d v):uI H (rV a k v) (NM c k d):=by
 unfold rV NM;rw[h.any];split
 ·rwa[h.rep b]
 ·rwa[h.app b]
end Sea

namespace Sea
inductive Deed where
 | mark (n:i9) (x y:Int)
 | move (n:i9) (x y:Int)
 | unmark (n:i9)
 | bank (n:i9) (cs:List (Int×Int))
 | level (n:i9)
 | sail (x y:Int)
 | right (k x y:Int)
 | bearing (m:Int) (n:i9) (a b c d:Int)
 | range (m:Int) (l r:i9)
 | strike (k:Int)
def ptD(p:Int×Int):Dt:=.tup [.int p.1,.int p.2]
def Deed.dt:Deed->Dt
 | .mark n x y=>.tup [.str "mark",.str n,.int x,.int y]
 | .move n x y=>.tup [.str "move",.str n,.int x,.int y]
 | .unmark n=>.tup [.str "unmark",.str n]
 | .bank n e=>.tup [.str "bank",.str n,.tup (e.map ptD)]
 | .level n=>.tup [.str "level",.str n]
 | .sail x y=>.tup [.str "sail",.int x,.int y]
 | .right k x y=>.tup [.str "right",.int k,.int x,.int y]
 | .bearing m n a b c d=>.tup [.str "bearing",.int m,.str n,ptD (a,b),ptD (c,d)]
 | .range m l r=>.tup [.str "range",.int m,.str l,.str r]
 | .strike k=>.tup [.str "strike",.int k]
structure BS where
 marks:List (i9×Int×Int)
 banks:List (i9×List (Int×Int))
 runs:List (Int×Int)
 notes:List (Int×Deed)
 coming:Int
def BS.nil:BS:=⟨[],[],[],[],1⟩
def mkE(l:List (i9×Int×Int)):List (Key×Dt):=l.map λe=>(.inr e.1,ptD e.2)
def bkE(l:List (i9×List (Int×Int))):List (Key×Dt):=l.map λe=>(.inr e.1,.tup (e.2.map ptD))
def rnE(l:List (Int×Int)):List (Key×Dt):=l.zipIdx.map λe=>(.inl (e.2:Int),ptD e.1)
def ntE(l:List (Int×Deed)):List (Key×Dt):=l.map λe=>(.inl e.1,e.2.dt)
def stK(m b r n:c5)(k:Int):List (Key×V):=[(.inr "marks",.ref m),(.inr "banks",.ref b),(.inr "runs",.ref r),(.inr "notes",.ref n),(.inr "coming",.int k)]
structure StA(H:Hp)(d m b r n:c5)(S:BS):Prop where
 at_:Rd H d (.dK (stK m b r n S.coming))
 ma:yh H m (mkE S.marks)
 ba:yh H b (bkE S.banks)
 ru:yh H r (rnE S.runs)
 no:yh H n (ntE S.notes)
def cW(H:Hp)(d:c5)(S:BS):Prop:=∃ m b r n,StA H d m b r n S
def StA.to{H a:Hp}(h:StA H d m b r n S)(s:Sam H a):StA a d m b r n S:=⟨s.rd id h.at_,h.ma.to s,h.ba.to s,h.ru.to s,h.no.to s⟩
def cW.to{H a:Hp}(h:cW H d S)(s:Sam H a):cW a d S:=let ⟨m,b,r,n,q⟩:=h;⟨m,b,r,n,q.to s⟩
def zT(S:BS)(n:i9):Option (Int×Int):=(S.marks.find? λe=>decide (e.1=n)).map (·.2)
def jx{S:BS} : look (mkE S.marks) (.inr n)=(zT S n).map ptD:=by
 unfold look mkE zT;rw[List.find?_map];have e:((λe:Key×Dt=>decide (e.1=DU n)) ∘ λe:i9×Int×Int=>((DU e.1,ptD e.2):Key×Dt))=λe=>decide (e.1=n):=by
  funext e
  simp
 rw[e];cases S.marks.find? λe=>decide (e.1=n) <;> rfl
structure Few(S:BS):Prop where
 ma:S.marks.length<=60
 ba:S.banks.length<=60
 ru:S.runs.length<=60
 no:S.notes.length<=60
def qE(x:i9):Prop:=1<=x.length/\x.length<=8/\∀ c∈x.cps.toList,97<=c/\c<=122
def pY(p:Int×Int):Prop:=-1000<=p.1/\p.1<=1000/\-1000<=p.2/\p.2<=1000
def rz(p:Int×Int):Prop:=p≠(0,0)/\-100<=p.1/\p.1<=100/\-100<=p.2/\p.2<=100
def aft(S:BS):Deed->BS
 | .mark n x y=>{ S with marks:=S.marks++[(n,x,y)] }
 | .move n x y=>{ S with marks:=S.marks.map λe=>if e.1=n then(e.1,x,y) else e }
 | .unmark n=>{ S with marks:=S.marks.filter λe=>decide (e.1≠n) }
 | .bank n f=>{ S with banks:=S.banks++[(n,f)] }
 | .level n=>{ S with banks:=S.banks.filter λe=>decide (e.1≠n) }
 | .sail x y=>{ S with runs:=S.runs++[(x,y)] }
 | .right k x y=>{ S with runs:=S.runs.set k.toNat (x,y) }
 | .bearing m n a b c d=>{ S with notes:=S.notes++[(S.coming,.bearing m n a b c d)],coming:=S.coming+1 }
 | .range m l r=>{ S with notes:=S.notes++[(S.coming,.range m l r)],coming:=S.coming+1 }
 | .strike k=>{ S with notes:=S.notes.filter λe=>decide (e.1≠k) }
def QJ(S:BS):Deed->Prop
 | .bearing _ _ _ _ _ _=>True
 | .range _ l r=>∃ p u,zT S l=Js p/\zT S r=Js u/\p≠u
 | _=>False
def Zu(n:i9):Deed->Prop
 | .bearing _ k _ _ _ _=>k≠n
 | .range _ l r=>l≠n/\r≠n
 | _=>False
def isBk(a:List (Int×Int)):Bool:=isB (a.map λc=>(0,c))
def okD(S:BS):Deed->Prop
 | .mark n x y=>qE n/\zT S n=Jt/\pY (x,y)/\S.marks.length<20
 | .move n x y=>(zT S n).isSome=Ju/\pY (x,y)/\∀ e∈S.notes,QJ (aft S (.move n x y)) e.2
 | .unmark n=>(zT S n).isSome=Ju/\∀ e∈S.notes,Zu n e.2
 | .bank n f=>qE n/\n ∉ S.banks.map (·.1)/\(∀ c∈f,pY c)/\isBk f=Ju/\S.banks.length<8
 | .level n=>n∈S.banks.map (·.1)
 | .sail x y=>pY (x,y)/\S.runs.length<12
 | .right k x y=>0<=k/\k<S.runs.length/\pY (x,y)
 | .bearing m n a b c d=>0<=m/\m<=S.runs.length/\(zT S n).isSome=Ju/\rz (a,b)/\rz (c,d)/\0<a*d-b*c/\S.notes.length<24
 | .range m l r=>0<=m/\m<=S.runs.length/\(zT S l).isSome=Ju/\(zT S r).isSome=Ju/\zT S l≠zT S r/\S.notes.length<24
 | .strike k=>k∈S.notes.map (·.1)
def YX(S:BS):Prop:=∀ e∈S.notes,e.1<S.coming
def zh{es:List (Key×Dt)}{k:Key}(h:∀ e∈es,e.1≠k):NM es k d=es++[(k,d)]:=by
 unfold NM;rw[y4];intro z;obtain⟨e,a,q⟩:=DS.mp z;rwa[h e a (of_decide_eq_true q)]
def al(l:List (i9×Int×Int))(n:i9)(x y:Int):mkE (l++[(n,x,y)])=mkE l++[(.inr n,ptD (x,y))]:=by
 unfold mkE;rw[g5];rfl
def Rp(l:List (Int×Int))(x y:Int):rnE (l++[(x,y)])=rnE l++[(.inl (l.length:Int),ptD (x,y))]:=by
 unfold rnE;rw[List.zipIdx_append,g5];simp
def br(l:List (Int×Deed))(k:Int)(D:Deed):ntE (l++[(k,D)])=ntE l++[(.inl k,D.dt)]:=by
 unfold ntE;rw[g5];rfl
def TM : ∀ e∈rnE l,e.1≠.inl (l.length:Int):=λe b z=>by
 unfold rnE at b;obtain⟨q,d,rfl⟩:=o5.mp b;obtain⟨f,c⟩:=q;have:=List.snd_lt_of_mem_zipIdx d;have a:(Dj (c:Int):Key)=Dj (l.length:Int):=z;injection a with a
 simp at this;lia
def fh(h:YX S):∀ e∈ntE S.notes,e.1≠.inl S.coming:=λe b z=>by
 unfold ntE at b;obtain⟨q,c,rfl⟩:=o5.mp b;have:=h q c;have a:(Dj q.1:Key)=Dj S.coming:=z;injection a with a
 lia
def gJ(h:zT S n=Jt):∀ e∈mkE S.marks,e.1≠.inr n:=λe b z=>by
 unfold mkE at b;obtain⟨q,c,rfl⟩:=o5.mp b;have a:(DU q.1:Key)=DU n:=z;injection a with a
 unfold zT at h;rw[Fz,EK] at h;rwa[h q c (by simp[a])]
def TN(a b c d e:V):nj [] [(.inr "marks",a),(.inr "banks",b),(.inr "runs",c),(.inr "notes",d),(.inr "coming",e)]=[(.inr "marks",a),(.inr "banks",b),(.inr "runs",c),(.inr "notes",d),(.inr "coming",e)]:=by symm
def UK(a b c d e:V):nj [] [(.inr "marks",a),(.inr "banks",b),(.inr "runs",c),(.inr "notes",d),(.inr "next",e)]=[(.inr "marks",a),(.inr "banks",b),(.inr "runs",c),(.inr "notes",d),(.inr "next",e)]:=by symm
def yw{k:Int} : sV (stK m b r n k) (.inr "marks")=Js (.ref m):=by symm
def ou{k:Int} : sV (stK m b r n k) (.inr "runs")=Js (.ref r):=by symm
def gC{k:Int} : sV (stK m b r n k) (.inr "notes")=Js (.ref n):=by symm
def ji{k:Int} : sV (stK m b r n k) (.inr "coming")=Js (.int k):=by symm
def WY{k:Int} : rV (stK m b r n k) (.inr "marks") (.ref c)=stK c b r n k:=by symm
def UA{k:Int} : rV (stK m b r n k) (.inr "runs") (.ref c)=stK m b c n k:=by symm
def VL{k:Int} : rV (stK m b r n k) (.inr "notes") (.ref c)=stK m b r c k:=by symm
def YA{k j:Int} : rV (stK m b r n k) (.inr "coming") (.int j)=stK m b r n j:=by symm
def Rd.same{H b:Hp}(h:Rd H a u)(s:Same H b):Rd b a u:=h.imp (s _ _) λ⟨o,e⟩=>⟨o,s _ _ e⟩
def yh.nil{H:Hp}(h:H a=Js (.dK [])):yh H a []:=⟨[],.inl h,.nil⟩
def kO{H:Hp}(h:Rep H (ptD p) v):∃ a,v=.ref a/\H a=Js (.tup [.int p.1,.int p.2]):=by
 obtain⟨a,xs,e,h1,h2⟩:=tQ.mp h;obtain⟨x,r,rfl,h3,h4⟩:=zN.mp h2;obtain⟨y,b,rfl,h5,h6⟩:=zN.mp h4;rw[xV.mp h3,xV.mp h5,yN.mp h6] at h1;rwa[a,e,h1]
def se{H:Hp}{p:Int×Int}(h:H a=Js (.tup [.int p.1,.int p.2])):Rep H (ptD p) (.ref a):=tQ.mpr ⟨a,_,rfl,h,.two (xV.mpr rfl) (xV.mpr rfl)⟩
section
variable{H:Hp}{v:V}
def aA{x y:Int}(h:Rep H (Deed.mark n x y).dt v):∃ a,v=.ref a/\H a=Js (.tup [.str "mark",.str n,.int x,.int y]):=by
 obtain⟨a,xs,e,h1,h2⟩:=tQ.mp h;obtain⟨_,_,rfl,f,h2⟩:=zN.mp h2;obtain⟨_,_,rfl,d,h2⟩:=zN.mp h2;obtain⟨_,_,rfl,c,h2⟩:=zN.mp h2;obtain⟨_,_,rfl,b,h2⟩:=zN.mp h2;rw[xR.mp f,xR.mp d,xV.mp c,xV.mp b,yN.mp h2] at h1;rwa[a,e,h1]
def bR{x y:Int}(h:Rep H (Deed.sail x y).dt v):∃ a,v=.ref a/\H a=Js (.tup [.str "sail",.int x,.int y]):=by
 obtain⟨a,xs,e,h1,h2⟩:=tQ.mp h;obtain⟨_,_,rfl,d,h2⟩:=zN.mp h2;obtain⟨_,_,rfl,c,h2⟩:=zN.mp h2;obtain⟨_,_,rfl,b,h2⟩:=zN.mp h2;rw[xR.mp d,xV.mp c,xV.mp b,yN.mp h2] at h1;rwa[a,e,h1]
def qT{m:Int}{a b c d:Int}(h:Rep H (Deed.bearing m n a b c d).dt v):∃ t p q,v=.ref t/\H t=Js (.tup [.str "bearing",.int m,.str n,.ref p,.ref q])/\H p=Js (.tup [.int a,.int b])/\H q=Js (.tup [.int c,.int d]):=by
 obtain⟨t,xs,e,h1,h2⟩:=tQ.mp h;obtain⟨_,_,rfl,l,h3⟩:=zN.mp h2;obtain⟨_,_,rfl,j,h4⟩:=zN.mp h3;obtain⟨_,_,rfl,i,h5⟩:=zN.mp h4;obtain⟨_,_,rfl,g,h6⟩:=zN.mp h5;obtain⟨_,_,rfl,f,h7⟩:=zN.mp h6;obtain⟨p,rfl,r⟩:=kO g;obtain⟨q,rfl,o⟩:=kO f;have s:=yN.mp h7;rw[xR.mp l,xV.mp j,xR.mp i,s] at h1;rwa[t,p,q,e,h1,r,o]
def pE{m:Int}(h:Rep H (Deed.range m l r).dt v):∃ t,v=.ref t/\H t=Js (.tup [.str "range",.int m,.str l,.str r]):=by
 obtain⟨t,xs,e,h1,h2⟩:=tQ.mp h;obtain⟨_,_,rfl,d,h2⟩:=zN.mp h2;obtain⟨_,_,rfl,c,h2⟩:=zN.mp h2;obtain⟨_,_,rfl,b,h2⟩:=zN.mp h2;obtain⟨_,_,rfl,a,h2⟩:=zN.mp h2;rw[xR.mp d,xV.mp c,xR.mp b,xR.mp a,yN.mp h2] at h1;rwa[t,e,h1]
end
def XR(c:Deed->Prop):Sp:=λe H Q _=>E4 λ(d:c5) (v:V) (S:BS) (D:Deed)=>A8 (e=[.ref d,v]) (c D) (cW H d S) (Rep H D.dt v) (okD S D) (Few S) (YX S) (∀(a:c5)(b:Hp),Sam H b->H a=Jt->cW b a (aft S D)->Q (.ref a) b)
def StA.stKlen{k:Int} : (stK m b r n k).length<=100:=by show 5<=100; decide
def uI.le{H:Hp}(h:uI H a b){n:Nat}(c:b.length<=n):a.length<=n:=by rw[h.length]; rwa[c]
def fj(l:List (i9×Int×Int)):(mkE l).length=l.length:=by unfold mkE; rw[ac]
def fS(l:List (Int×Int)):(rnE l).length=l.length:=by unfold rnE; rw[ac,List.length_zipIdx]
def VA(l:List (Int×Deed)):(ntE l).length=l.length:=by unfold ntE; rw[ac]
end Sea

namespace Sea
def bkF(d p l:c5):List (i9×V):=[("state",.ref d),("past",.ref p),("later",.ref l)]
def vw : (bkF d p l).lookup ("state" : i9)=Js (.ref d):=by symm
def Qz : (bkF d p l).lookup ("past" : i9)=Js (.ref p):=by symm
def dO : md "state" (.ref c) (bkF d p l)=bkF c p l:=by symm
def fX : md "later" (.ref c) (bkF d p l)=bkF d p c:=by symm
def Ra : md "later" (.ref l) (md "past" (.ref p) (md "state" (.ref d) []))=bkF d p l:=by symm
def tJ(H:Hp):List (Deed×BS)->List V->Prop
 | [],xs=>xs=[]
 | (D,S)::r,xs=>∃(t d:c5)(v:V)(a:List V),xs=.ref t::a/\H t=Js (.tup [v,.ref d])/\Rep H D.dt v/\cW H d S/\tJ H r a
structure BkA(C:c5)(H:Hp)(b p dx d l:c5)(ps ls:List V)(S:BS)(past later:List (Deed×BS)):Prop where
 ob:H b=Js (.ins C dx (bkF d p l))
 st:cW H d S
 pa:H p=Js (.lst ps)
 la:H l=Js (.lst ls)
 pp:tJ H past ps
 ll:tJ H later ls
 ne:l≠p
def oJ(C:c5)(H:Hp)(b p:c5)(S:BS)(past later:List (Deed×BS)):Prop:=∃ dx d l a c,BkA C H b p dx d l a c S past later
section
variable{φ:c5->Prop}{H H1:Hp}
def yh.samE(h:yh H a c)(s:tZ φ H H1)(nd:∀ a b,Rd H a (.dK b)->¬ φ a)(d:∀ a xs,H a=Js 'w'->¬ φ a):yh H1 a c:=let ⟨b,h1,h2⟩:=h;⟨b,s.rd (nd _ _ h1) h1,h2.sam s d⟩
def cW.samE(h:cW H d S)(s:tZ φ H H1)(nd:∀ a e,Rd H a (.dK e)->¬ φ a)(c:∀ a xs,H a=Js 'w'->¬ φ a):cW H1 d S :=
 let ⟨m,b,r,n,q⟩:=h;⟨m,b,r,n,s.rd (nd _ _ q.at_) q.at_,q.ma.samE s nd c,q.ba.samE s nd c,q.ru.samE s nd c,q.no.samE s nd c⟩
def tJ.samE(s:tZ φ H H1)(nd:∀ a c,Rd H a (.dK c)->¬ φ a)(b:∀ a xs,H a=Js 'w'->¬ φ a):∀{l:List (Deed×BS)}{xs:List V},tJ H l xs->tJ H1 l xs
 | [],_,h=>h
 | (D,S)::r,xs,h=>by
  obtain⟨t,d,v,f,e,h1,h2,h3,h4⟩:=h;rwa[t,d,v,f,e,s.tup (b _ _ h1) h1,h2.sam s b,h3.samE s nd b,tJ.samE s nd b h4]
def tJ.app{D:Deed}{v:V}(h1:H t=Js (.tup [v,.ref d]))(h2:Rep H D.dt v)(h3:cW H d S):∀{l:List (Deed×BS)}{xs:List V},tJ H l xs->tJ H (l++[(D,S)]) (xs++[.ref t])
 | [],xs,h=>by
  have h:xs=[]:=h;rw[h];rwa[t,d,v,[],rfl,h1,h2,h3,rfl]
 | (D',n)::r,xs,h=>by
  obtain⟨b,j,a,m,e,i,g,f,c⟩:=h;rw[e];rwa[b,j,a,_,rfl,i,g,f,tJ.app h1 h2 h3 c]
def tJ.len:∀{l:List (Deed×BS)}{xs:List V},tJ H l xs->xs.length=l.length
 | [],xs,h=>by have h:xs=[]:=h; rw[h]; rfl
 | (D,S)::r,xs,h=>by
  obtain⟨t,d,v,a,e,_,_,_,h4⟩:=h;rw[e,i4,i4,tJ.len h4]
abbrev Bp(b p:c5):c5->Prop:=λx=>x=b\/x=p
def QF(e:H b=Js (.ins C dx fs))(d:H p=Js (.lst f)):∀ a c,Rd H a (.dK c)->¬ Bp b p a:=λa c h z=>by
 rcases z with z | z <;> subst z <;> rcases h with h | ⟨o,h⟩
 ·rw[e] at h; cases h
 ·rw[e] at h; cases h
 ·rw[d] at h; cases h
 ·rw[d] at h; cases h
def Qr(e:H b=Js (.ins C dx fs))(d:H p=Js (.lst c)):∀ a xs,H a=Js 'w'->¬ Bp b p a:=λa xs h z=>by
 rcases z with z | z <;> subst z
 ·rw[e] at h; cases h
 ·rw[d] at h; cases h
def BkA.to(k:BkA C H b p dx d l a c S past later)(s:Sam H H1):BkA C H1 b p dx d l a c S past later :=
 ⟨s.ins id k.ob,k.st.to s,s.lst id k.pa,s.lst id k.la,k.pp.samE s (λ_ _ _=>id) (λ_ _ _=>id),k.ll.samE s (λ_ _ _=>id) (λ_ _ _=>id),k.ne⟩
def oJ.to(k:oJ C H b p S past later)(s:Sam H H1):oJ C H1 b p S past later:=let ⟨dx,d,l,ps,ls,q⟩:=k;⟨dx,d,l,ps,ls,q.to s⟩
def ak{m:i9}(h1:m ≠ "state")(h2:m ≠ "past")(h3:m ≠ "later"):(bkF d p l).lookup m=none:=by
 unfold bkF;rw[t9,x5.mpr h1,t9,x5.mpr h2,t9,x5.mpr h3];rfl
end
end Sea

namespace Sea
def abc:i9 := "abcdefghijklmnopqrstuvwxyz"
def Ue:abc.cps.toList=(Aw 26).map (97 + ·):=by ac_nf
def Sr{i:Int}(h0:0<=i)(h1:i<26):atI abc.cps.toList i=Js (97+i.toNat):=by
 obtain⟨n,rfl⟩:=CA h0;erw[rE ?_];rw[Ue,e7,List.getElem?_range (by lia)];rfl
def chS(c:Nat):i9:=⟨#[c]⟩
def txt(l:List Nat):i9:=⟨l.toArray⟩
def zc(l:List Nat):(txt l).length=l.length:=by
 show l.toArray.size=_;rwa[f7]
def Pz(h:txt l=txt m):l=m:=by
 have:=congrArg (λx:i9=>x.cps.toList) h;simpa [txt] using this
def fJ(l m:List Nat):txt l++txt m=txt (l++m):=by
 show(⟨l.toArray++m.toArray⟩:i9)=⟨(l++m).toArray⟩;rw[List.append_toArray]
def Vo:∀ l:List Nat,Fk "" (l.map chS)=txt l
 | []=>rfl
 | [c]=>rfl
 | c::d::l=>by
  show chS c++("" : i9)++Fk "" ((d::l).map chS)=_;rw[Vo (d::l)];show txt [c]++txt []++txt (d::l)=_;rw[fJ,fJ];rfl
def UU(l:List Nat):Fa "" (l.map chS)=txt l:=by
 rw[Eo];rwa[Vo l]
def Yc(l:List Nat):mH "" (l.map chS)=l.length:=by
 unfold mH;rw[show("" : i9).length=0 from by decide,Nat.mul_zero,Nat.add_zero]
 induction l with
 | nil=>rfl
 | cons c l a =>
  rw[j8,j8,Gk,a,i4];show 1+l.length=_;lia
def YU(l:List Nat)(k:Nat)(h:k<=l.length):C9 (txt l) Jt (Js (k:Int))=txt (l.take k):=by
 have e:BY Jt (Js (k:Int)) 1 (txt l).length=Aw k:=by
  unfold BY sliceRange;rw[zc];have d:¬ ((k:Int)<0):=by lia
  have c2:max 0 (min (k:Int) (l.length:Int))=k:=by lia
  simp only[d,if_false,show(1:Int)>0 by decide,if_true,c2];by_cases z:(0:Int)<k
  ·rw[y6 z];have c3:(((k:Int)-0+1-1)/1).toNat=k:=by lia
   rw[c3];erw[C8 'd' λi h1 h2=>?_];simp
  ·have b:k=0:=by lia
   subst b;simp
 unfold C9;rw[e,DG,zc];by_cases c:k=l.length
 ·rw[y6 (by simp[c]),Bb (by lia)]
 ·rw[y4 (by simp; rwa[c])];show(⟨_⟩:i9)=⟨_⟩
  congr 1
  congr 1
  refine DE λi=>?_;rw[Bx];have h2:(Aw k).filterMap (λj=>(txt l).cps[j]?)=l.take k:=by
   have:∀ m,m<=l.length->(Aw m).filterMap (λj=>(txt l).cps[j]?)=l.take m:=by
    intro m
    induction m with
    | zero=>intro _; simp
    | succ m a =>
     intro f;rw[Hx,FP,a (by lia),Az]
     congr 1
     rw[d6 (by lia)];simp[txt,BD,show m<l.length by lia]
   rwa[this k h]
  rw[h2,Bx]
def Yt(l:List Nat)(k:Nat)(h:k<=l.length):C9 (txt l) (Js (k:Int)) Jt=txt (l.drop k):=by
 have e:BY (Js (k:Int)) Jt 1 (txt l).length=(Aw (l.length-k)).map (k + ·):=by
  unfold BY sliceRange;rw[zc];have d:¬ ((k:Int)<0):=by lia
  have c2:max 0 (min (k:Int) (l.length:Int))=k:=by lia
  simp only[d,if_false,show(1:Int)>0 by decide,if_true,c2];by_cases z:(k:Int)<l.length
  ·rw[y6 z];have c3:(((l.length:Int)-k+1-1)/1).toNat=l.length-k:=by lia
   rw[c3];erw[C8 'd' λi h1 h2=>?_];simp;lia
  ·have b:l.length-k=0:=by lia
   rw[y4 z,b];rfl
 unfold C9;rw[e,ac,DG,zc];by_cases c:k=0
 ·subst c;rw[y6 'd'];rfl
 ·by_cases f:l.length=0
  ·have:l=[]:=Dz.mp f;subst this;rw[y6 'd'];rw[List.drop_nil]
  rw[y4 (by simp; lia)];show(⟨_⟩:i9)=⟨_⟩
  congr 1
  congr 1
  have:∀ m,m<=l.length-k->((Aw m).map (k + ·)).filterMap (λj=>(txt l).cps[j]?)=(l.drop k).take m:=by
   intro m
   induction m with
   | zero=>intro _; simp
   | succ m a =>
    intro g;rw[Hx,g5,FP,a (by lia),Az]
    congr 1
    rw[List.getElem?_drop,d6 (by lia)];simp[txt,BD,show k+m<l.length by lia]
  rw[this _ (e9 _),Bb 'd']
def Te{l:List Nat}{p c:Nat}(h:p<l.length):l.take p++[c]++l.drop (p+1)=l.set p c:=by
 rw[List.set_eq_take_append_cons_drop,y6 h];simp
def UL{l:List Nat}{p c:Nat}(h:p<l.length):C9 (txt l) Jt (Js (p:Int))++chS c++C9 (txt l) (Js ((p:Int)+1)) Jt=txt (l.set p c):=by
 rw[YU l p (by lia),show((p:Int)+1)=((p+1:Nat):Int) from rfl,Yt l (p+1) (by lia)];show txt _++txt [c]++txt _=_;rw[fJ,fJ,Te h]
def Yl{l:List Nat}(h1:1<=l.length)(h8:l.length<=8)(h:∀ c∈l,97<=c/\c<=122):qE (txt l):=⟨by rw[zc]; exact h1,by rw[zc]; exact h8,λc a=>h c (by simpa [txt] using a)⟩
def Ru{l:List Nat}{p r:Nat}(f:p<l.length){ws:List i9}(i:ws.length<26):¬ ∀ j,j<26->txt (l.set p (97+(r+j)%26))∈ws:=λh=>by
 have nd:((Aw 26).map λj=>txt (l.set p (97+(r+j)%26))).Nodup:=by
  erw[BC.mpr (Ai.mpr ?_)];erw[Bt ?_ (BC.mp List.nodup_range)];intro a b d c ne z;have d:=B5.mp d;have c:=B5.mp c;have z:=Pz z;have z:=congrArg (λm:List Nat=>m[p]?) z;simp only[CH f,Fb] at z;lia
 have:=nd.length_le_of_subset (l₂:=ws) λx e=>by
  obtain⟨j,g,rfl⟩:=o5.mp e;rwa[h j (B5.mp g)]
 rw[ac,DG] at this;lia
def Qm(x y:i9):eqV (.str x) (.str y)=decide (x=y):=by
 unfold eqV
 first
  | rfl
  | simp
  | (by_cases h:x=y <;> simp[h])
def Ri(x:i9)(ns:List i9):inV (.str x) (ns.map V.str)=decide (x∈ns):=by
 unfold inV
 induction ns with
 | nil=>simp
 | cons y ns a =>
  rw[j8,Cq,a,Qm];by_cases h:x=y
  ·subst h; simp
  ·simp[h,Bk h]
def Wa(ns:List i9):(ns.map V.str).all gF=true:=by
 rw[DJ];rwa[Ag.mpr λ_ _=>rfl]
end Sea

namespace Sea
def lwK(m b r n:c5)(k:Int):List (Key×V):=[(.inr "marks",.ref m),(.inr "banks",.ref b),(.inr "runs",.ref r),(.inr "notes",.ref n),(.inr "next",.int k)]
section
variable{m b r n c:c5}{k j:Int}
def zu:sV (lwK m b r n k) (.inr "marks")=Js (.ref m):=by symm
def TH:sV (lwK m b r n k) (.inr "banks")=Js (.ref b):=by symm
def oK:sV (lwK m b r n k) (.inr "runs")=Js (.ref r):=by symm
def fc:sV (lwK m b r n k) (.inr "notes")=Js (.ref n):=by symm
def jn:sV (lwK m b r n k) (.inr "next")=Js (.int k):=by symm
def lv:rV (lwK m b r n k) (.inr "next") (.int j)=lwK m b r n j:=by symm
end
structure LwA(H:Hp)(d m b r n:c5)(S:BS):Prop where
 at_:Rd H d (.dK (lwK m b r n S.coming))
 ma:yh H m (mkE S.marks)
 ba:yh H b (bkE S.banks)
 ru:∃ rs,H r=Js (.lst rs)/\wH H (S.runs.map ptD) rs
 no:yh H n (ntE S.notes)
def XG(H:Hp)(d:c5)(S:BS):Prop:=∃ m b r n,LwA H d m b r n S
section
variable{φ:c5->Prop}{H H1:Hp}{d m b r n:c5}{S:BS}
def LwA.samE(h:LwA H d m b r n S)(s:tZ φ H H1)(nd:∀ a e,Rd H a (.dK e)->¬ φ a)(c:∀ a xs,H a=Js 'w'->¬ φ a)(f:∀ xs,H r=Js (.lst xs)->¬ φ r):LwA H1 d m b r n S :=
 ⟨s.rd (nd _ _ h.at_) h.at_,h.ma.samE s nd c,h.ba.samE s nd c,let ⟨rs,h1,h2⟩:=h.ru;⟨rs,s.lst (f _ h1) h1,h2.sam s c⟩,h.no.samE s nd c⟩
def LwA.to(h:LwA H d m b r n S)(s:Sam H H1):LwA H1 d m b r n S:=h.samE s (λ_ _ _=>id) (λ_ _ _=>id) (λ_ _=>id)
def XG.to(h:XG H d S)(s:Sam H H1):XG H1 d S:=let ⟨m,b,r,n,q⟩:=h;⟨m,b,r,n,q.to s⟩
def wH.drop:∀{l:List Dt}{xs:List V}(k:Nat),wH H l xs->wH H (l.drop k) (xs.drop k)
 | _,_,0,h=>h
 | [],_,k+1,h=>by rw[yN.mp h]; rwa[yN.mpr rfl]
 | d::l,_,k+1,h=>by
  obtain⟨x,r,e,_,h2⟩:=zN.mp h;rw[e];rwa[wH.drop k h2]
def wH.take:∀{l:List Dt}{xs:List V}(k:Nat),wH H l xs->wH H (l.take k) (xs.take k)
 | _,_,0,h=>yN.mpr rfl
 | [],_,k+1,h=>by rw[yN.mp h]; rwa[yN.mpr rfl]
 | d::l,_,k+1,h=>by
  obtain⟨x,r,e,h1,h2⟩:=zN.mp h;rw[e];rwa[zN.mpr ⟨x,_,rfl,h1,wH.take k h2⟩]
def gE{c:List (Int×Int)}{i:Nat}(h:wH H (c.map ptD) xs)(e:xs[i]?=Js x):∃(p:Int×Int)(a:c5),c[i]?=Js p/\x=.ref a/\H a=Js (.tup [.int p.1,.int p.2]):=by
 obtain⟨d,g,hd⟩:=h.back e;rw[e7,x6] at g;obtain⟨p,f,rfl⟩:=g;obtain⟨a,l,j⟩:=kO hd;rwa[p,a,f,l,j]
end
def ZO{xs:List V}{i j:Nat}(a:j<=xs.length)(hi:i<=xs.length):qH xs (Js (i:Int)) (Js (j:Int))=(xs.drop i).take (j-i):=by
 unfold qH;rw[HT.sIx_nat,HT.sIx_nat,Do hi,Do a]
def qZ(runs:List (Int×Int))(i j:Nat):List (Int×Int):=(runs.drop (min i j)).take (max i j-min i j)
def tE(i j:Nat):Int:=if j<i then -1 else 1
def yT(runs:List (Int×Int))(i j:Nat):Int×Int:=(tE i j*((qZ runs i j).map (·.1)).sum,tE i j*((qZ runs i j).map (·.2)).sum)
def si(runs:List (Int×Int))(i j:Nat):(qZ runs i j).length<=runs.length:=by
 unfold qZ;rw[o3,Ak];lia
def kG:∀(l:List Int)(M:Nat),(∀ x∈l,x.natAbs<=M)->l.sum.natAbs<=l.length*M
 | [],_,_=>by simp
 | x::l,M,h=>by
  have b:=kG l M λy a=>h y (.tail _ a);have c:=h x (.head _);rw[Gk,i4,Jb,Jc];have:=BB x l.sum;lia
end Sea

namespace L2
def YV{ns:List i9} : ∀{a:List c7},yQ (ns.map V.str) a->StrsAre a ns:=by
 induction ns with
 | nil=>intro a r; rw[El] at r; cases r; rwa[.nil]
 | cons n ns d =>
  intro a r;rw[j8] at r;cases r with
  | cons c b =>
   obtain⟨t,e⟩:=c;subst e;rwa[.cons n t (d b)]
def PN:∀{a:List c7}{ns:List i9},StrsAre a ns->yQ (ns.map V.str) a
 | _,_,.nil=>.nil
 | _,_,.cons n t h=>.cons ⟨t,rfl⟩ (PN h)
section
variable{X:Cx}
def ny:vA X (.builtin "sorted") (λxs H Q=>E2 λ(l:c5) (ns:List i9)=>A4 (xs=[.ref l]) (SqL X.K H l (ns.map V.str)) (ns.length<64) (∀(p:c5)(c:List i9),H p=Jt->c.Perm ns->sortedS c=Ju->Q (.ref p) (upd H p (.lst (c.map V.str))))):=by
 intro y s v H xs w Q I r h;obtain⟨l,ns,rfl,j,f,q⟩:=h;obtain⟨u,rfl,ru⟩:=yQ.one r;cases ru;obtain⟨d,g,i,x⟩:=I.list j;have m:=g.length;rw[ac] at m;erw[sorted_strs (ss:=ns) i.isList (YV g) (by lia) λout c a1 a2 n=>?_];obtain⟨e,at'⟩:=sortedAll_at s.heap d out;have fr:H 'c'=none:=I.hok.fresh (Bc _);erw[.ref 'c',_,I.laid (t':=s.toks) (a:=s.heap.objs.size+1) (o:=.lst (c.map V.str)) (λb ob q=>sortedAll_old q) (Bc _) ?_,rfl,q _ c fr a2 n];refine⟨?_,out.toList,e,PN a1,by simpa using at'⟩;rw[ac,a2.length_eq];rwa[d9 (AC f) (by rw[sizeLine_eq]; decide)]
end
def dG(v d:c5)(h:Ae):Prop:=h.IsItemsView v d
section
variable{X:Cx}{l:Av}{te:TE}{apos pos:Dg}
def Pa(te:TE):TE:=λc H Q=>te c H λx b=>E2 λ(d:c5) (a:List (Key×V))=>A3 (x=.ref d) (Rd b d (.dK a)) (∀ v,b v=Jt->Q (.ref v) (upd b v (.ext (dG v d))))
def Tl(y:PE X l te)(g:attributeBase l "items" X.env (eval l X.env)=eval l X.env:=by rfl)(f:(apos.endLine == pos.line)=true:=by rfl):PE X (.Call (.Attribute l "items" apos) [] [] pos) (Pa te):=by
 intro z s n H Q I h;erw[GR (T := "dict") (id := "dict.items") g rfl f F.plainAttrs_dict GS F.type_dict_items (thn (y z s n H _ I h) λv i ⟨x,B,m,r,d,u,e,hd,q⟩=>?_)];subst e;cases r;obtain⟨A,ns,p,rel,j⟩:=hd.ok m.hok;exists j.typeIs,j.mapOf.noDict;show wpAny _ _ (callWith pos (.builtin "dict.items") [.ref d] [] []) _ _ i;erw[method_meetsIn GS F.entry_dict_items rfl (PySem.evalArgs_none ⟨rfl,j.typeIs,F.args_dict_items_1 _,_,meets_dict_items (yP X.prog X.w) d ns,⟨p,j⟩,?_⟩)];erw[.ref i.heap.objs.size,_,m.laid (t':=i.toks) (a:=i.heap.objs.size) (o:=.ext (dG i.heap.objs.size d)) (λb o e=>c8 _ e) (e9 _) ⟨⟨_,j9 _ rfl,rfl,rfl⟩,⟨_,j9 _ rfl⟩,λh1 h2 ⟨o,e,c⟩ k=>⟨o,k o e,c⟩⟩,rfl,q _ (m.hok.fresh (e9 _))]
end
def Inv.more{j:St}{H:Hp}(I:Inv X i j H s)(f:Xo X i H a)(new:uH X.prog X.w (upd H a o) s.heap a o):Inv X i j (upd H a o) s:=by
 obtain⟨D,C,E,B,A,y⟩:=f;have d:∀{b:c5}{u:HO},H b=Js u->upd H a o b=Js u:=λ{b u} e=>by
  rw[zH (λz=>by rw[z,D] at e; cases e)];rwa[e]
 have g:∀{b:c5},b≠a->H b=Jt->upd H a o b=none:=λ{b} n e=>by rw[zH n]; rwa[e]
 have lo:∀{b:c5}{u:By},X.s₀.heap.get? b=Js u->b ∉ X.ex->b≠a:=λ{b u} e h z=>by
  rcases B with q | q
  ·rwa[h (by rw[z]; exact q)]
  ·rwa[y9 (i5 e) (Nat.not_lt.mpr (by rw[z]; exact q))]
 refine⟨I.ok,I.os,I.bare,⟨I.base.keep,I.base.slot,λb u e n h=>g (lo e h) (I.base.free b u e n h),I.base.there,λb xs e=>d (I.base.tups b xs e),λb u v e=>d (I.base.frzs b u v e),
  λb r e=>let ⟨more,q⟩:=I.base.tbls b r e;⟨more,d q⟩⟩,I.loc,I.cell,g (Bk C) I.free,λx c e=>g (A x c e) (I.freeC x c e),λp l=>?_,λb u e=>?_,I.len⟩
 ·obtain⟨h1,h2,h3⟩:=I.pin p l;rwa[h1,g (y p l) h2,h3]
 ·by_cases m:b=a
  ·subst m;rw[zA] at e;cases e;rwa[new]
  ·rw[zH m] at e;exact(I.hok b u e).stay (λc v _ q=>q) (λc q=>d q) λc xs q=>d q
section
open PySem.W
variable{prog:o7}{w:w9}{A:An}{E:c7->d7->Prop}{s:d7}
def XV{a:Nat->Nat->(Bool->d7->Prop)->d7->Prop}{p:Array Nat}{Q:Nat->d7->Prop} : ∀(f m:Nat),(∀ i,m<=i->i<m+f->∀ C:Bool->d7->Prop,C Jv s->a (p.getD i 0) (p.getD (i-1) 0) C s)->Q (m+f) s->(kas_asc p f m).kasWp a Q s
 | 0,m,_,h=>h
 | f+1,m,b,h=>by
  erw[b m (e9 _) (by lia) _ ?_];show(if Jv=Ju then KasT.ret m else kas_asc p f (m+1)).kasWp a Q s;rw[y4 'd'];exact XV f (m+1) (λi h1 h2=>b i (by lia) (by lia)) (by rw[show m+1+f=m+(f+1) by lia]; rwa[h])
def aV{c:Nat->Nat->(Bool->d7->Prop)->d7->Prop}{n:Nat}{Q:Array Nat->d7->Prop}(h1:1<=n)(d:∀ i,1<=i->i<n->∀ C:Bool->d7->Prop,C Jv s->c i (i-1) C s)(h:Q (Aj (Aw n)) s) :
  (kas_sort n).kasWp c Q s:=by
 have g:∀{i:Nat},i<n->(Aj (Aw n)).getD i 0=i:=λ{i} hi=>by simp[hi]
 unfold kas_sort kas_count;rw[Hy,Hy];erw[XV (n-1) 1 (λi a b=>?_) ?_]
 ·rw[g (by lia),g (by lia)];rwa[d i a (by lia)]
 ·rw[show 1+(n-1)=n by lia,y6 'd'];show(if n<n then _ else KasT.ret (Aj (Aw n))).kasWp c Q s;rw[y4 (AM _)];rwa[h]
def nE{d:List c7}{n:Nat}{P:ID->d7->Prop}(x:s.heap.get? a=Js (seqObj "list" d.toArray n))(I:d.length<64)
  (N:∀ l:Ae,(∀ b o,b≠a->s.heap.get? b=Js o->l.get? b=Js o)->2<=d.length->∃ m:FY,(∀ Q:FY->d7->Prop,Q m { s with heap:=l }->wpAny 'k' A (keyKind' d.toArray) Q E { s with heap:=l }) /\
   ∀ i,1<=i->i<d.length->∀ C:Bool->d7->Prop,C Jv { s with heap:=l }->kas_ask prog w A m d i (i-1) C { s with heap:=l })
  (h:∀(l:Ae)(c:Nat),(∀ b o,b≠a->s.heap.get? b=Js o->l.get? b=Js o)->l.get? a=Js (seqObj "list" d.toArray c)->P (.done (.ret .none)) { s with heap:=l }) :
  wpAny 'k' A (Eh.«list.sort» ⟨[.ref a],[]⟩) P E s:=by
 have Y:a<s.heap.objs.size:=i5 x;obtain⟨L,u⟩:∃ L,(s.heap.update a (t5 λ_=>(#[]:Array c7))).get? a=Js (seqObj "list" #[] L):=⟨_,get?_update_seq x λ_=>#[]⟩;rw[list_sort_plain];refine c6 (listItems_at x rfl ?_);refine c6 (listUpdate_at x rfl ?_ (by rw[f7,sizeLine_eq]; lia) (Aa _));refine c6 (seqEpoch_at u rfl ?_);refine c6 (FZ ?_ (by show d.length<=_; rw[sizeLine_eq]; lia));refine c6 (Di ?_ (Aa _));refine Bz ?_;have g:(((s.heap.update a (t5 λ_=>#[])).push (seqObj "tuple" d.toArray 0)).push (seqObj "list" #[] 0)).get? a=Js (seqObj "list" #[] L):=c8 _ (c8 _ u);have kp:∀ b o,b≠a->s.heap.get? b=Js o->(((s.heap.update a (t5 λ_=>#[])).push (seqObj "tuple" d.toArray 0)).push (seqObj "list" #[] 0)).get? b=Js o:=λb o y e =>
  c8 _ (c8 _ ((AK _ _ (Bk y)).trans e))
 have J:∀ c,(((((s.heap.update a (t5 λ_=>#[])).push (seqObj "tuple" d.toArray 0)).push (seqObj "list" #[] 0)).update a (t5 λ_=>d.toArray))).get? a=Js (seqObj "list" d.toArray c)->P (.done (.ret .none)) { s with heap:=((((s.heap.update a (t5 λ_=>#[])).push (seqObj "tuple" d.toArray 0)).push (seqObj "list" #[] 0)).update a (t5 λ_=>d.toArray)) }:=λc e =>
  h _ c (λb o y q=>(AK _ _ (Bk y)).trans (kp b o y q)) e
 obtain⟨c2,H⟩:∃ c2,(((((s.heap.update a (t5 λ_=>#[])).push (seqObj "tuple" d.toArray 0)).push (seqObj "list" #[] 0)).update a (t5 λ_=>d.toArray))).get? a=Js (seqObj "list" d.toArray c2):=⟨_,get?_update_seq g λ_=>d.toArray⟩;have done:=J c2 H;show wpAny 'k' A _ P E { s with heap:=((s.heap.update a (t5 λ_=>#[])).push (seqObj "tuple" d.toArray 0)).push (seqObj "list" #[] 0) };dsimp only;have B:d.toArray.size=d.length:=by simp
 by_cases h2:d.toArray.size<2
 ·rw[y6 h2,y6 h2];refine c6 (f8 ?_);rw[FG];refine c6 (f8 ?_);dsimp only;have em:(d.toArray.zip d.toArray).map (·.2)=d.toArray:=by
   apply Fg.mp;simp;rwa[Ha (e9 _)]
  erw[c6 (seqEpoch_at g rfl ?_)];refine c6 (listUpdate_at g rfl ?_ (hsz2:=by rw[HK]; show(pairsOf d).size<=_; rw[pairsOf_size,sizeLine_eq]; lia));simp only[bne_self_eq_false,Bh,if_false];erw[f8 ?_];show P _ { s with heap:=Heap.update _ a (t5 λ_=>(d.toArray.zip d.toArray).map (·.2)) };rw[em];rwa[done]
 ·rw[y4 h2,y4 h2];have v:2<=d.length:=by lia
  obtain⟨m,z,D⟩:=N _ kp v;refine c6 (z _ ?_);refine c6 (Bw (kat_run (s:={ s with heap:=((s.heap.update a (t5 λ_=>#[])).push (seqObj "tuple" d.toArray 0)).push (seqObj "list" #[] 0) }) (κ:=m) (ks:=d) (vs:=d)
   (G:=λp r=>p=Aj (Aw d.length)/\r={ s with heap:=((s.heap.update a (t5 λ_=>#[])).push (seqObj "tuple" d.toArray 0)).push (seqObj "list" #[] 0) })
   (Q:=λj r=>(arrOf j).map (·.2)=d.toArray/\failedOf j=Jt/\r={ s with heap:=((s.heap.update a (t5 λ_=>#[])).push (seqObj "tuple" d.toArray 0)).push (seqObj "list" #[] 0) })
   rfl v I (λX j r a1 a2 T ⟨S,R⟩=>⟨?_,T,R⟩) (aV (by lia) D ⟨rfl,rfl⟩)) ?_ λ_ _ e=>e)
  ·rw[kat_snds rfl a2,S];apply Fg.mp;show(Aw d.length).map (λi=>d.getD i Am)=d;erw[C8 'd' λi h1 h3=>?_];simp at h1;simp[h1]
  rintro⟨⟨⟩,j⟩ r ⟨M,O,rfl⟩;dsimp only;erw[c6 (seqEpoch_at g rfl ?_)];erw[c6 (listUpdate_at g rfl ?_ (hsz2:=by rw[M,B,sizeLine_eq]; lia))];rw[O,M];simp only[bne_self_eq_false,Bh,if_false];rwa[f8 done]
end
section
open PySem.W
variable{X:Cx}{Jw:List (c5×By)}{σ:St}{H:Hp}{s:d7}
def Inv.tuples{lo:c5} : ∀{as:List c5}{H:Hp}(c:List (List V)),Inv X Jw σ H s->as.Pairwise (· < ·)->(∀ a∈as,Xo X Jw H a)->as.length=c.length->(∀(j:Nat)(a:c5)(xs:List V),as[j]?=Js a->c[j]?=Js xs->∀ H',uH X.prog X.w H' s.heap a 'w') ->
  ∃ d,Inv X Jw σ d s/\Same H d/\(∀(j:Nat)(a:c5)(xs:List V),as[j]?=Js a->c[j]?=Js xs->d a=Js 'w')/\∀ b,b ∉ as->d b=H b
 | [],H,[],I,_,_,_,_=>⟨H,I,Same.refl _,λj a xs e=>by simp at e,λ_ _=>rfl⟩
 | [],_,_::_,_,_,_,g,_=>by simp at g
 | _::_,_,[],_,_,_,g,_=>by simp at g
 | a::as,H,xs::c,I,u,q,g,p=>by
  have r:=q a (.head _);have f:=Bi.mp u;have B:=I.more (o:=.tup xs) r (p 0 a xs rfl rfl _);obtain⟨d,A,n,v,n2⟩:=Inv.tuples (lo:=lo) (as:=as) c B f.2 (λb h=>by
   obtain⟨y,x⟩:=q b (.tail _ h);rwa[by rw[zH (DB (f.1 b h))]; exact y,x]) (by simpa using g) (λj b m l i=>p (j+1) b m (by simpa using l) (by simpa using i))
  erw[d,A,(zC r.1 _).trans n,λj b m l i=>?_,λb h=>?_]
  ·cases j with
   | zero =>
    simp at l i;subst l i;rwa[n _ _ zA]
   | succ j=>exact v j b m (by simpa using l) (by simpa using i)
  ·rw[n2 b (λz=>h (.tail _ z)),zH (λz=>h (by rw[z]; rwa[.head _]))]
def jX{h:Ae} : ∀{as:List c5}{ns:List Int},as.length=ns.length->(∀(j:Nat)(a:c5)(n:Int),as[j]?=Js a->ns[j]?=Js n->∃ t x,h.get? a=Js { cls:=.type "tuple",data:=.seq #[.int n t,x] }) ->
  ∃ fs,KatTups h (as.map j4) fs/\fs.length=ns.length/\∀ v∈fs,∃ n t,v=Ch n t
 | [],[],_,_=>⟨[],.nil,rfl,λv c=>nomatch c⟩
 | [],_::_,d,_=>by simp at d
 | _::_,[],d,_=>by simp at d
 | a::as,n::ns,d,g=>by
  obtain⟨t,x,e⟩:=g 0 a n rfl rfl;obtain⟨fs,k,l,f⟩:=jX (as:=as) (ns:=ns) (by simpa using d) λj b m h1 h2=>g (j+1) b m (by simpa using h1) (by simpa using h2);erw[.int n t::fs,.cons e rfl rfl rfl k,by simp[l],λv c=>?_];rcases g9.mp c with rfl | c
  ·rwa[n,t,rfl]
  ·rwa[f v c]
def cI(hc:X.calm=Ju):vA X (.builtin "sorted") (λxs H Q=>E3 λ(v d:c5) (f:List (Int×V))=>A6 (xs=[.ref v]) (H v=Js (.ext (dG v d))) (Rd H d (.dK (f.map λe=>(.inl e.1,e.2)))) (f.length<64) ((f.map (·.1)).Pairwise (· < ·)) (∀(p:c5)(l:List c5)(H2:Hp),Same H H2->H p=Jt->l.length=f.length->H2 p=Js (.lst (l.map V.ref))->(∀(j:Nat)(a:c5)(e:Int×V),l[j]?=Js a->f[j]?=Js e->H a=Jt/\H2 a=Js (.tup [.int e.1,e.2]))->Q (.ref p) H2)):=by
 intro Jw s σ H xs us Q I r h;obtain⟨v,d,f,rfl,hv,hd,h64,hr,q⟩:=h;obtain⟨u,rfl,ru⟩:=yQ.one r;cases ru;obtain⟨hz,ns,P,rel,da⟩:=hd.ok I.hok;obtain⟨o,es,ep,e,c,dt,hk,hp,hn⟩:=da;have hl:P.length=f.length:=by rw[<- rel.length,ac]
 have dat:s.heap.DictAt (yP X.prog X.w) d P ep:=⟨o,es,e,c,dt,hk,hp,hn⟩;have N:s.heap.IsItemsView v d:=(show uH X.prog X.w H s.heap v (.ext (dG v d)) from I.hok v _ hv).1;have small:f.length<=sizeLine:=by rw[sizeLine_eq]; lia
 have hh:X.A.in1.handled=none:=I.ok.hd hc;refine EO kind_sorted plain_sorted entry_sorted (args_sorted1 _) ?_;unfold Eh.«sorted»;refine c6 (m:=checkCount "sorted" 1 1 _) (f8 ?_);refine c6 (kdx_collect (knd:=yP X.prog X.w) (kvs:=P) (ep:=ep) hh N dat (by rw[hl]; exact small) λD L l keep la G=>?_);refine c6 (Di ?_ (by rw[ac,la,hl]; exact small));have M:l.length=f.length:=la.trans hl;have at_:∀(j:Nat)(a:c5)(e:Int×V),l[j]?=Js a->f[j]?=Js e->∃ t x,xI e.2 x/\D.get? a=Js { cls:=.type "tuple",data:=.seq #[.int e.1 t,x] }:=λj a e z B=>by
  obtain⟨key,k,x,J,E,g3⟩:=G.pairs j a z;obtain⟨u,hu,ru⟩:=KV.at (vs:=P) (i:=j) (k:=.inl e.1) (v:=e.2) rel (by rw[e7,B]; rfl);rw[hu] at J;cases J;have g2':au (Dj e.1) key=true:=E;rcases yW g2' with ⟨i,t,S,O⟩ | ⟨y,t,S,O⟩
  ·cases S;rw[O] at g3;rwa[t,_,ru,g3]
  ·cases S
 have R:(D.push (seqObj "list" (l.map j4).toArray 0)).get? D.objs.size=Js (seqObj "list" (l.map j4).toArray 0):=j9 _ rfl;show wpAny _ _ _ _ _ { s with heap:=D.push (seqObj "list" (l.map j4).toArray 0),toks:=L };erw[c6 (Bz (Cz slot_list_sort ⟨_,R,rfl⟩ entry_list_sort ?body (args_list_sort _)))]
 case body =>
  refine nE (s:={ s with heap:=D.push (seqObj "list" (l.map j4).toArray 0),toks:=L }) R (by rw[ac,M]; rwa[h64]) (λh2 Z two=>?_) λh2 c Z O=>⟨_,rfl,f8 ⟨_,rfl,?_⟩⟩
  ·have Y:∀(j:Nat)(a:c5)(e:Int×V),l[j]?=Js a->f[j]?=Js e->∃ t x,xI e.2 x/\h2.get? a=Js { cls:=.type "tuple",data:=.seq #[.int e.1 t,x] }:=λj a e z B=>by
    obtain⟨t,x,J,E⟩:=at_ j a e z B;rwa[t,x,J,Z a _ (o9 (i5 E)) (c8 _ E)]
   have one:∀ j,j<f.length->∃(a:c5)(t:Jn)(x:c7),(l.map j4)[j]?=Js (.ref a)/\h2.get? a=Js { cls:=.type "tuple",data:=.seq #[.int (f[j]?.getD (0,V.int 0)).1 t,x] }:=λj hj=>by
    have ej:f[j]?=Js f[j]:=d6 hj;have ea:l[j]?=Js l[j]:=d6 (by lia);obtain⟨t,x,_,g⟩:=Y j _ _ ea ej;rwa[l[j],t,x,by rw[e7,ea]; rfl,by rw[ej]; exact g]
   rw[ac,M] at two;erw[tuples' Ju,λQ' hq=>?_,λi h1 hi C hC=>?_]
   ·obtain⟨fs,kt,fl,fi⟩:=jX (h:=h2) (ns:=f.map (·.1)) (as:=l) (by rw[ac,M]) λj a n z hn=>by
     rw[e7,x6] at hn;obtain⟨e,B,rfl⟩:=hn;obtain⟨t,x,_,g⟩:=Y j a e z B;rwa[t,x,g]
    exact kat_kind (T:=.type "int") kt (by rw[fl,ac]; lia) (λv hv=>let ⟨n,t,e⟩:=fi v hv; by rw[e]; rwa[.now]) 'a' hq
   ·rw[ac,M] at hi;obtain⟨a,t,x,S,J⟩:=one i hi;obtain⟨b,u,y,O,E⟩:=one (i-1) (by lia);unfold kas_ask;rw[B9,B9,S,O];refine kat_lt J rfl E rfl (kat_cons (DO ?_));have lt:(f[i-1]?.getD (0,V.int 0)).1<(f[i]?.getD (0,V.int 0)).1:=by
     rw[d6 hi,d6 (show i-1<f.length by lia)];have:=Db.mp hr (i-1) i (by rw[ac]; lia) (by rw[ac]; lia) (by lia);rw[BJ,BJ] at this;rwa[this]
    rw[show((f[i]?.getD (0,V.int 0)).1 ==(f[i-1]?.getD (0,V.int 0)).1)=Jv from by
     rw[x5];lia]
    erw[kat_no (oneLt_int ?_)];rw[y8 (by lia)];rwa[hC]
  ·have kp:∀ b o,s.heap.get? b=Js o->h2.get? b=Js o:=λb o e=>Z b o (o9 (i5 (keep b o e))) (c8 _ (keep b o e));have I2:Inv X Jw σ H { s with heap:=h2,toks:=L }:=I.kept (t':=L) kp;have ab:∀ a∈l,s.heap.objs.size<=a:=λa z=>AC (G.above a z);have I1:Inv X Jw σ H { s with heap:=D,toks:=L }:=I.kept (t':=L) keep;have fp:=I1.fpOk (H':=H) (e9 _) (I1.hok.fresh (e9 _));have I3:Inv X Jw σ (upd H D.objs.size (.lst (l.map V.ref))) { s with heap:=h2,toks:=L }:=I2.more fp ⟨by rw[ac,M]; exact small,l.map j4,c,rL l,O⟩;obtain⟨H3,I4,s3,g3,n3⟩:=I3.tuples (lo:=0) (f.map λe=>[V.int e.1,e.2]) G.rise (λa z=>by
    refine I.fpOk (ab a z) ?_;rw[zH (o9 (G.there z))];exact I.hok.fresh (ab a z)) (by rw[ac,M]) λj a xs z hx H'=>by
     rw[e7,x6] at hx;obtain⟨e,B,rfl⟩:=hx;obtain⟨t,x,J,E⟩:=at_ j a e z B;exact⟨by show 2<=sizeLine; rw[sizeLine_eq]; decide,[.int e.1 t,x],.cons ⟨t,rfl⟩ (.cons J .nil),_,Z a _ (o9 (i5 E)) (c8 _ E),rfl,_,rfl⟩
   rwa[.ref D.objs.size,H3,I4,rfl,q D.objs.size l H3 ((zC fp.1 _).trans s3) fp.1 M (s3 _ _ zA) λj a e z B=>⟨I.hok.fresh (ab a (f6 z)),g3 j a _ z (by rw[e7,B]; rfl)⟩]
end
end L2

namespace Sea
section
variable{H H1:Hp}
def ZL:∀{l:List (Int×Deed)}{a:List (Key×V)},uI H a (ntE l)->∃ b:List (Int×V),a=b.map (λe=>(.inl e.1,e.2))/\b.map (·.1)=l.map (·.1)/\wH H (l.map (·.2.dt)) (b.map (·.2))
 | [],_,h=>⟨[],h.nil_iff,rfl,yN.mpr rfl⟩
 | (n,D)::l,_,h=>by
  obtain⟨v,r,rfl,h1,h2⟩:=uI.cons_iff.mp h;obtain⟨b,rfl,e,h3⟩:=ZL (l:=l) h2;rwa[(n,v)::b,rfl,by rw[j8,j8,e],zN.mpr ⟨v,_,rfl,h1,h3⟩]
def gf:∀{l:List (i9×Int×Int)}{a:List (Key×V)},uI H a (mkE l)->a.map (λb=>kV b.1)=(l.map (·.1)).map V.str
 | [],_,h=>by rw[h.nil_iff]; rfl
 | (n,p)::l,_,h=>by
  obtain⟨v,r,rfl,h1,h2⟩:=uI.cons_iff.mp h;rw[j8,gf h2];rfl
structure Qw(H:Hp)(as:List c5)(l:List (Int×Deed)):Prop where
 len:as.length=l.length
 at_:∀(j:Nat)(a:c5)(e:Int×Deed),as[j]?=Js a->l[j]?=Js e->∃ v,H a=Js (.tup [.int e.1,v])/\Rep H e.2.dt v
def SZ(S:BS):Prop:=(S.notes.map (·.1)).Pairwise (· < ·)
def oE(h:zT S n=Js p):(n,p)∈S.marks:=by
 unfold zT at h;rw[x6] at h;obtain⟨e,h1,rfl⟩:=h;have h2:=List.find?_some h1;have a:e.1=n:=of_decide_eq_true h2;rw[<- a];rwa[List.mem_of_find?_eq_some h1]
def qR{S:BS}{n:i9}(h:n∈S.marks.map (·.1)):∃ p,zT S n=Js p:=by
 obtain⟨e,h1,h2⟩:=o5.mp h;unfold zT;cases q:S.marks.find? λe=>decide (e.1=n) with
 | none=>rwa[y9 (EK.mp q e h1) (by simp[h2])]
 | some e'=>rwa[e'.2,rfl]
def qy{S:BS}(h:yh H m (mkE S.marks))(e:zT S n=Js p):∃(b:List (Key×V))(a:c5),Rd H m (.dK b)/\sV b (.inr n)=Js (.ref a)/\H a=Js (.tup [.int p.1,.int p.2]):=by
 obtain⟨b,h1,h2⟩:=h;obtain⟨v,g,r⟩:=h2.get (k:=.inr n) (d:=ptD p) (by rw[jx,e]; rfl);obtain⟨a,rfl,c⟩:=kO r;rwa[b,a,h1,g,c]
def Xd:∀{l:List (Int×Int)}{k i:Nat}{p:Int×Int},l[i]?=Js p->look ((l.zipIdx k).map λe=>((.inl (e.2:Int):Key),ptD e.1)) (.inl ((k+i:Nat):Int))=Js (ptD p)
 | [],_,_,_,e=>by simp at e
 | q::l,k,0,p,e=>by
  simp at e;subst e;simp[look,Hj]
 | q::l,k,i+1,p,e=>by
  have a:=Xd (l:=l) (k:=k+1) (i:=i) (p:=p) (by simpa using e);rw[Hj,j8];unfold look at a ⊢;rw[AR,y8 (by intro z; injection z with z; simp at z; lia)];rw[show k+1+i=k+(i+1) by lia] at a;rwa[a]
def UF{S:BS}{i:Nat}(h:yh H r (rnE S.runs))(e:S.runs[i]?=Js p):∃(b:List (Key×V))(a:c5),Rd H r (.dK b)/\sV b (.inl (i:Int))=Js (.ref a)/\H a=Js (.tup [.int p.1,.int p.2]):=by
 obtain⟨b,h1,h2⟩:=h;have:=Xd (k:=0) e;rw[GP] at this;obtain⟨v,g,r⟩:=h2.get (k:=.inl (i:Int)) (d:=ptD p) this;obtain⟨a,rfl,c⟩:=kO r;rwa[b,a,h1,g,c]
end
section
variable{H H1:Hp}{S:BS}
structure wv(H:Hp)(S:BS)(as:List c5)(ms:List i9):Prop where
 mk ::
 len:as.length=ms.length
 at_:∀(j:Nat)(a:c5)(n:i9),as[j]?=Js a->ms[j]?=Js n->∃ p:Int×Int,zT S n=Js p/\H a=Js (.tup [.str n,.int p.1,.int p.2])
def wv.samE{b:c5->Prop}(h:wv H S d c)(s:tZ b H H1)(e:∀ a xs,H a=Js 'w'->¬ b a):wv H1 S d c :=
 ⟨h.len,λj a n g f=>let ⟨p,h1,h2⟩:=h.at_ j a n g f;⟨p,h1,s.tup (e _ _ h2) h2⟩⟩
def wv.app(h:wv H S f g)(h1:zT S n=Js p)(h2:H a=Js (.tup [.str n,.int p.1,.int p.2])):wv H S (f++[a]) (g++[n]) :=
 ⟨by rw[g7,g7,h.len]; rfl,λj b m c d=>by
  rcases GT j f.length with z | z
  ·rw[AF z] at c;rw[AF (by rw[<- h.len]; rwa[z])] at d;rwa[h.at_ j b m c d]
  ·rw[At z] at c;rw[At (by rw[<- h.len]; rwa[z]),<- h.len] at d;have e:j-f.length=0:=by have:=(c9.mp c).1; simp at this; lia
   rw[e] at c d;simp at c d;subst c d;rwa[p,h1,h2]⟩
def pF(H:Hp)(d:c5)(S:BS):Prop:=∃ b,Rd H d (.dK b)/\∀ n p,zT S n=Js p->∃ a,sV b (.inr n)=Js (.ref a)/\H a=Js (.tup [.int p.1,.int p.2])
def pF.to(h:pF H d S)(s:Sam H H1):pF H1 d S:=let ⟨kvs,h1,h2⟩:=h;⟨kvs,s.rd id h1,λn p e=>let ⟨a,h3,h4⟩:=h2 n p e;⟨a,h3,s.tup id h4⟩⟩
def rP(b:H D=Js u):tZ (λx=>x=D) H (upd H D o):=λx o a e=>.inl (by rw[zH a]; rwa[e])
def rK(c:H D=Js (.lst a)):∀ b xs,H b=Js 'w'->¬ b=D:=λb xs e z=>by rw[z,c] at e; cases e
end
def Qg{i j:Nat}{a:St}{G:V->Hp->Prop}{H:Hp}(h:G (.int (tE i j)) H):if decide ((i:Int)<=j)=Ju then tC (.int 1) a H G else tUn (rU λi=>V.int (-i)) (tC (.int 1)) a H G:=by
 erw[ifD (λz=>?_) (λz=>?_)]
 ·have:tE i j=1:=by unfold tE; rw[y4 (by lia)]
  rw[this] at h;rwa[h]
 ·have:tE i j = -1:=by unfold tE; rw[y6 (by lia)]
  rw[this] at h;rwa[_,rfl,h]
end Sea

namespace Sea
structure xA(H:Hp)(as:List c5)(rows:List (List Int)):Prop where
 mk ::
 len:as.length=rows.length
 at_:∀(j:Nat)(a:c5)(r:List Int),as[j]?=Js a->rows[j]?=Js r->H a=Js (.tup (r.map V.int))
def xS(S:BS)(n:i9):Int×Int:=(zT S n).getD (0,0)
def xq(S:BS):Deed->List (List Int)
 | .bearing _ n a b c d=>[uJ [-b,a,a*(xS S n).2-b*(xS S n).1],uJ [d,-c,(xS S n).1*d-(xS S n).2*c]]
 | .range _ l r=>[uJ [(xS S l).2-(xS S r).2,(xS S r).1-(xS S l).1,(xS S r).1*(xS S l).2-(xS S r).2*(xS S l).1]]
 | _=>[]
def OJ(x y:Int):List Int->List Int
 | [a,b,c]=>[a,b,c+a*x+b*y]
 | l=>l
def uX:Deed->Int
 | .bearing m _ _ _ _ _=>m
 | .range m _ _=>m
 | _=>0
def uW(S:BS)(j:Nat)(D:Deed):List (List Int):=(xq S D).map (OJ (yT S.runs (uX D).toNat j).1 (yT S.runs (uX D).toNat j).2)
def yz(S:BS):Deed->Prop
 | .bearing m n a b c d=>0<=m/\m<=S.runs.length/\(zT S n).isSome=Ju/\rz (a,b)/\rz (c,d)
 | .range m l r=>0<=m/\m<=S.runs.length/\(zT S l).isSome=Ju/\(zT S r).isSome=Ju/\zT S l≠zT S r
 | _=>False
structure jC(S:BS):Prop where
 few:Few S
 fresh:YX S
 rise:SZ S
 mk_:∀ e∈S.marks,pY e.2
 way:∀ e∈S.runs,pY e
 note:∀ e∈S.notes,yz S e.2
section
variable{H H1:Hp}{S:BS}
def xA.to(h:xA H b rows)(s:Sam H H1):xA H1 b rows:=⟨h.len,λj a r d c=>s.tup id (h.at_ j a r d c)⟩
def xA.samE{b:c5->Prop}(h:xA H e rows)(s:tZ b H H1)(f:∀ a xs,H a=Js 'w'->¬ b a):xA H1 e rows:=⟨h.len,λj a r d c=>s.tup (f _ _ (h.at_ j a r d c)) (h.at_ j a r d c)⟩
def xA.nil:xA H [] []:=⟨rfl,λj a r e=>by simp at e⟩
def xA.one{r:List Int}(h:H a=Js (.tup (r.map V.int))):xA H [a] [r]:=⟨rfl,λj b e c d=>by
 cases j with
 | zero=>simp at c d; subst c d; rwa[h]
 | succ j=>simp at c⟩
def xA.app(h:xA H d rows)(k:xA H bs more):xA H (d++bs) (rows++more):=⟨by rw[g7,g7,h.len,k.len],λj a r c b=>by
 rcases GT j d.length with z | z
 ·rw[AF z] at c;rw[AF (by rw[<- h.len]; rwa[z])] at b;rwa[h.at_ j a r c b]
 ·rw[At z] at c;rw[At (by rw[<- h.len]; rwa[z]),<- h.len] at b;rwa[k.at_ _ a r c b]⟩
def tH(h:∀ e∈S.marks,pY e.2)(e:zT S n=Js p):pY p:=h _ (oE e)
def uE(e:zT S n=Js p):xS S n=p:=by unfold xS; rw[e]; rfl
end
structure wW(H0 H:Hp)(gs:List c5)(rows:List (List (List Int))):Prop where
 mk ::
 len:gs.length=rows.length
 new:∀ g∈gs,H0 g=Jt
 at_:∀(j:Nat)(g:c5)(r:List (List Int)),gs[j]?=Js g->rows[j]?=Js r->∃ as:List c5,H g=Js (.lst (as.map V.ref))/\xA H as r
section
variable{H0 H H1:Hp}{S:BS}
def wW.samE{b:c5->Prop}(h:wW H0 H c rows)(s:tZ b H H1)(e:∀ a xs,H a=Js 'w'->¬ b a)(f:∀ g∈c,¬ b g):wW H0 H1 c rows :=
 ⟨h.len,h.new,λj g r d i=>let ⟨as,h1,h2⟩:=h.at_ j g r d i;⟨as,s.lst (f g (f6 d)) h1,h2.samE s e⟩⟩
def wW.nil:wW H0 H [] []:=⟨rfl,λg b=>(nomatch b),λj a r e=>by simp at e⟩
def wW.snoc{f:List c5}(h:wW H0 H d rows)(h0:H0 g=Jt)(h1:H g=Js (.lst (f.map V.ref)))(h2:xA H f r):wW H0 H (d++[g]) (rows++[r]) :=
 ⟨by rw[g7,g7,h.len]; rfl,λx l=>by
  rcases m9.mp l with z | z
  ·rwa[h.new x z]
  ·rw[e8.mp z]; exact h0,λj a i b c=>by
  rcases GT j d.length with z | z
  ·rw[AF z] at b;rw[AF (by rw[<- h.len]; rwa[z])] at c;rwa[h.at_ j a i b c]
  ·rw[At z] at b;rw[At (by rw[<- h.len]; rwa[z]),<- h.len] at c;have e:j-d.length=0:=by have:=(c9.mp b).1; simp at this; lia
   rw[e] at b c;simp at b c;subst b c;rwa[f,h1,h2]⟩
def Qk{a b c:Int}{M:Nat}(e:a.natAbs<=M)(d:b.natAbs<=M):∃ x y z:Int,uJ [a,b,c]=[x,y,z]/\x.natAbs<=M/\y.natAbs<=M :=
 ⟨_,_,_,rfl,d9 (BG _ _) e,d9 (BG _ _) d⟩
def cN(i:∀ e∈S.marks,pY e.2)(kn:yz S D):∀ r∈xq S D,∃ x y z:Int,r=[x,y,z]/\x.natAbs<=10^4/\y.natAbs<=10^4:=by
 match D,kn with
 | .bearing m n a b c d,kn =>
  obtain⟨_,_,_,⟨_,w1,v,u,s⟩,⟨_,q,p,o,j⟩⟩:=kn;dsimp only at w1 v u s q p o j;intro r f;rcases g9.mp f with e | f
  ·rw[e]; rwa[Qk (by lia) (by lia)]
  ·rw[e8.mp f]; rwa[Qk (by lia) (by lia)]
 | .range m l r,kn =>
  obtain⟨_,_,h1,h2,_⟩:=kn;obtain⟨pt,h⟩:=o6.mp h1;obtain⟨A,g⟩:=o6.mp h2;obtain⟨n1,n2,n3,n4⟩:=tH i h;obtain⟨G,E,C,B⟩:=tH i g;intro w f;rw[e8.mp f,uE h,uE g];rwa[Qk (by lia) (by lia)]
def iI : (xq S D).length<=2:=by
 unfold xq;split <;> simp
def bi(kn:yz S D)(h:Rep H D.dt v):∃(t:c5)(xs:List V),v=.ref t/\H t=Js 'w'/\atI xs 1=Js (.int (uX D))/\0<=uX D/\uX D<=S.runs.length:=by
 match D,kn,h with
 | .bearing m n a b c d,kn,h =>
  obtain⟨t,_,_,e,f,_⟩:=qT h;rwa[t,_,e,f,rfl,kn.1,kn.2.1]
 | .range m l r,kn,h =>
  obtain⟨t,e,f⟩:=pE h;rwa[t,_,e,f,rfl,kn.1,kn.2.1]
end
def nW{α a:Type}(f:α->List a)(h:∀ x,(f x).length<=2):∀ l:List α,((l.map f).flatten).length<=2*l.length
 | []=>e9 _
 | x::l=>by
  have:=nW f h l;have:=h x;simp only[j8,List.flatten_cons,g7,i4];lia
def vb{j:Nat} : (uW S j D).length<=2:=by unfold uW; rw[ac]; rwa[iI]
def WZ(a b c:V):nj [] [(.inr "marks",a),(.inr "banks",b),(.inr "runs",c)]=[(.inr "marks",a),(.inr "banks",b),(.inr "runs",c)]:=by symm
def QW(a b c d:V):rV [((.inr "marks" : Key),a),(.inr "banks",b),(.inr "runs",c)] (.inr "notes") d=[(.inr "marks",a),(.inr "banks",b),(.inr "runs",c),(.inr "notes",d)]:=by symm
def QQ(a b c d e:V):rV [((.inr "marks" : Key),a),(.inr "banks",b),(.inr "runs",c),(.inr "notes",d)] (.inr "next") e=[(.inr "marks",a),(.inr "banks",b),(.inr "runs",c),(.inr "notes",d),(.inr "next",e)]:=by symm
def Yv{H:Hp}(c:H D=Js (.dK a)):∀ b xs,H b=Js 'w'->¬ b=D:=λb xs e z=>by rw[z,c] at e; cases e
def YQ{runs:List (Int×Int)}{j:Nat}(h:runs.length<=3)(g:∀ e∈runs,e.1.natAbs<=4/\e.2.natAbs<=4):(yT runs 0 j).1.natAbs<=12/\(yT runs 0 j).2.natAbs<=12:=by
 have f:∀ e∈qZ runs 0 j,e∈runs:=λe c=>AX (AL c);have l:=si runs 0 j;have a:=kG ((qZ runs 0 j).map (·.1)) 4 λx d=>by
  obtain⟨e,c,rfl⟩:=o5.mp d;exact(g e (f e c)).1
 have b:=kG ((qZ runs 0 j).map (·.2)) 4 λx d=>by
  obtain⟨e,c,rfl⟩:=o5.mp d;exact(g e (f e c)).2
 rw[ac] at a b;unfold yT tE;split <;> rwa[by dsimp only; lia,by dsimp only; lia]
def Zf{k p q:Int}(b:1<=k)(h:¬ (p=0/\q=0)):0<(k*p+q)*(k*q+p)-(k*q-p)*(k*p-q):=by
 have e:(k*p+q)*(k*q+p)-(k*q-p)*(k*p-q)=2*k*(p*p+q*q):=by grind
 rw[e];have h1:0<=p*p:=by rcases IN 0 p with z | z; rwa[g8 z z]; rwa[Dq z z]
 have h2:0<=q*q:=by rcases IN 0 q with z | z; rwa[g8 z z]; rwa[Dq z z]
 have h3:0<p*p+q*q:=by
  rcases FA (p=0) with z | z
  ·have a:q≠0:=λw=>h ⟨z,w⟩;have:q*q≠0:=Aq a a;lia
  ·have:p*p≠0:=Aq z z;lia
 rwa[i8 (by lia) h3]
def rH{H:Hp}{m:Int}{a b c d:Int}(e:H w=Js (.tup [.str "bearing",.int m,.str n,.ref p,.ref q]))(g:H p=Js (.tup [.int a,.int b]))(f:H q=Js (.tup [.int c,.int d])):Rep H (Deed.bearing m n a b c d).dt (.ref w) :=
 tQ.mpr ⟨w,_,rfl,e,zN.mpr ⟨_,_,rfl,xR.mpr rfl,zN.mpr ⟨_,_,rfl,xV.mpr rfl,zN.mpr ⟨_,_,rfl,xR.mpr rfl,.two (se (p:=(a,b)) g) (se (p:=(c,d)) f)⟩⟩⟩⟩
def Xg{H:Hp}{m:Int}(a:H w=Js (.tup [.str "range",.int m,.str l,.str r])):Rep H (Deed.range m l r).dt (.ref w) :=
 tQ.mpr ⟨w,_,rfl,a,zN.mpr ⟨_,_,rfl,xR.mpr rfl,zN.mpr ⟨_,_,rfl,xV.mpr rfl,.two (xR.mpr rfl) (xR.mpr rfl)⟩⟩⟩
def TC{H:Hp}{x y:Int}(a:H w=Js (.tup [.str "mark",.str n,.int x,.int y])):Rep H (Deed.mark n x y).dt (.ref w) :=
 tQ.mpr ⟨w,_,rfl,a,zN.mpr ⟨_,_,rfl,xR.mpr rfl,zN.mpr ⟨_,_,rfl,xR.mpr rfl,.two (xV.mpr rfl) (xV.mpr rfl)⟩⟩⟩
def UE{H:Hp}{x y:Int}(a:H w=Js (.tup [.str "sail",.int x,.int y])):Rep H (Deed.sail x y).dt (.ref w) :=
 tQ.mpr ⟨w,_,rfl,a,zN.mpr ⟨_,_,rfl,xR.mpr rfl,.two (xV.mpr rfl) (xV.mpr rfl)⟩⟩
def cT{a b c d:Int}(t:0<a*d-b*c)(h1:a.natAbs<=100)(h2:b.natAbs<=100)(h3:c.natAbs<=100)(h4:d.natAbs<=100):rz (a,b)/\rz (c,d):=by
 erw[⟨λz=>?_,by dsimp only; lia,by dsimp only; lia,by dsimp only; lia,by dsimp only; lia⟩,⟨λz=>?_,by dsimp only; lia,by dsimp only; lia,by dsimp only; lia,by dsimp only; lia⟩]
 ·injection z with z1 z2
  rw[z1,z2] at t;simp at t
 ·injection z with z1 z2
  rw[z1,z2] at t;simp at t
end Sea

namespace Sea
def zy{e:i9×Int×Int}(h:(zT S n).isSome=Ju):zT { S with marks:=S.marks++[e] } n=zT S n:=by
 unfold zT at h ⊢;dsimp only;rw[List.find?_append];cases q:S.marks.find? λe=>decide (e.1=n) with
 | none=>rw[q] at h; simp at h
 | some e'=>rfl
def YJ{e:i9×Int×Int}(h:yz S D):yz { S with marks:=S.marks++[e] } D:=by
 match D,h with
 | .bearing m n a b c d,h=>rwa[h.1,h.2.1,by rw[zy h.2.2.1]; exact h.2.2.1,h.2.2.2]
 | .range m l r,h=>rwa[h.1,h.2.1,by rw[zy h.2.2.1]; exact h.2.2.1,by rw[zy h.2.2.2.1]; exact h.2.2.2.1,by rw[zy h.2.2.1,zy h.2.2.2.1]; exact h.2.2.2.2]
def XQ{e:Int×Int}(h:yz S D):yz { S with runs:=S.runs++[e] } D:=by
 match D,h with
 | .bearing m n a b c d,h=>exact⟨h.1,by have:=h.2.1; dsimp only; rw[g7]; simp only[i4,BE]; lia,h.2.2⟩
 | .range m l r,h=>exact⟨h.1,by have:=h.2.1; dsimp only; rw[g7]; simp only[i4,BE]; lia,h.2.2⟩
def oq{l:List (Int×Deed)}{k:Int}(h:yz S D):yz { S with notes:=l,coming:=k } D:=by
 match D,h with
 | .bearing m n a b c d,h=>rwa[h]
 | .range m l r,h=>rwa[h]
def aX:jC BS.nil:=⟨⟨by decide,by decide,by decide,by decide⟩,λe a=>(nomatch a),.nil,λe a=>(nomatch a),λe a=>(nomatch a),λe a=>(nomatch a)⟩
def dP(g:jC S)(kn:yz S D)(l:S.notes.length<24):jC { S with notes:=S.notes++[(S.coming,D)],coming:=S.coming+1 }:=by
 refine⟨⟨g.few.ma,g.few.ba,g.few.ru,by show(S.notes++[_]).length<=60; rw[g7]; simp only[i4,BE]; lia⟩,λe a=>?_,?_,g.mk_,g.way,λe a=>?_⟩
 ·rcases m9.mp a with z | z
  ·have:=g.fresh e z;show e.1<S.coming+1;lia
  ·rw[e8.mp z];show S.coming<S.coming+1;lia
 ·show((S.notes++[(S.coming,D)]).map (·.1)).Pairwise (· < ·);rw[g5,F0];erw[g.rise,Dx _ _,λx c y b=>?_];obtain⟨e,a,rfl⟩:=o5.mp c;rw[e8.mp b];rwa[g.fresh e a]
 ·rcases m9.mp a with z | z
  ·rwa[oq (g.note e z)]
  ·rw[e8.mp z];rwa[oq kn]
def oo{n k:i9}{x y:Int} : ∀{l:List (i9×Int×Int)},((l.map λe=>if e.1=n then(e.1,x,y) else e).find? λe=>decide (e.1=k)).map (·.2)=((l.find? λe=>decide (e.1=k)).map (·.2)).map λp=>if k=n then(x,y) else p
 | []=>rfl
 | (m,p)::l=>by
  rw[j8,AR,AR];by_cases b:m=n
  ·rw[y6 b];by_cases a:m=k
   ·subst b a;simp
   ·rw[y8 (show ¬ (m,x,y).1=k from a)];rwa[oo]
  ·rw[y4 b];by_cases a:m=k
   ·subst a;simp[b]
   ·rw[y8 (show ¬ (m,p).1=k from a)];rwa[oo]
def cR{x y:Int} : zT (aft S (.move n x y)) k=(zT S k).map λp=>if k=n then(x,y) else p:=oo
def uV{n k:i9}(h:k≠n):zT (aft S (.unmark n)) k=zT S k:=by
 unfold zT;show(List.find? _ (S.marks.filter _)).map _=_;rw[List.find?_filter]
 congr 2
 funext e
 by_cases z:e.1=k
 ·simp[z,h]
 ·simp[z]
def xb{x y:Int}(h:(zT S k).isSome=Ju):(zT (aft S (.move n x y)) k).isSome=true:=by
 rw[cR,CV];rwa[h]
def YO{x y:Int}(h:yz S D)(g:QJ (aft S (.move n x y)) D):yz (aft S (.move n x y)) D:=by
 match D,h,g with
 | .bearing m k a b c d,h,_=>rwa[h.1,h.2.1,xb h.2.2.1,h.2.2.2]
 | .range m l r,h,⟨p,u,f,e,ne⟩=>rwa[h.1,h.2.1,xb h.2.2.1,xb h.2.2.2.1,by rw[f,e]; exact λz=>ne (m8 z)]
def dH(h:yz S D)(g:Zu n D):yz (aft S (.unmark n)) D:=by
 match D,h,g with
 | .bearing m k a b c d,h,g=>rwa[h.1,h.2.1,by rw[uV g]; exact h.2.2.1,h.2.2.2]
 | .range m l r,h,g=>rwa[h.1,h.2.1,by rw[uV g.1]; exact h.2.2.1,by rw[uV g.2]; exact h.2.2.2.1,by rw[uV g.1,uV g.2]; exact h.2.2.2.2]
def oh{S f:BS}(h:yz S D)(i:f.marks=S.marks)(g:f.runs.length=S.runs.length):yz f D:=by
 have e:∀ n,zT f n=zT S n:=λn=>by unfold zT; rw[i]
 match D,h with
 | .bearing m k a b c d,h=>rwa[h.1,by rw[g]; exact h.2.1,by rw[e]; exact h.2.2.1,h.2.2.2]
 | .range m l r,h=>rwa[h.1,by rw[g]; exact h.2.1,by rw[e]; exact h.2.2.1,by rw[e]; exact h.2.2.2.1,by rw[e,e]; exact h.2.2.2.2]
def TL(g:jC S)(ok:okD S D):jC (aft S D):=by
 match D,ok with
 | .mark n x y,ok =>
  refine⟨⟨by show(S.marks++[_]).length<=60; rw[g7]; have:=ok.2.2.2; simp only[i4,BE]; lia,g.few.ba,g.few.ru,g.few.no⟩,g.fresh,g.rise,λe f=>?_,g.way,λe f=>YJ (g.note e f)⟩;rcases m9.mp f with z | z
  ·rwa[g.mk_ e z]
  ·rw[e8.mp z];rwa[ok.2.2.1]
 | .sail x y,ok =>
  refine⟨⟨g.few.ma,g.few.ba,by show(S.runs++[_]).length<=60; rw[g7]; have:=ok.2; simp only[i4,BE]; lia,g.few.no⟩,g.fresh,g.rise,g.mk_,λe f=>?_,λe f=>XQ (g.note e f)⟩;rcases m9.mp f with z | z
  ·rwa[g.way e z]
  ·rw[e8.mp z];rwa[ok.1]
 | .bearing m n a b c d,ok=>rwa[dP g ⟨ok.1,ok.2.1,ok.2.2.1,ok.2.2.2.1,ok.2.2.2.2.1⟩ ok.2.2.2.2.2.2]
 | .range m l r,ok=>rwa[dP g ⟨ok.1,ok.2.1,ok.2.2.1,ok.2.2.2.1,ok.2.2.2.2.1⟩ ok.2.2.2.2.2]
 | .move n x y,ok =>
  refine⟨⟨by show(S.marks.map _).length<=60; rw[ac]; exact g.few.ma,g.few.ba,g.few.ru,g.few.no⟩,g.fresh,g.rise,λe f=>?_,g.way,λe f=>YO (g.note e f) (ok.2.2 e f)⟩;obtain⟨e',h1,rfl⟩:=o5.mp f;by_cases z:e'.1=n
  ·rw[y6 z];rwa[ok.2.1]
  ·rw[y4 z];rwa[g.mk_ e' h1]
 | .unmark n,ok =>
  rwa[⟨d9 (Ce _ _) g.few.ma,g.few.ba,g.few.ru,g.few.no⟩,g.fresh,g.rise,λe f=>g.mk_ e (Dk.mp f).1,g.way,λe f=>dH (g.note e f) (ok.2 e f)]
 | .bank n h,ok =>
  exact⟨⟨g.few.ma,by show(S.banks++[_]).length<=60; rw[g7]; have:=ok.2.2.2.2; simp only[i4,BE]; lia,g.few.ru,g.few.no⟩,g.fresh,g.rise,g.mk_,g.way,λe f=>oh (g.note e f) rfl rfl⟩
 | .level n,_ =>
  rwa[⟨g.few.ma,d9 (Ce _ _) g.few.ba,g.few.ru,g.few.no⟩,g.fresh,g.rise,g.mk_,g.way,λe f=>oh (g.note e f) rfl rfl]
 | .right k x y,ok =>
  refine⟨⟨g.few.ma,g.few.ba,by show(S.runs.set _ _).length<=60; rw[Dm]; exact g.few.ru,g.few.no⟩,g.fresh,g.rise,g.mk_,λe f=>?_,λe f=>oh (g.note e f) rfl (by show(S.runs.set _ _).length=_; rw[Dm])⟩;rcases ER f with z | z
  ·rwa[g.way e z]
  ·rw[z];rwa[ok.2.2]
 | .strike k,_ =>
  erw[⟨g.few.ma,g.few.ba,g.few.ru,d9 (Ce _ _) g.few.no⟩,λe f=>g.fresh e (Dk.mp f).1,?_,g.mk_,g.way,λe f=>oq (g.note e (Dk.mp f).1)];rwa[g.rise.sublist (List.filter_sublist.map _)]
def qM:BS->List Deed->Prop
 | _,[]=>True
 | S,D::r=>okD S D/\qM (aft S D) r
def tD(S:BS)(l:List Deed):BS:=l.foldl aft S
def oz:∀{l:List Deed}{S:BS},jC S->qM S l->jC (tD S l)
 | [],_,g,_=>g
 | D::r,S,g,⟨h1,h2⟩=>show jC (tD (aft S D) r) from oz (TL g h1) h2
def lL:∀{l:List Deed}{S:BS}{D:Deed},qM S l->okD (tD S l) D->qM S (l++[D])
 | [],_,_,_,h=>⟨h,trivial⟩
 | _::_,_,_,⟨h1,h2⟩,h=>⟨h1,lL h2 h⟩
def iG:∀{l:List Deed}{S:BS}{i:Nat}{D:Deed},qM S l->l[i]?=Js D->okD (tD S (l.take i)) D
 | [],_,_,_,_,e=>by simp at e
 | _::_,_,0,_,⟨h1,_⟩,e=>by
  simp at e;subst e;rwa[h1]
 | D'::l,S,i+1,D,⟨_,h2⟩,e=>iG (l:=l) (S:=aft S D') (i:=i) h2 (by simpa using e)
def ai{l:List Deed}{i:Nat}(e:l[i]?=Js D):tD S (l.take (i+1))=aft (tD S (l.take i)) D:=by
 unfold tD;rw[Az,e,EV];rfl
def LwN(a H:Hp)(d:c5)(S:BS):Prop:=∃ m b r n,a r=Jt/\LwA H d m b r n S
structure xi(no:List (Int×Deed))(k:Int)(i:Nat):Prop where
 mk ::
 len:no.length=i
 num:k=1+(i:Int)
 pos:∀ e∈no,1<=e.1
def xi.nil:xi [] 1 0:=⟨rfl,rfl,λe a=>(nomatch a)⟩
def xi.snoc{k:Int}{i:Nat}{D:Deed}(h:xi no k i):xi (no++[(k,D)]) (k+1) (i+1) :=
 ⟨by rw[g7,h.len]; rfl,by rw[h.num]; lia,λe a=>by
  rcases m9.mp a with z | z
  ·rwa[h.pos e z]
  ·rw[e8.mp z];have:=h.num;show 1<=k;lia⟩
def Wk:Deed->Prop
 | .mark _ _ _ | .sail _ _ | .bearing _ _ _ _ _ _ | .range _ _ _=>True
 | _=>False
def LwP(H:Hp)(d p:c5)(S:BS):Prop:=∃ m b r n,r≠p/\LwA H d m b r n S
def LwP.at{H:Hp}(h:LwP H d p S):XG H d S:=let ⟨m,b,r,n,_,q⟩:=h;⟨m,b,r,n,q⟩
structure Ou(S:BS):Prop where
 mk ::
 lo:3<=S.marks.length
 hi:S.marks.length<=5
 bd:∀ e∈S.marks,e.2.1.natAbs<=860/\e.2.2.natAbs<=860
 bk:S.banks=[]
def PP:Sp:=λd H Q _=>E4 λ(a r:c5) (rows:List Int) (ns:List i9)=>A9 (d=[.ref a,.ref r]) (H a=Js (.lst 'm')) (90<=rows.length) (∀ x∈rows,0<=x/\x<1000003) (H r=Js (.lst (ns.map V.str))) (ns.length=5) (∀ n∈ns,qE n) ns.Nodup (∀(l:c5)(xs:List V)(b:List Deed)(c:Hp),Same H c->H l=Jt->c l=Js (.lst xs)->wH c (b.map Deed.dt) xs->b.length<=14->qM BS.nil b->(tD BS.nil b).runs.length<=3->(∀ D∈b,Wk D)->(∃ i,i<=6/\xi (tD BS.nil b).notes (tD BS.nil b).coming i)->Ou (tD BS.nil b)->Q (.ref l) c)
def oW:∀{l:List Deed}{S:BS}{i:Nat},qM S l->qM S (l.take i)
 | [],_,_,_=>by rw[List.take_nil]; rwa[trivial]
 | _::_,_,0,_=>trivial
 | _::_,_,i+1,⟨h1,h2⟩=>⟨h1,oW (i:=i) h2⟩
end Sea

namespace Sea
def stN(l:List (i9×Int×Int))(a:List (Int×Int))(no:List (Int×Deed))(k:Int):BS:=⟨l,[],a,no,k⟩
section
variable{l:List (i9×Int×Int)}{rs:List (Int×Int)}{no:List (Int×Deed)}{k:Int}
def iT{n:i9}(h:n ∉ l.map (·.1)):zT (stN l rs no k) n=none:=by
 unfold zT;rw[Fz,EK];intro e a z;rwa[h (o5.mpr ⟨e,a,of_decide_eq_true z⟩)]
def Re{x y:Int}(b:qE n)(h:n ∉ l.map (·.1))(a:pY (x,y))(c:l.length<20):okD (stN l rs no k) (.mark n x y):=⟨b,iT h,a,c⟩
def QH{x y:Int}(a:pY (x,y))(b:rs.length<12):okD (stN l rs no k) (.sail x y):=⟨a,b⟩
def io{m:Nat}{n:i9}{a b c d:Int}(i:m<=rs.length)(g:n∈l.map (·.1))(w1:rz (a,b))(f:rz (c,d))(t:0<a*d-b*c)(h:no.length<24):okD (stN l rs no k) (.bearing m n a b c d) :=
 ⟨by lia,by show(m:Int)<=(rs.length:Int); lia,by obtain⟨p,e⟩:=qR (S:=stN l rs no k) g; rw[e]; rfl,w1,f,t,h⟩
def Uj{m:Nat}{a b:i9}(g:m<=rs.length)(f:a∈l.map (·.1))(d:b∈l.map (·.1))(ne:zT (stN l rs no k) a≠zT (stN l rs no k) b)(c:no.length<24):okD (stN l rs no k) (.range m a b) :=
 ⟨by lia,by show(m:Int)<=(rs.length:Int); lia,by obtain⟨p,e⟩:=qR (S:=stN l rs no k) f; rw[e]; rfl,by obtain⟨p,e⟩:=qR (S:=stN l rs no k) d; rw[e]; rfl,ne,c⟩
structure iX(Ds:List Deed)(l:List (i9×Int×Int))(rs:List (Int×Int))(no:List (Int×Deed))(k:Int):Prop where
 mk ::
 ok:qM BS.nil Ds
 at_:tD BS.nil Ds=stN l rs no k
 four:∀ D∈Ds,Wk D
def TQ:iX [] [] [] [] 1:=⟨trivial,rfl,λD a=>(nomatch a)⟩
def pi{a:List Deed}{D:Deed}(h:∀ D∈a,Wk D)(k:Wk D):∀ E∈a++[D],Wk E:=λE b=>by
 rcases m9.mp b with z | z
 ·rwa[h E z]
 ·rw[e8.mp z]; rwa[k]
def iX.snoc(h:iX a l rs no k)(ok:okD (stN l rs no k) D):qM BS.nil (a++[D])/\tD BS.nil (a++[D])=aft (stN l rs no k) D:=by
 exists lL h.ok (by rw[h.at_]; rwa[ok]);have e:=h.at_;unfold tD at e ⊢;rw[EV,e];rfl
def iX.mark{x y:Int}(h:iX c l rs no k)(ok:okD (stN l rs no k) (.mark n x y)):iX (c++[.mark n x y]) (l++[(n,x,y)]) rs no k:=let ⟨a,b⟩:=h.snoc ok;⟨a,b,pi h.four trivial⟩
def iX.sail{x y:Int}(h:iX c l rs no k)(ok:okD (stN l rs no k) (.sail x y)):iX (c++[.sail x y]) l (rs++[(x,y)]) no k:=let ⟨a,b⟩:=h.snoc ok;⟨a,b,pi h.four trivial⟩
def iX.bearing{m:Int}{a b c d:Int}(h:iX e l rs no k)(ok:okD (stN l rs no k) (.bearing m n a b c d)):iX (e++[.bearing m n a b c d]) l rs (no++[(k,.bearing m n a b c d)]) (k+1):=let ⟨x,y⟩:=h.snoc ok;⟨x,y,pi h.four trivial⟩
def iX.range{m:Int}(h:iX c l rs no k)(ok:okD (stN l rs no k) (.range m a b)):iX (c++[.range m a b]) l rs (no++[(k,.range m a b)]) (k+1):=let ⟨x,y⟩:=h.snoc ok;⟨x,y,pi h.four trivial⟩
end
def YG{α:Type}{l:List α}{i:Nat}{x:α}(h:l.Nodup)(e:l[i]?=Js x):x ∉ l.take i:=λm=>by
 obtain⟨j,a⟩:=List.mem_iff_getElem?.mp m;have lt:j<i:=by have:=(c9.mp a).1; rw[o3] at this; lia
 rw[Bx,y6 lt] at a;obtain⟨h1,c⟩:=c9.mp a;obtain⟨h2,b⟩:=c9.mp e;have:=(GY h).mp (c.trans b.symm);lia
def SX{a:List i9}{x:Int}(h:0<((a.map V.str).length:Int)):∃ n,n∈a/\atI (a.map V.str) (x%((a.map V.str).length:Int))=Js (.str n):=by
 have h0:=Ar x (show((a.map V.str).length:Int)≠0 by lia);have h1:=Ad x h;generalize x%((a.map V.str).length:Int)=y at h0 h1;obtain⟨k,rfl⟩:=CA h0;have b:k<a.length:=by rw[ac] at h1; lia
 rwa[a[k],Ap b,rE (by rw[e7,d6 b]; rfl)]
end Sea

namespace L2
def jH(o:By)(f:Array c7->Array c7):(BZ f o).dict=o.dict:=by unfold BZ; split <;> rfl
def aa(h base:Ae)(e:c5)(cls f:c7):Prop :=
 ∃ a b T d c,h.get? e=Js a/\(a.cls=cls/\a.dict=Jt/\b[2]?=Js .none)/\a.data=.fields b/\b[1]?=Js (.ref T)/\base.get? T=Jt/\T≠e/\h.get? T=Js d/\d.data=.fields c/\c[3]?=Js f
def wu(base:Ae)(l:List D4)(e:c5)(cls:c7)(h:Ae):Prop:=base.StaysIn h/\base.get? e=Jt/\h.FunFrames base l/\aa h base e cls .none
def TB(base:Ae)(l:List D4)(e:c5)(cls:c7)(L:c5)(h:Ae):Prop:=base.StaysIn h/\base.get? e=Jt/\h.FunFrames base l/\aa h base e cls (rawInt L)
section
variable{M:IU}{A:An}{E:c7->d7->Prop}{s:d7}
def SA{env:D4}{outer:List D4}{head:c7}{Q:Unit->d7->Prop}
  (Y:A.frames=Js (env::outer)) (P:s.heap.FunFrames base (env::outer)) (hf:env.frame=Js L)
  (R:s.heap.get? e=Js z) (X:base.StaysIn s.heap) (J:base.get? e=Jt) (hd:z.data=.fields u) (B:1<u.size) (Z:z.dict=Jt) (h0:u[2]?=Js .none)
  (h:∀ h',TB base (env::outer) e z.cls L h'->s.heap.UpToSlots h'->Q () { s with heap:=h' }) :
  wpAny M A (do let a <- frameOf env; let y <- entryPlaceOf L r; let b <- Gg head a .none (rawInt L) .none y; setField (.ref e) 1 b) Q E s:=by
 have I:e ∉ (env::outer).filterMap (·.frame):=λT=>by
  obtain⟨_,o,O,f⟩:=P.mem T;rw[R] at O; injection O with O; subst O; rwa[f u hd]
 erw[c6 (wpAny_frameOf_fun Y P hf λc d=>?_)];erw[c6 (wpAny_entryPlaceOf λy C=>?_)];unfold Gg newFields;erw[c6 (AJ ?_ (C.sizeOk5 _ _ _ _ _))];have n:c.get? e=Js z:=(d.2.1 e I).trans R;have l:base.StaysIn c:=λb o g=>(d.2.1 b λT=>by rw[(P.mem T).1] at g; cases g).trans (X b o g);generalize H:({ cls:=.type "traceback",dict:=Jt,data:=.fields ([head,.ref L,.none,rawInt L,.none]++(if y.isEmpty then Cy 6 Am else y)).toArray } : By)=ob;have D:ob.isFreed=false:=by rw[<- H]; rfl
 have G:ob.data=.fields ([head,.ref L,.none,rawInt L,.none]++(if y.isEmpty then Cy 6 Am else y)).toArray:=by rw[<- H]
 have m:=c8 (h:=c) ob n;erw[DI m hd B (h _ ?_ ?_)]
 ·have N:c.objs.size≠e:=DB (i5 n);have p:=CJ hd (·.setIfInBounds 1 (j4 c.objs.size));have v:=CQ (BZ (·.setIfInBounds 1 (j4 c.objs.size))) m (DL p);have x:=(AK (c.push ob) (BZ (·.setIfInBounds 1 (j4 c.objs.size))) (Bk N)).trans (j9 c D);have keep:∀ b o,b≠e->c.get? b=Js o->((c.push ob).update e (BZ (·.setIfInBounds 1 (j4 c.objs.size)))).get? b=Js o:=λb o w i=>by
   rw[AK _ _ (Bk w)];rwa[c8 _ i]
  have j:∀ b o,s.heap.get? b=Js o->(∀ u,o.data≠.fields u)->b≠e:=λb o i f q=>by
   rw[q,R] at i; injection i with i; subst i; rwa[f u hd]
  refine⟨λb o g=>keep b o (λq=>by rw[q,J] at g; cases g) (l b o g),J,P.of_keeps λb o i f=>?_,?_⟩
  ·obtain⟨sl,S⟩:=d.2.2 b o i;rwa[_,keep b _ (j b o i f) S,rfl]
  ·exact⟨_,_,c.objs.size,_,_,v,⟨GL _ _,by rw[jH]; exact Z,by rw[Array.getElem?_setIfInBounds_ne 'a']; rwa[h0]⟩,p,by simp[B],l.fresh,N,x,G,by first | (simp; done) | (rcases C with rfl | ⟨_,_,_,_,_,_,_,rfl⟩ <;> simp)⟩
 ·intro b o i f;have w:b≠e:=λq=>by rw[q,R] at i; injection i with i; subst i; rwa[f u hd]
  obtain⟨sl,S⟩:=d.2.2 b o i;exists sl;rw[AK _ _ (Bk w)];rwa[c8 _ S]
def aJ{env:D4}{outer:List D4}{Q:Unit->d7->Prop}
  (d:A.frames=Js (env::outer)) (m:s.heap.FunFrames base (env::outer)) (j:env.frame=Js L)
  (l:s.heap.get? e=Js a) (c:base.StaysIn s.heap) (f:base.get? e=Jt) (hd:a.data=.fields b) (h1:b[1]?=Js .none) (g:a.dict=Jt) (h0:b[2]?=Js .none)
  (h:∀ i,TB base (env::outer) e a.cls L i->s.heap.UpToSlots i->Q () { s with heap:=i }):wpAny M A (noteFrame (.ref e) env) Q E s:=by
 unfold noteFrame;simp only[j];erw[c6 (Dv l hd h1 ?_)];rw[y4 'a'];rwa[SA d m j l c f hd (Ca.mp h1).1 g h0 h]
def Xk{env:D4}{outer:List D4}{Q:Unit->d7->Prop}
  (p:A.frames=Js (env::outer)) (z:env.frame=Js L) (r:wu base (env::outer) e cls s.heap)
  (h:∀ l,TB base (env::outer) e cls L l->s.heap.UpToSlots l->Q () { s with heap:=l }):wpAny M A (noteFrame (.ref e) env) Q E s:=by
 obtain⟨n,u,H,I,y,T,J,G,B,⟨j,v,h0⟩,hd,h1,m,w,x,g,h3⟩:=r;subst j;unfold noteFrame;simp only[z];refine c6 (Dv B hd h1 ?_);rw[y6 (show(j4 T != Am)=Ju from by simp)];refine c6 (Dv x g h3 ?_);rw[y4 (show ¬ ((Am == rawInt L)=Ju) from by simp[rawInt])];refine c6 (DI x g (Ca.mp h3).1 ?_);have c:∀ b,b≠T->(s.heap.update T (BZ (·.setIfInBounds 3 Am))).get? b=s.heap.get? b:=λb f=>AK _ _ (Bk f);have a:∀ b o,s.heap.get? b=Js o->(∀ y,o.data≠.fields y)->b≠T:=λb o f d q=>by
  rw[q,x] at f; injection f with f; subst f; rwa[d G g]
 refine SA p (H.of_keeps λb o f d=>⟨o,(c b (a b o f d)).trans f,rfl⟩) z ((c e (Bk w)).trans B)
  (λb o i=>(c b λq=>by rw[q,m] at i; cases i).trans (n b o i)) u hd (Ca.mp h1).1 v h0
  λl D C=>h l D λb o f d=>C b o ((c b (a b o f d)).trans f) d
def Qb{base:Ae}{Q:Unit->d7->Prop}(G:base.StaysIn s.heap/\base.get? e=Jt/\s.heap.FunFrames base l/\aa s.heap base e cls H)
  (h:∀ y,wu base l e cls y->s.heap.UpToSlots y->Q () { s with heap:=y }):wpAny M A (setFlight (.ref e) Jt) Q E s:=by
 obtain⟨v,w,D,C,u,T,I,z,B,p,hd,h1,n,r,x,i,h3⟩:=G;have j:3<z.size:=(Ca.mp h3).1;have c:∀ b,b≠T->(s.heap.update T (BZ (·.setIfInBounds 3 ((Jt:Option c5).elim Am λf=>rawInt f)))).get? b=s.heap.get? b :=
  λb d=>AK _ _ (Bk d)
 have a:∀ b o,s.heap.get? b=Js o->(∀ u,o.data≠.fields u)->b≠T:=λb o d g q=>by
  rw[q,x] at d; injection d with d; subst d; rwa[g z i]
 unfold setFlight;refine c6 (Dv B hd h1 ?_);rw[y6 (show(j4 T != Am)=Ju from by simp)];refine DI x i j (h _ ⟨λb o m=>(c b λq=>by rw[q,n] at m; cases m).trans (v b o m),w,
  D.of_keeps λb o d g=>⟨o,(c b (a b o d g)).trans d,rfl⟩,?_⟩ λb o d g=>⟨o.slots,(c b (a b o d g)).trans d⟩)
 rwa[C,u,T,_,_,(c e (Bk r)).trans B,p,hd,h1,n,r,CQ _ x (DL (CJ i _)),CJ i _,by simp[j]]
def Sh{Q:Unit->d7->Prop}(b:TB base l e cls L s.heap)
  (h:∀ a,wu base l e cls a->s.heap.UpToSlots a->Q () { s with heap:=a }):wpAny M A (setFlight (.ref e) Jt) Q E s:=Qb b h
def Yj{env:D4}{outer:List D4}{Q:Unit->d7->Prop}
  (a:A.frames=Js (env::outer)) (j:env.frame=Js L) (b:wu base (env::outer) e cls s.heap)
  (l:∀ c,wu base outer e cls c->s.heap.UpToSlots c->Q () { s with heap:=c }):wpAny M A (leaving env (.ref e)) Q E s:=by
 unfold leaving;erw[c6 (Xk a j b λh1 d u1=>?_)];erw[Sh d λh2 ⟨i,h,⟨_,_,g⟩,f⟩ u2=>l h2 ⟨i,h,g,f⟩ (u1.trans u2)]
def cj{base h:Ae}{env:D4}{outer:List D4}{Q:Unit->d7->Prop}
  (f:A.frames=Js (env::outer)) (v:env.frame=Js L) (a:base.StaysIn h) (u:h.FunFrames base (env::outer)) (d:HP h s.heap e cls args)
  (x:∀ g,wu base outer e cls g->s.heap.UpToSlots g->Q () { s with heap:=g }):wpAny M A (leaving env (.ref e)) Q E s:=by
 obtain⟨t,w,q,y⟩:=d.there;have fresh:∀ b,h.get? b=Jt->base.get? b=none:=λb c=>by
  cases r:base.get? b with
  | none=>rfl
  | some j=>have:=a b j r; rw[c] at this; cases this
 unfold leaving;erw[c6 (aJ f (u.of_keeps λb o c _=>⟨o,d.keeps b o c,rfl⟩) v w (λb o c=>d.keeps b o (a b o c)) (fresh e d.new) rfl rfl rfl rfl λh1 i u1=>?_)];erw[Sh i λh2 ⟨p,n,⟨_,_,m⟩,l⟩ u2=>x h2 ⟨p,n,m,l⟩ (u1.trans u2)]
end
end L2

namespace L2
def uH.some{H:Hp}(x:uH P w H h a o):∃ ob,h.get? a=Js ob:=by
 cases o with
 | lst xs=>obtain⟨_,_,_,_,e⟩:=x; rwa[_,e]
 | tup xs=>obtain⟨_,_,_,o,e,_⟩:=x; rwa[_,e]
 | dK b=>obtain⟨_,_,_,_,o,_,_,e,_⟩:=x; rwa[_,e]
 | dT b=>obtain⟨_,_,_,_,o,_,_,e,_⟩:=x; rwa[_,e]
 | set S n=>obtain⟨o,_,_,_,e,_⟩:=x; rwa[_,e]
 | ins C dx fs=>obtain⟨_,_,_,e,_⟩:=x; rwa[_,e]
 | own y=>obtain⟨_,e⟩:=x; rwa[_,e]
 | xd fs=>obtain⟨_,⟨_,_,_,e,_⟩,_⟩:=x; rwa[_,e]
 | rng lo hi=>obtain⟨_,_,_,e⟩:=x; rwa[_,e]
 | frz ob u=>obtain⟨e,_⟩:=x; rwa[_,e]
 | tbl d=>rwa[_,x]
 | met f y=>rwa[_,x]
 | ext c=>obtain⟨_,⟨_,e⟩,_⟩:=x; rwa[_,e]
section
variable{fs:List c5}{H H':Hp}{h h2 h3 B:Ae}{P:o7}{w:w9}
def un_on(u:Un fs [] H H' h h2)(st:B.StaysIn h3)(j:∀ b o d,h.get? b=Js d->h2.get? b=Js o->b ∉ fs->B.get? b=Js o)
  (i:∀ b∈fs,∀ o,h2.get? b=Js o->∃ g,h3.get? b=Js { o with slots:=g }):Un fs [] H H' h h3 where
 keep:=λb o q n a c=>st _ _ (j b o o q (u.keep b o q n a c) a)
 slot:=λb o q n a c=>by
  obtain⟨g,e⟩:=u.slot b o q n a c;obtain⟨f,e'⟩:=i b a _ e;rwa[f,e']
 free:=u.free
 there:=λb o q c=>by
  obtain⟨d,e⟩:=u.there b o q c;by_cases a:b∈fs
  ·obtain⟨g,e'⟩:=i b a _ e;rwa[_,e']
  ·rwa[d,st _ _ (j b d o q e a)]
 tups:=u.tups
 frzs:=u.frzs
 tbls:=u.tbls
def Nk(ok:HOk P w H' h2)(st:B.StaysIn h3)(d:∀ b o u,H' b=Js u->h2.get? b=Js o->B.get? b=Js o):HOk P w H' h3:=λa o e =>
 (ok a o e).stay (λb u c q=>st _ _ (by
  rcases c with rfl | c
  ·rwa[d _ u o e q]
  ·rwa[d b u _ c q])) (λ_ q=>q) λ_ _ q=>q
end
structure Tf(P:o7)(w:w9)(outer:List D4)(H:Hp)(s:d7)(ea:c5)(cls:c7)(H':Hp)(B:Ae)(s':d7):Prop where
 mk ::
 os:s'.os=s.os
 bare:Ei s'.gens
 un:Un (frs outer) [] H H' s.heap s'.heap
 hok:HOk P w H' s'.heap
 new:H' ea=Jt
 fresh:s.heap.get? ea=Jt
 fly:wu B outer ea cls s'.heap
 has:∀ b o,s'.heap.get? b=Js o->((s.heap.get? b).isSome=Ju\/(H' b).isSome=Ju)->b ∉ frs outer->B.get? b=Js o
def CX1(P:o7)(w:w9):CXT:=λouter H s E e c=>∃(a:c5)(cls:c7)(b:Hp)(B:Ae),e=.ref a/\Tf P w outer H s a cls b B c/\E cls Jt b
def CX1.none{H:Hp}(h:CX1 P w outer H s E0 e a):False:=let ⟨_,_,_,_,_,_,z⟩:=h; z
def bz{X:Cx}{r:St}{f:Hp}{B h3:Ae}{env:D4}{outer:List D4}(n:X.stack=env::outer)(A:X.outer=outer)(y:X.ex=[])(p:env.frame=Js X.env.locals)(J:Inv X D r f s2)
  (m:∀ b o,s2.heap.get? b=Js o->((X.s₀.heap.get? b).isSome=Ju\/(f b).isSome=Ju)->b ∉ frs (env::outer)->B.get? b=Js o) (nw:f h=Jt) (fr:X.s₀.heap.get? h=Jt)
  (fly:wu B outer h cls h3) (s:s2.heap.UpToSlots h3):Tf X.prog X.w outer X.H₀ X.s₀ h cls f B { s2 with heap:=h3 }:=by
 have st:=fly.1;have a:∀ b o,X.s₀.heap.get? b=Js o->b ∉ frs outer->b ∉ frs (env::outer):=λb o q d z=>by
  rcases g9.mp (show b∈X.env.locals::frs outer by
   have:frs (env::outer)=X.env.locals::frs outer:=by unfold frs; rw[BD,p]
   rw[<- this]; rwa[z]) with e | e
  ·have l:=j5 (i5 q) J.ok.above;rw[e] at l;rwa[AM _ l]
  ·rwa[d e]
 have trk:∀ b u,f b=Js u->b ∉ frs (env::outer):=λb u e z=>by
  have:=J.stkFree b (by rw[n]; rwa[z]);rw[e] at this;cases this
 have fs:X.fs=frs outer:=by show frs X.outer=_; rw[A]
 have C:∀ b∈frs outer,∀ o,s2.heap.get? b=Js o->∃ v,h3.get? b=Js { o with slots:=v }:=λb d o e=>by
  obtain⟨_,c,e',x⟩:=J.stack.mem (show b∈X.stack.filterMap (·.frame) by
   rw[n];show b∈frs (env::outer);have:frs (env::outer)=X.env.locals::frs outer:=by unfold frs; rw[BD,p]
   rw[this];rwa[.tail _ d])
  rw[e] at e';cases e';rwa[s b o e x]
 have un:Un (frs outer) [] X.H₀ f X.s₀.heap s2.heap:=by
  have:=J.base;rw[fs,y] at this;rwa[this]
 refine⟨J.os,J.bare,un_on un st (λb o c q e d=>m b o e (.inl (by rw[q]; rfl)) (a b c q d)) C,Nk J.hok st λb o u e q=>m b o q (.inr (by rw[e]; rfl)) (trk b u e),nw,fr,fly,λb o e z d=>?_⟩;have i:∃ c,s2.heap.get? b=Js c:=by
  rcases z with z | z
  ·obtain⟨c,q⟩:=o6.mp z;exact un.there b c q (λz=>nomatch z)
  ·obtain⟨u,q⟩:=o6.mp z;exact(J.hok b u q).some
 obtain⟨c,e'⟩:=i;have j:b ∉ frs (env::outer):=by
  rcases z with z | z
  ·obtain⟨c,q⟩:=o6.mp z;rwa[a b c q d]
  ·obtain⟨u,q⟩:=o6.mp z;rwa[trk b u q]
 have g:=m b c e' z j;have:=st _ _ g;rw[show({ s2 with heap:=h3 } : d7).heap=h3 from rfl] at e;rw[this] at e;cases e;rwa[g]
def Tf.inv{a:St}{H e:Hp}(I:Inv X d a H s)(f:Tf X.prog X.w X.stack H s g cls e B c):Inv X d a e c :=
 I.call' (ch:=[]) f.os f.un f.hok f.bare λb z=>y9 z 'd'
def Tp(X:Cx)(d:St->XK):Prop:=∀(c:List (c5×By))(a:St)(H:Hp)(s:d7)(e:c7)(b:d7),Inv X c a H s->CX1 X.prog X.w X.stack H s (d a) e b->X.xe e b
def Om(X:Cx)(f:St->XK):Prop:=∀(d:List (c5×By))(a:St)(H:Hp)(s:d7)(b:Ae)(e:c5)(cls:c7)(c:List c7),Inv X d a H s->HP s.heap b e cls c->f a cls Jt H->X.xe (.ref e) { s with heap:=b }
def oy : Tp X (λ_=>E0):=λ_ _ _ _ _ _ _ h=>h.none.elim
section
variable{P:o7}{w:w9}{K:b8}{mg:i9->Option c7}{base:Ae}{N:List i9}{qual:i9}{scope:Cs}{f:c5}{cd:c7}{A:An}{outer:List D4}{s:d7}{H:Hp}{E:XK}
def rf:Tp (cxOf (CX1 P w) P w K mg base N qual scope f cd A outer s H E) (λ_=>E):=by
 intro v p x u e r I h;obtain⟨d,cls,n,B,rfl,c,q⟩:=h;have J:=c.inv I;erw[Yj (base:=B) (cls:=cls) (L:=s.heap.objs.size) I.ok.frames rfl c.fly λh3 fly l=>?_];erw[d,cls,n,B,rfl,bz (X:=cxOf (CX1 P w) P w K mg base N qual scope f cd A outer s H E) rfl rfl rfl rfl J (λb o e z m=>c.has b o e (z.imp (λz=>?_) id) m) c.new ?_ fly l,q]
 ·obtain⟨j,g⟩:=o6.mp z;obtain⟨i,a⟩:=I.base.there b j g (λz=>nomatch z);rw[a];rfl
 ·show s.heap.get? d=Jt;cases g:s.heap.get? d with
  | none=>rfl
  | some j =>
   obtain⟨i,a⟩:=I.base.there d j g (λz=>nomatch z);rw[c.fresh] at a;cases a
def Ub:Om (cxOf (CX1 P w) P w K mg base N qual scope f cd A outer s H E) (λ_=>E):=by
 intro D B l c C e cls n I i q;have j:∀ env∈(cxOf (CX1 P w) P w K mg base N qual scope f cd A outer s H E).stack,∀ b,env.frame=Js b->b∈frs (cxOf (CX1 P w) P w K mg base N qual scope f cd A outer s H E).stack:=λenv y b g=>Et.mpr ⟨env,y,g⟩;have a:∀ b o,c.heap.get? b=Js o->b ∉ frs (cxOf (CX1 P w) P w K mg base N qual scope f cd A outer s H E).stack->(FC c.heap (frs (cxOf (CX1 P w) P w K mg base N qual scope f cd A outer s H E).stack)).get? b=Js o:=λb o e g=>F9 _ e g;refine cj (h:=c.heap) (base:=FC c.heap (frs (cxOf (CX1 P w) P w K mg base N qual scope f cd A outer s H E).stack)) (cls:=cls) (args:=n) (L:=s.heap.objs.size) I.ok.frames rfl (λb o q=>Gp _ q) (PySem.W.funFrames_hide I.stack j) i λh3 fly p=>?_;have nw:l e=none:=by
  cases z:l e with
  | none=>rfl
  | some u =>
   obtain⟨ob,m⟩:=(I.hok e u z).some;rw[i.new] at m;cases m
 erw[e,cls,l,_,rfl,bz (X:=cxOf (CX1 P w) P w K mg base N qual scope f cd A outer s H E) (s2:=c) rfl rfl rfl rfl I (λb o e _ g=>a b o e g) nw ?_ fly ((IF i.keeps).trans p),q];show s.heap.get? e=Jt;cases r:s.heap.get? e with
 | none=>rfl
 | some x =>
  obtain⟨v,d⟩:=I.base.there e x r (λz=>nomatch z);rw[i.new] at d;cases d
def Fun.okX{x qual:i9}{st:Af}{f:c5}{fd:AW}{N e:List i9}{k:Nat}{d:Sp}(F:Fun K x qual st f fd)(S:zJ N e (zF st))(len:∀ b H Q E,d b H Q E->b.length=e.length)
  (c:∀(a:c7)(A:An)(outer:List D4)(s:d7)(H:Hp)(b:List V)(Q:VK)(E:XK),Room k (A.deeper (envOfC qual (zF st) s.heap.objs.size f a))->d b H Q E ->
   ∃ t,PSs (cxOf (CX1 P w) P w K mg base N qual (zF st) f a A outer s H E) (xJ st) t/\t { nx:=λ_ m=>Q .non m,rt:=Q } (start N b) H):yI P w K mg base (CX1 P w) (k+1) f fd e d:=by
 obtain⟨p,o,kV,l,n,q,a,ct,i,rfl,lk,h⟩:=F.ex;rwa[QG lk h S len λA outer s H b Q E j g=>c a A outer s H b Q E j g]
end
def Ye(P:o7)(w:w9)(K:b8)(mg:i9->Option c7)(base:Ae)(x:i9)(n:Nat)(a:List i9)(b:Sp):Prop :=
 ∃(f:c5)(fd:AW),yI P w K mg base (CX1 P w) n f fd a b/\oN K fd a []/\AT K (.ref f)=Ju/\mg x=Js (.ref f)
section
variable{X:Cx}{n:Nat}{f:c5}{fd:AW}{ps:List i9}{sp:Sp}{x m:i9}{p pos apos:Dg}{e o:Av}{es:List Av}{ta:TE}{t:TA}{EE:St->XK}{C g:c5}
def QI{b:St}{H:Hp}{Q:VK}(F:yI X.prog X.w X.K X.mg X.base (CX1 X.prog X.w) n f fd ps sp)(v:Room n X.A)(z:oN X.K fd ps [])(q:Tp X EE)
  (I:Inv X j b H s) (r:yQ i a) (h:sp i H Q (EE b)):wpAny 'b' X.A (call (.ref f) a) (EP X j b Q) X.xe s:=by
 have y:a.length=ps.length:=by rw[<- r.length]; rwa[F.len _ _ _ _ h]
 have d:=z s a I.kIn (by rw[CM]; rwa[y]);rw[CM] at d;erw[Gs (codeAny_mono (F.run X.A X.stack s H ⟨a,[]⟩ a i Q (EE b) v I.env0 d r h) λr l c=>?_)];cases r with
 | error e=>rwa[q j b H s e l I c]
 | ok B =>
  cases B with
  | ret u=>rwa[I.after c]
  | next=>rwa[AN c]
  | brk=>rwa[AN c]
  | cont=>rwa[AN c]
def OW(sp:Sp)(EE:St->XK)(t:TA):TE:=λa H Q=>t a H λb c=>sp b c Q (EE a)
def uS(EE:St->XK)(h:Ye X.prog X.w X.K X.mg X.base x n ps sp)(i:Tp X EE)(j:Room n X.A)(v:Gl X x)
  (B:PA X (e::es) t) (b:(x ==("__debug__" : i9))=false:=by decide) (y:starEach (e::es) X.env=(Jv,eval e X.env)::starEach es X.env:=by rfl) (a:(backTo pos (starEach es X.env)).any (·.1)=false:=by rfl) :
  PE X 't' (OW sp EE t):=by
 obtain⟨f,fd,F,z,u,l⟩:=h;intro D s d H Q I h;erw[BI (yd I v l ?_ b)];erw[Dp (h₀:=X.base) I.ok.mod.kin u (thn (B pos D s d H _ I h) λG J ⟨E,L,c,r,q⟩=>⟨c.kIn,?_⟩) y a];rwa[QI F j z i c r q]
def PS.nox{st:Af}{t:TS}(h:PS X.nox st t):PS X st t:=λc s a H D I b =>
 Bw (h c s a H D (I.wish _) b) (λ_ _ q=>q.unwish) λ_ _ z=>AN z
def OR(cls:c7)(EE:St->XK)(t:TA):TS:=λ_ a H=>t a H λb c=>b.length<=sizeLine/\EE a cls Jt c
def UY(EE:St->XK)(O:Jf x C j b X.mg X.base)(Fn:ExcBaseFacts Bn b v E)(A:j.contains (.type Bn)=Ju)(FB:ExcBaseFacts B u c j)(hx:Om X EE)
   (ha:PA X (e::es) t) (hc:X.calm=true:=by rfl) (hg:Gl X x:=by rfl) (hd:(x ==("__debug__" : i9))=false:=by decide) (Y:starEach (e::es) X.env=(Jv,eval e X.env)::starEach es X.env:=by rfl) (w:(backTo a (starEach es X.env)).any (·.1)=false:=by rfl) :
  PS X (.Raise (Js (.Call (.Name x np) (e::es) [] a)) Jt pos) (OR (.ref C) EE t):=by
 obtain⟨tl,N,nm,q,bs,d,J,sub,ab,i,Z,S,R,Q,P,M,L,hC,hN,z,T⟩:=O.obj;intro Jw s G H D I h;refine wpAny_Raise_call_subU (C:=C) (nm:=nm) (q:=q) (N:=N) (bs:=bs) (bm:=tl) (hdct:=d) (sn:=J) (sub:=sub) (ab:=ab) (col:=i) (dd:=Z) (k0:=S) (k1:=R) (k2:=Q) (k3:=P) (k5:=M)
  Fn A FB (mN:=L) (T.hasType FB.hasBase) (I.ok.hd hc) (by rw[Y]; show(Jv||(backTo a (starEach es X.env)).any (·.1))=Jv; rw[w]; rfl) z (yd I hg O.bound ⟨rfl,?_⟩ hd)
 have h:=ha a Jw s G H _ I h;rw[Y] at h ⊢;erw[D6 (Bw h (λus s2 ⟨vs,H1,l,r,len,q⟩=>⟨rfl,?_,l.bk _ _ hC,hN.keeps l.bk,T.keeps l.bk,λh' e hm=>?_⟩) λ_ _ y=>y)]
 ·rw[<- r.length]; rwa[len]
 ·rwa[hx Jw G H1 s2 h' e _ _ l hm q]
end
end L2

namespace L2
abbrev TJ:=St->Hp->(Hp->Prop)->Prop
section
variable{X:Cx}{e:Av}{es:List Av}{t:TJ}{te:TE}{pos p:Dg}{n:Nat}
def PJ(X:Cx)(es:List Av)(n:Nat)(t:TJ):Prop:=∀(d:List (c5×By))(s:d7)(b:St)(H:Hp)(k:Nat)(a:i9)(Q:i9->d7->Prop)(C:Hp->Prop),Inv X d b H s->a.length<=2000*k->k+n<=100 ->
 t b H C->(∀(f:Hp)(out:i9)(c:d7),C f->out.length<=200000->Inv X d b f c->Q out c)->Joins 'b' X.A X.xe (evalEach es X.env) a Q s
def Ni:TJ:=λ_ H K=>K H
def Nh(te:TE)(t:TJ):TJ:=λa H K=>te a H λv b=>((∃ i,v=.int i/\i.natAbs.log2<1920)\/∃ x,v=.str x/\x.length<=1000)/\t a b K
def Ox:PJ X [] 0 Ni:=λ_ s _ H _ a _ _ I h b q z=>z H a s q (by lia) I
def PX{c:i9}{j:Nat}(d:PJ X es n t)(l:c.length<=1000:=by decide)(f:evalEach (.Constant (.str c) j p::es) X.env=eval (.Constant (.str c) j p) X.env::evalEach es X.env:=by rfl):PJ X (.Constant (.str c) j p::es) (n+1) t:=by
 intro g s b H k a Q C I h i q z;rw[f];erw[Gq ⟨c,_,rfl,?_,?_⟩]
 ·rw[strLen_append];show a.length+c.length<=2^24;lia
 ·rwa[d g _ b H (k+1) _ _ C (I.tok _) (by rw[strLen_append]; lia) (by lia) q z]
def Os(J:PE X e te)(o:PJ X es n t)(L:evalEach (.FormattedValue e (-1) Jt p::es) X.env=eval (.FormattedValue e (-1) Jt p) X.env::evalEach es X.env:=by rfl):PJ X (.FormattedValue e (-1) Jt p::es) (n+1) (Nh te t):=by
 intro j s f H k b Q C I h N q z;rw[L];erw[wpAny_FormattedValue_plain (thn (J j s f H _ I q) λu G ⟨v,D,B,r,c,m⟩=>?_)];rcases c with ⟨i,rfl,hi⟩ | ⟨x,rfl,M⟩
 ·obtain⟨E,rfl⟩:=(show ∃ t,u=Ch i t from r);have l:=int_text_length_le (k:=1920) 'a' hi;rw[<- DM] at l;erw[wpAny_formatField_int hi ⟨_,_,rfl,?_,?_⟩]
  ·rw[strLen_append];show b.length+_<=2^24;lia
  ·rwa[o j _ f D (k+1) _ _ C (B.tok _) (by rw[strLen_append]; lia) (by lia) m z]
 ·obtain⟨E,rfl⟩:=(show ∃ t,u=Dr x t from r);have g:∀(d:Jn)(a:Nat),∃ y t,Dr x d=.str y t/\(b++y).length<=sizeLine/\Joins 'b' X.A X.xe (evalEach es X.env) (b++y) Q { G with toks:=a }:=λd a =>
   ⟨x,d,rfl,by rw[strLen_append]; show b.length+x.length<=2^24; lia,o j _ f D (k+1) _ _ C (B.tok _) (by rw[strLen_append]; lia) (by lia) m z⟩
  exact formatField_str (λd a=>g d a) (by show x.length<=2^24; lia)
def Ny(t:TJ):TE:=λa H Q=>t a H λb=>∀ x:i9,x.length<=200000->Q (.str x) b
def Qe{a b:Av}(f:PJ X (a::b::es) n t)(o:n<=100:=by decide):PE X (.JoinedStr (a::b::es) pos) (Ny t):=by
 intro g s d H Q I h;exact wpAny_JoinedStr (f g s d H 0 IC _ _ I 'a' (by lia) h λj out m c l i=>⟨by show out.length<=2^24; lia,.str out,j,i.tok _,⟨_,rfl⟩,c out l⟩)
end
def bmV:List c7:=[.type "ValueError",.type "Exception",.type "BaseException",.type "object"]
end L2

namespace L2
def US(w:w9)(x:i9):keyH w (.inr x)=Ep w.params x:=rfl
def VS{w:w9}{B:Ae}{l:List (i9×Nat×V×c7)}{ep:Nat}(h:B.get? a=Js ⟨.type "dict",Jt,.dict ((l.map λe=>(⟨Ep w.params e.1,.str e.1 e.2.1,e.2.2.2⟩:CN)).toArray) ep,#[]⟩)
  (r:∀ e∈l,xI e.2.2.1 e.2.2.2) (nd:(l.map (·.1)).Nodup):Pp P w B a (l.map λe=>(.inr e.1,e.2.2.1)):=by
 erw[l.map λe=>(.inr e.1,e.2.2.2),?_,_,_,ep,h,⟨rfl,rfl,rfl⟩,rfl,λe b=>?_,?_,?_]
 ·clear h nd
  induction l with
  | nil=>rwa[.nil]
  | cons e l c=>rwa[.cons ⟨rfl,r e (.head _)⟩ (c λe b=>r e (.tail _ b))]
 ·have b:e∈l.map λe=>(⟨Ep w.params e.1,.str e.1 e.2.1,e.2.2.2⟩:CN):=by simpa using b
  obtain⟨q,_,rfl⟩:=o5.mp b;rwa[.inr q.1,ub P w q.1 q.2.1,(US w q.1).symm]
 ·rw[Gf];clear h nd r
  induction l with
  | nil=>rwa[.nil]
  | cons e l c=>rwa[.cons (ub P w e.1 e.2.1) rfl c]
 ·rw[v8];have:((λe:Key×c7=>e.1) ∘ λe:i9×Nat×V×c7=>((.inr e.1:Key),e.2.2.2))=(λx:i9=>(.inr x:Key)) ∘ λe=>e.1:=rfl;rw[this,<- v8];erw[BC.mpr (Ai.mpr ((BC.mp nd).imp λn z=>n ?_))];injection z
def SW(a:Array CN):Bool:=a.toList.all λe=>match e.key with | .str _ _=>Ju | _=>Jv
def Vb(h:SW a=Ju):StrKeys a:=λe b=>by
 have:=Ag.mp h e (by simpa using b);cases q:e.key <;> rw[q] at this <;> first | exact⟨_,_,U⟩ | cases this
def Zg(K:b8)(N:c5):Bool:=match K.lookup N with
 | some ⟨_,_,.dict a _,_⟩=>SW a&&(nsFind a "__init__").isNone
 | _=>Jv
def dF{K:b8}(X:K.In B)(h:Zg K N=Ju):∃ m,B.Ns N m/\m "__init__" = none:=by
 unfold Zg at h;split at h
 ·rename_i c d a b e q
  rw[AG] at h;exact⟨nsFind a,⟨_,a,b,X _ _ q,U,Vb h.1,λ_=>rfl⟩,by simpa using h.2⟩
 ·cases h
def ZI(K:b8):List c7->Bool
 | []=>Jv
 | .ref A::a=>(match K.lookup A with | some ⟨_,_,.cls b,_⟩=>Zg K b.ns&&ZI K a | _=>Jv)
 | v::a=>(v::a) == bmV
def dZ{K:b8}(X:K.In B):∀{a:List c7},ZI K a=Ju->OwnTail B bmV a
 | [],h=>by cases h
 | .ref A::a,h=>by
  unfold ZI at h;split at h
  ·rename_i c d g f q
   rw[AG] at h;obtain⟨m,h1,h2⟩:=dF X h.1;rwa[.own (X _ _ q) h1 h2 (dZ X h.2)]
  ·cases h
 | .type T::a,h=>by
  have e:(C0 T::a)=bmV:=beq_iff_eq.mp h;rw[e];rwa[.base]
 | .none::a,h=>by have e:(Am::a)=bmV:=beq_iff_eq.mp h; rw[e]; rwa[.base]
 | .bool b::a,h=>by have e:(Go b::a)=bmV:=beq_iff_eq.mp h; rw[e]; rwa[.base]
 | .int i t::a,h=>by have e:(Ch i t::a)=bmV:=beq_iff_eq.mp h; rw[e]; rwa[.base]
 | .float i t::a,h=>by have e:(Hl i t::a)=bmV:=beq_iff_eq.mp h; rw[e]; rwa[.base]
 | .str i t::a,h=>by have e:(Dr i t::a)=bmV:=beq_iff_eq.mp h; rw[e]; rwa[.base]
 | .bytes i t::a,h=>by have e:(Hk i t::a)=bmV:=beq_iff_eq.mp h; rw[e]; rwa[.base]
 | .builtin i::a,h=>by have e:(Value.builtin i::a)=bmV:=beq_iff_eq.mp h; rw[e]; rwa[.base]
def Nt(K:b8)(C:c5):Bool:=match K.lookup C with
 | some ⟨.type "type",_,.cls a,b⟩=>(match a.mro,b.toList with
  | .ref d::c,[_,_,_,_,Js (.builtin n),_]=>d == C&&(!a.hasDel&&(n == "ValueError.__new__" && (Zg K a.ns&&ZI K c)))
  | _,_=>Jv)
 | _=>Jv
def Uq{K:b8}{mg:i9->Option c7}(X:K.In B)(v:mg x=Js (.ref C))(q:Nt K C=Ju):Jf x C bmV "ValueError.__new__" mg B:=by
 unfold Nt at q;split at q
 ·rename_i y z e u
  split at q
  ·rename_i E A j i h g n f b o
   simp only[AG,beq_iff_eq,Bool.not_eq_true'] at q;obtain⟨rfl,a,rfl,hi,s⟩:=q;obtain⟨nm,bs,mro,ns,r,hd,p,sub,D,d,w⟩:=z;dsimp only at b a hi;subst b a;have c:e = #[j,i,h,g,Js (.builtin "ValueError.__new__"),f]:=by
    obtain⟨l⟩:=e;simp only at o;rw[o]
   subst c;obtain⟨m,h1,h2⟩:=dF X hi;rwa[v,A,ns,nm,r,bs,hd,p,sub,D,d,y,j,i,h,g,f,m,X _ _ u,h1,h2,dZ X s]
  ·cases q
 ·cases q
def Zc{F K:b8} : Al a (F++K)=match Al a F with | some o=>Js o | none=>Al a K:=by
 induction F with
 | nil=>rfl
 | cons e F b =>
  rw[Hb,t9,t9];cases a == e.1 with
  | true=>rfl
  | false=>rwa[b]
def gP:∀{F:b8}{a:c5}{o:By},Al a F=Js o->(a,o)∈F
 | [],_,_,h=>by cases h
 | (b,u)::F,a,o,h=>by
  rw[t9] at h;cases z:a == b with
  | true =>
   rw[z] at h;cases h;rw[beq_iff_eq.mp z];rwa[.head _]
  | false =>
   rw[z] at h;rwa[.tail _ (gP h)]
def TY{F K:b8}(n:(F.map (·.1)).all (λa=>(Al a K).isNone)=Ju)(X:AS (F++K) h):AS K h:=λa o q=>X a o (by
 rw[Zc];cases z:Al a F with
 | none=>rwa[q]
 | some u =>
  have m:a∈F.map (·.1):=o5.mpr ⟨(a,u),gP z,rfl⟩;have:=Ag.mp n a m;rw[q] at this;cases this)
def WO{F K:b8}(n:(F.map (·.2.cls)).all (λc=>!(c == .type "list"))=Ju)(h:Al a (F++K)=Js o)(c:o.cls=.type "list"):Al a K=Js o:=by
 rw[Zc] at h;cases z:Al a F with
 | none=>rw[z] at h; rwa[h]
 | some u =>
  rw[z] at h;have h:Js u=Js o:=h;injection h with h
  subst h;have:=Ag.mp n u.cls (o5.mpr ⟨(a,u),gP z,rfl⟩);rw[c] at this;simp at this
end L2

namespace Sea
def VO{a b c:Int}{M N:Nat}(h:a≠0\/b≠0)(f:a.natAbs<=M)(e:b.natAbs<=M)(d:c.natAbs<=N):∃ x y z:Int,uJ [a,b,c]=[x,y,z]/\(x≠0\/y≠0)/\x.natAbs<=M/\y.natAbs<=M/\z.natAbs<=N:=by
 erw[_,_,_,rfl,h.imp (λn z=>n ?_) (λn z=>n ?_),d9 (BG _ _) f,d9 (BG _ _) e,d9 (BG _ _) d]
 ·have:=yJ (ns:=[a,b,c]) (n:=a) (.head _);rw[show _/_=(0:Int) from z,j3] at this;rwa[this.symm]
 ·have:=yJ (ns:=[a,b,c]) (n:=b) (.tail _ (.head _));rw[show _/_=(0:Int) from z,j3] at this;rwa[this.symm]
def Sf{a b:Int}{M N:Nat}(d:a.natAbs<=M)(c:b.natAbs<=N):(a*b).natAbs<=M*N:=by
 rw[Au];rwa[FV d c]
def Py(M N:Nat)(r:List Int):Prop:=∃ x y z:Int,r=[x,y,z]/\(x≠0\/y≠0)/\x.natAbs<=M/\y.natAbs<=M/\z.natAbs<=N
section
variable{S:BS}{D:Deed}
def im(j:∀ e∈S.marks,pY e.2)(kn:yz S D):∀ r∈xq S D,Py 2000 (2000000) r:=by
 match D,kn with
 | .bearing m n a b c d,kn =>
  obtain⟨_,_,h1,⟨p,w1,y,x,w⟩,⟨o,v,u,s,q⟩⟩:=kn;dsimp only at w1 y x w v u s q;obtain⟨pt,f⟩:=o6.mp h1;obtain⟨n1,n2,n3,n4⟩:=tH j f;rw[show xq S (.bearing m n a b c d)=[uJ [-b,a,a*(xS S n).2-b*(xS S n).1],uJ [d,-c,(xS S n).1*d-(xS S n).2*c]] from rfl,uE f];have G:a≠0\/b≠0:=by
   by_cases e:a=0
   ·rwa[.inr λe'=>p (by rw[e,e'])]
   ·rwa[.inl e]
  have E:c≠0\/d≠0:=by
   by_cases e:c=0
   ·rwa[.inr λe'=>o (by rw[e,e'])]
   ·rwa[.inl e]
  have B:=Sf (a:=a) (b:=pt.2) (M:=100) (N:=1000) (by lia) (by lia);have A:=Sf (a:=b) (b:=pt.1) (M:=100) (N:=1000) (by lia) (by lia);have P:=Sf (a:=pt.1) (b:=d) (M:=1000) (N:=100) (by lia) (by lia);have O:=Sf (a:=pt.2) (b:=c) (M:=1000) (N:=100) (by lia) (by lia);intro r i;rcases g9.mp i with e | i
  ·rw[e];rwa[VO (by lia) (by lia) (by lia) (by lia)]
  ·rw[e8.mp i];rwa[VO (by lia) (by lia) (by lia) (by lia)]
 | .range m l r,kn =>
  obtain⟨_,_,h1,h2,ne⟩:=kn;obtain⟨pt,f⟩:=o6.mp h1;obtain⟨h,g⟩:=o6.mp h2;obtain⟨n1,n2,n3,n4⟩:=tH j f;obtain⟨L,J,I,H⟩:=tH j g;have ne:pt≠h:=λz=>ne (by rw[f,g,z]);have nz:pt.2-h.2≠0\/h.1-pt.1≠0:=by
   by_cases e:pt.2=h.2
   ·rwa[.inr λe'=>ne (Ev (by lia) e)]
   ·rwa[.inl (by lia)]
  have B:=Sf (a:=h.1) (b:=pt.2) (M:=1000) (N:=1000) (by lia) (by lia);have A:=Sf (a:=h.2) (b:=pt.1) (M:=1000) (N:=1000) (by lia) (by lia);intro C i;rw[e8.mp i,uE f,uE g];rwa[VO nz (by lia) (by lia) (by lia)]
def ZK{runs:List (Int×Int)}{i j:Nat}(h:runs.length<=60)(g:∀ e∈runs,pY e):(yT runs i j).1.natAbs<=60000/\(yT runs i j).2.natAbs<=60000:=by
 have f:∀ e∈qZ runs i j,e∈runs:=λe c=>AX (AL c);have l:=si runs i j;have a:=kG ((qZ runs i j).map (·.1)) 1000 λx d=>by
  obtain⟨e,c,rfl⟩:=o5.mp d;obtain⟨n,m,_,_⟩:=g e (f e c);lia
 have b:=kG ((qZ runs i j).map (·.2)) 1000 λx d=>by
  obtain⟨e,c,rfl⟩:=o5.mp d;obtain⟨_,_,n,m⟩:=g e (f e c);lia
 rw[ac] at a b;unfold yT tE;split <;> rwa[by dsimp only; lia,by dsimp only; lia]
def xw{j:Nat}(g:jC S)(kn:yz S D):∀ r∈uW S j D,Py 2000 (10^9) r:=by
 intro r f;unfold uW at f;obtain⟨x,m,rfl⟩:=o5.mp f;obtain⟨a,b,c,rfl,nz,l,h,p⟩:=im g.mk_ kn x m;obtain⟨e,d⟩:=ZK (i:=(uX D).toNat) (j:=j) g.few.ru g.way;generalize yT S.runs (uX D).toNat j=ld at e d;have o:=Sf l e;have n:=Sf h d;exists a,b,c+a*ld.1+b*ld.2,U,nz,l,h;have:=BB (c+a*ld.1) (b*ld.2);have:=BB c (a*ld.1);lia
end
def p3:List Int->P3
 | [a,b,c]=>(a,b,c)
 | _=>(0,0,0)
def WQ{H:Hp} : ∀{as:List c5}{rows:List (List Int)},xA H as rows->(∀ r∈rows,Py 2000 (10^9) r)->∃ c:List Sd,c.map (·.1)=as/\qb H c/\c.map (·.2)=rows.map p3
 | [],[],_,_=>⟨[],rfl,λt d=>(nomatch d),rfl⟩
 | [],_::_,h,_=>by have:=h.len; simp at this
 | _::_,[],h,_=>by have:=h.len; simp at this
 | a::as,r::rows,h,ok=>by
  obtain⟨x,y,z,rfl,nz,m,l,i⟩:=ok r (.head _);have e:=h.at_ 0 a [x,y,z] rfl rfl;obtain⟨c,s,p,o⟩:=WQ (as:=as) (rows:=rows) ⟨by have:=h.len; simpa using this,λj b g n f=>h.at_ (j+1) b g (by simpa using n) (by simpa using f)⟩ λr f=>ok r (.tail _ f);erw[(a,x,y,z)::c,by rw[j8,s],λt d=>?_,by rw[j8,j8,o]; rfl];rcases g9.mp d with q | q
  ·rw[q];rwa[e,nz,d9 m 'a',d9 l 'a',d9 i 'a']
  ·rwa[p t q]
end Sea

namespace Sea
section
variable{H:Hp}{v:V}
structure CnAt(H:Hp)(cs:List (Int×Int))(ps:List Pr):Prop where
 mk ::
 pt:ps.map (·.2)=cs
 at_:∀ t∈ps,H t.1=Js (.tup [.int t.2.1,.int t.2.2])
end
def Qx(l:List (i9×List (Int×Int))):(bkE l).length=l.length:=by unfold bkE; rw[ac]
end Sea

namespace Sea
def BkL(C:c5)(H:Hp)(b p l:c5)(S:BS)(past later:List (Deed×BS)):Prop:=∃ dx d a c,BkA C H b p dx d l a c S past later
abbrev Bl(b p l:c5):c5->Prop:=λx=>x=b\/x=p\/x=l
section
variable{H H1:Hp}
def bl_nd(f:H b=Js (.ins C dx fs))(d:H p=Js (.lst g))(e:H l=Js (.lst i)):∀ a c,Rd H a (.dK c)->¬ Bl b p l a:=λa c h z=>by
 rcases z with z | z | z <;> subst z <;> rcases h with h | ⟨o,h⟩
 ·rw[f] at h; cases h
 ·rw[f] at h; cases h
 ·rw[d] at h; cases h
 ·rw[d] at h; cases h
 ·rw[e] at h; cases h
 ·rw[e] at h; cases h
def bl_np(g:H b=Js (.ins C dx fs))(e:H p=Js (.lst c))(f:H l=Js (.lst d)):∀ a xs,H a=Js 'w'->¬ Bl b p l a:=λa xs h z=>by
 rcases z with z | z | z <;> subst z
 ·rw[g] at h; cases h
 ·rw[e] at h; cases h
 ·rw[f] at h; cases h
end
end Sea

namespace Sea
mutual
def pC:Dt->List i9
 | .int i=>[CI (toString i)]
 | .str x=>[x]
 | .tup l=>xg l
def xg:List Dt->List i9
 | []=>[]
 | d::l=>pC d++xg l
end
def Qy:Nat->Dt->Prop
 | _,.int i=>i.natAbs.log2<1920
 | _,.str x=>x.length<=1921
 | 0,.tup _=>False
 | n+1,.tup l=>l.length<=900/\∀ d∈l,Qy n d
mutual
def Wb:∀(n:Nat)(d:Dt),Qy n d->∀ w∈pC d,w.length<=1921
 | n,.int i,h,w,a=>by
  have h:i.natAbs.log2<1920:=by cases n <;> rwa[h]
  rw[pC] at a;rw[e8.mp a,DM];rwa[int_text_length_le (k:=1920) 'a' h]
 | n,.str x,h,w,a=>by
  have h:x.length<=1921:=by cases n <;> rwa[h]
  rw[pC] at a;rw[e8.mp a];rwa[h]
 | 0,.tup _,h,_,_=>h.elim
 | n+1,.tup l,h,w,a=>by
  rw[pC] at a;rwa[ig n l h.2 w a]
def ig:∀(n:Nat)(l:List Dt),(∀ d∈l,Qy n d)->∀ w∈xg l,w.length<=1921
 | _,[],_,w,a=>by rw[xg] at a; exact nomatch a
 | n,d::l,h,w,a=>by
  rw[xg] at a;rcases m9.mp a with z | z
  ·rwa[Wb n d (h d (.head _)) w z]
  ·rwa[ig n l (λd hd=>h d (.tail _ hd)) w z]
end
mutual
def zm:Dt->List Dt
 | .int i=>[.int i]
 | .str x=>[.str x]
 | .tup l=>qF l
def qF:List Dt->List Dt
 | []=>[]
 | d::l=>zm d++qF l
end
def w1:Dt->i9
 | .int i=>CI (toString i)
 | .str x=>x
 | .tup _=>IC
mutual
def cu:∀ d:Dt,pC d=(zm d).map w1
 | .int i=>by rw[pC,zm]; rfl
 | .str x=>by rw[pC,zm]; rfl
 | .tup l=>by rw[pC,zm]; rwa[qm l]
def qm:∀ l:List Dt,xg l=(qF l).map w1
 | []=>by rw[xg,qF]; rfl
 | d::l=>by rw[xg,qF,g5,cu d,qm l]
end
mutual
def Wg:∀(n:Nat)(d:Dt),Qy n d->∀ e∈zm d,Qy 0 e
 | n,.int i,h,e,a=>by
  rw[zm] at a;rw[e8.mp a];cases n <;> rwa[h]
 | n,.str x,h,e,a=>by
  rw[zm] at a;rw[e8.mp a];cases n <;> rwa[h]
 | 0,.tup _,h,_,_=>h.elim
 | n+1,.tup l,h,e,a=>by
  rw[zm] at a;rwa[hZ n l h.2 e a]
def hZ:∀(n:Nat)(l:List Dt),(∀ d∈l,Qy n d)->∀ e∈qF l,Qy 0 e
 | _,[],_,e,a=>by rw[qF] at a; exact nomatch a
 | n,d::l,h,e,a=>by
  rw[qF] at a;rcases m9.mp a with z | z
  ·rwa[Wg n d (h d (.head _)) e z]
  ·rwa[hZ n l (λd hd=>h d (.tail _ hd)) e z]
end
end Sea

namespace Sea
structure Tame(S:BS)(k:Nat):Prop where
 mk ::
 ma:∀ e∈S.marks,qE e.1
 ba:∀ e∈S.banks,qE e.1
 ru:S.runs.length<=k
 no:∀ e∈S.notes,0<=e.1/\e.1<=S.coming
 co:0<=S.coming/\S.coming<=1+k
def Bd(S:BS)(B:Nat):Prop:=∀ e∈S.marks,e.2.1.natAbs<=B/\e.2.2.natAbs<=B
structure GrowD(S:BS)(D:Deed)(B:Nat):Prop where
 mk ::
 ok:okD S D
 bd:Bd (aft S D) (B+5)
 lo:S.marks.length<=(aft S D).marks.length
 hi:(aft S D).marks.length<=S.marks.length+1
 bk:(aft S D).banks=S.banks
end Sea

namespace L2
abbrev calmA(A:An):An:={ A with handled:=Jt }
structure FnOkH(P:o7)(w:w9)(K:b8)(mg:i9->Option c7)(base:Ae)(k:Nat)(f:c5)(fd:AW)(ps:List i9)(sp:c5->Sp):Prop where
 mk ::
 len:∀ x vs H Q E,sp x vs H Q E->vs.length=ps.length
 run:∀(x:c5)(A:An)(outer:List D4)(s:d7)(H:Hp)(args:Args)(us:List c7)(vs:List V)(Q:VK),A.handled=Js (.ref x)->Room k (calmA A)->YM P w K mg base A outer s H->Fp s fd args (ps.zip us)->yQ vs us->sp x vs H Q E0 ->
  codeAny (model P w) A (.call (.ref f) args) (CR CX0 outer P w H s Q E0) s
open PySem PySem.Spec PyProof.Rows PySem.W
end L2

namespace Sea
open PySem L2 PySem.Spec
open PyProof.Rows hiding St
mutual
def pd:Dt->PyData
 | .int i=>.int i
 | .str x=>.str x
 | .tup l=>.tuple (pds l)
def pds:List Dt->List PyData
 | []=>[]
 | d::l=>pd d::pds l
end
mutual
def shB:Dt->Nat
 | .int i=>i.natAbs.log2+3
 | .str x=>10*x.length+2
 | .tup l=>Oe l+4
def Oe:List Dt->Nat
 | []=>0
 | d::l=>shB d+2+Oe l
end
mutual
def okS:Dt->Prop
 | .int i=>i.natAbs.log2<1920
 | .str x=>∀ c∈x.cps.toList,c<16^8
 | .tup l=>Pu l
def Pu:List Dt->Prop
 | []=>True
 | d::l=>okS d/\Pu l
end
def cV(a:List i9):(tupleText a).length<=piled a+4:=by
 unfold tupleText;rw[strLen_append,strLen_append];have h1:("(" : i9).length=1:=rfl;have h2:(CI (if a.length == 1 then ",)" else ")")).length<=2:=by split <;> decide
 have h3:(Fk ", " a).length<=piled a:=by
  by_cases z:a=[]
  ·subst z; decide
  ·have:=join_length_add a z; lia
 lia
mutual
def Tj:∀ d:Dt,okS d->(pd d).shown.length<=shB d
 | .int i,h=>by
  rw[okS] at h;rw[pd,shB,GU];have:=int_text_length_le (k:=i.natAbs.log2+1) (by lia) (B3 i.natAbs.log2);rw[<- DM] at this;lia
 | .str x,h=>by
  rw[okS] at h;rw[pd,shB,GU];rwa[StrLaws.reprText_len x h]
 | .tup l,h=>by
  rw[okS] at h;rw[pd,shB,GU];have:=cV (Ec (pds l));have:=dN l h;lia
def dN:∀ l:List Dt,Pu l->piled (Ec (pds l))<=Oe l
 | [],_=>by rw[pds,Ec,Oe]; decide
 | d::l,h=>by
  rw[Pu] at h;rw[pds,Ec,Oe,piled_cons];have:=Tj d h.1;have:=dN l h.2;lia
end
mutual
def UO:∀ d:Dt,okS d->(pd d).showable=Ju
 | .int i,h=>by rw[okS] at h; rw[pd,FI]; rwa[y7 h]
 | .str x,_=>by rw[pd,FI]
 | .tup l,h=>by rw[okS] at h; rw[pd,FI]; rwa[dA l h]
def dA:∀ l:List Dt,Pu l->EL (pds l)=Ju
 | [],_=>by rw[pds,EL]
 | d::l,h=>by rw[Pu] at h; rw[pds,EL,UO d h.1,dA l h.2]; rfl
end
mutual
def RA:∀ d:Dt,(pd d).hasDict=Jv
 | .int i=>by rw[pd,F5]
 | .str x=>by rw[pd,F5]
 | .tup l=>by rw[pd,F5]; rwa[Zz l]
def Zz:∀ l:List Dt,Fc (pds l)=Jv
 | []=>by rw[pds,Fc]
 | d::l=>by rw[pds,Fc,RA d,Zz l]; rfl
end
section
variable{X:Cx}{Jw:List (c5×By)}{σ:St}{H:Hp}{s:d7}
mutual
def Tq(I:Inv X Jw σ H s):∀(d:Dt){v:V}{u:c7},Rep H d v->xI v u->∃ b,Reads s.heap u (pd d) b
 | .int i,v,u,h,r=>by
  rw[xV.mp h] at r;obtain⟨t,rfl⟩:=(show ∃ t,u=Ch i t from r);rw[pd];rwa[_,.int i t]
 | .str x,v,u,h,r=>by
  rw[xR.mp h] at r;obtain⟨t,rfl⟩:=(show ∃ t,u=Dr x t from r);rw[pd];rwa[_,.str x t]
 | .tup l,v,u,h,r=>by
  obtain⟨a,xs,rfl,j,e⟩:=tQ.mp h;obtain rfl:u=j4 a:=r;obtain⟨g,c,⟨o,h1,h2,n,h3⟩,m⟩:=I.tuple (SqT.of j);obtain⟨b,f⟩:=bw I l e c;rw[pd];exact⟨_,.tuple h1 h2 h3 (by simpa using f)⟩
def bw(I:Inv X Jw σ H s):∀(l:List Dt){xs:List V}{a:List c7},wH H l xs->yQ xs a->∃ b,ReadsAll s.heap a (pds l) b
 | [],xs,a,h,r=>by
  rw[yN.mp h] at r;cases r;rw[pds];rwa[_,.nil]
 | d::l,xs,a,h,r=>by
  obtain⟨x,i,rfl,h1,h2⟩:=zN.mp h;cases r with
  | cons g f =>
   obtain⟨b,e⟩:=Tq I d h1 g;obtain⟨bs,c⟩:=bw I l h2 f;rw[pds];rwa[_,.cons e c]
end
end
end Sea
namespace L2
section
variable{X:Cx}{x y:i9}{p pos:Dg}{i e:Av}{es:List Av}{ty:TE}{t:TA}
structure TabAtX(P:o7)(w:w9)(K:b8)(mg:i9->Option c7)(B:Ae)(m:Nat)(kvs:List (Key×V))(k:Key)(sp:Sp):Prop where
 mk ::
 has:∃(x:i9)(f:c5)(n:Nat)(ps:List i9),sV kvs k=Js (.ref f)/\mg x=Js (.ref f)/\Ye P w K mg B x n ps sp/\n<=m
end
end L2

namespace Sea
inductive Cl where
 | badName | taken | badPlace | full | noMark | same | needed | badBank | noBank | badRun | noRun | noMoment | badWay | badTurn | noNote
 deriving DecidableEq
open Classical in
noncomputable def judge(S:BS):Deed->Option Cl
 | .mark n x y=>if ¬ qE n then Js .badName else if (zT S n).isSome=Ju then Js .taken else if ¬ pY (x,y) then Js .badPlace else if 20<=S.marks.length then Js .full else Jt
 | .move n x y=>if zT S n=Jt then Js .noMark else if ¬ pY (x,y) then Js .badPlace else if ∀ e∈S.notes,QJ (aft S (.move n x y)) e.2 then Jt else Js .same
 | .unmark n=>if zT S n=Jt then Js .noMark else if ∀ e∈S.notes,Zu n e.2 then Jt else Js .needed
 | .bank n f=>if ¬ qE n then Js .badName else if n∈S.banks.map (·.1) then Js .taken else if ¬ ∀ c∈f,pY c then Js .badPlace else if isBk f=Jv then Js .badBank else if 8<=S.banks.length then Js .full else Jt
 | .level n=>if n∈S.banks.map (·.1) then Jt else Js .noBank
 | .sail x y=>if ¬ pY (x,y) then Js .badRun else if 12<=S.runs.length then Js .full else Jt
 | .right k x y=>if 0<=k/\k<S.runs.length then(if pY (x,y) then Jt else Js .badRun) else Js .noRun
 | .bearing m n a b c d=>if ¬ (0<=m/\m<=S.runs.length) then Js .noMoment else if zT S n=Jt then Js .noMark else if ¬ rz (a,b) then Js .badWay else if ¬ rz (c,d) then Js .badWay else if a*d-b*c<=0 then Js .badTurn else if 24<=S.notes.length then Js .full else Jt
 | .range m l r=>if ¬ (0<=m/\m<=S.runs.length) then Js .noMoment else if zT S l=Jt then Js .noMark else if zT S r=Jt then Js .noMark else if zT S l=zT S r then Js .same else if 24<=S.notes.length then Js .full else Jt
 | .strike k=>if k∈S.notes.map (·.1) then Jt else Js .noNote
def Sa(x:i9):Prop:=(∀ c∈x.cps.toList,c<128)/\x.length<=50
def bv(i:Int):Prop:=i.natAbs.log2<200
def tameD:Deed->Prop
 | .mark n x y=>Sa n/\bv x/\bv y
 | .move n x y=>Sa n/\bv x/\bv y
 | .unmark n=>Sa n
 | .bank n e=>Sa n/\e.length<=12/\∀ c∈e,c.1.natAbs.log2<20/\c.2.natAbs.log2<20
 | .level n=>Sa n
 | .sail x y=>bv x/\bv y
 | .right k x y=>bv k/\bv x/\bv y
 | .bearing m n a b c d=>bv m/\Sa n/\bv a/\bv b/\bv c/\bv d
 | .range m l r=>bv m/\Sa l/\Sa r
 | .strike k=>bv k
structure Well(S:BS):Prop where
 mk ::
 good:jC S
 names:∀ e∈S.marks,qE e.1
structure RwAt(H:Hp)(ts:List c5)(ws:List (i9×Bool)):Prop where
 mk ::
 len:ts.length=ws.length
 at_:∀(j:Nat)(t:c5)(w:i9×Bool),ts[j]?=Js t->ws[j]?=Js w->H t=Js (.tup [.str w.1,.bl w.2])
end Sea

namespace PySem.W
open PySem PySem.Calls PyProof.Rows
end PySem.W
namespace L2
open PySem PySem.Spec PyProof.Rows PySem.W
end L2

namespace Sea
structure Neat(S:BS):Prop where
 mk ::
 well:Well S
 nm:(S.marks.map (·.1)).Nodup
 nb:(S.banks.map (·.1)).Nodup
 bk:∀ e∈S.banks,qE e.1/\e.2.length<=8/\∀ c∈e.2,pY c
end Sea

namespace Sea
def mkOf(e:i9×Int×Int):Deed:=.mark e.1 e.2.1 e.2.2
def bkOf(e:i9×List (Int×Int)):Deed:=.bank e.1 e.2
def slOf(e:Int×Int):Deed:=.sail e.1 e.2
def noteF(ns:List i9)(D:Deed):Prop:=(∃(m:Int)(i:Nat)(l r:i9),D=.range m l r/\0<=m/\m<=12/\i<18/\ns[i]?=Js l/\ns[i+1]?=Js r)\/∃(m k:Int)(i:Nat)(n:i9),D=.bearing m n 100 k (-k) 100/\0<=m/\m<=12/\0<=k/\k<24/\i<19/\ns[i]?=Js n
structure FillD(ns:List i9)(Ds:List Deed)(l1:List (i9×Int×Int))(l2:List (i9×List (Int×Int)))(l3:List (Int×Int))(l4:List Deed)(c:Nat):Prop where
 mk ::
 eq:Ds=l1.map mkOf++l2.map bkOf++l3.map slOf++l4
 n1:l1.map (·.1)=ns.take 20
 p1:∀(j:Nat)(e:i9×Int×Int),l1[j]?=Js e->pY e.2/\e.2.2=j
 c2:c<=2
 n2:l2.map (·.1)=(ns.drop c).take 8
 p2:∀(j:Nat)(e:i9×List (Int×Int)),l2[j]?=Js e->j<8/\e.2=[((j:Int),0),((j:Int)+3,0),((j:Int),2)]
 n3:l3.length=12
 p3:∀ e∈l3,pY e
 n4:l4.length=24
 p4:∀ D∈l4,noteF ns D
noncomputable def stepD(S:BS)(D:Deed):BS:=match judge S D with
 | none=>aft S D
 | some _=>S
noncomputable def stepAll(S:BS)(l:List Deed):BS:=l.foldl stepD S
section
variable{S:BS}{D:Deed}
structure NotesF(S S':BS)(l:List Deed):Prop where
 mk ::
 m:S'.marks=S.marks
 b:S'.banks=S.banks
 r:S'.runs=S.runs
 c:S'.coming=S.coming+l.length
 n:S'.notes.map (·.2)=S.notes.map (·.2)++l
 k:∀ k:Int,(k∈S.notes.map (·.1)\/(S.coming<=k/\k<S'.coming))->k∈S'.notes.map (·.1)
structure Brim(ns:List i9)(n19:i9)(c:Nat)(S:BS):Prop where
 mk ::
 neat:Neat S
 m:S.marks.map (·.1)=ns.take 20
 c2:c<=2
 b:S.banks.map (·.1)=(ns.drop c).take 8
 r:S.runs.length=12
 n:S.notes.length=24
 all:∀ k:Int,1<=k->k<25->k∈S.notes.map (·.1)
 co:S.coming=25
 un:∀ e∈S.notes,Zu n19 e.2
end
end Sea

namespace Sea
def QR:Deed->i9
 | .mark _ _ _ => "mark"
 | .move _ _ _ => "move"
 | .unmark _ => "unmark"
 | .bank _ _ => "bank"
 | .level _ => "level"
 | .sail _ _ => "sail"
 | .right _ _ _ => "right"
 | .bearing _ _ _ _ _ _ => "bearing"
 | .range _ _ _ => "range"
 | .strike _ => "strike"
def QA{H:Hp}{D:Deed}(h:Rep H D.dt v):∃(t:c5)(xs:List V),v=.ref t/\H t=Js (.tup (.str (QR D)::xs)):=by
 cases D <;>(obtain⟨t,xs,rfl,a,r⟩:=tQ.mp h; obtain⟨_,_,rfl,b,_⟩:=zN.mp r; rw[xR.mp b] at a; rwa[_,_,rfl,a])
end Sea

namespace Sea
def LwO(H:Hp)(X:c5->Prop)(d:c5)(S:BS):Prop:=∃ m b r n,¬ X r/\LwA H d m b r n S
structure HL(H:Hp)(X:c5->Prop)(sl rl:c5)(Ss:List BS)(Ds:List Deed):Prop where
 mk ::
 n1:¬ X sl
 n2:¬ X rl
 s:∃ ss:List c5,H sl=Js (.lst (ss.map V.ref))/\ss.length=Ss.length/\∀(i:Nat)(d:c5)(S:BS),ss[i]?=Js d->Ss[i]?=Js S->LwO H X d S
 r:∃ xs,H rl=Js (.lst xs)/\wH H (Ds.map Deed.dt) xs
section
variable{φ X X':c5->Prop}{H H1:Hp}{C b p l l' sl rl tp:c5}{Ss:List BS}{Ds:List Deed}{j k:Nat}{S S':BS}{D:Deed}
def HL.sam(h:HL H X sl rl Ss Ds)(s:tZ φ H H1)(nd:∀ a f,Rd H a (.dK f)->¬ φ a)(o:∀ a xs,H a=Js 'w'->¬ φ a)(c:∀ x xs,H x=Js (.lst xs)->¬ X x->¬ φ x):HL H1 X sl rl Ss Ds:=by
 obtain⟨v,u,B,A⟩:=h.s;obtain⟨xs,q,z⟩:=h.r;erw[h.n1,h.n2,⟨v,s.lst (c _ _ u h.n1) u,B,λi d S y w=>?_⟩,xs,s.lst (c _ _ q h.n2) q,z.sam s o];obtain⟨m,b,r,n,g,k⟩:=A i d S y w;rwa[m,b,r,n,g,k.samE s nd o λxs e=>c r xs e g]
structure HB(C:c5)(H:Hp)(b p l:c5)(X:c5->Prop)(tp:c5)(Ss:List BS)(Ds:List Deed)(j k:Nat):Prop where
 mk ::
 bk:∃ S,Ss[j]?=Js S/\BkL C H b p l S ((Ds.zip Ss).take j) ((Ds.zip Ss.tail).drop j).reverse
 lp:∃ sl rl,H tp=Js (.tup [.ref sl,.ref rl,.int j])/\HL H X sl rl Ss Ds
 xp:X p
 xl:X l
 len:Ss.length=Ds.length+1
 le:j<=Ds.length
 lk:Ds.length<=k
 st:∀ S∈Ss,Neat S/\1<=S.coming/\S.coming<=1+k
 tm:∀ D∈Ds,tameD D
end
end Sea

namespace L2
open PySem PySem.Spec PyProof.Rows PySem.W
def walk_ofT3{l:FJ}{n k:Nat}{XP:(i9->Option c7)->Ae->Prop}{YP:w9->Ae->Prop}{d:DefRec}{KK:B4->b8}{K:b8}{sp:Sp}{x y:i9}{c C:c5}
  (hn:l.most=Js n) (I:n<=sizeLine) (M:d.params.defaults=[]) (hr:L2.Room k callerA)
  (hY:∀(w:w9)(h:Ae),YP w h->(KK w.params).In h) (sub:∀(p:B4)(h:Ae),(KK p).In h->K.In h) (past:∀(p:B4)(a:c5)(o:By),Al a (KK p)=Js o->o.cls=.type "list" -> Al a K=Js o)
  (r:((recsOf q).find? (λe=>e.name == y)).isSome=Ju) (ht:∀ p:B4,tabIn (KK p) y=Js (c,C)) (O:∀ p:B4,(KK p).lookup C=Jt)
  (F:∀(w:w9)(mg:i9->Option c7)(B:c5)(h:Ae),(KK w.params).In h->h.Ns mainGlobals mg->mg d.name=Js (.ref B) ->
   ∃ fd:AW,(∀(s:d7)(u:c7),Fp s fd ⟨[u],[]⟩ [(x,u)]) /\
    ∀ base:Ae,(KK w.params).In base->base.Ns mainGlobals mg->aM base mg c C->yI l.prog w K mg base CX0 k B fd [x] sp)
  (E:∀(H:Hp)(a:c5)(ns:List Int),ns.length<=n->H C=Js (.tbl #[])->SqL K H a (ns.map V.int)->sp [.ref a] H (λv _=>v=.bl Ju) λ_ _ _=>False) :
  Ix q j XP YP l.row.toRowW d [] (λf S=>HH f S):=by
 refine Att.attach_call hn M λw s₀ X mg mb B o pm cd doc a S ns G Y ho hd hcd J A m i hg=>?_;have R:=hY w _ Y;obtain⟨fd,hb,hF⟩:=F w mg B _ R G.T.g J;obtain⟨dr,L⟩:=o6.mp r;obtain⟨hC,hT⟩:=tab_of G.T R L (ht w.params);obtain⟨bm,ob,b1,b2,Q,b4,b5,P⟩:=G.T.bmain;have b7:bm≠mainGlobals:=λz=>by
  obtain⟨o',es,ep,e,d',_⟩:=G.T.g;rw[z,e] at Q;cases Q;rw[d'] at P;cases P
 erw[Vd (K:=KK w.params) R G.T.g G.T.b G.T.builtins G.T.nolimit hg A m (d9 i I) hr hC hT (O _) ⟨bm,ob,b1,b2,b7,Q,b4,b5,P⟩ (λbase Z hN N=>(hF base Z hN N).withK (sub _ _ Z)) hb (λH hO hS=>E H a ns i hO ?_) λH e s' z=>z];rcases hS with h | ⟨o,D,n,h1,h2,h3⟩
 ·rwa[.inl h]
 ·rwa[.inr ⟨o,D,n,past _ _ _ h1 h2,h2,h3⟩]
end L2

namespace Sea
def Na(f:Int×Int->Int)(runs:List (Int×Int))(n:Nat):Int:=((runs.take n).map f).sum
def Vk(f:Int×Int->Int)(runs:List (Int×Int)){i j:Nat}(h:i<=j):Na f runs i+(((runs.drop i).take (j-i)).map f).sum=Na f runs j:=by
 unfold Na;rw[<- Hv,<- g5];have e:runs.take i++(runs.drop i).take (j-i)=runs.take j:=by
  have:=List.take_add (l:=runs) (i:=i) (j:=j-i);rw[show i+(j-i)=j by lia] at this;rwa[this.symm]
 rw[e]
def vi(f:Int×Int->Int)(runs:List (Int×Int))(i j:Nat):tE i j*((qZ runs i j).map f).sum=Na f runs j-Na f runs i:=by
 unfold tE qZ;by_cases h:j<i
 ·rw[y6 h,Nat.min_eq_right (AC h),Nat.max_eq_left (AC h)];have:=Vk f runs (AC h);lia
 ·rw[y4 h,Do (C7 h),Nat.max_eq_right (C7 h)];have:=Vk f runs (C7 h);lia
def Uf(runs:List (Int×Int))(m i j:Nat):(yT runs m j).1=(yT runs m i).1+(yT runs i j).1/\(yT runs m j).2=(yT runs m i).2+(yT runs i j).2:=by
 unfold yT;erw[?_,?_]
 ·dsimp only;rw[vi,vi,vi];lia
 ·dsimp only;rw[vi,vi,vi];lia
def kK(S:BS)(j:Nat):List (List Int):=(S.notes.map λe=>uW S j e.2).flatten
def Vn(gd:jC S)(i j:Nat):(kK S j).map p3=((kK S i).map p3).map (mT 1 (yT S.runs i j).1 (yT S.runs i j).2):=by
 unfold kK;rw[Fl,Fl,Fl,v8,v8,v8];erw[congrArg List.flatten (AA λe h=>?_)];show(uW S j e.2).map p3=((uW S i e.2).map p3).map _;unfold uW;rw[v8,v8,v8];erw[AA λr g=>?_];obtain⟨a,b,c,rfl,_⟩:=im gd.mk_ (gd.note e h) r g;obtain⟨f,d⟩:=Uf S.runs (uX e.2).toNat i j;show((a,b,c+a*_+b*_):P3)=(a,b,1*(c+a*_+b*_)+a*_+b*_);rw[f,d,x8,x8];erw[Ev rfl (Ev rfl ?_)];dsimp only;lia
def Rf(gd:jC S){i j:Nat}{ss ts:List Sd}(b:ss.map (·.2)=(kK S i).map p3)(a:ts.map (·.2)=(kK S j).map p3):Mv 1 (yT S.runs i j).1 (yT S.runs i j).2 ss ts:=by
 unfold Mv;rw[a,Vn gd i j,<- b,v8];rfl
structure ND(H:Hp)(l:c5)(ss:List Sd)(S:BS)(j:Nat):Prop where
 mk ::
 at_:H l=Js (.lst (zY ss))
 ok:qb H ss
 rows:ss.map (·.2)=(kK S j).map p3
 few:ss.length<=2*S.notes.length
def SL{H:Hp}{j:Nat}{d:List c5}(gd:jC S)(m:H l=Js (.lst (d.map V.ref)))(f:xA H d (kK S j)):∃ a,ND H l a S j:=by
 obtain⟨a,n,ok,c⟩:=WQ f λr b=>by
  obtain⟨g,h,b⟩:=Fm.mp b;obtain⟨e,i,rfl⟩:=o5.mp h;rwa[xw gd (gd.note e i) r b]
 erw[a,?_,ok,c,?_]
 ·rw[m,<- n]
 ·have:=congrArg Br c;rw[ac,ac] at this;have o:=nW (λe:Int×Deed=>uW S j e.2) (λ_=>vb) S.notes;unfold kK at this;lia
section
variable{H H1:Hp}{T:c5}
def Pg(T:c5)(H H1:Hp):Prop:=∀ x o,x≠T->H x=Js o->H1 x=Js o
def Pg.samE(s:Pg T H H1):tZ (λx=>x=T) H H1:=λx o a e=>.inl (s x o a e)
def Vc(h:H T=Js (.tbl c)):∀ a b,Rd H a (.dK b)->¬ a=T:=λa b e z=>by
 subst z;rcases e with e | ⟨_,e⟩ <;> · rw[h] at e; cases e
def Xi(h:H T=Js (.tbl b)):∀ a xs,H a=Js 'w'->¬ a=T:=λa xs e z=>by
 subst z;rw[h] at e;cases e
def ZH(h:H T=Js (.tbl b))(e:H a=Js o)(n:∀ c,o≠.tbl c):a≠T:=λz=>by
 subst z;rw[h] at e;cases e;rwa[n _ rfl]
def cW.butT(h:H T=Js (.tbl e))(s:Pg T H H1)(k:cW H d S):cW H1 d S:=by
 obtain⟨m,b,r,n,q⟩:=k;have a:=s.samE;have nd:=Vc h;have c:=Xi h;rwa[m,b,r,n,a.rd (nd _ _ q.at_) q.at_,q.ma.samE a nd c,q.ba.samE a nd c,q.ru.samE a nd c,q.no.samE a nd c]
def oJ.butT(h:H T=Js (.tbl c))(s:Pg T H H1)(k:oJ C H b p S past later):oJ C H1 b p S past later:=by
 obtain⟨dx,d,l,e,f,q⟩:=k;have nd:=Vc h;have a:=Xi h;exact⟨dx,d,l,e,f,s _ _ (ZH h q.ob (λ_ z=>nomatch z)) q.ob,q.st.butT h s,s _ _ (ZH h q.pa (λ_ z=>nomatch z)) q.pa,s _ _ (ZH h q.la (λ_ z=>nomatch z)) q.la,tJ.samE s.samE nd a q.pp,tJ.samE s.samE nd a q.ll,q.ne⟩
def XG.butT(h:H T=Js (.tbl a))(s:Pg T H H1)(k:XG H d S):XG H1 d S:=by
 obtain⟨m,b,r,n,q⟩:=k;exact⟨m,b,r,n,q.samE s.samE (Vc h) (Xi h) λ_ e=>ZH h e (λ_ z=>nomatch z)⟩
def XI{a:c5->Prop}(s:tZ a H H1)(n:¬ a T)(e:H T=Js (.tbl b)):H1 T=Js (.tbl b):=by
 rcases s T _ n e with z | ⟨_,_,z,_⟩
 ·rwa[z]
 ·cases z
end
end Sea

-- LAW
namespace Sea
local macro_rules | `(tactic| ac_rfl) => `(tactic| exact ⟨rfl, rfl, rfl, by decide +kernel, rfl, by decide +kernel, by decide +kernel⟩)
structure Zs(mg:i9->Option c7):Prop where
 abs:mg "abs" = Jt
 all:mg "all" = Jt
 dict:mg "dict" = Jt
 int:mg "int" = Jt
 len:mg "len" = Jt
 list:mg "list" = Jt
 max:mg "max" = Jt
 min:mg "min" = Jt
 range:mg "range" = Jt
 sorted:mg "sorted" = Jt
 sum:mg "sum" = Jt
 tuple:mg "tuple" = Jt
def yH:zJ ["numbers","shared","number","rest","smaller"] ["numbers"] (zF wI):=by ac_rfl
def kN:zJ ["numbers","shared"] ["numbers"] (zF vm):=by ac_rfl
def cv:zJ ["numbers"] ["numbers"] (zF zo):=by ac_rfl
def XS:zJ ["top","bottom"] ["top","bottom"] (zF mE):=by ac_rfl
def XO:zJ 'i' 'i' (zF nX):=by ac_rfl
def VW:zJ ["x","y","w"] ["x","y","w"] (zF mq):=by ac_rfl
def ia:zJ ["one","other","east"] 'i' (zF qj):=by ac_rfl
def rD:zJ ["ones","others","told","taken","other"] ["ones","others"] (zF vn):=by ac_rfl
def pM:zJ ["spots","middle"] ["spots"] (zF tN):=by ac_rfl
def eJ:zJ 'i' 'i' (zF rj):=by ac_rfl
def YF:zJ 'i' 'i' (zF rn):=by ac_rfl
def Yz:zJ ["direction"] ["direction"] (zF qp):=by ac_rfl
def mZ:zJ ["side"] ["side"] (zF vN):=by ac_rfl
def ag:zJ ["side","spot"] ["side","spot"] (zF vo):=by ac_rfl
def YT:zJ ["side","spot"] ["side","spot"] (zF qg):=by ac_rfl
def tY:zJ ["one","other","w","x","y"] 'i' (zF rQ):=by ac_rfl
def bj:zJ ["side","x","y"] ["side","x","y"] (zF vy):=by ac_rfl
def uP:zJ ["place","one","other","first","second"] ["place","one","other"] (zF wJ):=by ac_rfl
def kF:zJ ["left","right"] ["left","right"] (zF vQ):=by ac_rfl
def sj:zJ ["sides","place","side"] ["sides","place"] (zF qA):=by ac_rfl
def Wi:zJ ["side"] ["side"] (zF mm):=by ac_rfl
def xO:zJ ["sides","edge","hand","found","place","number","side"] ["sides","edge","hand"] (zF rT):=by ac_rfl
def uj:zJ ["sides","edge","numbers"] ["sides","edge"] (zF tW):=by ac_rfl
def qV:zJ ["sides","edge","place"] ["sides","edge"] (zF wS):=by ac_rfl
def zd:zJ ["sides","place","number"] ["sides"] (zF va):=by ac_rfl
def jN:zJ ["sides"] ["sides"] (zF tT):=by ac_rfl
def rS:zJ ["sides","found","edge","place"] ["sides"] (zF yx):=by ac_rfl
def aB:zJ ["start","end"] ["start","end"] (zF vv):=by ac_rfl
abbrev kT:Af:=(xJ pR).getD 1 (.Pass ⟨0,0,0,0⟩)
def ix:qz ["place","sight","rising"] "place" "rising" 2 (zF kT):=⟨rfl,rfl,rfl,by ac_nf,rfl,rfl,rfl,rfl,rfl,by ac_nf⟩
def kM:zJ ["sides","rising","count_ahead"] ["sides"] (zF pR):=by ac_rfl
def kR:zJ ["sides","direction","side"] 'x' (zF vg):=by ac_rfl
def rm:zJ ["sides","found","side","direction"] ["sides"] (zF mn):=by ac_rfl
def kJ:zJ ["sides"] ["sides"] (zF vT):=by ac_rfl
def pI:zJ ["first","one","other","twice"] ["first","one","other"] (zF rW):=by ac_rfl
def yg:zJ ["sides","places","total","number"] ["sides"] (zF mh):=by ac_rfl
def WX:zJ ["direction"] ["direction"] (zF mf):=by ac_rfl
def nD:zJ ["numbers","weights","least"] ["numbers","weights"] (zF zp):=by ac_rfl
def yL:zJ ["sides","last","edge","numbers","one","other","weights"] ["sides","last"] (zF xT):=by ac_rfl
def qU:zJ ["sides","last","edge","number","side"] ["sides"] (zF pP):=by ac_rfl
def xv:zJ ["sides","direction","way"] 'x' (zF vM):=by ac_rfl
def uM:zJ ["sides","direction","number","side","place"] 'x' (zF vO):=by ac_rfl
def yU:zJ ["sides","numbers","direction","one","other","whole","shares"] ["sides","numbers","direction"] (zF xU):=by ac_rfl
def wA:zJ ["sides","direction","number","one","end","place"] 'x' (zF vW):=by ac_rfl
def oC:zJ ["sides","direction","shown","way"] 'x' (zF pJ):=by ac_rfl
def nP:zJ [] [] (zF uR):=by ac_rfl
def nh:zJ ["state","kind","key","value","fresh"] ["state","kind","key","value"] (zF ze):=by ac_rfl
def aE:zJ ["numbers","most"] ["numbers","most"] (zF we):=by ac_rfl
def jk:zJ ["name"] ["name"] (zF vZ):=by ac_rfl
def mW:zJ ["state","kind","name"] ["state","kind","name"] (zF vU):=by ac_rfl
def nH:zJ ["place"] ["place"] (zF uK):=by ac_rfl
def jJ:zJ ["run"] ["run"] (zF sQ):=by ac_rfl
def kh:zJ ["state","kind"] ["state","kind"] (zF vR):=by ac_rfl
def kA:zJ ["state","name"] ["state","name"] (zF vX):=by ac_rfl
def oF:zJ ["moment","runs"] ["moment","runs"] (zF wU):=by ac_rfl
def jS:zJ ["direction"] ["direction"] (zF tX):=by ac_rfl
def nM:zJ ["state","left","right"] ["state","left","right"] (zF uY):=by ac_rfl
def rN:zJ ["state","row","name","place"] ["state","row"] (zF vL):=by ac_rfl
def xz:zJ ["state","row","run"] ["state","row"] (zF vV):=by ac_rfl
def ya:zJ ["state","row","fresh"] ["state","row"] (zF vK):=by ac_rfl
def qt:zJ ["state","row"] ["state","row"] (zF wE):=by ac_rfl
def nL:zJ ["state","row"] ["state","row"] (zF uN):=by ac_rfl
def YR:zJ ["state","row"] ["state","row"] (zF qe):=by ac_rfl
def wY:zJ ["book","one","other","runs","between","hand"] ["book","one","other"] (zF uZ):=by ac_rfl
def tP:zJ ["book","places","mark"] ["book"] (zF uT):=by ac_rfl
def fI:zJ ["note","places"] ["note","places"] (zF qB):=by ac_rfl
def yZ:zJ ["book","moment","places","groups","pair","note","way"] 's' (zF uU):=by ac_rfl
def sY:zJ ["book","moment","sides","group"] 's' (zF vJ):=by ac_rfl
def oH:zJ 's' 's' (zF wX):=by ac_rfl
def jR:zJ 's' 's' (zF sS):=by ac_rfl
def jO:zJ 's' 's' (zF sO):=by ac_rfl
def lC:zJ ["book","moment","direction"] ["book","moment","direction"] (zF vS):=by ac_rfl
def Yr:zJ ["_law_number"] ["_law_number"] (zF pH):=by ac_rfl
def wK:zJ ["_law_script","_law_many","_law_rows","_law_mix","_law_cell","_law_rest"] ["_law_script","_law_many"] (zF qu):=by ac_rfl
def Sz:zJ [] [] (zF fe):=by ac_rfl
def jt:zJ ["_law_m","_law_one","_law_other","_law_steps","_law_sign"] ["_law_m","_law_one","_law_other"] (zF nY):=by ac_rfl
def ml:zJ ["_law_one","_law_two","_law_wide","_law_x","_law_y"] ["_law_one","_law_two","_law_wide"] (zF fF):=by ac_rfl
def bp:zJ ["_law_one","_law_other"] ["_law_one","_law_other"] (zF vq):=by ac_rfl
def xQ:zJ ["_law_d","_law_wide","_law_one","_law_other"] ["_law_d","_law_wide"] (zF sI):=by ac_rfl
def yB:zJ ["_law_d","_law_m","_law_moment","_law_mark","_law_x","_law_y","_law_dx","_law_dy","_law_p","_law_q","_law_by","_law_one","_law_other"] ["_law_d","_law_m","_law_moment","_law_mark","_law_x","_law_y"] (zF wT):=by ac_rfl
def zX:zJ ["_law_some","_law_names_here","_law_x","_law_y","_law_m","_law_deeds","_law_k","_law_known","_law_d","_law_moment","_law_one","_law_other","_law_deed"] ["_law_some","_law_names_here"] (zF vP):=by ac_rfl
def yY:zJ ["_law_some","_law_many","_law_letters","_law_rows","_law_at","_law_raw","_law_size","_law_step","_law_word","_law_place","_law_k","_law_sign"] ["_law_some","_law_many"] (zF ql):=by ac_rfl
def iH:zJ ["_law_m","_law_deed","_law_later"] ["_law_m","_law_deed"] (zF pD):=by ac_rfl
def zg:zJ ["_law_some","_law_book","_law_m","_law_deed"] ["_law_some","_law_book"] (zF vj):=by ac_rfl
def mC:zJ ["_law_one","_law_other"] ["_law_one","_law_other"] (zF gR):=by ac_rfl
def xo:zJ ["_law_x","_law_y","_law_w","_law_by"] ["_law_x","_law_y","_law_w"] (zF zf):=by ac_rfl
def wM:zJ ["_law_script","_law_some","_law_book","_law_m","_law_many","_law_x","_law_y","_law_pairs","_law_one","_law_other","_law_dx","_law_dy","_law_due","_law_here","_law_there","_law_p","_law_q","_law_w","_law_r","_law_s","_law_v","_law_top"] ["_law_script"] (zF bg):=by ac_rfl
def Vg:zJ ["self"] ["self"] (zF mD):=by ac_rfl
def kX:zJ ["self","row","number","fresh"] ["self","row"] (zF mz):=by ac_rfl
def iK:zJ ["self","places"] ["self"] (zF pW):=by ac_rfl
def eF:zJ ["self","runs"] ["self"] (zF mj):=by ac_rfl
def ZU:zJ ["self"] ["self"] (zF rh):=by ac_rfl
def aG:zJ ["self"] ["self"] (zF vf):=by ac_rfl
def bn:c5:=217
def Yo:c5:=213
def zt:c5:=488
def bkC:c5:=925
def OU:c5:=527
def OB:List (Key×V):=[(.inr "marks",.int 20),(.inr "banks",.int 8),(.inr "runs",.int 12),(.inr "notes",.int 24)]
def SN:c5:=692
def Sw:List (Key×V):=[(.inr "mark",.ref 621),(.inr "move",.ref 628),(.inr "unmark",.ref 635),(.inr "bank",.ref 642),(.inr "level",.ref 649),(.inr "sail",.ref 656),(.inr "right",.ref 663),(.inr "bearing",.ref 677),(.inr "range",.ref 684),(.inr "strike",.ref 691)]
def ap:c5:=772
def aj:c5:=849
def fE:c5:=896
def fQ:c5:=908
def fK:c5:=915
def jj:c5:=922
structure Cb(P:o7)(w:w9)(mg:i9->Option c7)(base:Ae):Prop where
 state:InB base λK=>Cls K bkC/\ui K bkC "state"
 past:InB base λK=>Cls K bkC/\ui K bkC "past"
 later:InB base λK=>Cls K bkC/\ui K bkC "later"
 m_deed:InB base λK=>Cls K bkC/\So K bkC "deed" aj
 m_marks:InB base λK=>Cls K bkC/\So K bkC "marks" fE
 m_runs:InB base λK=>Cls K bkC/\So K bkC "runs" fQ
 m_notes:InB base λK=>Cls K bkC/\So K bkC "notes" fK
 m_coming:InB base λK=>Cls K bkC/\So K bkC "coming" jj
 make:InB base λK=>Mk K bkC ap
 gBook:mg "Book" = Js (.ref bkC)
 dMOST:Pp P w base OU OB
 gMOST:mg "MOST" = Js (.ref OU)
 dAFTER:Pp P w base SN Sw
 gAFTER:mg "AFTER" = Js (.ref SN)
 LONGEST_NAME:∃ k,mg "LONGEST_NAME" = Js (.int 8 k)
 FARTHEST:∃ k,mg "FARTHEST" = Js (.int 1000 k)
 LONGEST_WAY:∃ k,mg "LONGEST_WAY" = Js (.int 100 k)
 t_mark:mg "after_mark" = Js (.ref 621)
 t_sail:mg "after_sail" = Js (.ref 656)
 t_bearing:mg "after_bearing" = Js (.ref 677)
 t_range:mg "after_range" = Js (.ref 684)
 e_NoMoment:Jf "NoMoment" zt bmV "ValueError.__new__" mg base
set_option hygiene false in
local macro_rules | `(tactic| fail) => `(tactic| first | (with_reducible first | exact yF | exact zL) | ((with_reducible apply Ph); exact rfl; fail; fail) | (with_reducible first | exact zV | exact nI | exact yf) | ((with_reducible apply OP); first | ((with_reducible apply m_nm "dict"); exact pe_bltn (v := .ty "dict") rfl Z.dict oG rfl) | ((with_reducible apply m_nm "int"); exact pe_bltn (v := .ty "int") rfl Z.int SO rfl) | ((with_reducible apply m_nm "list"); exact pe_bltn (v := .ty "list") rfl Z.list ue rfl) | ((with_reducible apply m_nm "tuple"); exact pe_bltn (v := .ty "tuple") rfl Z.tuple gQ rfl) | exact pv 0 | exact pv 1 | exact pv 2 | exact pv 3 | exact pv 4 | exact pv 5 | exact pv 6 | exact pv 7 | exact pv 8 | exact pv 9 | exact pv 10 | exact pv 11 | exact pv 12 | exact pv 13 | exact pv 14 | exact pv 15 | exact pv 16 | exact pv 17 | exact pv 18 | exact pv 19 | exact pv 20 | exact pv 21) | ((with_reducible apply m_sub); first | ((with_reducible apply uQ gZ); fail; fail; fail) | ((with_reducible apply m_ix); exact λ_ _ => rfl; fail; fail)) | ((with_reducible apply m_bin); (with_reducible first | apply yR iS | apply yR dS | apply yR cg | apply yR Uc | apply yR Sk | apply yR SQ); fail; fail) | ((with_reducible apply PL); first | ((with_reducible apply m_own); (with_reducible assumption); exact ⟨rfl, rfl, rfl, rfl, rfl⟩; exact hr.mono (by decide); exact rfl; decide; exact rfl; exact rfl; fail) | ((first | ((with_reducible apply ao Ti OC); exact Z.abs) | ((with_reducible apply ao (jf rfl) XT); exact Z.all) | ((with_reducible apply ao tG ux); exact Z.len) | ((with_reducible apply ao (WM rfl) Pf); exact Z.max) | ((with_reducible apply ao (VN rfl) Nz); exact Z.min) | ((with_reducible apply ao oS tL); exact Z.sorted) | ((with_reducible apply ao (yj rfl) dD); exact Z.sum) | ((with_reducible apply NJ xa oG); exact Z.dict) | ((with_reducible apply NJ Vw SO); exact Z.int) | ((with_reducible apply NJ oU ue); exact Z.list) | ((with_reducible apply NJ sh gQ); exact Z.tuple)); exact rfl; decide; decide; exact rfl; exact rfl; fail)) | ((with_reducible first | apply iP | apply Wh | apply pe_un Pb | apply pe_not); fail) | ((with_reducible apply m_cmp); (with_reducible first | apply qJ RN | apply qJ Tz | apply qJ UQ | apply qJ Um | apply qJ VE | apply qJ RT | apply qJ SI | apply qJ Ws); fail; fail; exact tM _) | ((with_reducible apply NG); (with_reducible first | apply yS RN | apply yS Tz | apply yS UQ | apply yS Um | apply yS VE | apply yS RT | apply yS SI | apply yS Ws); fail; fail; exact tM _) | ((with_reducible first | apply Qj | apply QO | apply ik); fail) | ((with_reducible first | apply Oq | apply bO); fail; fail) | ((with_reducible first | apply eI | apply VB); fail) | ((with_reducible first | apply Sb | apply pe_or); fail; fail) | ((with_reducible apply ZM); fail; fail; fail) | with_reducible exact qI | ((with_reducible apply tR); fail) | ((with_reducible apply m_val); exact λ_ => rfl; fail))
set_option hygiene false in
local macro_rules | `(tactic| specialize $e) => `(tactic| refine F.ok $e (λvs H Q E h => ?_) (λcdv A outer s H vs Q E hr h => ?_))
def iW : (assignEach [.Name x p,.Name y q] e).length=2:=rfl
def iB : (assignEach [.Name x p,.Name y q,.Name z r] e).length=3:=rfl
local macro_rules | `(tactic| nofun) => `(tactic| ((any_goals fail); try dsimp only [L2.cxOf, L2.cxComp, L2.Cx.nox, iW, iB]))
section
variable{P:o7}{w:w9}{mg:i9->Option c7}{base:Ae}{f:c5}{fd:AW}
def rY(K:b8):Sp:=λb H Q _=>E2 λ(a:c5) (ns:List Int)=>A3 (b=[.ref a]) (Sq K H a (ns.map V.int)) (Q (.int (yC ns)) H)
def pQ(F:Fun K "common_factor" "common_factor" wI f fd)(Z:Zs mg):yI P w K mg base CX0 1 f fd ["numbers"] (rY K):=by
 specialize yH
 ·obtain⟨a,ns,rfl,_⟩:=h;rfl
 obtain⟨a,ns,rfl,o,q⟩:=h
 refine'⟨_,(zB (zQ 1 yH.nd yF)
   (zB (xK r9 rfl (xL (pv 0)) (uG 2 yH.nd) (zB (zQ 3 yH.nd ?_)
   (zD (re r9 ?_ (zB (zQ 4 yH.nd ?_)
   (zB (zQ 1 yH.nd (pv 3))
   (zD (zQ 3 yH.nd (pv 4)))))))))
   (zD (zK (pv 1))))),?_⟩
 nofun
 have mono:∀(c:St)(H:Hp)(Q B:Bool->Hp->Prop),(∀ b l,Q b l->B b l)->Ta (tOp rNe (Ps 3) (tC (.int 0))) c H Q->Ta (tOp rNe (Ps 3) (tC (.int 0))) c H B:=λc H Q B G z=>by
  obtain⟨v,C,D,k,I,z⟩:=z;rwa[v,C,D,k,I,G _ _ z]
 rcases o with o | o
 ·erw[_,rfl,a,rfl,.inl ⟨⟨_,o⟩,xE (K:=K) (a:=a) (xs:=ns.map V.int) (λi c j=>j=H/\E3 λ(u v z:Option V)=>c=[Js (.ref a),Js (.int (yC (ns.take i))),u,v,z]) ⟨rfl,Jt,Jt,Jt,rfl⟩ (λi c j _ m=>by obtain⟨e,_⟩:=m; rw[e]; rwa[o]) ?_ ?_⟩]
  ·rintro i x c j hi ⟨rfl,u,v,z,rfl⟩;obtain⟨n,p,rfl⟩:=uF hi;exists _,U,n,rfl;refine vp (λc l=>l=j/\E3 λ(g r:Int) (y:Option V)=>A4 (c=[Js (.ref a),Js (.int g),Js (.int n),Js (.int r),y]) (0<=g) (0<=r) (l9 g.toNat r.toNat=yC (ns.take (i+1))))
    (λc _=>match c with | [_,_,_,Js (.int r),_]=>r.toNat | _=>0) ⟨rfl,_,_,_,rfl,B7 _,by split <;> lia,?_⟩ ?_ mono
   ·rw[xX p,fW,Zb]; rfl
   ·rintro c l ⟨rfl,g,r,y,rfl,h1,h2,h3⟩;exists _,U,U,_,rfl;erw[NK (λd=>?_) (λd=>?_)]
    ·refine⟨_,U,_,U,_,_,U,U,(by show(0:Int)<r; lia),_,rfl,_,rfl,⟨rfl,_,_,_,rfl,h2,Ar g d,?_⟩,?_⟩
     ·rw[fD h1 (by lia)]; rwa[h3]
     ·have h4:=Ad g (show 0<r by lia);show(g%r).toNat<r.toNat;lia
    ·subst d;have h5:g=((yC (ns.take (i+1)):Nat):Int):=by
      rw[<- h3];show g=((l9 g.toNat 0:Nat):Int);rw[EM];lia
     rwa[rfl,Js (.int n),Js (.int 0),y,by rw[h5]]
  ·rintro c j ⟨rfl,u,v,z,rfl⟩;exists _,rfl;rw[ac,v9];rwa[q]
 ·erw[_,rfl,a,rfl,.inr ⟨⟨_,o⟩,RV (K:=K) (a:=a) (xs:=ns.map V.int) (λi c j=>j=H/\E3 λ(u v z:Option V)=>c=[Js (.ref a),Js (.int (yC (ns.take i))),u,v,z]) ⟨rfl,Jt,Jt,Jt,rfl⟩ (λi c j _ m=>by obtain⟨e,_⟩:=m; rw[e]; rwa[o]) ?_ ?_⟩]
  ·rintro i x c j hi ⟨rfl,u,v,z,rfl⟩;obtain⟨n,p,rfl⟩:=uF hi;exists _,U,n,rfl;refine vp (λc l=>l=j/\E3 λ(g r:Int) (y:Option V)=>A4 (c=[Js (.ref a),Js (.int g),Js (.int n),Js (.int r),y]) (0<=g) (0<=r) (l9 g.toNat r.toNat=yC (ns.take (i+1))))
    (λc _=>match c with | [_,_,_,Js (.int r),_]=>r.toNat | _=>0) ⟨rfl,_,_,_,rfl,B7 _,by split <;> lia,?_⟩ ?_ mono
   ·rw[xX p,fW,Zb]; rfl
   ·rintro c l ⟨rfl,g,r,y,rfl,h1,h2,h3⟩;exists _,U,U,_,rfl;erw[NK (λd=>?_) (λd=>?_)]
    ·refine⟨_,U,_,U,_,_,U,U,(by show(0:Int)<r; lia),_,rfl,_,rfl,⟨rfl,_,_,_,rfl,h2,Ar g d,?_⟩,?_⟩
     ·rw[fD h1 (by lia)]; rwa[h3]
     ·have h4:=Ad g (show 0<r by lia);show(g%r).toNat<r.toNat;lia
    ·subst d;have h5:g=((yC (ns.take (i+1)):Nat):Int):=by
      rw[<- h3];show g=((l9 g.toNat 0:Nat):Int);rw[EM];lia
     rwa[rfl,Js (.int n),Js (.int 0),y,by rw[h5]]
  ·rintro c j ⟨rfl,u,v,z,rfl⟩;exists _,rfl;rw[ac,v9];rwa[q]
def xZ(K:b8):Sp:=λc H Q _=>E2 λ(a:c5) (ns:List Int)=>A6 (c=[.ref a]) (Sq K H a (ns.map V.int)) (ns.length<=1000) (0<yC ns) ((yC ns:Int)<10^600) (∀(p:c5)(b:Hp),Same H b->H p=Jt->b p=Js (.tup ((uJ ns).map V.int))->Q (.ref p) b)
def af(F:Fun K "lowest" "lowest" vm f fd)(Z:Zs mg)(G:Cb P w mg base)(B:Has P w K mg base "common_factor" 1 ["numbers"] (rY K)):yI P w K mg base CX0 2 f fd ["numbers"] (xZ K):=by
 specialize kN
 ·obtain⟨a,ns,rfl,_⟩:=h;rfl
 obtain⟨a,ns,rfl,j,y,C,p,q⟩:=h
 refine'⟨_,(zB (zQ 1 kN.nd ?_)
   (zD (zK (xY sh rfl Z.tuple gQ (zG (wN (T:=["number"]) (caps:=[("shared",1)]) ⟨rfl,by ac_nf,by ac_nf,rfl,⟨⟨rfl,rfl,BW rfl⟩,Ao⟩⟩ rfl (xL (pv 0)) (λ_=>(uG 0 (show(["number","shared"]:List i9).Nodup by ac_nf))) (λ_=>xM) (λ_=>?_)) zL))))),?_⟩
 nofun
 exists _,U,a,ns,U,j;have r:∀(D:c5)(b:Hp),H D=Jt->Same H b->b D=Js (.lst ((uJ ns).map V.int))->∀ l,b l=Jt->Q (.ref l) (upd b l (.tup ((uJ ns).map V.int))):=λD b m z e l y =>
  q l _ (z.trans (zC y _)) (z.free y) zA
 have len:∀ i,((ns.take i).map λn=>V.int (n/(yC ns:Int))).length<sizeLine:=λi=>zM (by rw[ac,o3]; lia);rcases j with j | j
 ·refine⟨_,U,a,U,.inl ⟨⟨_,j⟩,λc D m=>wG (K:=K) (a:=a) (xs:=ns.map V.int) (λi g d b=>A3 (b=upd H D (.lst d)) (d=(ns.take i).map (λn=>V.int (n/(yC ns:Int)))) (∃ u,g=[u,Js (.int (yC ns))]))
   ⟨rfl,rfl,Jt,rfl⟩ (λi g d b _ o=>by obtain⟨e,_⟩:=o; rw[e]; rwa[(zC m _).seq j,zA]) ?_ ?_⟩⟩
  ·rintro i x g d b hi ⟨rfl,rfl,u,rfl⟩;obtain⟨n,v,rfl⟩:=uF hi;exists _,U,_,U,_,_,U,U,uy.of (by lia) p,zA,len i;erw[gw,?_,_,rfl];rw[xX v,g5];rfl
  ·rintro g d b ⟨rfl,rfl,u,rfl⟩;rw[ac,v9];have e:(ns.map λn=>V.int (n/(yC ns:Int)))=(uJ ns).map V.int:=by unfold uJ; rw[v8]; rfl
   rw[e];rwa[D,_,rfl,.inl ⟨SqL.of zA,r D _ m (zC m _) zA⟩]
 ·refine⟨_,U,a,U,.inr ⟨⟨_,j⟩,λc D m=>lg (K:=K) (a:=a) (xs:=ns.map V.int) (λi g d b=>A3 (b=upd H D (.lst d)) (d=(ns.take i).map (λn=>V.int (n/(yC ns:Int)))) (∃ u,g=[u,Js (.int (yC ns))]))
   ⟨rfl,rfl,Jt,rfl⟩ (λi g d b _ o=>by obtain⟨e,_⟩:=o; rw[e]; rwa[SqT.same j (zC m _),zA]) ?_ ?_⟩⟩
  ·rintro i x g d b hi ⟨rfl,rfl,u,rfl⟩;obtain⟨n,v,rfl⟩:=uF hi;exists _,U,_,U,_,_,U,U,uy.of (by lia) p,zA,len i;erw[gw,?_,_,rfl];rw[xX v,g5];rfl
  ·rintro g d b ⟨rfl,rfl,u,rfl⟩;rw[ac,v9];have e:(ns.map λn=>V.int (n/(yC ns:Int)))=(uJ ns).map V.int:=by unfold uJ; rw[v8]; rfl
   rw[e];rwa[D,_,rfl,.inl ⟨SqL.of zA,r D _ m (zC m _) zA⟩]
def rZ(K:b8):Sp:=λc H Q _=>E3 λ(a:c5) (ns:List Int) (l:Int)=>A8 (c=[.ref a]) (Sq K H a (ns.map V.int)) (ns.length<=1000) (atI (ns.map V.int) (-1)=Js (.int l)) (l∈ns) (l≠0) (l.natAbs<10^500) (∀(p:c5)(b:Hp),Same H b->H p=Jt->b p=Js (.tup ((uJ (if l<0 then ns.map (λn=>-n) else ns)).map V.int))->Q (.ref p) b)
def cM(F:Fun K "upright" "upright" zo f fd)(Z:Zs mg)(X:Cb P w mg base)(y:Has P w K mg base "lowest" 2 ["numbers"] (xZ K)):yI P w K mg base CX0 3 f fd ["numbers"] (rZ K):=by
 specialize cv
 ·obtain⟨a,ns,l,rfl,_⟩:=h;rfl
 obtain⟨a,ns,l,rfl,m,N,G,M,h0,S,q⟩:=h
 refine'⟨_,(zB (yM ?_ (zD (zK (zZ y 'f' rfl (zG (wN (T:=["number"]) (caps:=[]) ⟨rfl,by ac_nf,by ac_nf,rfl,Ao⟩ rfl (xL (pv 0)) (λ_=>(uG 0 (show(["number"]:List i9).Nodup by ac_nf))) (λ_=>xM) (λ_=>?_)) zL)))) zU)
   (zD (zK ?_))),?_⟩
 nofun
 exists _,U,_,U,a,_,_,_,U,U,m,G,_,_,U,U,_,rfl;have O:0<yC ns:=yX M h0;have R:(yC ns:Int)<10^600:=by
  have h1:=rM M h0;have h2:(10:Nat)^500<10^600:=by ac_nf
  have h3:((10:Int)^600)=((10^600:Nat):Int):=by rw[Int.natCast_pow]; rfl
  rw[h3];lia
 erw[ifD (λg=>?_) (λg=>?_)]
 ·have len:∀ i,((ns.take i).map λn=>V.int (-n)).length<sizeLine:=λi=>zM (by rw[ac,o3]; lia);have v:∀(D:c5)(b:Hp),H D=Jt->Same H b->b D=Js (.lst ((ns.map λn=>-n).map V.int))->xZ K [.ref D] b Q E0:=λD b o L e=>by
   erw[D,ns.map λn=>-n,rfl,.inl (SqL.of e),by rw[ac]; exact N,by rw[Zq]; exact O,by rw[Zq]; exact R,λp J z B I=>?_];rwa[q p J (L.trans z) (L.free B) (by rw[y6 g]; exact I)]
  rcases m with m | m
  ·refine⟨_,U,a,U,.inl ⟨⟨_,m⟩,λc D o=>wG (K:=K) (a:=a) (xs:=ns.map V.int) (λi j d b=>A3 (b=upd H D (.lst d)) (d=(ns.take i).map (λn=>V.int (-n))) (∃ u,j=[u]))
    ⟨rfl,rfl,Jt,rfl⟩ (λi j d b _ r=>by obtain⟨e,_⟩:=r; rw[e]; rwa[(zC o _).seq m,zA]) ?_ ?_⟩⟩
   ·rintro i x j d b hi ⟨rfl,rfl,u,rfl⟩;obtain⟨n,C,rfl⟩:=uF hi;exists _,U,_,U,zA,len i;erw[gw,?_,_,rfl];rw[xX C,g5];rfl
   ·rintro j d b ⟨rfl,rfl,u,rfl⟩;rw[ac,v9];have e:(ns.map λn=>V.int (-n))=(ns.map λn=>-n).map V.int:=by rw[v8]; rfl
    rw[e];rwa[v D _ o (zC o _) zA]
  ·refine⟨_,U,a,U,.inr ⟨⟨_,m⟩,λc D o=>lg (K:=K) (a:=a) (xs:=ns.map V.int) (λi j d b=>A3 (b=upd H D (.lst d)) (d=(ns.take i).map (λn=>V.int (-n))) (∃ u,j=[u]))
    ⟨rfl,rfl,Jt,rfl⟩ (λi j d b _ r=>by obtain⟨e,_⟩:=r; rw[e]; rwa[SqT.same m (zC o _),zA]) ?_ ?_⟩⟩
   ·rintro i x j d b hi ⟨rfl,rfl,u,rfl⟩;obtain⟨n,C,rfl⟩:=uF hi;exists _,U,_,U,zA,len i;erw[gw,?_,_,rfl];rw[xX C,g5];rfl
   ·rintro j d b ⟨rfl,rfl,u,rfl⟩;rw[ac,v9];have e:(ns.map λn=>V.int (-n))=(ns.map λn=>-n).map V.int:=by rw[v8]; rfl
    rw[e];rwa[v D _ o (zC o _) zA]
 ·erw[_,rfl,a,ns,rfl,m,N,O,R,λp J z B I=>?_];rwa[q p J z B (by rw[y4 g]; exact I)]
def qY(K:b8):Sp:=λc H Q _=>E2 λ(t b:Int)=>A4 (c=[.int t,.int b]) (b≠0) (b.natAbs<10^500) (∀(p:c5)(x y:Int)(a:Hp),Same H a->H p=Jt->a p=Js 'q'->yq t b x y->Q (.ref p) a)
def WT(F:Fun K "part" "part" mE f fd)(Z:Zs mg)(o:Cb P w mg base)(l:Has P w K mg base "upright" 3 ["numbers"] (rZ K)):yI P w K mg base CX0 4 f fd ["top","bottom"] (qY K):=by
 specialize XS
 ·obtain⟨t,b,rfl,_⟩:=h;rfl
 obtain⟨t,b,rfl,i,d,q⟩:=h
 refine'⟨_,(zD (zK ?_)),?_⟩
 nofun
 refine⟨_,U,_,U,sz2,λp g=>⟨p,[t,b],b,U,.inr (SqT.of zA),by show 2<=1000; decide,rfl,by simp,i,d,λr n m c j=>?_⟩⟩;obtain⟨x,y,e,a⟩:=YZ t i;rw[e] at j;rwa[q r x y n ((zC g _).trans m) ((zC g _).free c) j a]
def cY(K:b8):Sp:=λi H Q _=>E6 λ(a b:c5) (g d e c:Int)=>A11 (i=[.ref a,.ref b]) (H a=Js (.tup [.int g,.int d])) (H b=Js (.tup [.int e,.int c])) (g.natAbs<=10^401) (d.natAbs<=10^401) (e.natAbs<=10^401) (c.natAbs<=10^401) (d≠0) (c≠0) ((d*c).natAbs<10^500) (∀(p:c5)(x y:Int)(h:Hp),Same H h->H p=Jt->h p=Js 'q'->yq (g*c+e*d) (d*c) x y->Q (.ref p) h)
def Wm(F:Fun K "plus" "plus" nX f fd)(Z:Zs mg)(B:Cb P w mg base)(e:Has P w K mg base "part" 4 ["top","bottom"] (qY K)):yI P w K mg base CX0 5 f fd 'i' (cY K):=by
 specialize XO
 ·obtain⟨a,b,l,d,g,c,rfl,_⟩:=h;rfl
 obtain⟨a,b,l,d,g,c,rfl,o,m,x,u,v,r,n1,n2,y,q⟩:=h;have p:Sq K H a [.int l,.int d]:=.inr (SqT.of o);have n:Sq K H b [.int g,.int c]:=.inr (SqT.of m);have c3:∀{i j:Int},i.natAbs<=10^401->j.natAbs<=10^401->kB i j:=λ{i j} hi z=>⟨t6 hi 'h',t6 z 'h'⟩;exists _,(zD (zK (zZ e 'f' rfl (zG (yR iS (yR xN (qN vB (pv 0) yF 'e') (qN vB (pv 1) yF 'e')) (yR xN (qN vB (pv 1) yF 'e') (qN vB (pv 0) yF 'e'))) (zG (yR xN (qN vB (pv 0) yF 'e') (qN vB (pv 1) yF 'e')) zL)))))
 try dsimp only[L2.cxOf,L2.cxComp,L2.Cx.nox,iW,iB]
 exact⟨_,U,a,_,_,.int l,U,U,p,U,_,U,b,_,_,.int c,U,U,n,U,_,_,U,U,c3 x r,
  _,rfl,b,_,_,.int g,rfl,rfl,n,rfl,_,rfl,a,_,_,.int d,rfl,rfl,p,rfl,_,_,rfl,rfl,c3 v u,_,_,rfl,rfl,
  _,rfl,a,_,_,.int d,rfl,rfl,p,rfl,_,rfl,b,_,_,.int c,rfl,rfl,n,rfl,_,_,rfl,rfl,c3 u r,
  _,_,rfl,Aq n1 n2,y,q⟩
def jB(K:b8):Sp:=λb H Q _=>E3 λ(X Y W:Int)=>A4 (b=[.int X,.int Y,.int W]) (W≠0) (W.natAbs<10^500) (∀(p:c5)(a:Hp),Same H a->H p=Jt->a p=Js (.tup ((uJ (upL X Y W)).map V.int))->Q (.ref p) a)
def We(F:Fun K "spot" "spot" mq f fd)(Z:Zs mg)(l:Cb P w mg base)(d:Has P w K mg base "upright" 3 ["numbers"] (rZ K)):yI P w K mg base CX0 4 f fd ["x","y","w"] (jB K):=by
 specialize VW
 ·obtain⟨X,Y,W,rfl,_⟩:=h;rfl
 obtain⟨X,Y,W,rfl,g,a,q⟩:=h
 refine'⟨_,(zD (zK ?_)),?_⟩
 nofun
 refine⟨_,U,_,U,_,U,sz3,λp c=>⟨p,[X,Y,W],W,U,.inr (SqT.of zA),by show 3<=1000; decide,rfl,by simp,g,a,λr j e b i=>?_⟩⟩;rwa[q r j ((zC c _).trans e) ((zC c _).free b) i]
def cB{i j:Int}(hi:i.natAbs<=10^100)(a:j.natAbs<=10^100):kB i j:=kB.of hi a
def jE(H:Hp)(t:SpT):Prop:=H t.1=Js (.tup [.int t.2.1,.int t.2.2.1,.int t.2.2.2])/\t.2.1.natAbs<=10^100/\t.2.2.1.natAbs<=10^100/\t.2.2.2.natAbs<=10^100
def jE.same{H a:Hp}(h:jE H t)(e:Same H a):jE a t:=⟨e _ _ h.1,h.2⟩
def wg(K:b8):Sp:=λa H Q _=>E2 λ(s t:SpT)=>A4 (a=[.ref s.1,.ref t.1]) (jE H s) (jE H t) (Q (.bl (ahB s t)) H)
def ZX(F:Fun K "ahead" "ahead" qj f fd)(Z:Zs mg)(x:Cb P w mg base)  : yI P w K mg base CX0 1 f fd 'i' (wg K):=by
 specialize ia
 ·obtain⟨s,t,rfl,_⟩:=h;rfl
 obtain⟨⟨a,l,i,w1⟩,⟨b,j,g,d⟩,rfl,⟨r,a1,a2,o⟩,⟨p,v,u,n⟩,q⟩:=h
 refine'⟨_,(zB (zQ 2 ia.nd (yR dS (yR xN ?_ ?_) (yR xN ?_ ?_)))
   (zB (yM ?_ (zD (zK ?_)) zU)
   (zD (zK (qJ UQ (yR xN ?_ ?_) (yR xN ?_ ?_) (tM _)))))),?_⟩
 nofun
 have c:Sq K H a [.int l,.int i,.int w1]:=.inr (SqT.of r);have m:Sq K H b [.int j,.int g,.int d]:=.inr (SqT.of p);exists _,U,a,_,_,.int l,U,U,c,U,_,U,b,_,_,.int d,U,U,m,U,_,_,U,U,cB a1 n,_,U,b,_,_,.int j,U,U,m,U,_,U,a,_,_,.int w1,U,U,c,U,_,_,U,U,cB v o,_,_,U,rfl;exists _,U,U,_,rfl;erw[NK (λh=>?_) (λh=>?_)]
 ·have e:ahB (a,l,i,w1) (b,j,g,d)=decide (l*d-j*w1<0):=y4 h;rw[e] at q;rwa[_,rfl,_,_,rfl,rfl,q]
 ·have e:ahB (a,l,i,w1) (b,j,g,d)=decide (i*d<g*w1):=y6 h;rw[e] at q;rwa[_,rfl,a,_,_,.int i,rfl,rfl,c,rfl,_,rfl,b,_,_,.int d,rfl,rfl,m,rfl,_,_,rfl,rfl,cB a2 n,_,rfl,b,_,_,.int g,rfl,rfl,m,rfl,_,rfl,a,_,_,.int w1,rfl,rfl,c,rfl,_,_,rfl,rfl,cB u o,_,_,rfl,rfl,q]
def Rn{a:Sp}{E:XK}(i:∀ (c:List V) (H:Hp) (Q d:VK),(∀ v e,Q v e->d v e)->a c H Q E->a c H d E)(h:Wq t):jM (Yd a b E t):=λg _ _ _ j z=>h g _ _ _ (λ_ _ z=>i _ _ _ _ j z) z
def YD{K:b8} : ∀(d:List V)(H:Hp)(Q e:VK),(∀ v g,Q v g->e v g)->wg K d H Q E0->wg K d H e E0:=λ_ _ _ _ h ⟨s,t,a,b,c,z⟩=>⟨s,t,a,b,c,h _ _ z⟩
def zW(a:List SpT):List V:=a.map λt=>V.ref t.1
def tu(K:b8):Sp:=λe H Q _=>E4 λ(a b:c5) (xs c:List SpT)=>A7 (e=[.ref a,.ref b]) (H a=Js (.lst (zW xs))) (H b=Js (.lst (zW c))) (∀ t∈xs,jE H t) (∀ t∈c,jE H t) (xs.length+c.length<=5000) (∀(p:c5)(d:Hp),Same H d->H p=Jt->d p=Js (.lst (zW (xC xs c)))->Q (.ref p) d)
def Yy{xs c:List SpT}{o:SpT}{r:List SpT}{k:Nat}(i:k<=xs.length){a:List SpT}(h:a++xC (xs.drop k) (o::r)=xC xs c)(d:xs[k]?=Js x)(g:ahB o x=Jv):(a++[x])++xC (xs.drop (k+1)) (o::r)=xC xs c:=by
 rw[<- h];have b:k<xs.length:=(c9.mp d).1;have e:xs.drop k=x::xs.drop (k+1):=by
  rw[Dd b]
  congr 1
  exact(c9.mp d).2
 rw[e,xC,xC,EB (by rw[g]; rfl),ED (by rw[g]; rfl),DD];rfl
def cG{xs d:List SpT}{o:SpT}{r:List SpT}{k:Nat}{a:List SpT}(h:a++xC (xs.drop k) (o::r)=xC xs d)(b:xs.length<=k\/∃ x,xs[k]?=Js x/\ahB o x=Ju):(a++[o])++xC (xs.drop k) r=xC xs d:=by
 rw[<- h];rcases b with b | ⟨x,b,g⟩
 ·rw[List.drop_eq_nil_of_le b,xC,List.takeWhile_nil,List.dropWhile_nil,DD];rfl
 ·have c:k<xs.length:=(c9.mp b).1;have e:xs.drop k=x::xs.drop (k+1):=by
   rw[Dd c]
   congr 1
   exact(c9.mp b).2
  rw[e,xC,EC (by rw[g]; decide),EF (by rw[g]; decide),DD];rfl
structure Po(H:Hp)(l:c5)(told:List SpT)(H':Hp):Prop where
 same:Same H H'
 at':H' l=Js (.lst (zW told))
def Po.app{H c:Hp}{x:SpT}(d:Po H l a c)(g:H l=Jt):Po H l (a++[x]) (upd c l (.lst (zW a++[.ref x.1]))):=by
 erw[λb o e=>?_,?_]
 ·rw[zH (zI e g)];rwa[d.same b o e]
 ·rw[zA];unfold zW;rw[g5];rfl
def TZ{a:List SpT}{i:Nat}(h:a[i]?=Js x):(zW a)[i]?=Js (.ref x.1):=by
 unfold zW;rw[e7,h];rfl
def zr{i:Nat}(h:(zW a)[i]?=Js v):∃ x,a[i]?=Js x/\v=.ref x.1:=by
 unfold zW at h;rw[e7] at h;cases e:a[i]? with
 | none=>rw[e] at h; cases h
 | some x=>rw[e] at h; rwa[x,rfl,(m8 h).symm]
def xD(a:List SpT):(zW a).length=a.length:=ac _
def aC(F:Fun K "merged" "merged" vn f fd)(Z:Zs mg)(CB:Cb P w mg base)(yCp:Has P w K mg base "ahead" 1 'i' (wg K)):yI P w K mg base CX0 2 f fd ["ones","others"] (tu K):=by
 specialize rD
 ·obtain⟨a,b,xs,r,rfl,_⟩:=h;rfl
 obtain⟨a,b,xs,r,rfl,ha,hb,N,M,hlen,q⟩:=h
 refine'⟨_,(zB (zQ 2 rD.nd ?_)
   (zB (zQ 3 rD.nd yF)
   (zB (xK r9 rfl (xL (pv 1)) (uG 4 rD.nd) (zB (re r9 ?_ (zB (yA (og (pv 2) ?_))
   (zD (zQ 3 rD.nd ?_))))
   (zD (yA (og (pv 2) (zG (pv 4) zL))))))
   (zD (zK (yR iU (pv 2) ?_)))))),?_⟩
 nofun
 have big:∀ n:Nat,n<=5000->n<sizeLine:=λn hn=>t6 hn 'a';refine⟨sz0,λl I=>?_⟩;have D0:Po H l [] (upd H l (.lst [])):=⟨zC I _,zA⟩;refine⟨_,U,b,U,.inl ⟨⟨_,SqL.of (D0.same _ _ hb)⟩,xE (K:=K) (a:=b) (xs:=zW r) (λj m J=>E3 λ(e:List SpT) (k:Nat) (u:Option V)=>A5 (m=[Js (.ref a),Js (.ref b),Js (.ref l),Js (.int k),u]) (Po H l e J) (k<=xs.length) (e.length=k+j) (e++xC (xs.drop k) (r.drop j)=xC xs r))
  ⟨[],0,Jt,rfl,D0,Aa _,rfl,rfl⟩ (λj m J _ S=>by obtain⟨_,_,_,_,d,_⟩:=S; rwa[SqL.of (d.same _ _ hb)]) ?_ ?_⟩⟩
 ·rintro j v m J hj ⟨e,k,u,rfl,d,D,x,i⟩;obtain⟨o,T,rfl⟩:=zr hj;have X:j<r.length:=(c9.mp T).1;have O:=M o (f6 T);have eo:r.drop j=o::r.drop (j+1):=by
   rw[Dd X]
   congr 1
   exact(c9.mp T).2
  rw[eo] at i;refine vp (λm H1=>E2 λ(e:List SpT) (k:Nat)=>A5 (m=[Js (.ref a),Js (.ref b),Js (.ref l),Js (.int k),Js (.ref o.1)]) (Po H l e H1) (k<=xs.length) (e.length=k+j) (e++xC (xs.drop k) (o::r.drop (j+1))=xC xs r))
   (λm _=>match m with | [_,_,_,Js (.int z),_]=>xs.length-z.toNat | _=>0) ⟨e,k,rfl,d,D,x,i⟩ ?_ (SK (gA (XZ Ul uv (Qt VX (kY uv Za)))) (OX (mo_b (Rn YD (kY uv (kY (XZ Nb uv uv) Za))))))
  rintro m H1 ⟨e,k,rfl,d,D,x,i⟩;have G:Sq K H1 a (zW xs):=.inl (SqL.of (d.same _ _ ha));exists _,U,_,U,a,_,U,.inl (SqL.of (d.same _ _ ha)),_,_,U,U,_,rfl;erw[ifD (λy=>?_) (λy=>?_)]
  ·have g:(k:Int)<((zW xs).length:Int):=y;rw[xD] at g;have B:k<xs.length:=by lia
   have R:xs[k]?=Js xs[k]:=d6 B;have at':atI (zW xs) (k:Int)=Js (.ref (xs[k]).1):=rE (TZ R);have okX:=N xs[k] (Ap B);exists _,U,_,U,_,U,a,_,_,_,U,U,G,at',o,xs[k],U,O.same d.same,okX.same d.same,_,rfl;erw[ifTF (λY=>?_) (λY=>?_)]
   ·have C:ahB o xs[k]=false:=by cases h:ahB o xs[k] <;> simp_all
    exists _,U,.inl ⟨U,_,SqL.of d.at'⟩,_,U,_,U,a,_,_,_,U,U,G,at',l,_,_,U,U,d.at',big _ (by rw[xD]; lia);exists _,U,_,_,U,U,⟨e++[xs[k]],k+1,U,d.app I,B,by rw[g7,AQ]; lia,Yy D i R C⟩;show xs.length-((k:Int)+1).toNat<xs.length-((k:Int)).toNat;lia
   ·have C:ahB o xs[k]=true:=by cases h:ahB o xs[k] <;> simp_all
    exists _,U,.inl ⟨U,_,SqL.of d.at'⟩,_,U,l,_,_,U,U,d.at',big _ (by rw[xD]; lia);rwa[e++[o],k,_,rfl,d.app I,D,by rw[g7,AQ]; lia,cG i (.inr ⟨_,R,C⟩)]
  ·have g:¬ (k:Int)<((zW xs).length:Int):=y;rw[xD] at g;erw[vY ?_];exists _,U,.inl ⟨U,_,SqL.of d.at'⟩,_,U,l,_,_,U,U,d.at',big _ (by rw[xD]; lia);rwa[e++[o],k,_,rfl,d.app I,D,by rw[g7,AQ]; lia,cG i (.inl (by lia))]
 ·rintro m J ⟨e,k,u,rfl,d,D,x,i⟩;rw[xD] at x i;rw[List.drop_length,xC] at i;refine⟨_,U,_,U,_,U,_,U,a,_,U,SqL.of (d.same _ _ ha),λc hc=>?_⟩;have L:=zC hc (.lst (qH (zW xs) (Js (k:Int)) Jt));have ec:qH (zW xs) (Js (k:Int)) Jt=zW (xs.drop k):=by
   unfold qH;rw[HT.sIx_nat,xD,show min k xs.length=k by lia,show HT.sIx xs.length xs.length Jt=xs.length from rfl,Bb (by rw[Ak,xD]; lia)];unfold zW;rw[DZ]
  erw[l,c,_,_,rfl,rfl,L _ _ d.at',zA,?_,λp hp=>?_]
  ·rw[ec,xD,xD,Ak];rwa[AC (big _ (by lia))]
  ·erw[q p _ (d.same.trans (L.trans (zC hp _))) ((d.same.trans L).free hp) ?_];rw[zA,ec,<- i];unfold zW;rw[g5]
def xh(K:b8):Nat->Sp
 | 0=>λ_ _ _ _=>False
 | n+1=>λc H Q _=>∃(a:c5)(xs:List SpT),c=[.ref a]/\SqL K H a (zW xs)/\(∀ t∈xs,jE H t)/\xs.length<=2^n/\xs.length<=5000/\∀(p:c5)(b:Hp),Same H b->H p=Jt->b p=Js (.lst (zW (uz n xs)))->Q (.ref p) b
def qh(K:b8):Sp:=xh K 13
def oY{f:c5}{fd:AW}(F:Fun K "in_order" "in_order" tN f fd)(Z:Zs mg)(CB:Cb P w mg base)(o:Has P w K mg base "merged" 2 ["ones","others"] (tu K))(N:oN K fd ["spots"] [])(M:AT K (.ref f)=Ju)(L:mg "in_order" = Js (.ref f)) :
  ∀ n:Nat,yI P w K mg base CX0 (n+2) f fd ["spots"] (xh K n)
 | 0=>⟨λ_ _ _ _ h=>h.elim,λ_ _ _ _ _ _ _ _ _ _ _ _ _ h=>h.elim⟩
 | n+1=>by
  have ih:=oY F Z CB o N M L n;have r:Has P w K mg base "in_order" (n+2) ["spots"] (xh K n):=⟨f,fd,ih,N,M,L⟩;rw[show n+1+2=n+2+1 from by lia]
  specialize pM
  ·obtain⟨a,xs,rfl,_⟩:=h;rfl
  obtain⟨a,xs,rfl,y,ok,hl,hl5,q⟩:=h;have b:=hr;have v:Room 2 _:=hr.mono (Nat.le_add_left _ _)
  refine'⟨_,(zB (yM ?_ (zD (zK ?_)) zU)
   (zB (zQ 1 pM.nd ?_)
   (zD (zK (zZ o v rfl (zG (zZ r b rfl ?_) (zG (zZ r b rfl ?_) zL))))))),?_⟩
  nofun
  have big:∀ n:Nat,n<=5000->n<sizeLine:=λn hn=>t6 hn 'a';exists _,U,a,_,U,.inl y,_,_,U,U,_,rfl;erw[ifD (λj=>?_) (λj=>?_)]
  ·have c:((zW xs).length:Int)<2:=j;rw[xD] at c;refine⟨_,U,a,_,U,.inl y,λl x=>?_⟩;refine q l _ (zC x _) x ?_;rw[zA];have e:uz n xs=xs:=by
    cases n with
    | zero=>rfl
    | succ m=>rwa[y6 (by lia)]
   rw[e]
  ·have c:¬ ((zW xs).length:Int)<2:=j;rw[xD] at c;cases n with
   | zero=>exact y9 hl (by show ¬ xs.length<=1; lia)
   | succ m =>
    exists _,U,a,_,U,.inl y,_,_,U,U,uy.of 'a' 'h';have d:((zW xs).length:Int)/2=((xs.length/2:Nat):Int):=by rw[xD]; rfl
    have e1:qH (zW xs) Jt (Js (((zW xs).length:Int)/2))=zW (xs.take (xs.length/2)):=by
     rw[d];unfold qH;rw[HT.sIx_nat,xD,show HT.sIx xs.length 0 Jt=0 from rfl,F6,show min (xs.length/2) xs.length-0=xs.length/2 by lia];unfold zW;rw[DY]
    have e2:qH (zW xs) (Js (((zW xs).length:Int)/2)) Jt=zW (xs.drop (xs.length/2)):=by
     rw[d];unfold qH;rw[HT.sIx_nat,xD,show min (xs.length/2) xs.length=xs.length/2 by lia,show HT.sIx xs.length xs.length Jt=xs.length from rfl,Bb (by rw[Ak,xD]; lia)];unfold zW;rw[DZ]
    have p2:2^(m+1)=2*2^m:=by rw[IL,IJ]
    erw[_,rfl,_,rfl,_,rfl,a,_,rfl,y,λc1 D=>?_];have u:=zC D (.lst (qH (zW xs) Jt (Js (((zW xs).length:Int)/2))));erw[c1,xs.take (xs.length/2),rfl,SqL.of (by rw[zA,e1]),λt i=>(ok t (AL i)).same u,by rw[o3]; lia,by rw[o3]; lia,λY H1 T hr1 I=>?_];have B:=u.trans T;erw[_,rfl,_,rfl,_,rfl,a,_,rfl,B.seq y,λc2 C=>?_];have g:=zC C (.lst (qH (zW xs) (Js (((zW xs).length:Int)/2)) Jt));erw[c2,xs.drop (xs.length/2),rfl,SqL.of (by rw[zA,e2]),λt i=>(ok t (AX i)).same (B.trans g),by rw[Ak]; lia,by rw[Ak]; lia,λX H2 J hr2 G=>?_];have z:=B.trans (g.trans J);have R:=vF m (xs.take (xs.length/2));have O:=vF m (xs.drop (xs.length/2));erw[Y,X,uz m (xs.take (xs.length/2)),uz m (xs.drop (xs.length/2)),rfl,J _ _ (g _ _ I),G,λt i=>(ok t (AL (R.mem_iff.mp i))).same z,λt i=>(ok t (AX (O.mem_iff.mp i))).same z,by rw[R.length_eq,O.length_eq,o3,Ak]; lia,λp H3 S hp e3=>?_];erw[q p H3 (z.trans S) (z.free hp) ?_];rw[e3];have e:uz (m+1) xs=xC (uz m (xs.take (xs.length/2))) (uz m (xs.drop (xs.length/2))):=y4 (by lia);rw[e]
def gO(F:Fun K "in_order" "in_order" tN f fd)(Z:Zs mg)(e:Cb P w mg base)(a:Has P w K mg base "merged" 2 ["ones","others"] (tu K))(d:oN K fd ["spots"] [])(c:AT K (.ref f)=Ju)(b:mg "in_order" = Js (.ref f)):yI P w K mg base CX0 15 f fd ["spots"] (qh K):=oY F Z e a d c b 13
def NA(K:b8):Sp:=λj H Q _=>E8 λ(a b:c5) (g e:List V) (d c i h:Int)=>A10 (j=[.ref a,.ref b]) (Sq K H a g) (Sq K H b e) (atI g 0=Js (.int d)) (atI g 1=Js (.int c)) (atI e 0=Js (.int i)) (atI e 1=Js (.int h)) (d.natAbs<=10^18) (c.natAbs<=10^18) (Q (.int (d*h-c*i)) H)
def xF(K:b8):Sp:=NA K
def ud(K:b8):Sp:=λh H Q _=>E6 λ(a b:c5) (g d e c:Int)=>A8 (h=[.ref a,.ref b]) (H a=Js (.tup [.int g,.int d])) (H b=Js (.tup [.int e,.int c])) (g.natAbs<=10^201) (d.natAbs<=10^201) (e.natAbs<=10^201) (c.natAbs<=10^201) (Q (.int (g*c-d*e)) H)
def cBB{i j:Int}(hi:i.natAbs<=10^201)(a:j.natAbs<=10^201):kB i j:=⟨t6 hi 'h',t6 a 'h'⟩
def Vq(F:Fun K "turn" "turn" rj f fd)(Z:Zs mg)(u:Cb P w mg base)  : yI P w K mg base CX0 1 f fd 'i' (xF K):=by
 specialize eJ
 ·obtain⟨a,b,n,l,g,d,e,c,rfl,_⟩:=h;rfl
 obtain⟨a,b,n,l,g,d,e,c,rfl,j,i,o,u1,m,w1,r,p,q⟩:=h
 refine'⟨_,(zD (zK ?_)),?_⟩
 nofun
 exact⟨_,U,a,_,_,.int g,U,U,j,o,_,U,b,_,_,.int c,U,U,i,w1,_,_,U,U,zv (by lia),
  _,rfl,a,_,_,.int d,rfl,rfl,j,u1,_,rfl,b,_,_,.int e,rfl,rfl,i,m,_,_,rfl,rfl,zv (by lia),_,_,rfl,rfl,q⟩
def aO(F:Fun K "turn" "turn" rj f fd)(Z:Zs mg)(u:Cb P w mg base)  : yI P w K mg base CX0 1 f fd 'i' (ud K):=by
 specialize eJ
 ·obtain⟨a,b,i,e,g,d,rfl,_⟩:=h;rfl
 obtain⟨a,b,i,e,g,d,rfl,r,p,o,n,m,l,q⟩:=h;have c:Sq K H a [.int i,.int e]:=.inr (SqT.of r);have j:Sq K H b [.int g,.int d]:=.inr (SqT.of p);exists _,(zD (zK (yR dS (yR xN (qN vB (pv 0) yF 'e') (qN vB (pv 1) yF 'e')) (yR xN (qN vB (pv 0) yF 'e') (qN vB (pv 1) yF 'e')))))
 try dsimp only[L2.cxOf,L2.cxComp,L2.Cx.nox,iW,iB]
 exact⟨_,U,a,_,_,.int i,U,U,c,U,_,U,b,_,_,.int d,U,U,j,U,_,_,U,U,cBB o l,
  _,rfl,a,_,_,.int e,rfl,rfl,c,rfl,_,rfl,b,_,_,.int g,rfl,rfl,j,rfl,_,_,rfl,rfl,cBB n m,_,_,rfl,rfl,q⟩
def qW(K:b8):Sp:=λj H Q _=>E8 λ(a b:c5) (g e:List V) (d c i h:Int)=>A10 (j=[.ref a,.ref b]) (Sq K H a g) (Sq K H b e) (atI g 0=Js (.int d)) (atI g 1=Js (.int c)) (atI e 0=Js (.int i)) (atI e 1=Js (.int h)) (d.natAbs<=10^18) (c.natAbs<=10^18) (Q (.int (d*i+c*h)) H)
def Yx(F:Fun K "along" "along" rn f fd)(Z:Zs mg)(u:Cb P w mg base)  : yI P w K mg base CX0 1 f fd 'i' (qW K):=by
 specialize YF
 ·obtain⟨a,b,n,l,g,d,e,c,rfl,_⟩:=h;rfl
 obtain⟨a,b,n,l,g,d,e,c,rfl,j,i,o,u1,m,w1,r,p,q⟩:=h
 refine'⟨_,(zD (zK ?_)),?_⟩
 nofun
 exact⟨_,U,a,_,_,.int g,U,U,j,o,_,U,b,_,_,.int e,U,U,i,m,_,_,U,U,zv (by lia),
  _,rfl,a,_,_,.int d,rfl,rfl,j,u1,_,rfl,b,_,_,.int c,rfl,rfl,i,w1,_,_,rfl,rfl,zv (by lia),_,_,rfl,rfl,q⟩
def oj(K:b8):Sp:=xZ K
def Xu(F:Fun K "plain" "plain" qp f fd)(Z:Zs mg)(c:Cb P w mg base)(b:Has P w K mg base "lowest" 2 ["numbers"] (xZ K)):yI P w K mg base CX0 3 f fd ["direction"] (oj K):=by
 specialize Yz
 ·obtain⟨a,ns,rfl,_⟩:=h;rfl
 obtain⟨a,ns,rfl,h1,h2,h3,h4,h5⟩:=h;rwa[_,(zD (zK (zZ b 'f' rfl (zG (pv 0) zL)))),⟨_,rfl,a,ns,rfl,h1,h2,h3,h4,h5⟩]
def sZ(K:b8):Sp:=xZ K
def ke(F:Fun K "plain_side" "plain_side" vN f fd)(Z:Zs mg)(c:Cb P w mg base)(b:Has P w K mg base "lowest" 2 ["numbers"] (xZ K)):yI P w K mg base CX0 3 f fd ["side"] (sZ K):=by
 specialize mZ
 ·obtain⟨a,ns,rfl,_⟩:=h;rfl
 obtain⟨a,ns,rfl,h1,h2,h3,h4,h5⟩:=h;rwa[_,(zD (zK (zZ b 'f' rfl (zG (pv 0) zL)))),⟨_,rfl,a,ns,rfl,h1,h2,h3,h4,h5⟩]
def SB(K:b8)(R:Int->Int->Int->Int->Int->Int->Hp->VK->Prop):Sp:=λc H Q _=>E8 λ(a b:c5) (A B C x y z:Int)=>A7 (c=[.ref a,.ref b]) (Sq K H a [.int A,.int B,.int C]) (Sq K H b [.int x,.int y,.int z]) (A.natAbs<=10^18) (B.natAbs<=10^18) (C.natAbs<=10^18) (R A B C x y z H Q)
def mJ(K:b8):Sp:=SB K λA B C x y z H Q=>Q (.int (A*x+B*y-C*z)) H
def aF(F:Fun K "beyond" "beyond" vo f fd)(Z:Zs mg)(l:Cb P w mg base)  : yI P w K mg base CX0 1 f fd ["side","spot"] (mJ K):=by
 specialize ag
 ·obtain⟨a,b,A,B,C,x,y,z,rfl,_⟩:=h;rfl
 obtain⟨a,b,e,B,C,x,y,z,rfl,d,c,j,i,g,q⟩:=h
 refine'⟨_,(zD (zK ?_)),?_⟩
 nofun
 rwa[_,rfl,a,_,_,.int e,rfl,rfl,d,rfl,_,rfl,b,_,_,.int x,rfl,rfl,c,rfl,_,_,rfl,rfl,zv (by lia),_,rfl,a,_,_,.int B,rfl,rfl,d,rfl,_,rfl,b,_,_,.int y,rfl,rfl,c,rfl,_,_,rfl,rfl,zv (by lia),_,_,rfl,rfl,_,rfl,a,_,_,.int C,rfl,rfl,d,rfl,_,rfl,b,_,_,.int z,rfl,rfl,c,rfl,_,_,rfl,rfl,zv (by lia),_,_,rfl,rfl,q]
def zz(K:b8):Sp:=SB K λA B C x y z H Q=>Q (.bl (decide (A*x+B*y-C*z<=0))) H
def Ys(F:Fun K "holds" "holds" qg f fd)(Z:Zs mg)(m:Cb P w mg base)(c:Has P w K mg base "beyond" 1 ["side","spot"] (mJ K)):yI P w K mg base CX0 2 f fd ["side","spot"] (zz K):=by
 specialize YT
 ·obtain⟨a,b,A,B,C,x,y,z,rfl,_⟩:=h;rfl
 obtain⟨a,b,l,B,C,x,y,z,rfl,j,i,g,e,d,q⟩:=h
 refine'⟨_,(zD (zK ?_)),?_⟩
 nofun
 rwa[_,rfl,_,rfl,a,b,l,B,C,x,y,z,rfl,j,i,g,e,d,_,_,rfl,rfl,q]
def sN(K:b8):Sp:=λl H Q _=>E8 λ(a b:c5) (g d h e c j:Int)=>A10 (l=[.ref a,.ref b]) (Sq K H a [.int g,.int d,.int h]) (Sq K H b [.int e,.int c,.int j]) (g.natAbs<=10^18) (d.natAbs<=10^18) (h.natAbs<=10^18) (e.natAbs<=10^18) (c.natAbs<=10^18) (g*c-d*e=0->Q .non H) (g*c-d*e≠0->∀(p:c5)(i:Hp),Same H i->H p=Jt->i p=Js (.tup ((uJ (upL (h*c-d*j) (g*j-h*e) (g*c-d*e))).map V.int))->Q (.ref p) i)
def fg(F:Fun K "crossing" "crossing" rQ f fd)(Z:Zs mg)(S:Cb P w mg base)(z:Has P w K mg base "upright" 3 ["numbers"] (rZ K))(y:Has P w K mg base "turn" 1 'i' (xF K)):yI P w K mg base CX0 4 f fd 'i' (sN K):=by
 specialize tY
 ·obtain⟨a,b,g,d,m,e,c,l,rfl,_⟩:=h;rfl
 obtain⟨a,b,g,d,m,e,c,l,rfl,j,i,v,u,R,G,D,C,q⟩:=h
 refine'⟨_,(zB (zQ 2 tY.nd ?_)
   (zB (yM ?_ (zD (zK yf)) zU)
   (zB (zQ 3 tY.nd ?_)
   (zB (zQ 4 tY.nd ?_)
   (zD (zK ?_)))))),?_⟩
 nofun
 exists _,U,_,U,a,b,_,_,g,d,e,c,U,j,i,U,U,U,U,v,u;exists _,U,U,_,rfl;erw[ifE (λn=>C n) (λn=>?_)];have N:=zE g c v D;have M:=zE d e u G;have O:(10:Nat)^18*10^18=10^36:=by decide
 have L:(10:Nat)^36+10^36<=10^40:=by decide
 exists _,U,a,_,_,.int m,U,U,j,U,_,U,b,_,_,.int c,U,U,i,U,_,_,U,U,zv (by lia),_,U,a,_,_,.int d,U,U,j,U,_,U,b,_,_,.int l,U,U,i,U,_,_,U,U,zv (by lia),_,_,U,rfl;exists _,U,a,_,_,.int g,U,U,j,U,_,U,b,_,_,.int l,U,U,i,U,_,_,U,U,zv (by lia),_,U,a,_,_,.int m,U,U,j,U,_,U,b,_,_,.int e,U,U,i,U,_,_,U,U,zv (by lia),_,_,U,rfl;refine⟨_,U,_,U,_,U,sz3,λp x=>⟨p,[m*c-d*l,g*l-m*e,g*c-d*e],g*c-d*e,U,.inr (SqT.of zA),by show 3<=1000; decide,rfl,by simp,n,No (by lia),λr J B o I=>?_⟩⟩;rwa[q n r J ((zC x _).trans B) ((zC x _).free o) I]
def kP(K:b8):Sp:=λc H Q _=>E6 λ(a:c5) (A B C x y:Int)=>A5 (c=[.ref a,.int x,.int y]) (Sq K H a [.int A,.int B,.int C]) (A.natAbs<=10^18) (B.natAbs<=10^18) (∀(p:c5)(b:Hp),Same H b->H p=Jt->b p=Js (.tup [.int A,.int B,.int (C+A*x+B*y)])->Q (.ref p) b)
def aQ(F:Fun K "pushed" "pushed" vy f fd)(Z:Zs mg)(i:Cb P w mg base)  : yI P w K mg base CX0 1 f fd ["side","x","y"] (kP K):=by
 specialize bj
 ·obtain⟨a,A,B,C,x,y,rfl,_⟩:=h;rfl
 obtain⟨a,d,B,C,x,y,rfl,b,g,e,q⟩:=h
 refine'⟨_,(zD (zK ?_)),?_⟩
 nofun
 refine⟨_,U,a,_,_,.int d,U,U,b,U,_,U,a,_,_,.int B,U,U,b,U,_,U,a,_,_,.int C,U,U,b,U,_,U,a,_,_,.int d,U,U,b,U,_,U,_,_,U,U,.inl ⟨by lia,by lia⟩,_,_,U,U,
  _,rfl,a,_,_,.int B,rfl,rfl,b,rfl,_,rfl,_,_,rfl,rfl,.inl ⟨by lia,by lia⟩,_,_,rfl,rfl,sz3,λp c=>?_⟩
 rwa[q p _ (zC c _) c zA]
def WA{D0 D1 D2:Int}(n:D0≠0\/D1≠0)(c:D0.natAbs<=10^9)(b:D1.natAbs<=10^9):0<yC [D0,D1,D2]/\(yC [D0,D1,D2]:Int)<=10^9/\(yC [D0,D1,D2]:Int)<10^600:=by
 have a:0<yC [D0,D1,D2]:=by
  rcases n with n | n
  ·rwa[yX (n:=D0) 'd' n]
  ·rwa[yX (n:=D1) 'd' n]
 have z:(yC [D0,D1,D2]:Int)<=10^9:=by
  rcases n with n | n
  ·have:=rM (ns:=[D0,D1,D2]) (n:=D0) 'd' n;lia
  ·have:=rM (ns:=[D0,D1,D2]) (n:=D1) 'd' n;lia
 rwa[a,z,BM z 'h']
def rR(K:b8):Sp:=λj H Q _=>E9 λ(m a b:c5) (i M1 h g e d:Int)=>A13 (j=[.ref m,.ref a,.ref b]) (SqT K H m [.int i,.int M1]) (SqT K H a [.int h,.int g]) (SqT K H b [.int e,.int d]) (i.natAbs<=10^6) (M1.natAbs<=10^6) (h.natAbs<=10^6) (g.natAbs<=10^6) (e.natAbs<=10^6) (d.natAbs<=10^6) (h≠0\/g≠0) (e≠0\/d≠0) (∀(l p q:c5)(c:Hp),Same H c->c l=Js (.lst [.ref p,.ref q])->c p=Js (.tup ((uJ [-g,h,h*M1-g*i]).map V.int))->c q=Js (.tup ((uJ [d,-e,i*d-M1*e]).map V.int))->Q (.ref l) c)
def rq(F:Fun K "bearing_sides" "bearing_sides" wJ f fd)(Z:Zs mg)(CB:Cb P w mg base)(I:Has P w K mg base "plain_side" 3 ["side"] (sZ K))(G:Has P w K mg base "turn" 1 'i' (xF K)):yI P w K mg base CX0 4 f fd ["place","one","other"] (rR K):=by
 specialize uP
 ·obtain⟨m,a,b,c,M1,i,g,e,d,rfl,_⟩:=h;rfl
 obtain⟨m,a,b,c,M1,i,g,e,d,rfl,D,x,M,m1,m2,m3,m4,m5,m6,nA,Y,q⟩:=h
 refine'⟨_,(zB (zQ 3 uP.nd ?_)
   (zB (zQ 4 uP.nd ?_)
   (zD (zK ?_)))),?_⟩
 nofun
 obtain⟨S,_,R⟩:=WA (D0:=-g) (D1:=i) (D2:=i*M1-g*c) (by lia) (by lia) (by lia);obtain⟨O,_,N⟩:=WA (D0:=d) (D1:=-e) (D2:=c*d-M1*e) (by lia) (by lia) (by lia);erw[_,rfl,a,_,_,.int g,rfl,rfl,.inr x,rfl,_,rfl,_,rfl,a,_,_,.int i,rfl,rfl,.inr x,rfl,_,rfl,_,rfl,a,m,_,_,i,g,c,M1,rfl,.inr x,.inr D,rfl,rfl,rfl,rfl,by lia,by lia,sz3,λt1 u=>?_];have o:=zC u (.tup [.int (-g),.int i,.int (i*M1-g*c)]);have j:=SqT.same M o;have v:=SqT.same D o;erw[_,rfl,b,_,_,.int d,rfl,rfl,.inr j,rfl,_,rfl,b,_,_,.int e,rfl,rfl,.inr j,rfl,_,rfl,_,rfl,_,rfl,m,b,_,_,c,M1,e,d,rfl,.inr v,.inr j,rfl,rfl,rfl,rfl,by lia,by lia,sz3,λJ r=>?_];have B:=zC r (.tup [.int d,.int (-e),.int (c*d-M1*e)]);refine⟨_,U,t1,[-g,i,i*M1-g*c],U,.inr (SqT.of (B _ _ zA)),by show 3<=1000; decide,S,R,λp H3 z hp X=>?_⟩;refine⟨_,U,J,[d,-e,c*d-M1*e],U,.inr (SqT.of (z _ _ zA)),by show 3<=1000; decide,O,N,λC H4 y hq T=>?_⟩;erw[sz2,λl L=>?_];have n:=zC L (.lst [.ref p,.ref C]);rwa[q l p C _ (o.trans (B.trans (z.trans (y.trans n)))) zA (n _ _ (y _ _ X)) (n _ _ T)]
def xf(K:b8):Sp:=λi H Q _=>E6 λ(a b:c5) (g e d c:Int)=>A9 (i=[.ref a,.ref b]) (Sq K H a [.int g,.int e]) (Sq K H b [.int d,.int c]) (g.natAbs<=10^6) (e.natAbs<=10^6) (d.natAbs<=10^6) (c.natAbs<=10^6) (e-c≠0\/d-g≠0) (∀(p:c5)(h:Hp),Same H h->H p=Jt->h p=Js (.tup ((uJ [e-c,d-g,d*e-c*g]).map V.int))->Q (.ref p) h)
def lS(F:Fun K "range_side" "range_side" vQ f fd)(Z:Zs mg)(J:Cb P w mg base)(o:Has P w K mg base "plain_side" 3 ["side"] (sZ K))(m:Has P w K mg base "turn" 1 'i' (xF K)):yI P w K mg base CX0 4 f fd ["left","right"] (xf K):=by
 specialize kF
 ·obtain⟨a,b,g,e,d,c,rfl,_⟩:=h;rfl
 obtain⟨a,b,g,e,d,c,rfl,j,i,I,G,D,C,n,q⟩:=h
 refine'⟨_,(zD (zK ?_)),?_⟩
 nofun
 have v:0<yC [e-c,d-g,d*e-c*g]:=by
  rcases n with n | n
  ·rwa[yX (n:=e-c) 'd' n]
  ·rwa[yX (n:=d-g) 'd' n]
 have x:(yC [e-c,d-g,d*e-c*g]:Int)<10^600:=by
  have z:(yC [e-c,d-g,d*e-c*g]:Int)<=10^7:=by
   rcases n with n | n
   ·have:=rM (ns:=[e-c,d-g,d*e-c*g]) (n:=e-c) 'd' n;lia
   ·have:=rM (ns:=[e-c,d-g,d*e-c*g]) (n:=d-g) 'd' n;lia
  rwa[BM z 'h']
 refine⟨_,U,a,_,_,.int e,U,U,j,U,_,U,b,_,_,.int c,U,U,i,U,_,_,U,U,_,U,b,_,_,.int d,U,U,i,U,_,U,a,_,_,.int g,U,U,j,U,_,_,U,U,_,U,_,U,b,a,_,_,d,c,g,e,U,i,j,U,U,U,U,by lia,by lia,sz3,λt l =>
  ⟨t,[e-c,d-g,d*e-c*g],rfl,.inr (SqT.of zA),by show 3<=1000; decide,v,x,λp B r u y=>?_⟩⟩
 rwa[q p B ((zC l _).trans r) ((zC l _).free u) y]
def Xq(a:List Sd)(p:P3):Bool:=a.all λt=>decide (sv t.2 p<=0)
def zk : Xq b p=Ju↔inW b p:=by
 unfold Xq inW;rw[Ag];rwa[λh t a=>of_decide_eq_true (h t a),λh t a=>y7 (h t a)]
def sR(K:b8):Sp:=λb H Q _=>E4 λ(l p:c5) (a:List Sd) (P:P3)=>A5 (b=[.ref l,.ref p]) (SqL K H l (zY a)) (qb H a) (Sq K H p [.int P.1,.int P.2.1,.int P.2.2]) (Q (.bl (Xq a P)) H)
def gB(F:Fun K "in_water" "in_water" qA f fd)(Z:Zs mg)(O:Cb P w mg base)(y:Has P w K mg base "holds" 2 ["side","spot"] (zz K)):yI P w K mg base CX0 3 f fd ["sides","place"] (sR K):=by
 specialize sj
 ·obtain⟨l,p,d,P,rfl,_⟩:=h;rfl
 obtain⟨l,p,d,P,rfl,x,ok,D,q⟩:=h
 refine'⟨_,(zB (xK r9 rfl (xL (pv 0)) (uG 2 sj.nd) (zD (yM ?_ (zD (zK nI)) zU)))
   (zD (zK nI))),?_⟩
 nofun
 refine⟨_,U,l,U,.inl ⟨⟨_,x⟩,xE (K:=K) (a:=l) (xs:=zY d) (λi o r=>A3 (H=r) (∀ j t,j<i->d[j]?=Js t->sv t.2 P<=0) (∃ u2:Option V,o=[Js (.ref l),Js (.ref p),u2]))
  ⟨rfl,λj t n=>y9 n (AH _),Jt,rfl⟩ (λi o r _ u=>by obtain⟨e,_⟩:=u; rw[<- e]; rwa[x]) ?_ ?_⟩⟩
 ·rintro i v o r hi ⟨rfl,b,u2,rfl⟩;obtain⟨t,gt,rfl,G⟩:=vd hi;obtain⟨I,_,N,M,L⟩:=ok t (f6 gt);exists _,U,_,U,t.1,p,t.2.1,t.2.2.1,t.2.2.2,P.1,P.2.1,P.2.2,U,.inr (SqT.of I),D,by lia,by lia,by lia,_,rfl;erw[ifN (λg=>?_) (λm=>?_)]
  ·have e:Xq d P=false:=by
    unfold Xq;rw[EX];intro z;rwa[g (of_decide_eq_true (Ag.mp z t (f6 gt)))]
   rw[e] at q;rwa[q]
  ·erw[rfl,λj B n c=>?_,_,rfl];by_cases e:j=i
   ·rw[e,gt] at c;cases c;rwa[m]
   ·rwa[b j B (by lia) c]
 ·rintro o r ⟨rfl,b,u2,rfl⟩;have e:Xq d P=true:=zk.mpr λt C=>by
   obtain⟨j,n,J⟩:=AE C;rwa[b j t (by rw[zO]; exact n) (by rw[d6 n,J])]
  rw[e] at q;rwa[q]
def jc(K:b8):Sp:=λc H Q _=>E2 λ(a:c5) (t:P3)=>A6 (c=[.ref a]) (Sq K H a [.int t.1,.int t.2.1,.int t.2.2]) (t.1≠0\/t.2.1≠0) (t.1.natAbs<=10^9) (t.2.1.natAbs<=10^9) (∀(p:c5)(b:Hp),Same H b->H p=Jt->b p=Js (.tup ((ftL t).map V.int))->Q (.ref p) b)
def VZ(F:Fun K "foot" "foot" mm f fd)(Z:Zs mg)(u:Cb P w mg base)(e:Has P w K mg base "spot" 4 ["x","y","w"] (jB K))(g:Has P w K mg base "along" 1 'i' (qW K)):yI P w K mg base CX0 5 f fd ["side"] (jc K):=by
 specialize Wi
 ·obtain⟨a,t,rfl,_⟩:=h;rfl
 obtain⟨a,t,rfl,b,l,d,c,q⟩:=h
 refine'⟨_,(zD (zK ?_)),?_⟩
 nofun
 have pos:=tS l;have r:=zE t.1 t.1 d d;have o:=zE t.2.1 t.2.1 c c;refine⟨_,U,a,_,_,.int t.1,U,U,b,U,_,U,a,_,_,.int t.2.2,U,U,b,U,_,_,U,U,zv (by lia),
  _,rfl,a,_,_,.int t.2.1,rfl,rfl,b,rfl,_,rfl,a,_,_,.int t.2.2,rfl,rfl,b,rfl,_,_,rfl,rfl,zv (by lia),
  _,rfl,_,rfl,a,a,_,_,t.1,t.2.1,t.1,t.2.1,rfl,b,b,rfl,rfl,rfl,rfl,by lia,by lia,
  t.1*t.2.2,t.2.1*t.2.2,t.1*t.1+t.2.1*t.2.1,rfl,by lia,t6 (show(t.1*t.1+t.2.1*t.2.1).natAbs<=10^40 by lia) 'h',λp n i j m=>q p n i j m⟩
def gS:Option Nat->V
 | none=>.non
 | some j=>.int j
def tV{a:List Sd}{i:Nat}{t u:Sd}(gt:a[i]?=Js t)(b:u∈a.take (i+1)):u∈a.take i\/u=t:=by
 rw[xX gt] at b;rcases m9.mp b with h | h
 ·rwa[.inl h]
 ·rwa[.inr (e8.mp h)]
def ZA{a:List Sd}{i j:Nat}(h:(a.take i)[j]?=Js t):(a.take (i+1))[j]?=Js t:=by
 rw[Bx] at h ⊢;split at h
 ·rw[y6 (by lia)];rwa[h]
 ·cases h
def cw(a:List Sd)(e:P3)(h:Int)(H:Hp)(x y:V):Prop:=(x=.non/\y=.non/\nN a e h Jt)\/∃(j:Nat)(t:Sd)(p:c5),x=.int j/\y=.ref p/\H p=Js (.tup ((crL e t.2).map V.int))/\a[j]?=Js t/\0<tn e t.2*h/\∀ u∈a,0<tn e u.2*h->sv u.2 'r'<=0
def cw.skip{b:List Sd}{h:Int}{H:Hp}{i:Nat}(S:cw (b.take i) e h H x y)(gt:b[i]?=Js t)(m:¬ 0<tn e t.2*h):cw (b.take (i+1)) e h H x y:=by
 rcases S with ⟨d,c,S⟩ | ⟨j,u,p,d,c,q,o,l,n⟩
 ·erw[.inl ⟨d,c,λv a=>?_⟩];rcases tV gt a with a | rfl
  ·rwa[S v a]
  ·lia
 ·erw[.inr ⟨j,u,p,d,c,q,ZA o,l,λv a g=>?_⟩];rcases tV gt a with a | rfl
  ·rwa[n v a g]
  ·rwa[y9 g m]
def cw.keep{h:Int}{H b:Hp}(S:cw a e h H x y)(s:Same H b):cw a e h b x y:=by
 rcases S with S | ⟨j,u,p,g,d,c,r⟩
 ·rwa[.inl S]
 ·rwa[.inr ⟨j,u,p,g,d,s _ _ c,r⟩]
def sM(K:b8):Sp:=λd H Q _=>E5 λ(l a:c5) (b:List Sd) (e:P3) (h:Int)=>A11 (d=[.ref l,.ref a,.int h]) (SqL K H l (zY b)) (qb H b) (b.length<=1000) (Sq K H a [.int e.1,.int e.2.1,.int e.2.2]) (e.1≠0\/e.2.1≠0) (e.1.natAbs<=10^9) (e.2.1.natAbs<=10^9) (e.2.2.natAbs<=10^13) (h=1\/h = -1) (∀(r:Option Nat)(c:Hp),Same H c->nN b e h r->Q (gS r) c)
def gY(F:Fun K "edge_end" "edge_end" rT f fd)(Z:Zs mg)(CB:Cb P w mg base)(yDc:Has P w K mg base "turn" 1 'i' (xF K))(yCj:Has P w K mg base "holds" 2 ["side","spot"] (zz K))(yBn:Has P w K mg base "crossing" 4 'i' (sN K)):yI P w K mg base CX0 5 f fd ["sides","edge","hand"] (sM K):=by
 specialize xO
 ·obtain⟨l,a,g,e,h,rfl,_⟩:=h;rfl
 obtain⟨l,a,g,e,hd,rfl,hl,ok,hlen,ha,hn,b1,b2,b3,h1,q⟩:=h;have hh:hd*hd=1:=by rcases h1 with rfl | rfl <;> rfl
 have hN:=tS hn
 refine'⟨_,(zB (zQ 3 xO.nd yf)
   (zB (zQ 4 xO.nd yf)
   (zB (xK r9 rfl (xB rfl Z.range ?_) (uG 5 xO.nd) (zB (zQ 6 xO.nd ?_)
   (zD (yM ?_ (zB (zQ 3 xO.nd (pv 5))
   (zD (zQ 4 xO.nd ?_))) zU))))
   (zD (zK (pv 3)))))),?_⟩
 nofun
 refine⟨_,U,l,_,U,.inl hl,_,U,(by rw[zO]; lia),(by rw[zO]; lia),wC (lo:=0) (n:=(((zY g).length:Nat):Int).toNat) (λi Y d=>Same H d/\E4 λ(x y:V) (u5 u6:Option V)=>cw (g.take i) e hd d x y/\Y=[Js (.ref l),Js (.ref a),Js (.int hd),Js x,Js y,u5,u6])
  ⟨Same.refl _,.non,.non,Jt,Jt,.inl ⟨rfl,rfl,λt ht=>nomatch ht⟩,rfl⟩ ?_ ?_⟩
 ·rintro i Y d hi ⟨c,x,y,u5,u6,S,rfl⟩;have hil:i<g.length:=by rw[Ac,zO] at hi; rwa[hi]
  obtain⟨t,mt,gt,at'⟩:=xH (ss:=g) (i:=i) (k:=0+(i:Int)) (by lia) hil;obtain⟨et0,nt,c1,c2,c3⟩:=ok t mt;have X:Sq K d t.1 [.int t.2.1,.int t.2.2.1,.int t.2.2.2]:=.inr (SqT.of (c _ _ et0));have D:=ha.same c;have z1:=zE e.1 t.2.2.1 b1 c2;have z2:=zE e.2.1 t.2.1 b2 c1;exists _,U,_,U,l,_,_,_,U,U,.inl (c.seq hl),at';exists _,U,_,U,a,t.1,_,_,e.1,e.2.1,t.2.1,t.2.2.1,U,D,X,U,U,U,U,by lia,by lia,_,U,_,_,U,U,.inl ⟨by lia,by lia⟩,_,_,U,U,_,rfl;erw[ifD (λN=>?_) (λR=>?_)]
  ·have b:0<tn e t.2*hd:=N;have put:∀(o:Hp)(p:c5),Same d o->o p=Js (.tup ((crL e t.2).map V.int))->(∀ u∈g.take i,0<tn e u.2*hd->sv u.2 'r'<=0)->cw (g.take (i+1)) e hd o (.int (0+(i:Int))) (.ref p):=λo p I T J=>by
    erw[.inr ⟨i,t,p,by rw[Be],rfl,T,?_,b,λu m B=>?_⟩]
    ·rw[Bx,y6 (by lia)];rwa[gt]
    ·rcases tV gt m with m | rfl
     ·rwa[J u m B]
     ·rwa[BA (uA (yG b)).2.2]
   rcases S with ⟨rfl,rfl,S⟩ | ⟨j,u,p,rfl,rfl,T,gu,m,J⟩
   ·exists _,U,U,_,rfl;erw[jD ?_];erw[_,rfl,_,rfl,_,rfl,a,t.1,e.1,e.2.1,e.2.2,t.2.1,t.2.2.1,t.2.2.2,rfl,D,X,by lia,by lia,by lia,by lia,by lia,λz=>y9 z (yG b),λ_ p2 o I hp2 G=>?_];exact⟨c.trans I,_,_,_,_,put o p2 I G λv r B=>by have:=S v r; lia,rfl⟩
   ·obtain⟨M,q1,q2⟩:=uA (yG m);exists _,U,U,_,rfl;erw[vY ?_];have ep3:Sq K d p [.int (pt3 (crL e u.2)).1,.int (pt3 (crL e u.2)).2.1,.int (pt3 (crL e u.2)).2.2]:=.inr (SqT.of (by rw[T]; rw[M.list]; rfl));exists _,U,_,U,t.1,p,t.2.1,t.2.2.1,t.2.2.2,_,_,_,U,X,ep3,by lia,by lia,by lia,_,rfl;erw[ifN (λO=>?_) (λhin=>?_)]
    ·have C:0<sv t.2 (pt3 (crL e u.2)):=by
      have:¬ sv t.2 (pt3 (crL e u.2))<=0:=O;lia
     erw[_,rfl,_,rfl,_,rfl,a,t.1,e.1,e.2.1,e.2.2,t.2.1,t.2.2.1,t.2.2.2,rfl,D,X,by lia,by lia,by lia,by lia,by lia,λz=>y9 z (yG b),λ_ p2 o I hp2 G=>?_];obtain⟨L,r1,r2⟩:=uA (yG b);have d1:=RR hh hN r1 q1 L.pos r2 C b;erw[c.trans I,_,_,_,_,put o p2 I G λv r B=>?_,rfl];erw[gL hh hN r1 q1 L.pos M.pos v.2 ?_ (J v r B)];have:=g8 (show 0<=-(dl e 'r' (pt3 (crL e u.2))*hd) by lia) (i3 B);rw[o8] at this;lia
    ·erw[c,_,_,_,_,.inr ⟨j,u,p,rfl,rfl,T,ZA gu,m,λv r B=>?_⟩,rfl];rcases tV gt r with r | rfl
     ·rwa[J v r B]
     ·rwa[hin]
  ·erw[vY ?_];rwa[c,x,y,_,_,S.skip gt R,rfl]
 ·rintro Y d ⟨c,x,y,u5,u6,S,rfl⟩;rw[Ac,zO,v9] at S;rcases S with ⟨rfl,rfl,S⟩ | ⟨j,u,p,rfl,rfl,T,gu,m,J⟩
  ·rwa[_,rfl,q Jt d c S]
  ·rwa[_,rfl,q (Js j) d c ⟨u,gu,m,J⟩]
structure Ng(ss:List Sd)(e:P3)(qs:List (c5×P3)):Prop where
 each:∀ q∈qs,∃(h:Int)(j:Nat)(t:Sd),h*h=1/\ss[j]?=Js t/\0<tn e t.2*h/\(∀ u∈ss,0<tn e u.2*h->sv u.2 (pt3 (crL e t.2))<=0)/\q.2=pt3 (crL e t.2)
 noend:qs=[]->nN ss e 1 Jt/\nN ss e (-1) Jt
 full:jI ss e 1 (qs.map (·.2))/\jI ss e (-1) (qs.map (·.2))
def qK(K:b8):Sp:=λg H Q _=>E4 λ(l a:c5) (b:List Sd) (e:P3)=>A10 (g=[.ref l,.ref a]) (SqL K H l (zY b)) (qb H b) (b.length<=1000) (Sq K H a [.int e.1,.int e.2.1,.int e.2.2]) (e.1≠0\/e.2.1≠0) (e.1.natAbs<=10^9) (e.2.1.natAbs<=10^9) (e.2.2.natAbs<=10^13) (∀(D:c5)(c:List (c5×P3))(d:Hp),Same H d->H D=Jt->d D=Js (.lst (yp c))->bC d c->c.length<=2->Ng b e c->Q (.ref D) d)
def jL(F:Fun K "edge_ends" "edge_ends" tW f fd)(Z:Zs mg)(CB:Cb P w mg base)(yBn:Has P w K mg base "crossing" 4 'i' (sN K))(yBs:Has P w K mg base "edge_end" 5 ["sides","edge","hand"] (sM K)):yI P w K mg base CX0 6 f fd ["sides","edge"] (qK K):=by
 specialize uj
 ·obtain⟨l,a,b,e,rfl,_⟩:=h;rfl
 obtain⟨l,a,b,e,rfl,hl,ok,x,ha,hn,b1,b2,b3,q⟩:=h
 refine'⟨_,(zB (zQ 2 uj.nd ?_)
   (zD (zK (wN (T:=["number"]) (caps:=[("edge",1),("sides",0)]) ⟨rfl,by ac_nf,by ac_nf,rfl,⟨⟨rfl,rfl,BW rfl⟩,⟨rfl,rfl,BW rfl⟩,Ao⟩⟩ rfl (xL (pv 2)) (λ_=>(uG 0 (show(["number","edge","sides"]:List i9).Nodup by ac_nf))) (λ_=>(Zi ?_)) (λ_=>?_))))),?_⟩
 nofun
 refine⟨_,U,_,U,_,U,l,a,b,e,-1,U,hl,ok,x,ha,hn,b1,b2,b3,.inr rfl,λC H1 s1 k1=>?_⟩;refine⟨_,U,_,U,l,a,b,e,1,U,s1.seq hl,ok.same s1,x,ha.same s1,hn,b1,b2,b3,.inl rfl,λB H2 s2 k2=>?_⟩;refine⟨sz2,λL hnl=>?_⟩;have O:Same H2 (upd H2 L (.lst [gS C,gS B])):=zC hnl _;have I:upd H2 L (.lst [gS C,gS B]) L=Js (.lst [gS C,gS B]):=zA;generalize upd H2 L (.lst [gS C,gS B])=H3 at O I ⊢;have s3:=(s1.trans s2).trans O;have one:∀(i:Nat)(v:V),[gS C,gS B][i]?=Js v->(v=.non/\((i=0/\nN b e (-1) Jt)\/(i=1/\nN b e 1 Jt)))\/∃(j:Nat)(t:Sd)(h:Int),v=.int j/\((i=0/\h = -1)\/(i=1/\h=1))/\h*h=1/\b[j]?=Js t/\0<tn e t.2*h/\∀ u∈b,0<tn e u.2*h->sv u.2 'r'<=0:=λi v X=>by
  match i,X with
  | 0,X =>
   cases X;cases C with
   | none=>rwa[.inl ⟨rfl,.inl ⟨rfl,k1⟩⟩]
   | some j=>obtain⟨t,g,p,r⟩:=k1; rwa[.inr ⟨j,t,-1,rfl,.inl ⟨rfl,rfl⟩,rfl,g,p,r⟩]
  | 1,X =>
   cases X;cases B with
   | none=>rwa[.inl ⟨rfl,.inr ⟨rfl,k2⟩⟩]
   | some j=>obtain⟨t,g,p,r⟩:=k2; rwa[.inr ⟨j,t,1,rfl,.inr ⟨rfl,rfl⟩,rfl,g,p,r⟩]
 refine⟨_,U,L,U,.inl ⟨⟨_,SqL.of I⟩,λc D hD=>ka (K:=K) (a:=L) (xs:=[gS C,gS B]) (λi σ N J=>A4 (Same H3 J) (J D=Js (.lst N)) (∃ d:List (c5×P3),A5 (N=yp d) (d.length<=i) (bC J d) (∀ q∈d,∃(h:Int)(j:Nat)(t:Sd),h*h=1/\b[j]?=Js t/\0<tn e t.2*h/\(∀ u∈b,0<tn e u.2*h->sv u.2 'r'<=0)/\q.2=pt3 (crL e t.2)) ((0<i->jI b e (-1) (d.map (·.2)))/\(1<i->jI b e 1 (d.map (·.2))))) (∃ u0:Option V,σ=[u0,Js (.ref a),Js (.ref l)]))
  ⟨zC hD _,zA,⟨[],rfl,e9 _,(λt ht=>nomatch ht),(λt ht=>nomatch ht),⟨λz=>y9 z (AH _),λz=>y9 z (AH _)⟩⟩,Jt,rfl⟩ (λi σ N J _ hq'=>by obtain⟨e1,e2,_⟩:=hq'; rwa[SqL.of (e1 _ _ I),e2]) ?_ ?_⟩⟩
 ·rintro i v σ N J hi ⟨R,M,⟨d,rfl,hq,o,each,non⟩,u0,rfl⟩;have hi2:i<2:=(c9.mp hi).1;rcases one i v hi with ⟨rfl,G⟩ | ⟨j,t,h,rfl,hih,hh,gt,hp,hb⟩
  ·exists _,U,U,_,rfl;erw[vY ?_];erw[R,M,⟨d,rfl,by lia,o,each,?_⟩,_,rfl];rcases G with ⟨rfl,k⟩ | ⟨rfl,k⟩
   ·rwa[λ_=>.inl k,λz'=>y9 z' 'a']
   ·rwa[λ_=>non.1 'a',λ_=>.inl k]
  ·exists _,U,U,_,rfl;refine jD ?_;have hj:j<b.length:=(c9.mp gt).1;obtain⟨t',mt,gt',at'⟩:=xH (ss:=b) (i:=j) (k:=(j:Int)) rfl hj;rw[gt] at gt';cases gt';obtain⟨et0,_,c1,c2,c3⟩:=ok t mt;have y:=s3.trans R;refine⟨_,U,_,U,_,U,l,_,_,_,U,U,.inl (y.seq hl),at',a,t.1,e.1,e.2.1,e.2.2,t.2.1,t.2.2.1,t.2.2.2,U,ha.same y,.inr (SqT.of (y _ _ et0)),by lia,by lia,by lia,by lia,by lia,λz=>y9 z (yG hp),λ_ p H5 S Y ep5=>?_⟩;obtain⟨sp,_,_⟩:=uA (yG hp);have ep5':H5 p=Js (.tup [.int (pt3 (crL e t.2)).1,.int (pt3 (crL e t.2)).2.1,.int (pt3 (crL e t.2)).2.2]):=by
    have z:H5 p=Js (.tup ((crL e t.2).map V.int)):=ep5;rw[z,sp.list];rfl
   have npD:p≠D:=λz=>by rw[z,M] at Y; cases Y
   refine⟨S _ _ M,zM (by simp only[ac]; lia),(R.trans S).putNew hD,zA,⟨d++[(p,pt3 (crL e t.2))],by simp[yp],by rw[g7]; show d.length+1<=i+1; lia,λu n=>?_,λu n=>?_,?_⟩,_,rfl⟩
   ·rcases m9.mp n with n | n
    ·obtain⟨g1,g2⟩:=o u n;rwa[by rw[zH (fR (S _ _ g1) (S _ _ M) (by intro z; cases z))]; exact S _ _ g1,g2]
    ·rw[e8] at n;subst n;erw[?_,sp.pos,sp.low];show upd H5 D _ p=_;rw[zH npD];rwa[ep5']
   ·rcases m9.mp n with n | n
    ·rwa[each u n]
    ·rw[e8] at n;subst n;rwa[h,j,t,hh,gt,hp,hb,rfl]
   ·have me:jI b e h ((d++[(p,pt3 (crL e t.2))]).map (·.2)):=.inr ⟨j,t,gt,hp,hb,by rw[g5]; rwa[t7 _ (e8.mpr rfl)]⟩;rcases hih with ⟨rfl,rfl⟩ | ⟨rfl,rfl⟩
    ·rwa[λ_=>me,λz'=>y9 z' 'a']
    ·rwa[λ_=>by rw[g5]; exact(non.1 'a').app,λ_=>me]
 ·rintro σ N J ⟨R,M,⟨d,rfl,hq,o,each,non⟩,u0,rfl⟩;have f1:=non.2 (by show 1<2; decide);have f2:=non.1 (by show 0<2; decide);erw[q D d J (s3.trans R) (s3.free hD) M o hq ⟨each,λz=>?_,f1,f2⟩];rw[z] at f1 f2;erw[?_,?_]
  ·rcases f1 with f | ⟨_,_,_,_,_,m⟩
   ·rwa[f]
   ·exact nomatch m
  ·rcases f2 with f | ⟨_,_,_,_,_,m⟩
   ·rwa[f]
   ·exact nomatch m
def Uw(H:Hp)(p:c5)(P:P3):Prop:=H p=Js (.tup [.int P.1,.int P.2.1,.int P.2.2])/\0<P.2.2/\l9 (l9 P.1.natAbs P.2.1.natAbs) P.2.2.natAbs=1
def Uw.same{H a:Hp}{P:P3}(h:Uw H p P)(s:Same H a):Uw a p P:=⟨s _ _ h.1,h.2⟩
def vE(K:b8):Sp:=λd H Q _=>E4 λ(l a:c5) (b:List Sd) (e:P3)=>A11 (d=[.ref l,.ref a]) (SqL K H l (zY b)) (qb H b) (b.length<=900) (Sq K H a [.int e.1,.int e.2.1,.int e.2.2]) (e.1≠0\/e.2.1≠0) (e.1.natAbs<=10^9) (e.2.1.natAbs<=10^9) (e.2.2.natAbs<=10^13) (∀ c,Same H c->(∀ z:P3,sv e z=0->0<z.2.2->¬ inW b z)->Q .non c) (∀(p:c5)(P:P3)(c:Hp),Same H c->Uw c p P->inW b P->sv e P=0->(P=pt3 (ftL e)\/∃ t∈b,tn e t.2≠0/\P=pt3 (crL e t.2))->Q (.ref p) c)
def ow(F:Fun K "spot_on_edge" "spot_on_edge" wS f fd)(Z:Zs mg)(CB:Cb P w mg base)(yBm:Has P w K mg base "edge_ends" 6 ["sides","edge"] (qK K))(yDd:Has P w K mg base "foot" 5 ["side"] (jc K))(yBo:Has P w K mg base "in_water" 3 ["sides","place"] (sR K)):yI P w K mg base CX0 7 f fd ["sides","edge"] (vE K):=by
 specialize qV
 ·obtain⟨l,a,n,e,rfl,_⟩:=h;rfl
 obtain⟨l,a,n,e,rfl,hl,ok,hlen,ha,S,b1,b2,b3,qn,q⟩:=h;have hN:=tS S
 refine'⟨_,(zB (xK r9 rfl (xL (yR iU ?_ ?_)) (uG 2 qV.nd) (zD (yM ?_ (zD (zK (pv 2))) zU)))
   (zD (zK yf))),?_⟩
 nofun
 refine⟨_,U,_,U,l,a,n,e,U,hl,ok,by lia,ha,S,b1,b2,b3,λD c H1 s1 hD eD Y hq g=>?_⟩;refine⟨_,U,a,e,U,ha.same s1,S,b1,b2,λfp J s2 hfp efp=>?_⟩;obtain⟨N,f1⟩:=RH S;have G:J fp=Js (.tup [.int (pt3 (ftL e)).1,.int (pt3 (ftL e)).2.1,.int (pt3 (ftL e)).2.2]):=by
  rw[efp,N.list];rfl
 erw[sz1,λC hfl=>?_];have o:Same J (upd J C (.lst [.ref fp])):=zC hfl _;have I:upd J C (.lst [.ref fp]) C=Js (.lst [.ref fp]):=zA;generalize upd J C (.lst [.ref fp])=T at o I ⊢;refine⟨D,C,_,_,U,U,o _ _ (s2 _ _ eD),I,small (by simp only[ac]; show c.length+1<=1000; lia),λL hL=>?_⟩;have sL:Same T (upd T L (.lst (yp c++[.ref fp]))):=zC hL _;have eL:upd T L (.lst (yp c++[.ref fp])) L=Js (.lst (yp (c++[(fp,pt3 (ftL e))]))):=by rw[zA]; simp[yp]
 generalize upd T L (.lst (yp c++[.ref fp]))=H4 at sL eL ⊢;have p:=o.trans sL;have r:=s2.trans p;have m:=s1.trans r;have okA:bC H4 (c++[(fp,pt3 (ftL e))]):=λu b=>by
  rcases m9.mp b with b | b
  ·rwa[Y.same r u b]
  ·rw[e8] at b;subst b;rwa[p _ _ G,N.pos,N.low]
 refine⟨L,U,.inl ⟨⟨_,SqL.of eL⟩,xE (K:=K) (a:=L) (xs:=yp (c++[(fp,pt3 (ftL e))])) (λi M X=>A3 (H4=X) (∀ j u,j<i->(c++[(fp,pt3 (ftL e))])[j]?=Js u->¬ inW n u.2) (∃ u2:Option V,M=[Js (.ref l),Js (.ref a),u2]))
  ⟨rfl,λj t y=>y9 y (AH _),Jt,rfl⟩ (λi M X _ hq'=>by obtain⟨e1,_⟩:=hq'; rw[<- e1]; rwa[SqL.of eL]) ?_ ?_⟩⟩
 ·rintro i v M X hi ⟨rfl,d,u2,rfl⟩;rw[e7,e7] at hi;cases B:(c++[(fp,pt3 (ftL e))])[i]? with
  | none=>rw[B] at hi; cases hi
  | some u =>
   rw[B] at hi;cases hi;obtain⟨eu,pu,lu⟩:=okA u (f6 B);exists _,U,_,U,l,u.1,n,u.2,U,m.seq hl,ok.same m,.inr (SqT.of eu),_,rfl;by_cases O:Xq n u.2=Ju
   ·rw[O];refine jD ?_;have on:sv e u.2=0/\(u.2=pt3 (ftL e)\/∃ t∈n,tn e t.2≠0/\u.2=pt3 (crL e t.2)):=by
     rcases m9.mp (f6 B) with b | b
     ·obtain⟨h,j,t,_,gt,R,_,eq⟩:=g.each u b;rw[eq];rwa[(uA (yG R)).2.1,.inr ⟨t,f6 gt,yG R,rfl⟩]
     ·rw[e8] at b;rw[b];rwa[f1,.inl rfl]
    rwa[_,rfl,q u.1 u.2 _ m ⟨eu,pu,lu⟩ (zk.mp O) on.1 on.2]
   ·have hw':Xq n u.2=false:=by simpa using O
    rw[hw'];erw[vY ?_];erw[rfl,λj t y ht=>?_,_,rfl];by_cases ej:j=i
    ·rw[ej,B] at ht;cases ht;rwa[λz=>O (zk.mpr z)]
    ·rwa[d j t (by lia) ht]
 ·rintro M X ⟨rfl,d,u2,rfl⟩;refine qn _ m λz hz zw wz=>?_;have x:∀ u∈c++[(fp,pt3 (ftL e))],¬ inW n u.2:=λu b=>by
   obtain⟨j,y,ej⟩:=AE b;rwa[d j u (by simp only[ac]; exact y) (by rw[d6 y,ej])]
  cases c with
  | nil =>
   obtain⟨n1,n2⟩:=g.noend rfl;rwa[x (fp,pt3 (ftL e)) 'd' (WD hN hz zw wz f1 N.pos n1 n2)]
  | cons u us =>
   obtain⟨h,j,t,hh,gt,R,hb,eq⟩:=g.each u (j7 ..);erw[x u 'd' ?_];rw[eq];rwa[iL hh hN hz zw wz gt R hb]
def aW(a:List Sd)(n:Nat):qH (zY a) Jt (Js (n:Int))=zY (a.take n):=by
 unfold qH;rw[show HT.sIx (zY a).length 0 Jt=0 from rfl,HT.sIx_nat (zY a).length (zY a).length n,F6,IP];rw[zO];simp only[zY,<- DY]
 congr 2
 rw[List.take_eq_take_iff];lia
def sr(K:b8):Sp:=λc H Q _=>E2 λ(l:c5) (b:List Sd)=>A6 (c=[.ref l]) (SqL K H l (zY b)) (qb H b) (b.length<=900) (∀(t:c5)(j:Nat)(e:Sd)(P:P3)(a:Hp),Same H a->a t=Js (.tup [.non,.int j])->Tn b j e P->Q (.ref t) a) (∀(t p:c5)(P:P3)(a:Hp),Same H a->a t=Js (.tup [.ref p,.non])->Uw a p P->inW b P->SU b P->Q (.ref t) a)
def ae(F:Fun K "sought" "sought" va f fd)(Z:Zs mg)(CB:Cb P w mg base)(yCj:Has P w K mg base "holds" 2 ["side","spot"] (zz K))(yAg:Has P w K mg base "spot_on_edge" 7 ["sides","edge"] (vE K))(yCu:Has P w K mg base "spot" 4 ["x","y","w"] (jB K)):yI P w K mg base CX0 8 f fd ["sides"] (sr K):=by
 specialize zd
 ·obtain⟨l,b,rfl,_⟩:=h;rfl
 obtain⟨l,b,rfl,x,ok,Y,qn,q⟩:=h
 refine'⟨_,(zB (zQ 1 zd.nd ?_)
   (zB (xK r9 rfl (xB rfl Z.range ?_) (uG 2 zd.nd) (zD (yM ?_ (zB (zQ 1 zd.nd ?_)
   (zD (yM ?_ (zD (zK ?_)) zU))) zU)))
   (zD (zK ?_)))),?_⟩
 nofun
 refine⟨0,0,1,U,by decide,by ac_nf,λX H1 T hp0 O=>?_⟩;have r:Uw H1 X (0,0,1):=⟨O,by decide,by decide⟩;refine⟨_,U,l,_,U,.inl (T.seq x),_,U,(by rw[zO]; lia),(by rw[zO]; lia),wC (lo:=0) (n:=(((zY b).length:Nat):Int).toNat) (λi y m=>Same H m/\E3 λ(p:c5) (P:P3) (u2:Option V)=>A4 (Uw m p P) (inW (b.take i) P) (SU b P) (y=[Js (.ref l),Js (.ref p),u2]))
  ⟨T,X,(0,0,1),Jt,r,(λt I=>nomatch I),.inl rfl,rfl⟩ ?_ ?_⟩
 ·rintro i y m hi ⟨e,p,P,u2,v,wp,cp,rfl⟩;have L:i<b.length:=by rw[Ac,zO] at hi; rwa[hi]
  obtain⟨t,mt,gt,at'⟩:=xH (ss:=b) (i:=i) (k:=0+(i:Int)) (by lia) L;obtain⟨M,nt,c1,c2,c3⟩:=ok t mt;have et:Sq K m t.1 [.int t.2.1,.int t.2.2.1,.int t.2.2.2]:=.inr (SqT.of (e _ _ M));exists _,U,_,U,l,_,_,_,U,U,.inl (e.seq x),at',_,U,t.1,p,t.2.1,t.2.2.1,t.2.2.2,P.1,P.2.1,P.2.2,U,et,.inr (SqT.of v.1),by lia,by lia,by lia,_,rfl;erw[ifN (λo=>?_) (λJ=>?_)]
  ·have j:0<sv t.2 P:=by
    have:¬ sv t.2 P<=0:=o;lia
   erw[_,rfl,_,rfl,_,rfl,l,_,rfl,e.seq x,λc hc=>?_];rw[show(0:Int)+(i:Int)=((i:Nat):Int) from Be _,aW];have C:=zC hc (.lst (zY (b.take i)));have ec:upd m c (.lst (zY (b.take i))) c=Js (.lst (zY (b.take i))):=zA;generalize upd m c (.lst (zY (b.take i)))=H2 at C ec ⊢;have d:=e.trans C;rw[show(0:Int)+(i:Int)=((i:Nat):Int) from Be _] at at';erw[_,rfl,_,rfl,l,_,_,_,rfl,rfl,.inl (d.seq x),at',c,t.1,b.take i,t.2,rfl,SqL.of ec,(λu a=>ok.same d u (AL a)),by rw[o3]; lia,et.same C,nt,c1,c2,c3,λH3 D no=>?_,λp3 S H3 D N z G R=>?_]
   ·exists _,U,U,_,rfl;erw[jD ?_];erw[_,rfl,sz2,λB g=>?_];rwa[qn B i t P _ ((d.trans D).trans (zC g _)) zA ⟨gt,v.2.1,wp,j,no⟩]
   ·exists _,U,U,_,rfl;erw[vY ?_];erw[d.trans D,p3,S,_,N,λu a=>?_,?_,rfl]
    ·rw[xX gt] at a;rcases m9.mp a with a | a
     ·rwa[z u a]
     ·rw[e8] at a;rw[a,G];rwa[Dy _]
    ·rcases R with h | ⟨u,a,I,h⟩
     ·rwa[.inr (.inl ⟨t,mt,h⟩)]
     ·rwa[.inr (.inr ⟨t,mt,u,AL a,I,h⟩)]
  ·erw[e,p,P,_,v,λu a=>?_,cp,rfl];rw[xX gt] at a;rcases m9.mp a with a | a
   ·rwa[wp u a]
   ·rw[e8] at a;rw[a];rwa[J]
 ·rintro y m ⟨e,p,P,u2,v,wp,cp,rfl⟩;rw[Ac,zO,v9] at wp;erw[_,rfl,sz2,λB g=>?_];have st:=zC g (.tup [.ref p,.non]);rwa[q B p P _ (e.trans st) zA (v.same st) wp cp]
def ut(K:b8):Sp:=λc H Q _=>E2 λ(l:c5) (a:List Sd)=>A6 (c=[.ref l]) (SqL K H l (zY a)) (qb H a) (a.length<=900) (∀ b:Hp,Same H b->(∀ z:P3,0<z.2.2->¬ inW a z)->Q .non b) (∀(p:c5)(P:P3)(b:Hp),Same H b->Uw b p P->inW a P->SU a P->Q (.ref p) b)
def jK(F:Fun K "some_spot" "some_spot" tT f fd)(Z:Zs mg)(r:Cb P w mg base)(i:Has P w K mg base "sought" 8 ["sides"] (sr K)):yI P w K mg base CX0 9 f fd ["sides"] (ut K):=by
 specialize jN
 ·obtain⟨l,g,rfl,_⟩:=h;rfl
 obtain⟨l,g,rfl,n,ok,a,m,q⟩:=h
 refine'⟨_,(zD (zK ?_)),?_⟩
 nofun
 erw[_,rfl,l,g,rfl,n,ok,a,λt j e P d b c st=>?_,λt p P d b c o wp cp=>?_]
 ·rwa[t,_,_,.non,rfl,rfl,.inr (SqT.of c),rfl,m d b st.none]
 ·rwa[t,_,_,.ref p,rfl,rfl,.inr (SqT.of c),rfl,q p P d b o wp cp]
structure CoK(ss:List Sd)(n:Nat)(ks:List (List Int)):Prop where
 each:∀ k∈ks,∃ P:P3,Cor ss P/\k=[P.1,P.2.1,P.2.2]
 all:∀(a:Nat)(t:Sd),a<n->ss[a]?=Js t->∀ u∈ss,tn t.2 u.2≠0->inW ss (pt3 (crL t.2 u.2))->crL t.2 u.2∈ks
structure wm(H:Hp)(D:c5)(ss:List Sd)(ps:List SpT):Prop where
 at':H D=Js (.lst (zW ps))
 ok:∀ t∈ps,jE H t/\0<t.2.2.2/\l9 (l9 t.2.1.natAbs t.2.2.1.natAbs) t.2.2.2.natAbs=1
 nodup:(ps.map (·.2)).Nodup
 mem:∀ P:P3,P∈ps.map (·.2)↔Cor ss P
 rises:ps.Pairwise leS
 few:ps.length<=ss.length
def Qa{P:P3}(c:Cor b P):0<P.2.2/\l9 (l9 P.1.natAbs P.2.1.natAbs) P.2.2.natAbs=1:=by
 obtain⟨t,_,u,_,h,rfl,_⟩:=c;obtain⟨a,_,_⟩:=uA h;rwa[a.pos,a.low]
def RG{a:List Sd}(I:∀ t∈a,t.2.1≠0\/t.2.2.1≠0){o:List P3}(nd:o.Nodup)(J:∀ P∈o,Cor a P):o.length<=a.length:=by
 have ex:∀ e:Sd,∃ q:P3,e∈a->∀ u∈a,0<tn e.2 u.2*1->inW a (pt3 (crL e.2 u.2))->pt3 (crL e.2 u.2)=q:=λe=>by
  by_cases h:∃ u∈a,0<tn e.2 u.2*1/\inW a (pt3 (crL e.2 u.2))
  ·obtain⟨u,d,B,b⟩:=h;erw[pt3 (crL e.2 u.2),λy v r i p=>?_];have A:=tS (I e y);obtain⟨l,n,H⟩:=uA (yG i);obtain⟨j,m,G⟩:=uA (yG B);have N:=cU (h:=1) 'a' A n m l.pos H (b v r) i;have M:=cU (h:=1) 'a' A m n j.pos G (p u d) B;rw[lZ] at M;obtain⟨E,D⟩:=ij A n m (by lia);rwa[tK l.pos j.pos l.low j.low E D]
  ·rwa[(0,0,1),λ_ v r i p=>y9 ⟨v,r,i,p⟩ h]
 have fn:∃ g:Sd->P3,∀ e∈a,∀ u∈a,0<tn e.2 u.2*1->inW a (pt3 (crL e.2 u.2))->pt3 (crL e.2 u.2)=g e:=⟨λe=>GW (ex e),λe y=>FK (ex e) y⟩;obtain⟨g,C⟩:=fn;have z:=ZD (ys:=a.map g) nd λP L=>by
  obtain⟨t,x,u,d,h0,rfl,b⟩:=J P L;by_cases c:0<tn t.2 u.2
  ·rw[C t x u d (by lia) b];rwa[Ab x]
  ·have s:0<tn u.2 t.2*1:=by
    unfold tn at c h0 ⊢;rw[d8 u.2.1,d8 u.2.2.1];lia
   rw[Qi h0] at b ⊢;rw[C u d t x s b];rwa[Ab d]
 (rw[ac] at z;assumption)
def Np{ss:List Sd}{t u:Sd}(h:tn t.2 u.2≠0):crL t.2 u.2=[(pt3 (crL t.2 u.2)).1,(pt3 (crL t.2 u.2)).2.1,(pt3 (crL t.2 u.2)).2.2]:=(uA h).1.list
def ye(K:b8):Sp:=λc H Q _=>E2 λ(l:c5) (a:List Sd)=>A5 (c=[.ref l]) (SqL K H l (zY a)) (qb H a) (a.length<=63) (∀(D:c5)(d:List SpT)(b:Hp),Same H b->H D=Jt->wm b D a d->Q (.ref D) b)
def dL(F:Fun K "corners" "corners" yx f fd)(Z:Zs mg)(CB:Cb P w mg base)(yBr:Has P w K mg base "in_order" 15 ["spots"] (qh K))(yBm:Has P w K mg base "edge_ends" 6 ["sides","edge"] (qK K))(yBo:Has P w K mg base "in_water" 3 ["sides","place"] (sR K)):yI P w K mg base CX0 16 f fd ["sides"] (ye K):=by
 specialize rS
 ·obtain⟨l,G,rfl,_⟩:=h;rfl
 obtain⟨l,G,rfl,hl,ok,hlen,q⟩:=h;have hu1:=t6 (Ef (show 1<=64 by decide) _) hr.units;have big:∀ n:Nat,n<=1000000->n<sizeLine:=λn hn=>t6 hn 'a'
 refine'⟨_,(zB (zQ 1 rS.nd Zw)
   (zB (xK r9 rfl (xL (pv 0)) (uG 2 rS.nd) (zD (xK r9 rfl (xL ?_) (uG 3 rS.nd) (zD (yM ?_ (zD (vG (yD hr) (pv 1) (pv 3) nI rfl)) zU)))))
   (zD (zK (zZ yBr 'f' rfl (zG (xY (oV rfl) rfl Z.list ue (zG (pv 1) zL)) zL)))))),?_⟩
 nofun
 refine λd hd=>?_;refine⟨_,U,l,U,.inl ⟨⟨_,(zC hd _).seq hl⟩,xE (K:=K) (a:=l) (xs:=zY G) (λi T o=>A3 (Same H o) (E2 λc g=>A4 (o d=Js (.dT c)) (Xv c g) (g.length<=2*i) (CoK G i g)) (E2 λ(u2 u3:Option V)=>T=[Js (.ref l),Js (.ref d),u2,u3]))
  ⟨zC hd _,⟨[],[],zA,.nil,e9 _,(λk hk=>nomatch hk),λa t ha=>y9 ha (AH _)⟩,Jt,Jt,rfl⟩ (λi T o _ hq'=>by obtain⟨e,_⟩:=hq'; rwa[e.seq hl]) ?_ ?_⟩⟩
 ·rintro i v T o hi ⟨sH,⟨c,g,eD,S,hks,B⟩,u2,u3,rfl⟩;obtain⟨t,gt,rfl,hil⟩:=vd hi;obtain⟨et0,nt,b1,b2,b3⟩:=ok t (f6 gt);have hN:=tS (t:=t.2) nt;erw[_,rfl,_,rfl,l,t.1,G,t.2,rfl,sH.seq hl,ok.same sH,by lia,.inr (SqT.of (sH _ _ et0)),nt,b1,b2,b3,λL Y H2 s2 hL eL okq hq O=>?_];have eD2:=s2 _ _ eD;have nLd:L≠d:=λz=>by rw[z] at eL; rw[eL] at eD2; cases eD2
  refine⟨L,U,.inl ⟨⟨_,SqL.of eL⟩,xE (K:=K) (a:=L) (xs:=yp Y) (λj T o=>A5 (Same H o) (o L=Js (.lst (yp Y))) (bC o Y) (E2 λc g=>A5 (o d=Js (.dT c)) (Xv c g) (g.length<=2*i+j) (CoK G i g) (∀ m x,m<j->Y[m]?=Js x->inW G x.2->[x.2.1,x.2.2.1,x.2.2.2]∈g)) (∃ u3:Option V,T=[Js (.ref l),Js (.ref d),Js (.ref t.1),u3]))
   ⟨sH.trans s2,eL,okq,⟨c,g,eD2,S,by lia,B,λm x hm=>y9 hm (AH _)⟩,_,rfl⟩ (λj T o _ hq'=>by obtain⟨_,e,_⟩:=hq'; rwa[SqL.of e]) ?_ ?_⟩⟩
  ·rintro j v T H4 hj ⟨s4,eL4,I,⟨c,g,R,S,hks4,B,done⟩,u3,rfl⟩;rw[e7,e7] at hj;cases gx:Y[j]? with
   | none=>rw[gx] at hj; cases hj
   | some x =>
    rw[gx] at hj;cases hj;have hj2:j<Y.length:=(c9.mp gx).1;obtain⟨ex,px,lx⟩:=I x (f6 gx);exists _,U,_,U,l,x.1,G,x.2,U,s4.seq hl,ok.same s4,.inr (SqT.of ex),_,rfl;by_cases hw:Xq G x.2=Ju
    ·rw[hw];refine jD ?_;obtain⟨ks',tk',C,len'⟩:=S.put [x.2.1,x.2.2.1,x.2.2.2] (.bl Ju);have kl:=S.len;exists _,U,_,U,d,_,U,iA.t (k:=Zd [x.2.1,x.2.2.1,x.2.2.2]) R (by rw[ju]; exact ex) (by rw[kl]; exact big _ (by lia));have keepT:∀(b:c5)(xs:List V),H4 b=Js 'w'->upd H4 d (.dT (rV c (Zd [x.2.1,x.2.2.1,x.2.2.2]) (.bl Ju))) b=Js 'w':=λb xs e=>by
      rw[zH (fR e R (by intro z; cases z))];rwa[e]
     erw[s4.putNew hd,by rw[zH nLd]; exact eL4,λy hy=>⟨keepT _ _ (I y hy).1,(I y hy).2⟩,⟨_,ks',zA,tk',by lia,⟨λk hk=>?_,λa t' ha r u M p J=>(C _).mpr (.inl (B.all a t' ha r u M p J))⟩,λm y hm gy hwy=>?_⟩,_,rfl]
     ·rcases (C k).mp hk with h | h
      ·rwa[B.each k h]
      ·obtain⟨hh,j',t',_,r,hp,_,eq⟩:=O.each x (f6 gx);erw[x.2,⟨t,f6 gt,t',f6 r,yG hp,eq,zk.mp hw⟩,h]
     ·by_cases e:m=j
      ·rw[e,gx] at gy;cases gy;exact(C _).mpr (.inr rfl)
      ·exact(C _).mpr (.inl (done m y (by lia) gy hwy))
    ·have hw':Xq G x.2=false:=by simpa using hw
     rw[hw'];erw[vY ?_];erw[s4,eL4,I,⟨c,g,R,S,by lia,B,λm y hm gy hwy=>?_⟩,_,rfl];by_cases e:m=j
     ·rw[e,gx] at gy;cases gy;rwa[y9 (zk.mpr hwy) hw]
     ·rwa[done m y (by lia) gy hwy]
  ·rintro T H4 ⟨s4,eL4,I,⟨c,g,R,S,hks4,B,done⟩,u3,rfl⟩;have hq2:(yp Y).length=Y.length:=by simp
   rw[hq2] at hks4 done;erw[s4,⟨c,g,R,S,by lia,B.each,λa t' ha r u M p J=>?_⟩,_,_,rfl];by_cases e:a=i
   ·rw[e,gt] at r;cases r;obtain⟨k,hk1,hkk,hpos⟩:=RQ p;have f:jI G t.2 k (Y.map (·.2)):=by
     rcases hk1 with rfl | rfl
     ·rwa[O.full.1]
     ·rwa[O.full.2]
    have m:=RP hkk hN M hpos J f;obtain⟨y,hy,ey⟩:=o5.mp m;obtain⟨b,hb,eb⟩:=AE hy;have z:=done b y hb (by rw[d6 hb,eb]) (by rw[ey]; rwa[J]);rw[ey] at z;rw[Np (ss:=G) p];rwa[z]
   ·rwa[B.all a t' (by lia) r u M p J]
 ·rintro T o ⟨sH,⟨c,g,eD,S,hks,B⟩,u2,u3,rfl⟩;rw[zO] at hks B;erw[_,rfl,d,c,rfl,eD,λp1 ts hp1 ets hts=>?_];have X:Same o (upd o p1 (.lst ((ts.map (·.1)).map V.ref))):=zC hp1 _;have ep1:upd o p1 (.lst ((ts.map (·.1)).map V.ref)) p1=Js (.lst ((ts.map (·.1)).map V.ref)):=zA;obtain⟨us,w1,w2,w3⟩:=S.refs ets hts;have w3':∀ u∈us,upd o p1 (.lst ((ts.map (·.1)).map V.ref)) u.1=Js (.tup (u.2.map V.int)):=λu M=>X _ _ (w3 u M);generalize upd o p1 (.lst ((ts.map (·.1)).map V.ref))=H2 at X ep1 w3' ⊢
  let xs:List SpT:=us.map λu=>(u.1,pt3 u.2)
  have xk:xs.map (·.2)=g.map pt3:=by
   show(us.map λu=>((u.1,pt3 u.2):SpT)).map (·.2)=_;rw[<- w2,v8,v8];rfl
  have xr:zW xs=(ts.map (·.1)).map V.ref:=by
   show(us.map λu=>((u.1,pt3 u.2):SpT)).map (λt=>V.ref t.1)=_;rw[<- w1,v8,v8];rfl
  have xl:xs.length=g.length:=by
   have z:=congrArg Br w2;rw[ac] at z;show(us.map λu=>((u.1,pt3 u.2):SpT)).length=_;rw[ac];rwa[z]
  have kc:∀ P∈g.map pt3,Cor G P:=λP hP=>by
   obtain⟨k,hk,rfl⟩:=o5.mp hP;obtain⟨P,cP,rfl⟩:=B.each k hk;rwa[cP]
  have knd:(g.map pt3).Nodup:=by
   rw[HN,Ai];erw[Bt (λ{k k'} hk hk' hne e=>?_) S.nodup];obtain⟨P,cP,rfl⟩:=B.each k hk;obtain⟨P',cP',rfl⟩:=B.each k' hk';have e':P=P':=e;rwa[hne (by rw[e'])]
  have few:=RG (λt N=>(ok t N).2.1) knd kc;rw[ac] at few;have okx:∀ t∈xs,jE H2 t/\0<t.2.2.2/\l9 (l9 t.2.1.natAbs t.2.2.1.natAbs) t.2.2.2.natAbs=1:=λt N=>by
   obtain⟨u,M,rfl⟩:=o5.mp N;have huk:u.2∈g:=by rw[<- w2]; rwa[Ab M]
   obtain⟨P,cP,eP⟩:=B.each u.2 huk;have e0:=w3' u M;have lw:=Qa cP;obtain⟨a,ha,b,hb,hab,rfl,_⟩:=cP;obtain⟨_,_,x1,x2,x3⟩:=ok a ha;obtain⟨_,_,y1,y2,y3⟩:=ok b hb;obtain⟨z1,z2,z3⟩:=Zn hab x1 x2 x3 y1 y2 y3;rw[eP] at e0;have e1:pt3 u.2=pt3 (crL a.2 b.2):=by rw[eP]; rfl
   erw[⟨?_,?_⟩,?_]
   ·show H2 u.1=Js (.tup [.int (pt3 u.2).1,.int (pt3 u.2).2.1,.int (pt3 u.2).2.2]);rw[e1];rwa[e0]
   ·show(pt3 u.2).1.natAbs<=10^100/\(pt3 u.2).2.1.natAbs<=10^100/\(pt3 u.2).2.2.natAbs<=10^100;rw[e1];rwa[QT z1,QT z2,QT z3]
   ·show 0<(pt3 u.2).2.2/\l9 (l9 (pt3 u.2).1.natAbs (pt3 u.2).2.1.natAbs) (pt3 u.2).2.2.natAbs=1;rw[e1];rwa[lw]
  refine⟨p1,xs,U,by rw[xr]; exact SqL.of ep1,λt N=>(okx t N).1,d9 (show xs.length<=63 by lia) 'a',by lia,λD H3 s3 hD eD3=>?_⟩;have pm:=vF 12 xs;have pm2:((uz 12 xs).map (·.2)).Perm (g.map pt3):=by rw[<- xk]; rwa[pm.map _]
  refine q D (uz 12 xs) H3 ((sH.trans X).trans s3) ((sH.trans X).free hD) ⟨eD3,λt N=>?_,pm2.nodup_iff.mpr knd,λP=>?_,oO 12 xs (d9 (show xs.length<=63 by lia) 'a') λt N=>(okx t N).2.1,?_⟩
  ·obtain⟨h1,h2⟩:=okx t (pm.mem_iff.mp N);rwa[h1.same s3,h2]
  ·rw[pm2.mem_iff];erw[kc P,λcP=>?_];obtain⟨t,N,u,M,p,rfl,hw⟩:=cP;obtain⟨a,ha,ea⟩:=AE N;rwa[Ab (B.all a t ha (by rw[d6 ha,ea]) u M p hw)]
  ·rw[pm.length_eq,xl];rwa[few]
def Va{a b c d:Int}{m:Nat}(h1:a.natAbs<=m)(h2:b.natAbs<=m)(h3:c.natAbs<=m)(h4:d.natAbs<=m):(a*b-c*d).natAbs<=2*(m*m):=by
 have g:=zE a b h1 h2;have e:=zE c d h3 h4;lia
def Sl:2*(10^100*10^100)<=10^201:=by ac_nf
def ua(K:b8):Sp:=λa H Q _=>E2 λ(s t:SpT)=>A4 (a=[.ref s.1,.ref t.1]) (jE H s) (jE H t) ((wy s.2 t.2).1.natAbs<=10^201->(wy s.2 t.2).2.natAbs<=10^201->∀ p,H p=Jt->Q (.ref p) (upd H p (.tup [.int (wy s.2 t.2).1,.int (wy s.2 t.2).2])))
def bD(F:Fun K "way_to" "way_to" vv f fd)(Z:Zs mg)(y:Cb P w mg base)  : yI P w K mg base CX0 1 f fd ["start","end"] (ua K):=by
 specialize aB
 ·obtain⟨s,t,rfl,_⟩:=h;rfl
 obtain⟨⟨a,n,l,w1⟩,⟨b,m,j,i⟩,rfl,⟨x,a1,a2,g⟩,⟨v,r,o,e⟩,q⟩:=h
 refine'⟨_,(zD (zK (iP (zG (yR dS (yR xN ?_ ?_) (yR xN ?_ ?_)) (zG (yR dS (yR xN ?_ ?_) (yR xN ?_ ?_)) zL))))),?_⟩
 nofun
 have c:Sq K H a [.int n,.int l,.int w1]:=.inr (SqT.of x);have d:Sq K H b [.int m,.int j,.int i]:=.inr (SqT.of v);exists _,U,b,_,_,.int m,U,U,d,U,_,U,a,_,_,.int w1,U,U,c,U,_,_,U,U,cB r g,_,U,a,_,_,.int n,U,U,c,U,_,U,b,_,_,.int i,U,U,d,U,_,_,U,U,cB a1 e,_,_,U,rfl;exists _,U,b,_,_,.int j,U,U,d,U,_,U,a,_,_,.int w1,U,U,c,U,_,_,U,U,cB o g,_,U,a,_,_,.int l,U,U,c,U,_,U,b,_,_,.int i,U,U,d,U,_,_,U,U,cB a2 e,_,_,U,rfl;rwa[sz2,λp u=>q (d9 (Va r g a1 e) Sl) (d9 (Va o g a2 e) Sl) p u]
abbrev Yh(_:b8):c5:=Yo
abbrev rQual:i9:=("ring" : i9) ++ ".<locals>." ++ "count_ahead"
def mw(K:b8)(H:Hp):Prop:=RC (Yh K) (Ot kT) rQual H
def tF(K:b8)(H a:Hp):Prop:=∀ b o,b≠Yh K->H b=Js o->a b=Js o
structure Xb(H:Hp)(D:c5)(ss:List Sd)(us:List SpT):Prop where
 at':H D=Js (.lst (zW us))
 ok:∀ t∈us,jE H t/\0<t.2.2.2/\l9 (l9 t.2.1.natAbs t.2.2.1.natAbs) t.2.2.2.natAbs=1
 nodup:(us.map (·.2)).Nodup
 mem:∀ P:P3,P∈us.map (·.2)↔Cor ss P
 first:∀ O rest,us=O::rest->(∀ t∈rest,ahB O t=Ju)/\rest.Pairwise (λA B=>0<c3 O.2 A.2 B.2)
 few:us.length<=ss.length
def mw.same{K:b8}{H a:Hp}(t:mw K H)(s:Same H a):mw K a:=by
 obtain⟨b,e,d,c⟩:=t;rwa[b,s _ _ e,d,c.imp id λ⟨g,h1,h2⟩=>⟨g,h1,s _ _ h2⟩]
def mw.ne{K:b8}{H:Hp}(t:mw K H)(e:H b=Js o)(h:∀ c,o≠.tbl c):b≠Yh K:=λz=>by
 obtain⟨a,d,_⟩:=t;rw[z,show H (Yh K)=Js (.tbl a) from d] at e;rwa[h a (m8 e).symm]
def tF.lst{K:b8}{H a:Hp}(s:tF K H a)(t:mw K H)(e:H b=Js (.lst xs)):a b=Js (.lst xs):=s b _ (t.ne e λ_ z=>nomatch z) e
def tF.tup{K:b8}{H a:Hp}(s:tF K H a)(t:mw K H)(e:H b=Js 'w'):a b=Js 'w':=s b _ (t.ne e λ_ z=>nomatch z) e
def tF.of{K:b8}{H a:Hp}(s:Same H a):tF K H a:=λb o _ e=>s b o e
def tF.trans{K:b8}{H g d:Hp}(a:tF K H g)(b:tF K g d):tF K H d:=λc o h e=>b c o h (a c o h e)
def qb.sameT{K:b8}{H c:Hp}(h:qb H a)(t:mw K H)(s:tF K H c):qb c a:=λu b=>⟨s.tup t (h u b).1,(h u b).2⟩
def mw.put{K:b8}{H:Hp}(t:mw K H)(e:H D=Js (.lst xs)):mw K (upd H D (.lst a)):=by
 have c:=t.ne e λ_ z=>nomatch z
 obtain⟨b,h,g,d⟩:=t;erw[b,by rw[zH c.symm]; exact h,g,d.imp id λ⟨i,h1,h2⟩=>⟨i,h1,?_⟩];rw[zH (fR h2 e λz=>nomatch z)];rwa[h2]
def Xp(H:Hp)(r:c5):P3:=match H r with
 | some (.tup [.int x,.int y,.int w])=>(x,y,w)
 | _=>(0,0,1)
def Wl{H:Hp}(h:jE H t):Xp H t.1=t.2:=by
 unfold Xp;rw[h.1]
def aH{s t:SpT}(b:0<s.2.2.2)(a:0<t.2.2.2)(d:l9 (l9 s.2.1.natAbs s.2.2.1.natAbs) s.2.2.2.natAbs=1)(lt:l9 (l9 t.2.1.natAbs t.2.2.1.natAbs) t.2.2.2.natAbs=1)(h:leS s t)(ne:s.2≠t.2):ahB s t=true:=by
 by_cases c:ahB s t=Ju
 ·rwa[c]
 ·have e:leS t s:=by
   show ahB s t=Jv;simpa using c
  rw[fo] at h e;rwa[y9 (tK (p:=s.2) (q:=t.2) b a d lt (by lia) (by lia)) ne]
def QZ{H:Hp}{O:SpT}{c:List SpT}{g:List c5}(ok:∀ t∈O::c,jE H t/\0<t.2.2.2/\l9 (l9 t.2.1.natAbs t.2.2.1.natAbs) t.2.2.2.natAbs=1)(nd:((O::c).map (·.2)).Nodup)(mem:∀ P:P3,P∈(O::c).map (·.2)↔Cor n P)
  (q:(O::c).Pairwise leS) (s:g.Perm (c.map (·.1))) (r:g.Pairwise λa b=>(SS O.2 ((O::c).map (·.2)) (Xp H a):Int)<=SS O.2 ((O::c).map (·.2)) (Xp H b)) :
  ∃ l:List SpT,l.map (·.1)=g/\l.Perm c/\(∀ t∈c,ahB O t=Ju)/\l.Pairwise (λA B=>0<c3 O.2 A.2 B.2):=by
 have p:=ok O (.head _);have i:∀ t∈c,ahB O t=true:=λt d=>by
  have h1:=ok t (.tail _ d);erw[aH p.2.1 h1.2.1 p.2.2 h1.2.2 ((Bi.mp q).1 t d) λz=>?_];rw[j8,Ax] at nd;rwa[nd.1 (z ▸ Ab d)]
 have v:c.map (λt=>((t.1,Xp H t.1):SpT))=c:=by
  erw[GJ (AA λt d=>?_) (F3 c)];rw[Wl (ok t (.tail _ d)).1];rfl
 have pv:(g.map λa=>((a,Xp H a):SpT)).Perm c:=by
  have z:=s.map λa=>((a,Xp H a):SpT);rw[v8] at z;have e:c.map ((λa=>((a,Xp H a):SpT)) ∘ λt:SpT=>t.1)=c:=v;rw[e] at z;rwa[z]
 erw[g.map λa=>(a,Xp H a),?_,pv,i,?_]
 ·rw[v8];rwa[GJ (AA λa _=>rfl) (F3 g)]
 ·have o:((g.map λa=>((a,Xp H a):SpT)).map (·.2)).Nodup:=by
   refine(pv.map (·.2)).nodup_iff.mpr ?_;rw[j8,Ax] at nd;rwa[nd.2]
  have z:=WN (ss:=n) (O:=O.2) (qs:=(O::c).map (·.2)) (rs:=c.map (·.2)) (us:=(g.map λa=>((a,Xp H a):SpT)).map (·.2)) ((mem _).mp (.head _)) (λC j=>?_) (λA u=>?_) o (pv.map _) ?_
  ·rw[Ai] at z;rwa[z]
  ·rw[j8] at j;rcases g9.mp j with e | j
   ·rwa[.inl e]
   ·obtain⟨t,d,rfl⟩:=o5.mp j;rwa[.inr (bh (i t d))]
  ·obtain⟨t,d,rfl⟩:=o5.mp u;have m:t.2∈(O::c).map (·.2):=Ab (.tail _ d);erw[(mem _).mp m,m,λz=>?_,bh (i t d)];rw[j8,Ax] at nd;rwa[nd.1 (z ▸ Ab d)]
  ·rw[v8,Ai];erw[r.imp λ{a b} h=>?_];rwa[Int.ofNat_le.mp h]
def Wu(O:SpT)(a:List SpT):qH (zW (O::a)) Jt (Js 1)=[V.ref O.1]:=by
 show((zW (O::a)).drop 0).take (min 1 (zW (O::a)).length-0)=_;rw[F6,IP,show min 1 (zW (O::a)).length=1 from Do (by simp[zW])];rfl
def YY(O:SpT)(a:List SpT):qH (zW (O::a)) (Js 1) Jt=(a.map (·.1)).map V.ref:=by
 show((zW (O::a)).drop (min 1 (zW (O::a)).length)).take ((zW (O::a)).length-min 1 (zW (O::a)).length)=_;rw[show min 1 (zW (O::a)).length=1 from Do (by simp[zW]),Bb (by simp[zW])];simp[zW]
def jv(K:b8):Sp:=λc H Q _=>E2 λ(l:c5) (a:List Sd)=>A6 (c=[.ref l]) (SqL K H l (zY a)) (qb H a) (a.length<=63) (mw K H) (∀(D:c5)(d:List SpT)(b:Hp),tF K H b->H D=Jt->mw K b->Xb b D a d->Q (.ref D) b)
def Wo(F:Fun K "ring" "ring" pR f fd)(Z:Zs mg)(CB:Cb P w mg base)(yBv:Has P w K mg base "corners" 16 ["sides"] (ye K))(yDc:Has P w K mg base "turn" 1 'i' (xF K))(yCc:Has P w K mg base "way_to" 1 ["start","end"] (ua K))(yCe:Has P w K mg base "turn" 1 'i' (ud K))(hcode:fd.code=.ref bn)(NB:aM base mg bn Yo):yI P w K mg base CX0 17 f fd ["sides"] (jv K):=by
 erw[Fun.okC F kM (λvs H Q E h=>?_) (λcdv A outer s H vs Q E hcv hr h=>?_)]
 ·obtain⟨l,ss,rfl,_⟩:=h;rfl
 obtain⟨l,ss,rfl,hl,ok,hlen,tab,q⟩:=h;have hcd:cdv=.ref bn:=hcv.symm.trans hcode;have hcd0:=hcd;refine⟨_,(zB (iz (i:=1) kM.nd rfl (Fu rfl) (zZ yBv 'f' rfl (zG (pv 0) zL)))
   (zB (Nq (i:=2) (clos:=[("rising",s.heap.objs.size+1)]) NB hcd rfl kM.nd rfl (BW rfl))
   (zD (zK (yR iU (uQ gZ (pv 1) qI (tR yF)) (UV rfl Z.sorted (zG (uQ gZ (pv 1) (tR yF) qI) zL) (Rc (pv 2) Oh))))))),?_⟩
 try dsimp only[L2.cxOf,L2.cxComp,L2.Cx.nox,iW,iB]
 refine⟨_,U,l,ss,U,hl,ok,hlen,λD m H1 s1 hD co=>?_⟩;have I:mw K H1:=by
  obtain⟨qs,y,e2,e3⟩:=tab;erw[qs,s1 _ _ y,e2,e3.imp id λ⟨c',h1,h2⟩=>⟨c',h1,s1 _ _ h2⟩]
 refine⟨I,λfa c' H2 hf hfP ef ec tab2 kp=>?_⟩;have nT:∀ b xs,H1 b=Js (.lst xs)->b≠Yh K:=λb xs e z=>by
  obtain⟨qs,y,_⟩:=I;rw[z,y] at e;cases e
 have nU:∀ b xs,H1 b=Js 'w'->b≠Yh K:=λb xs e z=>by
  obtain⟨qs,y,_⟩:=I;rw[z,y] at e;cases e
 have eD2:H2 D=Js (.lst (zW m)):=kp _ _ (nT _ _ co.at') co.at';have ok2:∀ t∈m,jE H2 t/\0<t.2.2.2/\l9 (l9 t.2.1.natAbs t.2.2.1.natAbs) t.2.2.2.natAbs=1:=λt x=>by
  obtain⟨o1,o2⟩:=co.ok t x;rwa[⟨kp _ _ (nU _ _ o1.1) o1.1,o1.2⟩,o2]
 have few:=co.few;have sT:tF K H H2:=λb o hb e=>kp b o hb (s1 _ _ e);have hDT:D≠Yh K:=nT _ _ co.at';have fin:∀(C:c5)(R:List SpT)(H3:Hp),Same H2 H3->H3 C=Jt->R.Perm m->(∀ O c,R=O::c->(∀ t∈c,ahB O t=Ju)/\c.Pairwise (λA B=>0<c3 O.2 A.2 B.2))->Q (.ref C) (upd H3 C (.lst (zW R))):=λC R H3 s3 hn Y hfst=>by
  have s4:=zC hn (.lst (zW R));have M:H2 C=none:=s3.free hn;erw[q C R _ (λb o hb e=>s4 _ _ (s3 _ _ (sT b o hb e))) ?_ ?_ ⟨zA,λt x=>?_,(Y.map (·.2)).nodup_iff.mpr co.nodup,λP=>?_,hfst,by rw[Y.length_eq]; rwa[few]⟩]
  ·cases e:H C with
   | none=>rfl
   | some o =>
    by_cases hb:C=Yh K
    ·obtain⟨qs,y,_⟩:=tab2;rw[hb] at M;rw[show H2 (Yh K)=Js (.tbl qs) from y] at M;cases M
    ·rw[sT _ _ hb e] at M;cases M
  ·obtain⟨qs,y,e2,e3⟩:=tab2;rwa[qs,s4 _ _ (s3 _ _ y),e2,e3.imp id λ⟨c',h1,h2⟩=>⟨c',h1,s4 _ _ (s3 _ _ h2)⟩]
  ·obtain⟨o1,o2⟩:=ok2 t (Y.mem_iff.mp x);rwa[(o1.same s3).same s4,o2]
  ·rw[(Y.map (·.2)).mem_iff];rwa[co.mem P]
 have sq2:SqL K H2 D (zW m):=SqL.of eD2;erw[_,rfl,_,rfl,D,_,rfl,sq2,λc1 hc1=>?_];have sc1:=zC hc1 (.lst (qH (zW m) Jt (Js 1)));have ec1:upd H2 c1 (.lst (qH (zW m) Jt (Js 1))) c1=Js (.lst (qH (zW m) Jt (Js 1))):=zA;generalize upd H2 c1 (.lst (qH (zW m) Jt (Js 1)))=H3 at sc1 ec1 ⊢;erw[_,rfl,_,rfl,D,_,rfl,sc1.seq sq2,λc2 hc2=>?_];have X:=zC hc2 (.lst (qH (zW m) (Js 1) Jt));have ec2:upd H3 c2 (.lst (qH (zW m) (Js 1) Jt)) c2=Js (.lst (qH (zW m) (Js 1) Jt)):=zA;generalize upd H3 c2 (.lst (qH (zW m) (Js 1) Jt))=H4 at X ec2 ⊢;have g:=sc1.trans X;cases m with
 | nil =>
  refine⟨_,rfl,c2,fa,[],λ_=>0,rfl,rfl,SqL.of ec2,by decide,(λr hr=>nomatch hr),λp R H5 hp S ep Y pw=>?_⟩;have eu:R=[]:=Gi.mp Y;subst eu;erw[c1,p,_,_,rfl,rfl,S _ _ (X _ _ ec1),ep,sz0,λC hDn=>?_];exact fin C [] H5 (g.trans S) hDn (.refl _) (λO c z=>nomatch z)
 | cons O c =>
  have hrest:c.length<63:=by rw[i4] at few; lia
  rw[Wu] at ec1;rw[YY] at ec2;have L:∀ t∈O::c,jE H4 t:=λt x=>(ok2 t x).1.same g;erw[_,rfl,c2,fa,c.map (·.1),λa=>(SS O.2 ((O::c).map (·.2)) (Xp H4 a):Int),rfl,rfl,SqL.of ec2,by rw[ac]; lia,?_,λp R H5 hp S ep Y pw=>?_]
  ·erw[TV (k:=3) (jy:=1) (N:=["place","sight","rising"]) (params:=wD kT) ix 'f' rfl rfl rfl rfl (g _ _ ef) (g _ _ ec) (λ_ _ _ _=>rfl) λr hr' A outer s H5 S hr=>?_];obtain⟨t,x,rfl⟩:=o5.mp hr';refine⟨_,(zB (iz (i:=1) ix.nd rfl (Fu rfl) (zZ yCc 'f' rfl (zG (qN vB (pv 2) yF 'e') (zG (pv 0) zL))))
   (zD (zK (yK tG rfl Z.len ux (zG (wN (T:=["other"]) (caps:=[("rising",2),("sight",1)]) ⟨rfl,by ac_nf,by ac_nf,rfl,⟨⟨rfl,rfl,Fu rfl⟩,⟨rfl,rfl,BW rfl⟩,Ao⟩⟩ rfl (xL (pv 2)) (λ_=>(lV (i:=0) (show(["other","rising","sight"]:List i9).Nodup by ac_nf) rfl (BW rfl))) (λ_=>(Zi (yS VE (zZ yCe 'f' rfl (zG (zZ yCc 'f' rfl (zG (qN vB (pv 1) yF 'e') (zG (pv 0) zL))) (zG (pv 2) zL))) yF (tM _)))) (λ_=>(pv 0))) zL))))),?_⟩
   have s25:=g.trans S;have eD5:=s25 _ _ eD2;have okO:=(L O (.head _)).same S;have okt:=(L t (.tail _ x)).same S;have at0:atI (zW (O::c)) 0=Js (.ref O.1):=rE (j:=0) rfl;refine⟨_,U,D,_,_,.ref O.1,U,U,.inl (SqL.of eD5),at0,_,U,O,t,U,okO,okt,λb1 b2 sp hsp=>?_⟩;have J:=zC hsp (.tup [.int (wy O.2 t.2).1,.int (wy O.2 t.2).2]);have esp:upd H5 sp (.tup [.int (wy O.2 t.2).1,.int (wy O.2 t.2).2]) sp=Js (.tup [.int (wy O.2 t.2).1,.int (wy O.2 t.2).2]):=zA;generalize upd H5 sp (.tup [.int (wy O.2 t.2).1,.int (wy O.2 t.2).2])=H6 at J esp ⊢;have eD6:=J _ _ eD5;refine⟨_,U,D,U,.inl ⟨⟨_,SqL.of eD6⟩,λcc G hG=>ka (K:=K) (a:=D) (xs:=zW (O::c)) (λi σ ys H'=>A5 (Same H6 H') (H' G=Js (.lst ys)) (ys.length=(((O::c).take i).filter λA=>decide (0<tn2 (wy O.2 A.2) (wy O.2 t.2))).length) (i<=63) (∃ u:Option V,σ=[u,Js (.ref D),Js (.ref sp)]))
    ⟨zC hG _,zA,rfl,by decide,Jt,rfl⟩ (λi σ ys H' _ hq'=>by obtain⟨y,e2,_⟩:=hq'; rwa[SqL.of (y _ _ eD6),e2]) ?_ ?_⟩⟩
   ·rintro i v σ ys H' hi ⟨sH,eG,n,hi63,u,rfl⟩;have hil:i<(O::c).length:=by have z:=(c9.mp hi).1; simpa [zW] using z
    unfold zW at hi;rw[e7] at hi;cases gt:(O::c)[i]? with
    | none=>rw[gt] at hi; cases hi
    | some A =>
     rw[gt] at hi;cases hi;have okA:=(((L A (f6 gt)).same S).same J).same sH;have et:(O::c).take (i+1)=(O::c).take i++[A]:=by rw[GQ,gt]; rfl
     have ln:ys.length<=63:=by
      rw[n];rwa[d9 (Ce _ _) (d9 (List.length_take_le _ _) hi63)]
     erw[_,rfl,D,_,_,.ref O.1,rfl,rfl,.inl (SqL.of (sH _ _ eD6)),at0,_,rfl,O,A,rfl,(okO.same J).same sH,okA,λb3 b4 aw haw=>?_];have d:=zC haw (.tup [.int (wy O.2 A.2).1,.int (wy O.2 A.2).2]);have eaw:upd H' aw (.tup [.int (wy O.2 A.2).1,.int (wy O.2 A.2).2]) aw=Js (.tup [.int (wy O.2 A.2).1,.int (wy O.2 A.2).2]):=zA;generalize upd H' aw (.tup [.int (wy O.2 A.2).1,.int (wy O.2 A.2).2])=H7 at d eaw ⊢;exists _,U,aw,sp,_,_,_,_,U,eaw,d _ _ (sH _ _ esp),b3,b4,b1,b2,_,_,U,U,_,rfl;erw[ifD (λhp=>?_) (λhp=>?_)]
     ·have hp':0<tn2 (wy O.2 A.2) (wy O.2 t.2):=hp;refine⟨_,U,d _ _ eG,zM (by lia),(sH.trans d).putNew hG,zA,?_,by rw[i4] at hil; lia,_,rfl⟩;rw[et,GA,g7,g7,n];rw[show [A].filter (λA=>decide (0<tn2 (wy O.2 A.2) (wy O.2 t.2)))=[A] from by
       rw[BL,y6 (y7 hp')]; rfl]
      rfl
     ·have hp':¬ 0<tn2 (wy O.2 A.2) (wy O.2 t.2):=hp;refine⟨sH.trans d,d _ _ eG,?_,by rw[i4] at hil; lia,_,rfl⟩;rw[et,GA,g7,n];rw[show [A].filter (λA=>decide (0<tn2 (wy O.2 A.2) (wy O.2 t.2)))=[] from by
       rw[BL,y4 (λz=>hp' (of_decide_eq_true z))]; rfl]
      rfl
   ·rintro σ ys H' ⟨sH,eG,n,_,u,rfl⟩;erw[G,_,rfl,.inl (SqL.of eG),?_,J.trans sH];rw[show(zW (O::c)).length=(O::c).length from ac _,v9] at n;rw[n,Wl (L t (.tail _ x))];unfold SS;rw[List.filter_map,ac];rfl
  ·obtain⟨vs,ev,pv,hah,hpw⟩:=QZ (H:=H4) (λt x=>⟨L t x,(ok2 t x).2⟩) co.nodup co.mem co.rises Y pw;erw[c1,p,_,_,rfl,rfl,S _ _ (X _ _ ec1),ep,?_,λC hDn=>?_]
   ·rw[ac,Y.length_eq,ac,AQ];exact d9 (show 1+c.length<=1000 by lia) 'a'
   ·have z:=fin C (O::vs) H5 (g.trans S) hDn (pv.cons O) (λO' rest' e=>by
     injection e with y e2
     subst y e2;rwa[λt x=>hah t (pv.mem_iff.mp x),hpw])
    have e:[V.ref O.1]++R.map V.ref=zW (O::vs):=by
     rw[<- ev];simp[zW]
    rw[e];rwa[z]
def ug(K:b8):Sp:=λb H Q _=>E5 λ(l d:c5) (a:List Sd) (x y:Int)=>A5 (b=[.ref l,.ref d]) (SqL K H l (zY a)) (qb H a) (Sq K H d [.int x,.int y]) (Q (.bl (vD a x y)) H)
def bH(F:Fun K "is_way" "is_way" vg f fd)(Z:Zs mg)(R:Cb P w mg base)(C:Has P w K mg base "along" 1 'i' (qW K)):yI P w K mg base CX0 2 f fd 'x' (ug K):=by
 specialize kR
 ·obtain⟨l,d,g,x,y,rfl,_⟩:=h;rfl
 obtain⟨l,d,g,x,y,rfl,B,ok,hd,q⟩:=h
 refine'⟨_,(zB (xK r9 rfl (xL (pv 0)) (uG 2 kR.nd) (zD (yM ?_ (zD (zK nI)) zU)))
   (zD (zK nI))),?_⟩
 nofun
 refine⟨_,U,l,U,.inl ⟨⟨_,B⟩,xE (K:=K) (a:=l) (xs:=zY g) (λi n o=>A3 (o=H) (∀ j t,j<i->g[j]?=Js t->t.2.1*x+t.2.2.1*y<=0) (∃ u2:Option V,n=[Js (.ref l),Js (.ref d),u2]))
  ⟨rfl,λj t m=>y9 m (AH _),Jt,rfl⟩ (λi n o _ p=>by obtain⟨e,_⟩:=p; rw[e]; rwa[B]) ?_ ?_⟩⟩
 ·rintro i v n o hi ⟨rfl,b,u2,rfl⟩;obtain⟨t,gt,rfl,I⟩:=vd hi;obtain⟨J,_,O,N,_⟩:=ok t (f6 gt);exists _,U,_,U,t.1,d,_,_,t.2.1,t.2.2.1,x,y,U,.inr (SqT.of J),hd,U,U,U,U,by lia,by lia,_,_,U,U,_,rfl;erw[ifD (λr=>?_) (λu=>?_)]
  ·have e:vD g x y=false:=by
    unfold vD;rw[EX];intro z;have M:=of_decide_eq_true (Ag.mp z t (f6 gt));lia
   rw[e] at q;rwa[q]
  ·erw[rfl,λj D m c=>?_,_,rfl];by_cases e:j=i
   ·rw[e,gt] at c;cases c;lia
   ·rwa[b j D (by lia) c]
 ·rintro n o ⟨rfl,b,u2,rfl⟩;have e:vD g x y=true:=by
   unfold vD;rw[Ag];intro t G;obtain⟨j,m,L⟩:=AE G;rwa[y7 (b j t (by rw[zO]; exact m) (by rw[d6 m,L]))]
  rw[e] at q;rwa[q]
def pc(K:b8):Sp:=λc H Q _=>E2 λ(l:c5) (a:List Sd)=>A5 (c=[.ref l]) (SqL K H l (zY a)) (qb H a) (a.length<=400) (∀(p:c5)(d:List (c5×List Int))(b:Hp),Same H b->H p=Jt->oX b p a d->Q (.ref p) b)
def XW(F:Fun K "ways" "ways" mn f fd)(Z:Zs mg)(CB:Cb P w mg base)(yCg:Has P w K mg base "is_way" 2 'x' (ug K))(yCn:Has P w K mg base "plain" 3 ["direction"] (oj K)):yI P w K mg base CX0 4 f fd ["sides"] (pc K):=by
 specialize rm
 ·obtain⟨l,g,rfl,_⟩:=h;rfl
 obtain⟨l,g,rfl,hl,ok,h31,q⟩:=h;have nz:∀ t∈g,t.2.1≠0\/t.2.2.1≠0:=λt ht=>(ok t ht).2.1;have hu1:=t6 (Ef (show 1<=64 by decide) _) hr.units
 refine'⟨_,(zB (zQ 1 rm.nd Zw)
   (zB (xK r9 rfl (xL (pv 0)) (uG 2 rm.nd) (zD (xK r9 rfl (WG ?_) (uG 3 rm.nd) (zD (yM ?_ (zD (vG (yD hr) (pv 1) ?_ nI rfl)) zU)))))
   (zD (zK (yK oS rfl Z.sorted tL (zG (xY (oV rfl) rfl Z.list ue (zG (pv 1) zL)) zL)))))),?_⟩
 nofun
 refine λd hd=>?_;have two:∀ k,WK g g.length k->k.length=1+1:=λk ⟨_,t,_,_,h⟩=>by
  rcases h with ⟨e,_⟩ | ⟨e,_⟩ <;> rw[e] <;> rfl
 refine⟨_,U,l,U,.inl ⟨⟨_,(zC hd _).seq hl⟩,xE (K:=K) (a:=l) (xs:=zY g) (λi D o=>A3 (Same H o) (E2 λc m=>A4 (o d=Js (.dT c)) (Xv c m) (m.length<=2*i) (∀ k,k∈m↔WK g i k)) (E2 λ(u2 u3:Option V)=>D=[Js (.ref l),Js (.ref d),u2,u3]))
  ⟨zC hd _,⟨[],[],zA,.nil,e9 _,λk=>⟨(λz=>nomatch z),λz=>y9 z (RX g k)⟩⟩,Jt,Jt,rfl⟩ (λi D o _ S=>by obtain⟨e,_⟩:=S; rwa[e.seq hl]) ?_ ?_⟩⟩
 ·rintro i v D o hi ⟨sH,⟨c,m,eD,r,hks,mem⟩,u2,u3,rfl⟩;obtain⟨t,gt,rfl,hil⟩:=vd hi;obtain⟨et0,nt,b1,b2,_⟩:=ok t (f6 gt);have et:=sH _ _ et0;have st:Sq K o t.1 [.int t.2.1,.int t.2.2.1,.int t.2.2.2]:=.inr (SqT.of et);erw[_,rfl,t.1,_,_,.int t.2.2.1,rfl,rfl,st,rfl,_,rfl,_,rfl,t.1,_,_,.int t.2.1,rfl,rfl,st,rfl,sz2,λp1 T=>?_];have n:Same o (upd o p1 (.tup [.int (-t.2.2.1),.int t.2.1])):=zC T _;have ep1:upd o p1 (.tup [.int (-t.2.2.1),.int t.2.1]) p1=Js (.tup [.int (-t.2.2.1),.int t.2.1]):=zA;generalize upd o p1 (.tup [.int (-t.2.2.1),.int t.2.1])=G1 at n ep1 ⊢;have st1:=st.same n;erw[_,rfl,t.1,_,_,.int t.2.2.1,rfl,rfl,st1,rfl,_,rfl,t.1,_,_,.int t.2.1,rfl,rfl,st1,rfl,_,rfl,sz2,λp2 I=>?_];have p:Same G1 (upd G1 p2 (.tup [.int t.2.2.1,.int (-t.2.1)])):=zC I _;have ep2:upd G1 p2 (.tup [.int t.2.2.1,.int (-t.2.1)]) p2=Js (.tup [.int t.2.2.1,.int (-t.2.1)]):=zA;generalize upd G1 p2 (.tup [.int t.2.2.1,.int (-t.2.1)])=G2 at p ep2 ⊢;erw[sz2,λM hpl=>?_];have G:Same G2 (upd G2 M (.lst [.ref p1,.ref p2])):=zC hpl _;have C:upd G2 M (.lst [.ref p1,.ref p2]) M=Js (.lst [.ref p1,.ref p2]):=zA;have x:=(n.trans p).trans G;have O:=G _ _ (p _ _ ep1);have N:=G _ _ ep2;have L:=x _ _ eD;generalize upd G2 M (.lst [.ref p1,.ref p2])=G3 at G C x O N L ⊢;have npl:M≠d:=λz=>by rw[z] at C; rw[C] at L; cases L
  refine⟨M,U,⟨_,SqL.of C⟩,xE (K:=K) (a:=M) (xs:=[.ref p1,.ref p2]) (λj D o=>A6 (Same H o) (o M=Js (.lst [.ref p1,.ref p2])) (o p1=Js (.tup [.int (-t.2.2.1),.int t.2.1])) (o p2=Js (.tup [.int t.2.2.1,.int (-t.2.1)])) (E2 λc m=>A4 (o d=Js (.dT c)) (Xv c m) (m.length<=2*i+j) (∀ k,k∈m↔WK g i k\/(0<j/\k=uJ [-t.2.2.1,t.2.1]/\vD g (-t.2.2.1) t.2.1=Ju)\/(1<j/\k=uJ [t.2.2.1,-t.2.1]/\vD g t.2.2.1 (-t.2.1)=Ju))) (∃ u3:Option V,D=[Js (.ref l),Js (.ref d),Js (.ref t.1),u3]))
   ⟨sH.trans x,C,O,N,⟨c,m,L,r,by lia,λk=>(mem k).trans ⟨.inl,λz=>by
    rcases z with z | ⟨z,_⟩ | ⟨z,_⟩
    ·rwa[z]
    ·rwa[y9 z (AH _)]
    ·rwa[y9 z (AH _)]⟩⟩,_,rfl⟩ (λi D o _ S=>by obtain⟨_,e,_⟩:=S; rwa[SqL.of e]) ?_ ?_⟩
  ·rintro j v D H4 hj ⟨s4,e4l,e41,e42,⟨c,m,J,r,B,mem⟩,u3,rfl⟩;have hj2:j<2:=(c9.mp hj).1;obtain⟨pj,X,Y,rfl,epj,hXY,hn,bX,bY⟩:∃(pj:c5)(X Y:Int),v=.ref pj/\H4 pj=Js (.tup [.int X,.int Y])/\((j=0/\X = -t.2.2.1/\Y=t.2.1)\/(j=1/\X=t.2.2.1/\Y = -t.2.1))/\(X≠0\/Y≠0)/\X.natAbs<=10^9/\Y.natAbs<=10^9:=by
    match j,hj with
    | 0,h=>cases h; rwa[p1,_,_,rfl,e41,.inl ⟨rfl,rfl,rfl⟩,by lia,by lia,by lia]
    | 1,h=>cases h; rwa[p2,_,_,rfl,e42,.inr ⟨rfl,rfl,rfl⟩,by lia,by lia,by lia]
   have step:∀ k,(k=uJ [X,Y]/\vD g X Y=Ju)\/(WK g i k\/(0<j/\k=uJ [-t.2.2.1,t.2.1]/\vD g (-t.2.2.1) t.2.1=Ju)\/(1<j/\k=uJ [t.2.2.1,-t.2.1]/\vD g t.2.2.1 (-t.2.1)=Ju)) ↔
     WK g i k\/(0<j+1/\k=uJ [-t.2.2.1,t.2.1]/\vD g (-t.2.2.1) t.2.1=Ju)\/(1<j+1/\k=uJ [t.2.2.1,-t.2.1]/\vD g t.2.2.1 (-t.2.1)=Ju):=λk=>by
    rcases hXY with ⟨rfl,rfl,rfl⟩ | ⟨rfl,rfl,rfl⟩
    ·constructor
     ·rintro(h | h | h | h)
      ·rwa[.inr (.inl ⟨by decide,h⟩)]
      ·rwa[.inl h]
      ·rwa[y9 h.1 'a']
      ·rwa[y9 h.1 'a']
     ·rintro(h | h | h)
      ·rwa[.inr (.inl h)]
      ·rwa[.inl h.2]
      ·rwa[y9 h.1 'a']
    ·constructor
     ·rintro(h | h | h | h)
      ·rwa[.inr (.inr ⟨by decide,h⟩)]
      ·rwa[.inl h]
      ·rwa[.inr (.inl ⟨by decide,h.2⟩)]
      ·rwa[y9 h.1 'a']
     ·rintro(h | h | h)
      ·rwa[.inr (.inl h)]
      ·rwa[.inr (.inr (.inl ⟨by decide,h.2⟩))]
      ·rwa[.inl h.2]
   obtain⟨gp,g6⟩:=gcd2 hn bX bY;exists _,U,_,U,l,pj,g,X,Y,U,s4.seq hl,ok.same s4,.inr (SqT.of epj),_,rfl;by_cases hw:vD g X Y=Ju
   ·rw[hw];refine jD ?_;refine⟨_,U,_,U,pj,[X,Y],U,.inr (SqT.of epj),by show 2<=1000; decide,gp,g6,λpk G5 s5 hpk epk=>?_⟩;have eD5:=s5 _ _ J;obtain⟨ks',tk',mem',len'⟩:=r.put (uJ [X,Y]) (.bl Ju);have kl:=r.len;exists d,_,U,iA.t eD5 (by rw[ju]; exact epk) (by rw[kl]; exact t6 (d9 B (show 2*i+j<=1000 by lia)) 'a');have y:∀(b:c5)(xs:List V),G5 b=Js 'w'->upd G5 d (.dT (rV c (Zd (uJ [X,Y])) (.bl Ju))) b=Js 'w':=λb xs e=>by
     rw[zH (fR e eD5 (by intro z; cases z))];rwa[e]
    erw[(s4.trans s5).putNew hd,?_,y _ _ (s5 _ _ e41),y _ _ (s5 _ _ e42),⟨_,ks',zA,tk',by lia,λk=>?_⟩,_,rfl]
    ·rw[zH npl];rwa[s5 _ _ e4l]
    ·rw[mem' k,<- step k,<- mem k];constructor
     ·rintro(h | h)
      ·rwa[.inr h]
      ·rwa[.inl ⟨h,hw⟩]
     ·rintro(h | h)
      ·rwa[.inr h.1]
      ·rwa[.inl h]
   ·have hw':vD g X Y=false:=by simpa using hw
    rw[hw'];erw[vY ?_];erw[s4,e4l,e41,e42,⟨c,m,J,r,by lia,λk=>?_⟩,_,rfl];rw[mem k,<- step k];constructor
    ·rwa[.inr]
    ·rintro(h | h)
     ·rwa[y9 h.2 hw]
     ·rwa[h]
  ·rintro D H4 ⟨s4,_,_,_,⟨c,m,J,r,B,mem⟩,u3,rfl⟩;refine⟨s4,⟨c,m,J,r,by show m.length<=2*(i+1); have:m.length<=2*i+2:=B; lia,λk=>?_⟩,_,_,rfl⟩;rw[mem k,QK gt];constructor
   ·rintro(h | h | h)
    ·rwa[.inl h]
    ·rwa[.inr (.inl h.2)]
    ·rwa[.inr (.inr h.2)]
   ·rintro(h | h | h)
    ·rwa[.inl h]
    ·exact .inr (.inl ⟨by show 0<2; decide,h⟩)
    ·exact .inr (.inr ⟨by show 1<2; decide,h⟩)
 ·rintro D o ⟨sH,⟨c,m,eD,r,hks,mem⟩,u2,u3,rfl⟩;rw[zO] at hks mem;erw[_,rfl,d,c,rfl,eD,λp1 ts T ets hts=>?_];have n:=zC T (.lst ((ts.map (·.1)).map V.ref));obtain⟨us,u1,u2,u3⟩:=r.refs ets hts;have few2:=Tk nz r.nodup λk hk=>(mem k).mp hk;refine⟨p1,us,1,U,by rw[u1]; exact SqL.of zA,by have z:=congrArg Br u2; rw[ac] at z; lia,λt ht=>⟨n _ _ (u3 t ht),?_⟩,λp2 us2 I pm ri=>?_⟩
  ·have z:t.2∈m:=by rw[<- u2]; rwa[Ab ht]
   rwa[two t.2 ((mem _).mp z)]
  have p:=zC I (.lst ((us2.map (·.1)).map V.ref));have R:(us2.map (·.2)).Perm m:=by rw[<- u2]; rwa[pm.map _]
  refine q p2 us2 _ (((sH).trans n).trans p) ((sH).free (n.free I)) ⟨zA,λu hu=>p _ _ (n _ _ (u3 u (pm.mem_iff.mp hu))),Ai.mpr ri,R.nodup_iff.mpr r.nodup,λk=>(R.mem_iff).trans (mem k),by have z:=R.length_eq; rw[ac] at z; lia⟩
def xy(K:b8):Sp:=λd H Q _=>E2 λ(l:c5) (a:List Sd)=>A5 (d=[.ref l]) (SqL K H l (zY a)) (qb H a) (a.length<=400) (∀(b:Bool)(c:Hp),Same H c->(b=Ju↔(a≠[]/\∀ k,¬ WK a a.length k))->Q (.bl b) c)
def lW(F:Fun K "has_no_way" "has_no_way" vT f fd)(Z:Zs mg)(B:Cb P w mg base)(m:Has P w K mg base "ways" 4 ["sides"] (pc K)):yI P w K mg base CX0 5 f fd ["sides"] (xy K):=by
 specialize kJ
 ·obtain⟨l,g,rfl,_⟩:=h;rfl
 obtain⟨l,g,rfl,j,ok,c,q⟩:=h;have r:=hr.units0
 refine'⟨_,(zD (zK (Sb ?_ (VB (qJ (OK r) ?_ ?_ (tM _)))))),?_⟩
 nofun
 exists _,U,l,_,U,.inl j,_,_,U,U,_,rfl;rw[zO];erw[ifD (λa=>?_) (λb=>?_)]
 ·erw[_,rfl,l,g,rfl,j,ok,c,λp e y n x d=>?_];erw[sz0,λz o=>?_];have sz:=zC o (.lst []);erw[p,z,e.map (·.1),rfl,rfl,SqL.of (sz _ _ d.at'),SqL.of zA,q _ _ (n.trans sz) ?_];have i:g≠[]:=λz=>by rw[z] at a; rwa[y9 a 'a']
  cases e with
  | nil=>exact⟨λ_=>⟨i,(λk v=>nomatch (d.mem k).mpr v)⟩,λ_=>rfl⟩
  | cons u e=>exact⟨(λz=>nomatch z),λz=>y9 ((d.mem u.2).mp (Ab j7)) (z.2 u.2)⟩
 ·refine q Jv H (Same.refl _) ⟨(λz=>nomatch z),λz=>y9 (List.length_pos_iff.mpr z.1) (λq=>b (by lia))⟩
def cBf{i j:Int}{m n:Nat}(hi:i.natAbs<=m)(a:j.natAbs<=n)(h1:m<2^4096)(h2:n<2^4096):kB i j:=⟨t6 hi h1,t6 a h2⟩
def WJ{a b c:Int}(i:a.natAbs<=10^19)(l:b.natAbs<=10^19)(j:c.natAbs<=10^19):(2*a^2*b*c).natAbs<=2*10^76/\(2*a^2*b).natAbs<=2*10^57/\(2*a^2).natAbs<=2*10^38/\(a^2).natAbs<=10^38:=by
 have p:(10:Nat)^19*10^19=10^38:=by ac_nf
 have o:2*(10:Nat)^38*10^19=2*10^57:=by ac_nf
 have n:2*(10:Nat)^57*10^19=2*10^76:=by ac_nf
 have h:=zE a a i i;rw[p] at h;have m:a^2=a*a:=by rw[IQ,IQ,Int.pow_zero,Ho]
 rw[m];have g:(2*(a*a)).natAbs<=2*10^38:=by lia
 have d:=zE (2*(a*a)) b g l;rw[o] at d;have e:=zE (2*(a*a)*b) c d j;rw[n] at e;rwa[e,d,g,h]
def qi(K:b8):Sp:=λb H Q _=>E3 λ(r s t:SpT)=>A8 (b=[.ref r.1,.ref s.1,.ref t.1]) (jE H r) (jE H s) (jE H t) (bu r.2) (bu s.2) (bu t.2) (∀(p:c5)(x y:Int)(a:Hp),Same H a->H p=Jt->a p=Js 'q'->yq (r.2.2.2*c3 r.2 s.2 t.2) (2*r.2.2.2^2*s.2.2.2*t.2.2.2) x y->Q (.ref p) a)
def fG(F:Fun K "triangle" "triangle" rW f fd)(Z:Zs mg)(CB:Cb P w mg base)(l:Has P w K mg base "part" 4 ["top","bottom"] (qY K))(yDc:Has P w K mg base "turn" 1 'i' (xF K))(c:Has P w K mg base "way_to" 1 ["start","end"] (ua K))(o:Has P w K mg base "turn" 1 'i' (ud K)):yI P w K mg base CX0 5 f fd ["first","one","other"] (qi K):=by
 specialize pI
 ·obtain⟨r,s,t,rfl,_⟩:=h;rfl
 obtain⟨r,u,t,rfl,b,d,g,fr,C,D,q⟩:=h;refine⟨_,(zB (iz (i:=3) pI.nd rfl (BW rfl) (zZ o 'f' rfl (zG (zZ c 'f' rfl (zG (pv 0) (zG (pv 1) zL))) (zG (zZ c 'f' rfl (zG (pv 0) (zG (pv 2) zL))) zL))))
   (zD (zK (zZ l 'f' rfl (zG (pv 3) (zG (yR xN (yR xN (yR xN yF (yR SQ (qN vB (pv 0) yF 'e') yF)) (qN vB (pv 1) yF 'e')) (qN vB (pv 2) yF 'e')) zL)))))),?_⟩
 try dsimp only[L2.cxOf,L2.cxComp,L2.Cx.nox,iW,iB]
 erw[_,rfl,_,rfl,r,u,rfl,b,d,λb1 b2 p1 B=>?_];have j:=zC B (.tup [.int (wy r.2 u.2).1,.int (wy r.2 u.2).2]);have O:upd H p1 (.tup [.int (wy r.2 u.2).1,.int (wy r.2 u.2).2]) p1=Js (.tup [.int (wy r.2 u.2).1,.int (wy r.2 u.2).2]):=zA;generalize upd H p1 (.tup [.int (wy r.2 u.2).1,.int (wy r.2 u.2).2])=R at j O ⊢;erw[_,rfl,_,rfl,r,t,rfl,b.same j,g.same j,λb3 b4 p2 z=>?_];have v:=zC z (.tup [.int (wy r.2 t.2).1,.int (wy r.2 t.2).2]);have N:upd R p2 (.tup [.int (wy r.2 t.2).1,.int (wy r.2 t.2).2]) p2=Js (.tup [.int (wy r.2 t.2).1,.int (wy r.2 t.2).2]):=zA;generalize upd R p2 (.tup [.int (wy r.2 t.2).1,.int (wy r.2 t.2).2])=L at v N ⊢;exists p1,p2,_,_,_,_,U,v _ _ O,N,b1,b2,b3,b4;have a:=j.trans v;obtain⟨Y,X,T,S⟩:=WJ fr.w C.w D.w;have k1:2*10^57<2^4096:=by ac_nf
 have k2:2*10^38<2^4096:=by ac_nf
 have M:10^19<2^4096:=by ac_nf
 have k4:10^38<2^4096:=by ac_nf
 have J:Sq K L r.1 [.int r.2.1,.int r.2.2.1,.int r.2.2.2]:=.inr (SqT.of (a _ _ b.1));have G:Sq K L u.1 [.int u.2.1,.int u.2.2.1,.int u.2.2.2]:=.inr (SqT.of (a _ _ d.1));have I:Sq K L t.1 [.int t.2.1,.int t.2.2.1,.int t.2.2.2]:=.inr (SqT.of (a _ _ g.1));have hw:=fr.w;have pz:=Aq (Aq (Aq (show(2:Int)≠0 by decide) (Int.pow_ne_zero (m:=2) (BX fr.pos))) (BX C.pos)) (BX D.pos);erw[_,rfl,_,rfl,r.1,_,_,.int r.2.2.2,rfl,rfl,J,rfl,_,_,rfl,rfl,⟨by decide,by decide,t6 hw 'a'⟩,_,_,rfl,rfl,cBf (m:=2) (n:=10^38) 'a' S 'h' k4,_,rfl,u.1,_,_,.int u.2.2.2,rfl,rfl,G,rfl,_,_,rfl,rfl,cBf T C.w k2 M,_,rfl,t.1,_,_,.int t.2.2.2,rfl,rfl,I,rfl,_,_,rfl,rfl,cBf X D.w k1 M,_,_,rfl,pz,t6 Y 'h',λp x y H3 s3 hp ep po=>?_];erw[q p x y H3 (a.trans s3) (a.free hp) ep ?_];have e:(wy r.2 u.2).1*(wy r.2 t.2).2-(wy r.2 u.2).2*(wy r.2 t.2).1=r.2.2.2*c3 r.2 u.2 t.2:=XD r.2 u.2 t.2;rw[e] at po;rwa[po]
structure RgA(ss:List Sd)(O:P3)(rest:List P3):Prop where
 rg:Rg ss O rest
 ah:∀ A∈rest,∀ a b:Nat,ahB (a,O) (b,A)=Ju
 few:rest.length+1<=ss.length
def rAt(O:P3)(a:List P3)(i:Nat):P3:=a.getD i O
def jZ{a:List P3}{i:Nat}(h:i<a.length):rAt O a i=a[i]:=by
 unfold rAt;rw[B9,d6 h];rfl
def RgA.fine(R:RgA b O a)(c:∀ t∈b,t.2.1.natAbs<=10^9/\t.2.2.1.natAbs<=10^9/\t.2.2.2.natAbs<=10^13):bu O/\∀ i,bu (rAt O a i):=by
 have d:=gH c R.rg.cO;erw[d,λi=>?_];by_cases h:i<a.length
 ·rw[jZ h];rwa[gH c (R.rg.cA h)]
 ·unfold rAt;rw[B9,Bs (by lia)];rwa[d]
def RW{s t:SpT}{a b:Nat} : ahB (a,s.2) (b,t.2)=ahB s t:=rfl
def Ob{H:Hp}{d:List Sd}{O:SpT}{c:List SpT}(nz:∀ t∈d,t.2.1≠0\/t.2.2.1≠0)(ne:d≠[])(nw:∀ k,¬ WK d d.length k)(g:Xb H D d (O::c)):RgA d O.2 (c.map (·.2)):=by
 obtain⟨e,i⟩:=g.first O c rfl;have nd:=g.nodup;rw[j8,Ax] at nd;erw[⟨nz,ne,λx y h=>Sg nz ne nw h,g.mem,λA j=>?_,Ai.mpr i⟩,λA j a b=>?_,?_]
 ·obtain⟨a,l,rfl⟩:=o5.mp j;rwa[λz=>nd.1 (z ▸ Ab l),bh (e a l)]
 ·obtain⟨t,m,rfl⟩:=o5.mp j;rw[RW];rwa[e t m]
 ·have z:=g.few;rw[i4] at z;rw[ac];rwa[z]
def Wr{H:Hp}{a:List Sd}(nz:∀ t∈a,t.2.1≠0\/t.2.2.1≠0)(ne:a≠[])(nw:∀ k,¬ WK a a.length k)(i:Xb H D a d){z:P3}(h:0<z.2.2)(b:inW a z):d≠[]:=λe=>by
 subst e;have q:=hull nz ne (λx y c=>Sg nz ne nw c) (g:=(0,0,-1)) (λC j=>by have z:=(i.mem C).mpr j; cases z) h b;unfold sv at q;dsimp only at q;lia
def fZ(b:List Sd)(v:V)(H:Hp):Prop :=
 ((∀ z:P3,0<z.2.2->¬ inW b z)/\∃ p,v=.ref p/\H p=Js (.tup [.int 0,.int 1]))\/((∃ z:P3,0<z.2.2/\inW b z)/\¬ (b≠[]/\∀ k,¬ WK b b.length k)/\v=.non) \/
 ((∃ z:P3,0<z.2.2/\inW b z)/\(b≠[]/\∀ k,¬ WK b b.length k)/\∃(p:c5)(s t:Int)(O:P3)(a:List P3),RgA b O a/\v=.ref p/\H p=Js (.tup [.int s,.int t])/\Fq s t (arS O (rAt O a) (a.length-1)).1 (arB O (rAt O a) (a.length-1)))
def Oc{K:b8}{H:Hp}{Q:VK}(h:∀ (v:V) (b:Hp),tF K H b->mw K b->fZ c v b->Q v b) :
  (∀(p:c5)(b:Hp),tF K H b->mw K b->(∀ z:P3,0<z.2.2->¬ inW c z)->b p=Js (.tup [.int 0,.int 1])->Q (.ref p) b) /\
  (∀ b:Hp,tF K H b->mw K b->(∃ z:P3,0<z.2.2/\inW c z)->¬ (c≠[]/\∀ k,¬ WK c c.length k)->Q .non b) /\
  ∀(p:c5)(x y:Int)(b:Hp)(O:P3)(a:List P3),tF K H b->mw K b->(∃ z:P3,0<z.2.2/\inW c z)->(c≠[]/\∀ k,¬ WK c c.length k)->RgA c O a->b p=Js 'q'->Fq x y (arS O (rAt O a) (a.length-1)).1 (arB O (rAt O a) (a.length-1))->Q (.ref p) b :=
 ⟨λp b s t no e=>h _ _ s t (.inl ⟨no,p,rfl,e⟩),λb s t d g=>h _ _ s t (.inr (.inl ⟨d,g,rfl⟩)),λp x y b O a s t d i R e f=>h _ _ s t (.inr (.inr ⟨d,i,p,x,y,O,a,R,rfl,e,f⟩))⟩
def fZ.keep{H e:Hp}(h:fZ d v H)(k:∀ p xs,H p=Js 'w'->e p=Js 'w'):fZ d v e:=by
 rcases h with ⟨no,p,c,b⟩ | h | ⟨g,i,p,s,t,O,a,R,c,b,f⟩
 ·rwa[.inl ⟨no,p,c,k _ _ b⟩]
 ·rwa[.inr (.inl h)]
 ·rwa[.inr (.inr ⟨g,i,p,s,t,O,a,R,c,k _ _ b,f⟩)]
def cJ(K:b8):Sp:=λc H Q _=>E2 λ(l:c5) (a:List Sd)=>A6 (c=[.ref l]) (SqL K H l (zY a)) (qb H a) (a.length<=18) (mw K H) (∀(v:V)(b:Hp),tF K H b->mw K b->fZ a v b->Q v b)
def Xl(F:Fun K "area" "area" mh f fd)(Z:Zs mg)(CB:Cb P w mg base)(yCy:Has P w K mg base "plus" 5 'i' (cY K))(yBp:Has P w K mg base "triangle" 5 ["first","one","other"] (qi K))(yCv:Has P w K mg base "part" 4 ["top","bottom"] (qY K))(yDb:Has P w K mg base "ring" 17 ["sides"] (jv K))(yBf:Has P w K mg base "has_no_way" 5 ["sides"] (xy K))(yBi:Has P w K mg base "some_spot" 9 ["sides"] (ut K)):yI P w K mg base CX0 18 f fd ["sides"] (cJ K):=by
 specialize yg
 ·obtain⟨l,o,rfl,_⟩:=h;rfl
 obtain⟨l,o,rfl,hl,ok,h18,tab,qa⟩:=h;obtain⟨q1,q2,q3⟩:=Oc (K:=K) qa;have nz:∀ t∈o,t.2.1≠0\/t.2.2.1≠0:=λt X=>(ok t X).2.1;have sm:∀ t∈o,t.2.1.natAbs<=10^9/\t.2.2.1.natAbs<=10^9/\t.2.2.2.natAbs<=10^13:=λt X=>(ok t X).2.2
 refine'⟨_,(zB (yM ?_ (zD (zK ?_)) zU)
   (zB (yM ?_ (zD (zK yf)) zU)
   (zB (zQ 1 yg.nd ?_)
   (zB (zQ 2 yg.nd ?_)
   (zB (xK r9 rfl (Vu rfl Z.range ?_) (uG 3 yg.nd) (zD (zQ 2 yg.nd ?_)))
   (zD (zK (pv 2)))))))),?_⟩
 nofun
 erw[_,rfl,l,o,rfl,hl,ok,by lia,λH1 g no=>?_,λsp P H1 g asp L csp=>?_]
 ·exists rfl,_,rfl;erw[jD ?_];erw[0,1,rfl,by decide,by ac_nf,λp x y H2 G hp ep po=>?_];obtain⟨rfl,rfl⟩:=eE (c:=0) (b:=1) po;rwa[q1 p H2 (tF.of (g.trans G)) (tab.same (g.trans G)) no ep]
 ·exists rfl,_,rfl;erw[vY ?_];have pl:∃ z:P3,0<z.2.2/\inW o z:=⟨P,asp.2.1,L⟩;erw[_,rfl,l,o,rfl,g.seq hl,ok.same g,by lia,λb H2 G hb=>?_];cases b with
  | false =>
   exists _,rfl;erw[jD ?_];rwa[q2 H2 (tF.of (g.trans G)) (tab.same (g.trans G)) pl λz=>y9 (hb.mpr z) m7]
  | true =>
   exists _,rfl;erw[vY ?_];obtain⟨u,r⟩:=hb.mp rfl;have d:=g.trans G;erw[_,rfl,l,o,rfl,d.seq hl,ok.same d,by lia,tab.same d,λD us H3 s3 hD M T=>?_];have une:=Wr nz u r T asp.2.1 L;have sT3:tF K H H3:=(tF.of d).trans s3;erw[0,1,rfl,by decide,by ac_nf,λtp x y H4 s4 htp etp po=>?_];obtain⟨rfl,rfl⟩:=eE (c:=0) (b:=1) po;obtain⟨O,a,rfl⟩:=EI une;have R:=Ob nz u r T;obtain⟨m,fr⟩:=R.fine sm;have few:a.length<=17:=by have z:=T.few; rw[i4] at z; lia
   have lm:(a.map (·.2)).length=a.length:=ac _;have Y:=s4 _ _ T.at';have lr:(zW (O::a)).length=a.length+1:=by show(List.map _ (O::a)).length=_; rw[ac,i4]
   have Bp:∀ j,0<arB O.2 (rAt O.2 (a.map (·.2))) j:=λj=>bF m.pos λi _=>(fr i).pos;exists _,U,D,_,U,.inl (SqL.of Y),2,_,U,(by rw[lr]; exact⟨by decide,by decide,by lia,by lia⟩);refine wC (lo:=2) (n:=(((zW (O::a)).length:Int)-2).toNat) (λj σ H'=>Same H4 H'/\E3 λ(C:c5) (x y:Int)=>A3 (H' C=Js 'q') (Fq x y (arS O.2 (rAt O.2 (a.map (·.2))) j).1 (arB O.2 (rAt O.2 (a.map (·.2))) j)) (∃ u3:Option V,σ=[Js (.ref l),Js (.ref D),Js (.ref C),u3]))
    ⟨Same.refl _,tp,0,1,etp,⟨by decide,rfl,by rw[show(arS O.2 (rAt O.2 (a.map (·.2))) 0).1=0 from rfl]; simp⟩,Jt,rfl⟩ ?_ ?_
   ·rintro j σ H5 hj ⟨N,C,x1,y1,B,v,u3,rfl⟩;rw[lr] at hj;have hj1:j+1<a.length:=by lia
    have eD5:=N _ _ Y;have q:∀ t∈O::a,jE H5 t:=λt X=>((T.ok t X).1.same s4).same N;have at0:atI (zW (O::a)) 0=Js (.ref O.1):=rE (j:=0) rfl;have atk:∀ k:Nat,(h:k<a.length)->∀ i:Int,i=((k+1:Nat):Int)->atI (zW (O::a)) i=Js (.ref a[k].1):=λk h i e=>by
     rw[e];erw[rE ?_];unfold zW;rw[e7,List.getElem?_cons_succ,d6 h];rfl
    have e1:rAt O.2 (a.map (·.2)) j=(a[j]'(by lia)).2:=by rw[jZ (by rw[lm]; lia),BJ]
    have e2:rAt O.2 (a.map (·.2)) (j+1)=(a[j+1]).2:=by rw[jZ (by rw[lm]; lia),BJ]
    have sq:Sq K H5 D (zW (O::a)):=.inl (SqL.of eD5);refine⟨_,U,_,U,D,_,_,.ref O.1,U,U,sq,at0,_,U,_,U,_,_,U,U,D,_,_,.ref (a[j]'(by lia)).1,U,U,sq,atk j (by lia) _ (by lia),_,U,_,U,D,_,_,.ref a[j+1].1,U,U,sq,atk (j+1) hj1 _ (by lia),O,a[j]'(by lia),a[j+1],U,q _ (.head _),q _ (.tail _ (Ap _)),q _ (.tail _ (Ap _)),m,by rw[<- e1]; exact fr j,by rw[<- e2]; exact fr (j+1),λp x2 y2 H6 s6 hp ep po=>?_⟩;have J:=d9 (v.yle (BX (Bp j))) (Vh m (by lia) λi _=>fr i);have x1b:=d9 (v.xle (BX (Bp j))) (Vi m (by lia) λi _=>fr i);have fw1:(a[j]'(by lia)).2.2.2.natAbs<=10^19:=by have z:=(fr j).w; (rw[e1] at z;assumption)
    have fw2:a[j+1].2.2.2.natAbs<=10^19:=by have z:=(fr (j+1)).w; (rw[e2] at z;assumption)
    have I:=d9 po.yle (WJ m.w fw1 fw2).1;have x2b:x2.natAbs<=10^85:=by
     erw[d9 po.xle (d9 (zE _ _ m.w (VU m (by rw[<- e1]; rwa[fr j]) (by rw[<- e2]; rwa[fr (j+1)]))) 'h')]
    have p1:=v.pos;have p2:=po.pos;erw[C,p,x1,y1,x2,y2,rfl,s6 _ _ B,ep,d9 x1b 'h',d9 J 'h',d9 x2b 'h',d9 I 'h',by lia,by lia,t6 (zE _ _ J I) 'h',λtr x y H7 s7 htr etr pr=>?_];erw[(N.trans s6).trans s7,tr,x,y,etr,?_,_,rfl];erw[Fq.plus m.pos (fr j).pos v ?_ pr];rw[e1,e2];rwa[po]
   ·rintro σ H5 ⟨N,C,x,y,B,v,u3,rfl⟩;have em:(((zW (O::a)).length:Int)-2).toNat=(a.map (·.2)).length-1:=by rw[lr,lm]; lia
    rw[em] at v;exists _,rfl;have S:=s4.trans N;rwa[q3 C x y H5 O.2 (a.map (·.2)) (sT3.trans (tF.of S)) (M.same S) pl ⟨u,r⟩ R B v]
def mP(K:b8):Sp:=λc H Q _=>E4 λ(a:c5) (b:List V) (x y:Int)=>A5 (c=[.ref a]) (Sq K H a b) (atI b 0=Js (.int x)) (atI b 1=Js (.int y)) (Q (.int (yV x y)) H)
def VQ(F:Fun K "span" "span" mf f fd)(Z:Zs mg)(d:Cb P w mg base)  : yI P w K mg base CX0 1 f fd ["direction"] (mP K):=by
 specialize WX
 ·obtain⟨a,c,x,y,rfl,_⟩:=h;rfl
 obtain⟨a,c,x,y,rfl,b,h0,h1,q⟩:=h
 refine'⟨_,(zD (zK ?_)),?_⟩
 nofun
 rwa[_,rfl,a,_,_,.int x,rfl,rfl,b,h0,_,rfl,_,rfl,a,_,_,.int y,rfl,rfl,b,h1,_,rfl,_,_,rfl,rfl,q]
def xt(K:b8):Sp:=λg H Q _=>E4 λ(a b:c5) (ns c:List Int)=>A8 (g=[.ref a,.ref b]) (SqL K H a (ns.map V.int)) (SqL K H b (c.map V.int)) (ns.length=c.length) (c.length<=900) (0<yC c) ((yC c:Int)<10^600) (∀(D:c5)(e:List Pr)(d:Hp),Same H d->H D=Jt->d D=Js (.lst (uq e))->Ud d e->e.map (·.2)=ns.zip (uJ c)->Q (.ref D) d)
def cf(F:Fun K "weighed" "weighed" zp f fd)(Z:Zs mg)(CB:Cb P w mg base)(S:Has P w K mg base "lowest" 2 ["numbers"] (xZ K)):yI P w K mg base CX0 3 f fd ["numbers","weights"] (xt K):=by
 specialize nD
 ·obtain⟨a,b,ns,j,rfl,_⟩:=h;rfl
 obtain⟨a,b,ns,j,rfl,ha,Y,hn,hl,X,N,q⟩:=h
 refine'⟨_,(zB (zQ 2 nD.nd ?_)
   (zD (zK (wN (T:=["at"]) (caps:=[("least",2),("numbers",0)]) ⟨rfl,by ac_nf,by ac_nf,rfl,⟨⟨rfl,rfl,BW rfl⟩,⟨rfl,rfl,BW rfl⟩,Ao⟩⟩ rfl (xB rfl Z.range ?_) (λ_=>(uG 0 (show(["at","least","numbers"]:List i9).Nodup by ac_nf))) (λ_=>xM) (λ_=>?_))))),?_⟩
 nofun
 erw[_,rfl,b,j,rfl,.inl Y,by lia,X,N,λp H1 J hp ep=>?_];have R:(uJ j).length=j.length:=by unfold uJ; rw[ac]
 have y:=J.seq ha;refine⟨_,U,a,_,U,.inl y,_,U,(by rw[ac]; lia),(by rw[ac]; lia),λcc D O=>za (lo:=0) (n:=(((ns.map V.int).length:Nat):Int).toNat) (λi C l G=>A4 (Same H1 G) (G D=Js (.lst l)) (∃ d:List Pr,A3 (l=uq d) (Ud G d) (d.map (·.2)=(ns.zip (uJ j)).take i)) (∃ I:Option V,C=[I,Js (.ref p),Js (.ref a)]))
  ⟨zC O _,zA,⟨[],rfl,(λt v=>nomatch v),rfl⟩,Jt,rfl⟩ (λi C l G _ M=>by obtain⟨_,e,_⟩:=M; rwa[e]) ?_ ?_⟩
 ·rintro i C l G hi ⟨o,B,⟨d,rfl,c,r⟩,I,rfl⟩;rw[Ac,ac] at hi;have lc:d.length<=i:=by
   have z:=congrArg Br r;rw[ac,o3] at z;lia
  obtain⟨n,gn,an⟩:=VD (ns:=ns) (i:=i) (k:=0+(i:Int)) (by lia) hi;obtain⟨m,gm,am⟩:=VD (ns:=uJ j) (i:=i) (k:=0+(i:Int)) (by lia) (by lia);erw[_,rfl,_,rfl,a,_,_,_,rfl,rfl,.inl (o.seq y),an,_,rfl,_,rfl,p,_,_,_,rfl,rfl,.inr (SqT.of (o _ _ ep)),am,sz2,λt v=>?_];have st:=zC v (.tup [.int n,.int m]);have L:t≠D:=λz=>by rw[z,B] at v; cases v
  erw[st _ _ B,zM (by rw[fM]; lia),(o.trans st).putNew O,zA,⟨d++[(t,n,m)],by simp[uq],λu g=>?_,?_⟩,_,rfl]
  ·rcases m9.mp g with g | g
   ·rw[zH (fR (st _ _ (c u g)) (st _ _ B) (by intro z; cases z))];rwa[st _ _ (c u g)]
   ·rw[e8] at g;subst g;show upd _ D _ t=_;rw[zH L];rwa[zA]
  ·rw[g5,r,xX (x:=(n,m)) (by rw[List.getElem?_zip_eq_some]; rwa[gn,gm])];rfl
 ·rintro C l G ⟨o,B,⟨d,rfl,c,r⟩,I,rfl⟩;rw[Ac,ac,Bb (by rw[List.length_zip]; lia)] at r;rwa[q D d G (J.trans o) (J.free O) B c r]
def XA{a b c d:Int}(h:a.natAbs<=10^9)(g:b.natAbs<=10^9)(e:c.natAbs<=10^9)(hd:d.natAbs<=10^9):qk (a*b-c*d)<=10^19:=by
 have j:=zE a b h g;have i:=zE c d e hd;unfold qk;split <;> lia
def rB(K:b8):Sp:=λd H Q _=>E5 λ(l:c5) (a:List Sd) (j:Nat) (e:Sd) (P:P3)=>A7 (d=[.ref l,.int j]) (SqL K H l (zY a)) (qb H a) (a.length<=900) (Tn a j e P) (∀ t∈a.take j,tn e.2 t.2=0->sv t.2 (pt3 (ftL e.2))<=0) (∀(D:c5)(c:List Pr)(b:Hp),Same H b->H D=Jt->b D=Js (.lst (uq c))->Ud b c->aP a (c.map (·.2))->Q (.ref D) b)
def tz(F:Fun K "clash_of_three" "clash_of_three" xT f fd)(Z:Zs mg)(CB:Cb P w mg base)(yBx:Has P w K mg base "weighed" 3 ["numbers","weights"] (xt K))(yDc:Has P w K mg base "turn" 1 'i' (xF K))(yBs:Has P w K mg base "edge_end" 5 ["sides","edge","hand"] (sM K)):yI P w K mg base CX0 6 f fd ["sides","last"] (rB K):=by
 specialize yL
 ·obtain⟨l,m,j,e,P,rfl,_⟩:=h;rfl
 obtain⟨l,m,j,e,P,rfl,hl,ok,hlen,st,M,q⟩:=h;have hj:j<m.length:=(c9.mp st.at').1;obtain⟨e',me,ge,at'⟩:=xH (ss:=m) (i:=j) (k:=(j:Int)) rfl hj;rw[st.at'] at ge;cases ge;obtain⟨ee,ne,c1,c2,c3⟩:=ok e me;have hN:=tS ne;obtain⟨sf,f1⟩:=RH ne
 refine'⟨_,(zB (zQ 2 yL.nd ?_)
   (zB (zQ 3 yL.nd (yK du rfl Z.sorted tL ?_))
   (zB (zQ 4 yL.nd ?_)
   (zB (zQ 5 yL.nd ?_)
   (zB (zQ 6 yL.nd ?_)
   (zD (zK (zZ yBx 'f' rfl (zG (yR iU (pv 3) ?_) (zG (pv 6) zL)))))))))),?_⟩
 nofun
 exists _,U,_,U,l,_,_,_,U,U,.inl hl,at';refine⟨_,U,_,U,_,U,l,_,U,hl,λc hc=>?_⟩;rw[aW];have sc:=zC hc (.lst (zY (m.take j)));have ec:upd H c (.lst (zY (m.take j))) c=Js (.lst (zY (m.take j))):=zA;generalize upd H c (.lst (zY (m.take j)))=H1 at sc ec ⊢;refine⟨_,U,_,U,c,e.1,m.take j,e.2,-1,U,SqL.of ec,(λu hu=>ok.same sc u (AL hu)),by rw[o3]; lia,.inr (SqT.of (sc _ _ ee)),ne,c1,c2,c3,.inr rfl,λr1 H2 s2 k1=>?_⟩;have R:=sc.trans s2;refine⟨_,U,_,U,_,U,l,_,U,R.seq hl,λd hd=>?_⟩;rw[aW];have sd:=zC hd (.lst (zY (m.take j)));have ed:upd H2 d (.lst (zY (m.take j))) d=Js (.lst (zY (m.take j))):=zA;generalize upd H2 d (.lst (zY (m.take j)))=H3 at sd ed ⊢;have I:=R.trans sd;refine⟨_,U,d,e.1,m.take j,e.2,1,U,SqL.of ed,(λu hu=>ok.same I u (AL hu)),by rw[o3]; lia,.inr (SqT.of (I _ _ ee)),ne,c1,c2,c3,.inl rfl,λr2 H4 s4 k2=>?_⟩;have sH4:=I.trans s4;obtain⟨p,rfl⟩:∃ p,r1=Js p:=by
  cases r1 with
  | some p=>rwa[p,rfl]
  | none=>exact(ZJ (h:=-1) 'a' hN f1 sf.pos st.no M k1 (show nN (m.take j) e.2 (- -1) r2 from k2)).elim
 obtain⟨o,rfl⟩:∃ o,r2=Js o:=by
  cases r2 with
  | some o=>rwa[o,rfl]
  | none=>exact(ZJ (h:=1) 'a' hN f1 sf.pos st.no M k2 k1).elim
 obtain⟨a,ga,ha,ta⟩:=k1;obtain⟨b,gb,hb,tb⟩:=k2;refine⟨sz2,λT hnl=>?_⟩;have O:Same H4 (upd H4 T (.lst [gS (Js p),gS (Js o)])):=zC hnl _;have enl:upd H4 T (.lst [gS (Js p),gS (Js o)]) T=Js (.lst ([(p:Int),(o:Int)].map V.int)):=zA;generalize upd H4 T (.lst [gS (Js p),gS (Js o)])=H5 at O enl ⊢;have sH5:=sH4.trans O;refine⟨T,[(p:Int),(o:Int)],U,SqL.of enl,(by show 2<64; decide),λG ms hsn pm pw=>?_⟩;have di:p≠o:=λz=>by
  rw[z,gb] at ga;cases ga;lia
 obtain⟨x,y,g,t1,h,rfl,hxy,gx,gy,h1,hs1,ht1,as1,at1⟩:∃(x y:Nat)(g t1:Sd)(h:Int),ms=[(x:Int),(y:Int)]/\x<y/\(m.take j)[x]?=Js g/\(m.take j)[y]?=Js t1/\(h=1\/h = -1)/\0<tn e.2 g.2*h/\0<tn e.2 t1.2 * -h /\
   (∀ u∈m.take j,0<tn e.2 u.2*h->sv u.2 (pt3 (crL e.2 g.2))<=0)/\(∀ u∈m.take j,0<tn e.2 u.2 * -h->sv u.2 (pt3 (crL e.2 t1.2))<=0):=by
  rcases YK pm pw with ⟨rfl,le⟩ | ⟨rfl,le⟩
  ·rwa[p,o,a,b,-1,rfl,by lia,ga,gb,.inr rfl,ha,hb,ta,tb]
  ·rwa[o,p,b,a,1,rfl,by lia,gb,ga,.inl rfl,hb,ha,tb,ta]
 have hh:h*h=1:=by rcases h1 with rfl | rfl <;> rfl
 obtain⟨A1,A2,A3,A4⟩:=QN hh hN f1 sf.pos st.no M (f6 gx) (f6 gy) hs1 ht1 as1 at1 st.pos st.ahead st.out;have gx':m[x]?=Js g/\x<j:=by
  rw[Bx] at gx;split at gx
  ·rwa[gx,by lia]
  ·cases gx
 have L:m[y]?=Js t1/\y<j:=by
  rw[Bx] at gy;split at gy
  ·rwa[gy,by lia]
  ·cases gy
 obtain⟨_,mx,gx2,atx⟩:=xH (ss:=m) (i:=x) (k:=(x:Int)) rfl (by lia);rw[gx'.1] at gx2;cases gx2;obtain⟨_,my,Y,aty⟩:=xH (ss:=m) (i:=y) (k:=(y:Int)) rfl (by lia);rw[L.1] at Y;cases Y;obtain⟨es,ns,d1,d2,d3⟩:=ok g mx;obtain⟨et,nt,g1,g2,g3⟩:=ok t1 my;have N:Same H5 (upd H5 G (.lst ([(x:Int),(y:Int)].map V.int))):=zC hsn _;have v:upd H5 G (.lst ([(x:Int),(y:Int)].map V.int)) G=Js (.lst ([(x:Int),(y:Int)].map V.int)):=zA;generalize upd H5 G (.lst ([(x:Int),(y:Int)].map V.int))=H6 at N v ⊢;have n:=sH5.trans N;have X:Sq K H6 l (zY m):=.inl (n.seq hl);have ee6:Sq K H6 e.1 [.int e.2.1,.int e.2.2.1,.int e.2.2.2]:=.inr (SqT.of (n _ _ ee));have es6:Sq K H6 g.1 [.int g.2.1,.int g.2.2.1,.int g.2.2.2]:=.inr (SqT.of (n _ _ es));have et6:Sq K H6 t1.1 [.int t1.2.1,.int t1.2.2.1,.int t1.2.2.2]:=.inr (SqT.of (n _ _ et));exists _,U,_,U,G,_,_,.int (x:Int),U,U,.inl (SqL.of v),U,l,_,_,_,U,U,X,atx;exists _,U,_,U,G,_,_,.int (y:Int),U,U,.inl (SqL.of v),U,l,_,_,_,U,U,X,aty;refine⟨_,U,_,U,t1.1,e.1,_,_,t1.2.1,t1.2.2.1,e.2.1,e.2.2.1,U,et6,ee6,U,U,U,U,by lia,by lia,_,U,
  _,rfl,_,rfl,e.1,g.1,_,_,e.2.1,e.2.2.1,g.2.1,g.2.2.1,rfl,ee6,es6,rfl,rfl,rfl,rfl,by lia,by lia,_,rfl,
  _,rfl,_,rfl,g.1,t1.1,_,_,g.2.1,g.2.2.1,t1.2.1,t1.2.2.1,rfl,es6,et6,rfl,rfl,rfl,rfl,by lia,by lia,_,rfl,sz3,λwl hwl=>?_⟩
 erw[_,rfl,_,rfl,sz1,λol hol=>?_];have B:=zC hwl (.lst ([qk (tn t1.2 e.2),qk (tn e.2 g.2),qk (tn g.2 t1.2)].map V.int));have r:=zC hol (.lst [.int (j:Int)]);refine⟨G,ol,_,_,U,U,r _ _ (B _ _ v),zA,small (by show 2+1<=1000; decide),λnc hnc=>?_⟩;have C:=zC hnc (.lst ([(x:Int),(y:Int),(j:Int)].map V.int));have pU:0<qk (tn t1.2 e.2):=by rw[xP h1 A1]; rwa[A1]
 have pV:0<qk (tn e.2 g.2):=by rw[xP h1 A2]; rwa[A2]
 have pX:0<qk (tn g.2 t1.2):=by rw[xP h1 A3]; rwa[A3]
 have bU:qk (tn t1.2 e.2)<=10^19:=XA g1 c2 g2 c1;have bV:qk (tn e.2 g.2)<=10^19:=XA c1 d2 c2 d1;have bX:qk (tn g.2 t1.2)<=10^19:=XA d1 g2 d2 g1;have gk:=SJ (ws:=[qk (tn t1.2 e.2),qk (tn e.2 g.2),qk (tn g.2 t1.2)]) (j7 ..) pU (by lia);refine⟨_,U,nc,wl,[(x:Int),(y:Int),(j:Int)],[qk (tn t1.2 e.2),qk (tn e.2 g.2),qk (tn g.2 t1.2)],U,SqL.of zA,SqL.of (C _ _ (r _ _ zA)),U,(by show 3<=900; decide),gk.1,gk.2,λD cs H' s' hD eD okc mc=>?_⟩;have S:=((B.trans r).trans C).trans s';have J:=(B.trans r).trans C;refine q D cs H' (n.trans S) (n.free (J.free hD)) eD okc ?_;rw[mc];obtain⟨w1,w2⟩:=YC g.2 t1.2 e.2;have f:∀ a b c:Int,tn t1.2 e.2*h*a+tn e.2 g.2*h*b+tn g.2 t1.2*h*c=(tn t1.2 e.2*a+tn e.2 g.2*b+tn g.2 t1.2*c)*h:=λa b c=>by
  rw[n9,n9,o4,o4 (tn e.2 g.2),o4 (tn g.2 t1.2)]
 erw[bL hxy L.2 gx'.1 L.1 st.at' pU pV pX bU bV bX ?_ ?_ ?_]
 ·rw[xP h1 A1,xP h1 A2,xP h1 A3,f];have w1':tn t1.2 e.2*g.2.1+tn e.2 g.2*t1.2.1+tn g.2 t1.2*e.2.1=0:=w1;rw[w1',j3]
 ·rw[xP h1 A1,xP h1 A2,xP h1 A3,f];have w2':tn t1.2 e.2*g.2.2.1+tn e.2 g.2*t1.2.2.1+tn g.2 t1.2*e.2.2.1=0:=w2;rw[w2',j3]
 ·rw[xP h1 A1,xP h1 A2,xP h1 A3,f];rwa[A4]
def iu(K:b8):Sp:=λd H Q _=>E2 λ(l:c5) (b:List Sd)=>A6 (d=[.ref l]) (SqL K H l (zY b)) (qb H b) (b.length<=900) (∀(P:P3)(a:Hp),Same H a->0<P.2.2->inW b P->SU b P->Q .non a) (∀(D:c5)(c:List Pr)(a:Hp),Same H a->H D=Jt->a D=Js (.lst (uq c))->Ud a c->aP b (c.map (·.2))->Q (.ref D) a)
def Yu(F:Fun K "clash" "clash" pP f fd)(Z:Zs mg)(CB:Cb P w mg base)(yAb:Has P w K mg base "clash_of_three" 6 ["sides","last"] (rB K))(yDc:Has P w K mg base "turn" 1 'i' (xF K))(yCj:Has P w K mg base "holds" 2 ["side","spot"] (zz K))(yDd:Has P w K mg base "foot" 5 ["side"] (jc K))(yBx:Has P w K mg base "weighed" 3 ["numbers","weights"] (xt K))(yDa:Has P w K mg base "span" 1 ["direction"] (mP K))(yCf:Has P w K mg base "sought" 8 ["sides"] (sr K)):yI P w K mg base CX0 9 f fd ["sides"] (iu K):=by
 specialize qU
 ·obtain⟨l,b,rfl,_⟩:=h;rfl
 obtain⟨l,b,rfl,M,ok,d,qn,q⟩:=h
 refine'⟨_,(zB (zQ 1 qU.nd ?_)
   (zB (yM ?_ (zD (zK yf)) zU)
   (zB (zQ 2 qU.nd ?_)
   (zB (xK r9 rfl (xB rfl Z.range (zG (pv 1) zL)) (uG 3 qU.nd) (zB (zQ 4 qU.nd ?_)
   (zD (yM ?_ (zD (zK ?_)) zU))))
   (zD (zK ?_)))))),?_⟩
 nofun
 erw[_,rfl,l,b,rfl,M,ok,d,λt j e P H1 C et st=>?_,λt p P H1 C et ep wp cp=>?_]
 ·exists t,_,_,.int j,U,U,.inr (SqT.of et),rfl;exists _,U,U,_,rfl;refine vY ?_;have hj:j<b.length:=(c9.mp st.at').1;obtain⟨e',me,ge,at'⟩:=xH (ss:=b) (i:=j) (k:=(j:Int)) rfl hj;rw[st.at'] at ge;cases ge;obtain⟨ee,ne,c1,c2,c3⟩:=ok e me;have hN:=tS ne;obtain⟨sf,f1⟩:=RH ne;exists _,U,_,U,l,_,_,_,U,U,.inl (C.seq M),at';refine⟨_,U,_,U,(by lia),(by lia),wC (lo:=0) (n:=((j:Nat):Int).toNat) (λi O J=>A3 (Same H1 J) (∀ u∈b.take i,tn e.2 u.2=0->sv u.2 (pt3 (ftL e.2))<=0) (E2 λ(u3 R:Option V)=>O=[Js (.ref l),Js (.int j),Js (.ref e.1),u3,R]))
   ⟨Same.refl _,(λt ht=>nomatch ht),Jt,Jt,rfl⟩ ?_ ?_⟩
  ·rintro i O J hi ⟨z,a,u3,R,rfl⟩;rw[Ac] at hi;obtain⟨u,mu,N,atu⟩:=xH (ss:=b) (i:=i) (k:=0+(i:Int)) (by lia) (by lia);obtain⟨eu0,nu,d1,d2,d3⟩:=ok u mu;have c:=C.trans z;have eu:Sq K J u.1 [.int u.2.1,.int u.2.2.1,.int u.2.2.2]:=.inr (SqT.of (c _ _ eu0));have x:Sq K J e.1 [.int e.2.1,.int e.2.2.1,.int e.2.2.2]:=.inr (SqT.of (c _ _ ee));exists _,U,_,U,l,_,_,_,U,U,.inl (c.seq M),atu;exists _,U,_,U,e.1,u.1,_,_,e.2.1,e.2.2.1,u.2.1,u.2.2.1,U,x,eu,U,U,U,U,by lia,by lia,U,_,rfl;erw[ifE (λh0=>?_) (λh0=>?_)]
   ·have h0':tn e.2 u.2=0:=h0;refine⟨_,U,_,U,e.1,e.2,U,x,ne,c1,c2,λfp H2 B hfp efp=>?_⟩;have I:H2 fp=Js (.tup [.int (pt3 (ftL e.2)).1,.int (pt3 (ftL e.2)).2.1,.int (pt3 (ftL e.2)).2.2]):=by
     rw[efp,sf.list];rfl
    exists u.1,fp,u.2.1,u.2.2.1,u.2.2.2,(pt3 (ftL e.2)).1,(pt3 (ftL e.2)).2.1,(pt3 (ftL e.2)).2.2,U,eu.same B,.inr (SqT.of I),by lia,by lia,by lia,_,rfl;erw[ifN (λG=>?_) (λY=>?_)]
    ·have r:0<sv u.2 (pt3 (ftL e.2)):=by
      have:¬ sv u.2 (pt3 (ftL e.2))<=0:=G;lia
     obtain⟨z1,z2,z3⟩:=UH h0' hN ne sf.pos st.pos f1 r (st.ahead u (f6 (i:=i) (by rw[Bx,y6 hi]; rwa[N]))) st.out;erw[_,rfl,_,rfl,sz2,λnl X=>?_];have g:=zC X (.lst ([0+(i:Int),(j:Int)].map V.int));erw[_,rfl,e.1,_,e.2.1,e.2.2.1,rfl,(x.same B).same g,rfl,rfl,_,rfl,u.1,_,u.2.1,u.2.2.1,rfl,(eu.same B).same g,rfl,rfl,sz2,λwl T=>?_];have y:=zC T (.lst ([yV e.2.1 e.2.2.1,yV u.2.1 u.2.2.1].map V.int));have pU:=qS ne;have pV:=qS nu;have bU:yV e.2.1 e.2.2.1<=10^19:=BN (mF c1 c2) 'a';have bV:yV u.2.1 u.2.2.1<=10^19:=BN (mF d1 d2) 'a';have gk:=SJ (ws:=[yV e.2.1 e.2.2.1,yV u.2.1 u.2.2.1]) (j7 ..) pU (by lia);refine⟨nl,wl,[0+(i:Int),(j:Int)],[yV e.2.1 e.2.2.1,yV u.2.1 u.2.2.1],U,SqL.of (y _ _ zA),SqL.of zA,U,(by show 2<=900; decide),gk.1,gk.2,λD cs H5 S hD eD m mc=>?_⟩;have sB:=(c.trans B).trans (g.trans y);erw[q D cs H5 (sB.trans S) (sB.free hD) eD m ?_];rw[mc,Be];rwa[XF hi N st.at' pU pV bU bV z1 z2 z3]
    ·erw[z.trans B,λv o L=>?_,_,_,rfl];rcases tV N o with o | rfl
     ·rwa[a v o L]
     ·rwa[Y]
   ·erw[vY ?_];erw[z,λv o L=>?_,_,_,rfl];rcases tV N o with o | rfl
    ·rwa[a v o L]
    ·rwa[y9 L h0]
  ·rintro O J ⟨z,a,u3,R,rfl⟩;rw[Ac] at a;have c:=C.trans z;rwa[_,rfl,_,rfl,l,b,j,e,P,rfl,c.seq M,ok.same c,d,st,a,λD cs H5 S hD eD m cl=>q D cs H5 (c.trans S) (c.free hD) eD m cl]
 ·exists t,_,_,.non,U,U,.inr (SqT.of et),rfl;exists _,U,U,_,rfl;erw[jD ?_];rwa[qn P H1 C ep.2.1 wp cp]
def QE{x y:Int}(n:x≠0\/y≠0)(c:x.natAbs<=2*10^9)(b:y.natAbs<=2*10^9):0<yC [x,y]/\(yC [x,y]:Int)<10^600:=by
 have lt:∀ z:Int,z∈[x,y]->z≠0->z.natAbs<=2*10^9->0<yC [x,y]/\(yC [x,y]:Int)<10^600:=λz a h0 d=>by
  exists yX a h0;have h1:=rM a h0;exact BM (show(yC [x,y]:Int)<=10^30 by lia) 'h'
 rcases n with h | h
 ·rwa[lt x 'd' h c]
 ·rwa[lt y 'd' h b]
def gc{x y:Int} : vD b x y=Ju↔∀ t∈b,t.2.1*x+t.2.2.1*y<=0:=by
 unfold vD;rw[Ag];rwa[λh t a=>of_decide_eq_true (h t a),λh t a=>y7 (h t a)]
def VC{X Y x y a b:Int}(n:X≠0\/Y≠0)(e:uJ [X,Y]=[x,y]):(a*x+b*y)*(yC [X,Y]:Int)=a*X+b*Y:=by
 have z:[X/(yC [X,Y]:Int),Y/(yC [X,Y]:Int)]=[x,y]:=e;cases z;rw[n9,x9,x9,yJ (ns:=[X,Y]) (n:=X) 'd',yJ (ns:=[X,Y]) (n:=Y) 'd']
def OH(a:List Sd)(g:P3):Prop:=∀ t∈a,∀ h:Int,(h=1\/h = -1)->(∀ s∈a,tn t.2 s.2*h<=0)->tn t.2 g*h<=0
def xx(K:b8):Sp:=λd H Q _=>E4 λ(l a:c5) (b:List Sd) (g:P3)=>A10 (d=[.ref l,.ref a]) (SqL K H l (zY b)) (qb H b) (b.length<=400) (Sq K H a [.int g.1,.int g.2.1]) (g.1≠0\/g.2.1≠0) (g.1.natAbs<=2*10^9) (g.2.1.natAbs<=2*10^9) (∀ c:Hp,Same H c->OH b g->(¬ ∀ s∈b,dt s.2 g<=0)->Q .non c) (∀(p:c5)(x y:Int)(c:Hp),Same H c->c p=Js 'q'->l9 x.natAbs y.natAbs=1->0<g.1*x+g.2.1*y->vD b x y=Ju->x.natAbs<=2*10^9->y.natAbs<=2*10^9->Q (.ref p) c)
def lh(F:Fun K "way_onward" "way_onward" vM f fd)(Z:Zs mg)(CB:Cb P w mg base)(yCz:Has P w K mg base "ways" 4 ["sides"] (pc K))(yCn:Has P w K mg base "plain" 3 ["direction"] (oj K))(yCk:Has P w K mg base "along" 1 'i' (qW K))(yCg:Has P w K mg base "is_way" 2 'x' (ug K)):yI P w K mg base CX0 5 f fd 'x' (xx K):=by
 specialize xv
 ·obtain⟨l,a,m,g,rfl,_⟩:=h;rfl
 obtain⟨l,a,m,g,rfl,hl,ok,hlen,ha,gz,m1,m2,qn,q⟩:=h;have nz:∀ t∈m,t.2.1≠0\/t.2.2.1≠0:=λt ht=>(ok t ht).2.1
 refine'⟨_,(zB (xK r9 rfl (xL (yR iU ?_ ?_)) (uG 2 xv.nd) (zD (yM ?_ (zD (zK (pv 2))) zU)))
   (zD (zK yf))),?_⟩
 nofun
 erw[_,rfl,l,m,rfl,hl,ok,hlen,λp o H1 s1 hp W=>?_];obtain⟨gp,g6⟩:=QE gz m1 m2;refine⟨_,U,a,[g.1,g.2.1],U,ha.same s1,by show 2<=1000; decide,gp,g6,λdp H2 s2 hdp edp=>?_⟩;obtain⟨I,G,exy,_,_,glow,_,gdot,gxl,gyl⟩:=jA gz;rw[exy] at edp;erw[sz1,λol hol=>?_];have O:=zC hol (.lst [.ref dp]);have wf:=W.few;refine⟨p,ol,_,_,U,U,O _ _ (s2 _ _ W.at'),zA,small (by simp only[ac]; show o.length+1<=1000; lia),λc hc=>?_⟩;have sc:=zC hc (.lst ((o.map (·.1)).map V.ref++[.ref dp]));have ec:upd (upd H2 ol (.lst [.ref dp])) c (.lst ((o.map (·.1)).map V.ref++[.ref dp])) c=Js (.lst (((o++[(dp,[I,G])]).map (·.1)).map V.ref)):=by rw[zA]; simp
 have R:Same H1 (upd (upd H2 ol (.lst [.ref dp])) c (.lst ((o.map (·.1)).map V.ref++[.ref dp]))):=s2.trans (O.trans sc);have L:=(O.trans sc) _ _ edp;generalize upd (upd H2 ol (.lst [.ref dp])) c (.lst ((o.map (·.1)).map V.ref++[.ref dp]))=H3 at sc ec R L ⊢;have s3:=s1.trans R;have each:∀ u∈o++[(dp,[I,G])],∃ x y:Int,u.2=[x,y]/\H3 u.1=Js 'q'/\l9 x.natAbs y.natAbs=1/\x.natAbs<=2*10^9/\y.natAbs<=2*10^9:=λu C=>by
  rcases m9.mp C with C | C
  ·have mk:u.2∈o.map (·.2):=Ab C;have wk:=(W.mem u.2).mp mk;obtain⟨x,y,e,ew⟩:=wk.dir nz;have z:=R _ _ (W.all u C);rw[e] at z;obtain⟨j,t,_,gt,S⟩:=wk;obtain⟨_,nt,c1,c2,_⟩:=ok t (f6 gt);have bd:x.natAbs<=2*10^9/\y.natAbs<=2*10^9:=by
    rcases S with ⟨S,_⟩ | ⟨S,_⟩
    ·obtain⟨N,M,e',_,_,_,_,_,l1,l2⟩:=jA (X:=-t.2.2.1) (Y:=t.2.1) (by lia);rw[e,e'] at S;cases S;lia
    ·obtain⟨N,M,e',_,_,_,_,_,l1,l2⟩:=jA (X:=t.2.2.1) (Y:=-t.2.1) (by lia);rw[e,e'] at S;cases S;lia
   rwa[x,y,e,z,ew.low,bd.1,bd.2]
  ·rw[e8] at C;subst C;rwa[I,G,rfl,L,glow,by lia,by lia]
 refine⟨c,U,.inl ⟨⟨_,SqL.of ec⟩,xE (K:=K) (a:=c) (xs:=((o++[(dp,[I,G])]).map (·.1)).map V.ref) (λi σ H'=>A3 (H3=H') (∀ j u x y,j<i->(o++[(dp,[I,G])])[j]?=Js u->u.2=[x,y]->0<g.1*x+g.2.1*y->vD m x y=Ju->False) (∃ u2:Option V,σ=[Js (.ref l),Js (.ref a),u2]))
  ⟨rfl,λj u x y J=>y9 J (AH _),Jt,rfl⟩ (λi σ H' _ hq'=>by obtain⟨e,_⟩:=hq'; rw[<- e]; rwa[SqL.of ec]) ?_ ?_⟩⟩
 ·rintro i v σ H' hi ⟨rfl,D,u2,rfl⟩;rw[e7,e7] at hi;cases gu:(o++[(dp,[I,G])])[i]? with
  | none=>rw[gu] at hi; cases hi
  | some u =>
   rw[gu] at hi;cases hi;obtain⟨x,y,exy',eu,lu,bx,by'⟩:=each u (f6 gu);have keep:(¬ (0<g.1*x+g.2.1*y/\vD m x y=Ju))->∀ j u' N M,j<i+1->(o++[(dp,[I,G])])[j]?=Js u'->u'.2=[N,M]->0<g.1*N+g.2.1*M->vD m N M=Ju->False:=λhno j u' N M J T e' h1 h2=>by
    by_cases ej:j=i
    ·rw[ej,gu] at T;cases T;rw[exy'] at e';cases e';rwa[hno ⟨h1,h2⟩]
    ·rwa[D j u' N M (by lia) T e' h1 h2]
   exists _,U,_,U,a,u.1,_,_,g.1,g.2.1,x,y,U,ha.same s3,.inr (SqT.of eu),U,U,U,U,by lia,by lia,_,_,U,U,_,rfl;erw[ifD (λhpos=>?_) (λhneg=>?_)]
   ·exists _,U,_,U,l,u.1,m,x,y,U,s3.seq hl,ok.same s3,.inr (SqT.of eu),_,rfl;by_cases r:vD m x y=Ju
    ·rw[r];erw[jD ?_];rwa[_,rfl,q u.1 x y _ s3 eu lu hpos r bx by']
    ·have hw':vD m x y=false:=by simpa using r
     rw[hw'];erw[vY ?_];rwa[rfl,keep (λz=>r z.2),_,rfl]
   ·erw[vY ?_];rwa[rfl,keep (λz=>hneg z.1),_,rfl]
 ·rintro σ H' ⟨rfl,D,u2,rfl⟩;have B:∀ u∈o++[(dp,[I,G])],∀ x y,u.2=[x,y]->0<g.1*x+g.2.1*y->vD m x y=Ju->False:=λu C x y e h1 h2=>by
   obtain⟨j,J,ej⟩:=AE C;rwa[D j u x y (by simp only[ac]; exact J) (by rw[d6 J,ej]) e h1 h2]
  erw[qn _ s3 (λt mt h hh d=>?_) (λd=>?_)]
  ·have nt:=nz t mt;have key:∀ X Y:Int,(X≠0\/Y≠0)->vD m X Y=Ju->uJ [X,Y]∈o.map (·.2)->g.1*X+g.2.1*Y<=0:=λX Y n r hm=>by
    obtain⟨x,y,e,gp',_⟩:=jA n;obtain⟨u,C,eu⟩:=o5.mp hm;have sc':=VC (a:=g.1) (b:=g.2.1) n e;by_cases c:g.1*X+g.2.1*Y<=0
    ·rwa[c]
    ·rw[<- sc'] at c;have p1:0<g.1*x+g.2.1*y:=vH (y:=(yC [X,Y]:Int)) (by lia) (by lia);have z:=be (ss:=m) gp';have e2:[X/(yC [X,Y]:Int),Y/(yC [X,Y]:Int)]=[x,y]:=e;cases e2;rw[r] at z;exact(B u (C3 _ C) _ _ (eu.trans e) p1 z).elim
   have gj:=C5 mt;obtain⟨j,gj⟩:=gj;have J:=(c9.mp gj).1;rcases hh with rfl | rfl
   ·have r:vD m (-t.2.2.1) t.2.1=true:=gc.mpr λs hs=>by
     have z:=d s hs;unfold tn at z;rw[t8,d8 s.2.1,d8 s.2.2.1];lia
    have z:=key _ _ (by lia) r ((W.mem _).mpr ⟨j,t,J,gj,.inl ⟨rfl,r⟩⟩);unfold tn;rw[t8,d8 g.1,d8 g.2.1] at z;lia
   ·have r:vD m t.2.2.1 (-t.2.1)=true:=gc.mpr λs hs=>by
     have z:=d s hs;unfold tn at z;rw[t8,d8 s.2.1,d8 s.2.2.1];lia
    have z:=key _ _ (by lia) r ((W.mem _).mpr ⟨j,t,J,gj,.inr ⟨rfl,r⟩⟩);unfold tn;rw[t8,d8 g.1,d8 g.2.1] at z;lia
  ·have r:vD m g.1 g.2.1=true:=gc.mpr d;have z:=be (ss:=m) gp;have e2:[g.1/(yC [g.1,g.2.1]:Int),g.2.1/(yC [g.1,g.2.1]:Int)]=[I,G]:=exy;cases e2;rw[r] at z;erw[B (dp,_) (t7 _ (e8.mpr rfl)) _ _ rfl ?_ z];rw[d8 g.1,d8 g.2.1];rwa[gdot]
abbrev Wt:=c5×Int×c5×Int×Int
abbrev SM(a:List Wt):List V:=(a.map (·.1)).map V.ref
def OF(H:Hp)(a:List Wt):Prop:=∀ t∈a,H t.1=Js (.tup [.int t.2.1,.ref t.2.2.1])/\H t.2.2.1=Js (.tup [.int t.2.2.2.1,.int t.2.2.2.2])
def OF.same{H c:Hp}(h:OF H a)(s:Same H c):OF c a:=λt b=>⟨s _ _ (h t b).1,s _ _ (h t b).2⟩
abbrev wtN(a:List Wt):List (Int×Int×Int):=a.map λt=>(t.2.1,t.2.2.2)
def NS(H:Hp)(c:List Sd)(g:P3)(Q:VK):Prop:=∀(f p D:c5)(P:P3)(b:List Wt)(a:Hp),Same H a->a f=Js (.tup [.str "far",.ref p,.ref D])->Uw a p P->inW c P->SU c P->H D=Jt->a D=Js (.lst (SM b))->OF a b->Far c g P (wtN b)->Q (.ref f) a
def wn(K:b8):Sp:=λd H Q _=>E4 λ(l a:c5) (b:List Sd) (g:P3)=>A10 (d=[.ref l,.ref a]) (SqL K H l (zY b)) (qb H b) (b.length<=400) (Sq K H a [.int g.1,.int g.2.1]) (g.1≠0\/g.2.1≠0) (g.1.natAbs<=2*10^9) (g.2.1.natAbs<=2*10^9) (∀ c:Hp,Same H c->(∀ t∈b,tn t.2 g=0->0<dt t.2 g->∀ P:P3,0<P.2.2->sv t.2 P=0->¬ inW b P)->Q .non c) (NS H b g Q)
def lE(F:Fun K "far_by_one" "far_by_one" vO f fd)(Z:Zs mg)(CB:Cb P w mg base)(yDc:Has P w K mg base "turn" 1 'i' (xF K))(yCk:Has P w K mg base "along" 1 'i' (qW K))(yCv:Has P w K mg base "part" 4 ["top","bottom"] (qY K))(yDa:Has P w K mg base "span" 1 ["direction"] (mP K))(yAg:Has P w K mg base "spot_on_edge" 7 ["sides","edge"] (vE K)):yI P w K mg base CX0 8 f fd 'x' (wn K):=by
 specialize uM
 ·obtain⟨l,a,c,g,rfl,_⟩:=h;rfl
 obtain⟨l,a,c,g,rfl,T,ok,hlen,ha,gz,m1,m2,qn,q⟩:=h
 refine'⟨_,(zB (xK r9 rfl (xB rfl Z.range ?_) (uG 2 uM.nd) (zB (zQ 3 uM.nd ?_)
   (zD (yM ?_ (zB (zQ 4 uM.nd ?_)
   (zD (yM ?_ (zD (zK ?_)) zU))) zU))))
   (zD (zK yf))),?_⟩
 nofun
 refine⟨_,U,l,_,U,.inl T,_,U,(by rw[zO]; lia),(by rw[zO]; lia),wC (lo:=0) (n:=(((zY c).length:Nat):Int).toNat) (λi L j=>A3 (Same H j) (∀ t∈c.take i,tn t.2 g=0->0<dt t.2 g->∀ P:P3,0<P.2.2->sv t.2 P=0->¬ inW c P) (E3 λ(u2 u3 M:Option V)=>L=[Js (.ref l),Js (.ref a),u2,u3,M]))
  ⟨Same.refl _,(λt O=>nomatch O),Jt,Jt,Jt,rfl⟩ ?_ ?_⟩
 ·rintro i L j hi ⟨b,e,u2,u3,M,rfl⟩;have X:i<c.length:=by rw[Ac,zO] at hi; rwa[hi]
  obtain⟨t,mt,gt,at'⟩:=xH (ss:=c) (i:=i) (k:=0+(i:Int)) (by lia) X;obtain⟨et0,N,c1,c2,c3⟩:=ok t mt;have J:Sq K j t.1 [.int t.2.1,.int t.2.2.1,.int t.2.2.2]:=.inr (SqT.of (b _ _ et0));have o:=ha.same b;exists _,U,_,U,l,_,_,_,U,U,.inl (b.seq T),at';exists _,U,_,U,t.1,a,_,_,t.2.1,t.2.2.1,g.1,g.2.1,U,J,o,U,U,U,U,by lia,by lia,U,_,rfl;have skip:∀ I:Hp,Same j I->(tn t.2 g=0->0<dt t.2 g->∀ P:P3,0<P.2.2->sv t.2 P=0->¬ inW c P)->(∀ u∈c.take (i+1),tn u.2 g=0->0<dt u.2 g->∀ P:P3,0<P.2.2->sv u.2 P=0->¬ inW c P):=λI _ S u B=>by
   rcases tV gt B with B | rfl
   ·rwa[e u B]
   ·rwa[S]
  erw[ifE (λh0=>?_) (λh0=>?_)]
  ·exists _,U,_,U,t.1,a,_,_,t.2.1,t.2.2.1,g.1,g.2.1,U,J,o,U,U,U,U,by lia,by lia,_,_,U,U,_,rfl;erw[ifD (λh1=>?_) (λh1=>?_)]
   ·have h0':tn t.2 g=0:=h0;have h1':0<dt t.2 g:=h1;erw[_,rfl,_,rfl,l,t.1,c,t.2,rfl,b.seq T,ok.same b,by lia,J,N,c1,c2,c3,λI r no=>?_,λp P I r ep wp on cd=>?_]
    ·exists _,U,U,_,rfl;erw[vY ?_];rwa[b.trans r,skip I r (λ_ _ P pw oP wP=>no P oP pw wP),_,_,_,rfl]
    ·exists _,U,U,_,rfl;erw[jD ?_];have pS:=qS N;have bS:yV t.2.1 t.2.2.1<=10^19:=BN (mF c1 c2) 'a';have bG:yV g.1 g.2.1<=10^19:=BN (mF m1 m2) 'a';refine⟨_,U,_,U,_,U,a,_,g.1,g.2.1,U,o.same r,U,U,_,U,t.1,_,t.2.1,t.2.2.1,U,J.same r,U,U,yV g.1 g.2.1,yV t.2.1 t.2.2.1,U,by lia,t6 (show(yV t.2.1 t.2.2.1).natAbs<=10^40 by lia) 'h',λpp x y H3 s3 hpp epp pt=>?_⟩;erw[sz2,λpr R=>?_];have C:=zC R (.tup [.int (0+(i:Int)),.ref pp]);erw[sz1,λD hD=>?_];have sD:=zC hD (.lst [.ref pr]);erw[sz3,λft Y=>?_];have m:=zC Y (.tup [.str "far",.ref p,.ref D]);have G:=r.trans s3;have d:=(C.trans sD).trans m;erw[q ft p D P [(pr,(i:Int),pp,x,y)] _ ((b.trans G).trans d) zA (ep.same (s3.trans d)) wp ?_ ((b.trans G).free (C.free hD)) (m _ _ zA) (λu B=>?_) (RD gt N gz h0' h1' pt bG bS on)]
     ·rcases cd with h | ⟨v,hv,O,h⟩
      ·rwa[.inr (.inl ⟨t,mt,h⟩)]
      ·rwa[.inr (.inr ⟨t,mt,v,hv,O,h⟩)]
     ·rw[e8] at B;subst B;erw[?_,d _ _ epp];erw[m _ _ (sD _ _ ?_)];rw[zA,Be]
   ·erw[b,skip j (Same.refl _) (λ_ z=>y9 z h1),_,_,_,rfl]
  ·erw[vY ?_];rwa[b,skip j (Same.refl _) (λz=>y9 z h0),_,_,_,rfl]
 ·rintro L j ⟨b,e,u2,u3,M,rfl⟩;rw[Ac,zO,v9] at e;rwa[qn j b e]
def gW{s t:P3}{m n:Nat}(a1:s.1.natAbs<=m)(a2:s.2.1.natAbs<=m)(b:t.1.natAbs<=n)(a:t.2.1.natAbs<=n):(tn s t).natAbs<=m*n+m*n:=by
 have d:=zE s.1 t.2.1 a1 a;have c:=zE s.2.1 t.1 a2 b;unfold tn;lia
def rC(K:b8):Sp:=λe H Q _=>E10 λ(l n a:c5) (b:List Sd) (g P:P3) (i j:Nat) (s t:Sd)=>A15 (e=[.ref l,.ref n,.ref a]) (SqL K H l (zY b)) (qb H b) (SqL K H n [.int i,.int j]) (Sq K H a [.int g.1,.int g.2.1]) (g.1.natAbs<=2*10^9) (g.2.1.natAbs<=2*10^9) (b[i]?=Js s) (b[j]?=Js t) (0<tn s.2 t.2) (0<tn g t.2) (0<tn s.2 g) (sv s.2 P=0) (sv t.2 P=0) (∀(D:c5)(d:List Wt)(c:Hp),Same H c->H D=Jt->c D=Js (.lst (SM d))->OF c d->Far b g P (wtN d)->Q (.ref D) c)
def su(F:Fun K "weights_of_two" "weights_of_two" xU f fd)(Z:Zs mg)(CB:Cb P w mg base)(yCv:Has P w K mg base "part" 4 ["top","bottom"] (qY K))(yDc:Has P w K mg base "turn" 1 'i' (xF K)):yI P w K mg base CX0 5 f fd ["sides","numbers","direction"] (rC K):=by
 specialize yU
 ·obtain⟨l,n,a,y,g,P,i,j,s,t,rfl,_⟩:=h;rfl
 obtain⟨l,n,a,y,g,P,i,j,s,t,rfl,hl,ok,T,ha,m1,m2,I,gt,hW,hA,hB,o1,o2,q⟩:=h;have hi:=(c9.mp I).1;have hj:=(c9.mp gt).1;obtain⟨_,ms,G,ats⟩:=xH (ss:=y) (i:=i) (k:=(i:Int)) rfl hi;rw[I] at G;cases G;obtain⟨_,mt,gt2,att⟩:=xH (ss:=y) (i:=j) (k:=(j:Int)) rfl hj;rw[gt] at gt2;cases gt2;obtain⟨es0,ns,c1,c2,c3⟩:=ok s ms;obtain⟨et0,nt,d1,d2,d3⟩:=ok t mt;have es:Sq K H s.1 [.int s.2.1,.int s.2.2.1,.int s.2.2.2]:=.inr (SqT.of es0);have et:Sq K H t.1 [.int t.2.1,.int t.2.2.1,.int t.2.2.2]:=.inr (SqT.of et0);have X:i≠j:=λz=>by
  rw[z,gt] at I;cases I;rw[bM] at hW;lia
 have bW:=gW (s:=s.2) (t:=t.2) c1 c2 d1 d2;have bA:=gW (s:=g) (t:=t.2) m1 m2 d1 d2;have bB:=gW (s:=s.2) (t:=g) c1 c2 m1 m2;have big:(tn s.2 t.2).natAbs<10^500:=t6 (show(tn s.2 t.2).natAbs<=10^40 by lia) 'h'
 refine'⟨_,(zB (zQ 3 yU.nd ?_)
   (zB (zQ 4 yU.nd ?_)
   (zB (zQ 5 yU.nd ?_)
   (zB (zQ 6 yU.nd ?_)
   (zD (zK (yK eA rfl Z.sorted tL ?_))))))),?_⟩
 nofun
 exists _,U,_,U,n,_,_,.int (i:Int),U,U,.inl T,U,l,_,_,_,U,U,.inl hl,ats;exists _,U,_,U,n,_,_,.int (j:Int),U,U,.inl T,U,l,_,_,_,U,U,.inl hl,att;erw[_,rfl,_,rfl,s.1,t.1,_,_,s.2.1,s.2.2.1,t.2.1,t.2.2.1,rfl,es,et,rfl,rfl,rfl,rfl,by lia,by lia,?_];erw[_,rfl,_,rfl,a,t.1,_,_,g.1,g.2.1,t.2.1,t.2.2.1,rfl,ha,et,rfl,rfl,rfl,rfl,by lia,by lia,_,rfl,tn g t.2,tn s.2 t.2,rfl,by lia,big,λp1 x1 y1 H1 M hp1 ep1 O=>?_];erw[_,rfl,_,rfl,s.1,a,_,_,s.2.1,s.2.2.1,g.1,g.2.1,rfl,es.same M,ha.same M,rfl,rfl,rfl,rfl,by lia,by lia,_,rfl,tn s.2 g,tn s.2 t.2,rfl,by lia,big,λp2 x2 y2 H2 s2 hp2 ep2 N=>?_];erw[sz2,λB S=>?_];have d:=zC S (.lst [.ref p1,.ref p2]);have x:upd H2 B (.lst [.ref p1,.ref p2]) B=Js (.lst [.ref p1,.ref p2]):=zA;generalize upd H2 B (.lst [.ref p1,.ref p2])=H3 at d x ⊢;have r:=(M.trans s2).trans d;have C:=r.seq T;erw[_,rfl,n,_,_,.int (i:Int),rfl,rfl,.inl C,rfl,_,rfl,B,_,_,.ref p1,rfl,rfl,.inl (SqL.of x),rfl,sz2,λa1 ha1=>?_];have m:=zC ha1 (.tup [.int (i:Int),.ref p1]);erw[_,rfl,n,_,_,.int (j:Int),rfl,rfl,.inl (m.seq C),rfl,_,rfl,B,_,_,.ref p2,rfl,rfl,.inl (SqL.of (m _ _ x)),rfl,sz2,λa2 Y=>?_];have e:=zC Y (.tup [.int (j:Int),.ref p2]);erw[sz2,λtl R=>?_];have b:=zC R (.lst [.ref a1,.ref a2]);erw[tl,a1,a2,(i:Int),(j:Int),_,_,rfl,SqL.of zA,b _ _ (e _ _ zA),b _ _ zA,by lia,λD hD=>?_];have L:=zC hD (.lst (if (j:Int)<(i:Int) then [.ref a2,.ref a1] else [.ref a1,.ref a2]));have p:=((m.trans e).trans b).trans L;have w1:=p _ _ (d _ _ (s2 _ _ ep1));have w2:=p _ _ (d _ _ ep2);have v1:=L _ _ (b _ _ (e _ _ (zA (H:=H3) (a:=a1) (o:=.tup [.int (i:Int),.ref p1]))));have v2:=L _ _ (b _ _ (zA (H:=upd H3 a1 (.tup [.int (i:Int),.ref p1])) (a:=a2) (o:=.tup [.int (j:Int),.ref p2])));have fr:=Qp (P:=P) I gt hW hA hB O N (by lia) (by lia) (by lia) o1 o2 X;have J:H D=none:=r.free (m.free (e.free (b.free hD)));by_cases c:j<i
 ·have c':(j:Int)<(i:Int):=by lia
  rw[y6 c] at fr;erw[q D [(a2,(j:Int),p2,x2,y2),(a1,(i:Int),p1,x1,y1)] _ (r.trans p) J (by rw[zA,y6 c']; rfl) (λu v=>?_) fr];rcases g9.mp v with rfl | v
  ·rwa[v2,w2]
  ·rw[e8] at v;subst v;rwa[v1,w1]
 ·have c':¬ (j:Int)<(i:Int):=by lia
  rw[y4 c] at fr;erw[q D [(a1,(i:Int),p1,x1,y1),(a2,(j:Int),p2,x2,y2)] _ (r.trans p) J (by rw[zA,y4 c']; rfl) (λu v=>?_) fr];rcases g9.mp v with rfl | v
  ·rwa[v1,w1]
  ·rw[e8] at v;subst v;rwa[v2,w2]
def Rl(a:List Sd)(g:P3)(b:List Sd):Prop:=∀ t∈b,0<tn t.2 g->∃ e∈a,0<tn t.2 e.2/\(∀ u∈a,0<tn t.2 u.2->sv u.2 (pt3 (crL t.2 e.2))<=0)/\¬ (0<tn g e.2/\inW a (pt3 (crL t.2 e.2)))
def yc(K:b8):Sp:=λd H Q _=>E4 λ(l a:c5) (b:List Sd) (g:P3)=>A10 (d=[.ref l,.ref a]) (SqL K H l (zY b)) (qb H b) (b.length<=400) (Sq K H a [.int g.1,.int g.2.1]) (g.1.natAbs<=2*10^9) (g.2.1.natAbs<=2*10^9) (OH b g) (∀ c:Hp,Same H c->Rl b g b->Q .non c) (NS H b g Q)
def jl(F:Fun K "far_by_two" "far_by_two" vW f fd)(Z:Zs mg)(CB:Cb P w mg base)(yDc:Has P w K mg base "turn" 1 'i' (xF K))(yBo:Has P w K mg base "in_water" 3 ["sides","place"] (sR K))(yAa:Has P w K mg base "weights_of_two" 5 ["sides","numbers","direction"] (rC K))(yBn:Has P w K mg base "crossing" 4 'i' (sN K))(yBs:Has P w K mg base "edge_end" 5 ["sides","edge","hand"] (sM K)):yI P w K mg base CX0 6 f fd 'x' (yc K):=by
 specialize wA
 ·obtain⟨l,a,b,g,rfl,_⟩:=h;rfl
 obtain⟨l,a,b,g,rfl,C,ok,hlen,ha,m1,m2,nw,qn,q⟩:=h
 refine'⟨_,(zB (xK r9 rfl (xB rfl Z.range ?_) (uG 2 wA.nd) (zB (zQ 3 wA.nd ?_)
   (zD (yM ?_ (zB (zQ 4 wA.nd ?_)
   (zB (zQ 5 wA.nd ?_)
   (zD (yM ?_ (zD (zK ?_)) zU)))) zU))))
   (zD (zK yf))),?_⟩
 nofun
 refine⟨_,U,l,_,U,.inl C,_,U,(by rw[zO]; lia),(by rw[zO]; lia),wC (lo:=0) (n:=(((zY b).length:Nat):Int).toNat) (λi S N=>A3 (Same H N) (Rl b g (b.take i)) (E4 λ(u2 u3 X T:Option V)=>S=[Js (.ref l),Js (.ref a),u2,u3,X,T]))
  ⟨Same.refl _,(λt ht=>nomatch ht),Jt,Jt,Jt,Jt,rfl⟩ ?_ ?_⟩
 ·rintro i S N hi ⟨x,m,u2,u3,X,T,rfl⟩;have hil:i<b.length:=by rw[Ac,zO] at hi; rwa[hi]
  obtain⟨t,mt,gt,at'⟩:=xH (ss:=b) (i:=i) (k:=0+(i:Int)) (by lia) hil;obtain⟨et0,nt,c1,c2,c3⟩:=ok t mt;have et:Sq K N t.1 [.int t.2.1,.int t.2.2.1,.int t.2.2.2]:=.inr (SqT.of (x _ _ et0));have ha':=ha.same x;exists _,U,_,U,l,_,_,_,U,U,.inl (x.seq C),at';exists _,U,_,U,t.1,a,_,_,t.2.1,t.2.2.1,g.1,g.2.1,U,et,ha',U,U,U,U,by lia,by lia,_,_,U,U,_,rfl;erw[ifD (λh0=>?_) (λh0=>?_)]
  ·have h0':0<tn t.2 g:=h0;erw[_,rfl,_,rfl,l,t.1,b,t.2,1,rfl,x.seq C,ok.same x,by lia,et,nt,c1,c2,c3,.inl rfl,λr H1 s1 k1=>?_];cases r with
   | none =>
    have:=nw t mt 1 (.inl rfl) k1;lia
   | some j =>
    obtain⟨e,ge,he,hb⟩:=k1;have I:0<tn t.2 e.2:=by lia
    have hj:=(c9.mp ge).1;obtain⟨_,me,J,M⟩:=xH (ss:=b) (i:=j) (k:=(j:Int)) rfl hj;rw[ge] at J;cases J;obtain⟨ee0,ne,d1,d2,d3⟩:=ok e me;have y:=x.trans s1;have ee:Sq K H1 e.1 [.int e.2.1,.int e.2.2.1,.int e.2.2.2]:=.inr (SqT.of (y _ _ ee0));have et1:=et.same s1;refine⟨_,U,_,U,_,U,l,_,_,_,U,U,.inl (y.seq C),M,t.1,e.1,t.2.1,t.2.2.1,t.2.2.2,e.2.1,e.2.2.1,e.2.2.2,U,et1,ee,by lia,by lia,by lia,by lia,by lia,λz=>y9 z (show tn t.2 e.2≠0 by lia),λ_ p H2 s2 hp ep=>?_⟩;obtain⟨Y,o1,o2⟩:=uA (show tn t.2 e.2≠0 by lia);have L:Uw H2 p (pt3 (crL t.2 e.2)):=by
     erw[?_,Y.pos,Y.low];have z:H2 p=Js (.tup ((crL t.2 e.2).map V.int)):=ep;rw[z,Y.list];rfl
    have c:=y.trans s2;have keep:¬ (0<tn g e.2/\inW b (pt3 (crL t.2 e.2)))->Rl b g (b.take (i+1)):=λhno u B R=>by
     rcases tV gt B with B | rfl
     ·rwa[m u B R]
     ·rwa[e,me,I,λv hv hp=>hb v hv (by lia),hno]
    exists _,U,_,U,_,U,l,_,_,_,U,U,.inl (c.seq C),M,a,e.1,_,_,g.1,g.2.1,e.2.1,e.2.2.1,U,ha.same c,ee.same s2,U,U,U,U,by lia,by lia,_,_,U,U,_,rfl;erw[ifD (λh1=>?_) (λh1=>?_)]
    ·have h1':0<tn g e.2:=h1;exists _,U,_,U,l,p,b,pt3 (crL t.2 e.2),U,c.seq C,ok.same c,.inr (SqT.of L.1),_,rfl;by_cases O:Xq b (pt3 (crL t.2 e.2))=Ju
     ·rw[O];erw[jD ?_];erw[_,rfl,_,rfl,_,rfl,_,rfl,sz2,λnl hnl=>?_];have G:=zC hnl (.lst [.int (0+(i:Int)),.int (j:Int)]);have enl:upd H2 nl (.lst [.int (0+(i:Int)),.int (j:Int)]) nl=Js (.lst [.int (i:Int),.int (j:Int)]):=by rw[zA,Be]
      have d:=c.trans G;erw[_,rfl,l,nl,a,b,g,pt3 (crL t.2 e.2),i,j,t,e,rfl,d.seq C,ok.same d,SqL.of enl,ha.same d,m1,m2,gt,ge,I,h1',h0',o1,o2,λD ws H4 s4 hD eD okw fr=>?_];erw[sz3,λft hft=>?_];have o:=zC hft (.tup [.str "far",.ref p,.ref D]);erw[q ft p D (pt3 (crL t.2 e.2)) ws _ ((d.trans s4).trans o) zA ((L.same (G.trans s4)).same o) (zk.mp O) (.inr (.inr ⟨t,mt,e,me,by lia,rfl⟩)) (d.free hD) (o _ _ eD) (okw.same o) fr]
     ·have hw':Xq b (pt3 (crL t.2 e.2))=false:=by simpa using O
      rw[hw'];erw[vY ?_];rwa[c,keep (λz=>O (zk.mpr z.2)),_,_,_,_,rfl]
    ·erw[vY ?_];rwa[c,keep (λz=>h1 z.1),_,_,_,_,rfl]
  ·erw[x,λu B R=>?_,_,_,_,_,rfl];rcases tV gt B with B | rfl
   ·rwa[m u B R]
   ·rwa[y9 R h0]
 ·rintro S N ⟨x,m,u2,u3,X,T,rfl⟩;rw[Ac,zO,v9] at m;rwa[qn N x m]
def RcO(a:List Sd)(g:P3)(H:Hp)(t:c5):Prop :=
 (∃(p:c5)(v:V)(P:P3),H t=Js (.tup [.str "far",.ref p,v])/\H p=Js (.tup [.int P.1,.int P.2.1,.int P.2.2])/\0<P.2.2/\inW a P/\(P.1.natAbs<=10^40/\P.2.1.natAbs<=10^40/\P.2.2.natAbs<=10^40)/\∀ z:P3,0<z.2.2->inW a z->(g.1*z.1+g.2.1*z.2.1)*P.2.2<=(g.1*P.1+g.2.1*P.2.1)*z.2.2) \/
 (∃ v:V,H t=Js (.tup [.str "none",v])/\∀ z:P3,0<z.2.2->¬ inW a z) \/
 ∃(v:V)(Z:P3)(x y:Int),H t=Js (.tup [.str "open",v])/\0<Z.2.2/\inW a Z/\0<g.1*x+g.2.1*y/\vD a x y=Ju
def Oa{H:Hp}{b:List Sd}{Q:VK}(n:∀ t∈b,(t.2.1≠0\/t.2.2.1≠0)/\t.2.1.natAbs<=10^9/\t.2.2.1.natAbs<=10^9/\t.2.2.2.natAbs<=10^13)(h:∀ (t:c5) (a:Hp),Same H a->RcO b g a t->Q (.ref t) a) :
  (∀(t D:c5)(d:List Pr)(a:Hp),Same H a->a t=Js (.tup [.str "none",.ref D])->H D=Jt->a D=Js (.lst (uq d))->Ud a d->aP b (d.map (·.2))->Q (.ref t) a) /\
  (∀(t p:c5)(x y:Int)(Z:P3)(a:Hp),Same H a->a t=Js (.tup [.str "open",.ref p])->a p=Js 'q'->l9 x.natAbs y.natAbs=1->0<g.1*x+g.2.1*y->vD b x y=Ju->x.natAbs<=2*10^9->y.natAbs<=2*10^9->0<Z.2.2->inW b Z->SU b Z->Q (.ref t) a)/\NS H b g Q :=
 ⟨λt D d a s e _ _ _ r=>h t a s (.inr (.inl ⟨_,e,λz c=>r.no z c⟩)),λt p x y v a s e _ _ q o _ _ c i _=>h t a s (.inr (.inr ⟨_,v,x,y,e,c,i,q,o⟩)),λt p D P A a s e j m u _ _ _ l=>h t a s (.inl ⟨p,_,P,e,j.1,j.2.1,m,u.small n,λz c i=>l.most c j.2.1 i⟩)⟩
def ii(K:b8):Sp:=λd H Q _=>E4 λ(l a:c5) (b:List Sd) (g:P3)=>A9 (d=[.ref l,.ref a]) (SqL K H l (zY b)) (qb H b) (b.length<=400) (Sq K H a [.int g.1,.int g.2.1]) (g.1≠0\/g.2.1≠0) (g.1.natAbs<=2*10^9) (g.2.1.natAbs<=2*10^9) (∀(t:c5)(c:Hp),Same H c->RcO b g c t->Q (.ref t) c)
def Ym(F:Fun K "reach" "reach" pJ f fd)(Z:Zs mg)(CB:Cb P w mg base)(yAw:Has P w K mg base "far_by_one" 8 'x' (wn K))(yAz:Has P w K mg base "far_by_two" 6 'x' (yc K))(yAx:Has P w K mg base "way_onward" 5 'x' (xx K))(yCm:Has P w K mg base "clash" 9 ["sides"] (iu K)):yI P w K mg base CX0 10 f fd 'x' (ii K):=by
 specialize oC
 ·obtain⟨l,a,m,g,rfl,_⟩:=h;rfl
 obtain⟨l,a,m,g,rfl,r,ok,d,L,gz,J,I,qr⟩:=h;obtain⟨qc,qo,S⟩:=Oa (λt j=>(ok t j).2) qr;have nz:∀ t∈m,t.2.1≠0\/t.2.2.1≠0:=λt j=>(ok t j).2.1
 refine'⟨_,(zB (zQ 2 oC.nd ?_)
   (zB (yM ?_ (zD (zK ?_)) zU)
   (zB (zQ 3 oC.nd ?_)
   (zB (yM ?_ (zD (zK ?_)) zU)
   (zD (zK (Nd ?_ (VB ?_)))))))),?_⟩
 nofun
 erw[_,rfl,l,m,rfl,r,ok,by lia,λP0 H1 e T wp cp=>?_,λD cs H1 e n q G cl=>?_]
 ·exists _,U,U,_,rfl;erw[vY ?_];erw[_,rfl,_,rfl,l,a,m,g,rfl,e.seq r,ok.same e,d,L.same e,gz,J,I,λH2 C nw nl=>?_,λp x y H2 C o low pos hw bx O=>?_]
  ·exists _,U,U,_,rfl;erw[vY ?_];have b:=e.trans C;erw[_,rfl,_,rfl,l,a,m,g,rfl,b.seq r,ok.same b,d,L.same b,gz,J,I,λY B b1=>?_,λM p D P v Y B u o z N n q i fr=>?_]
   ·exists Jv,rfl;erw[vY ?_];have c:=b.trans B;erw[_,rfl,_,rfl,l,a,m,g,rfl,c.seq r,ok.same c,d,L.same c,J,I,nw,λX R b2=>?_,λM p D P v X R u o z N n q i fr=>?_]
    ·exact(Pk ⟨nz,gz,nw,nl,b1⟩ b2 T wp).elim
    ·rwa[S M p D P v X (c.trans R) u o z N (c.free n) q i fr]
   ·exists Ju,.inr (.inl ⟨_,SqT.of u,U⟩);erw[jD ?_];rwa[S M p D P v Y (b.trans B) u o z N (b.free n) q i fr]
  ·exists _,U,U,_,rfl;erw[jD ?_];erw[_,rfl,sz2,λt j=>?_];have st:=zC j (.tup [.str "open",.ref p]);rwa[qo t p x y P0 _ ((e.trans C).trans st) zA (st _ _ o) low pos hw bx O T wp cp]
 ·exists _,U,U,_,rfl;erw[jD ?_];erw[_,rfl,sz2,λt j=>?_];have st:=zC j (.tup [.str "none",.ref D]);rwa[qc t D cs _ (e.trans st) zA n (st _ _ q) (G.same st) cl]
def yn(K:b8):Sp:=λb H Q _=>b=[]/\∀(d:c5)(a:Hp),Same H a->H d=Jt->cW a d BS.nil->Q (.ref d) a
def nO(F:Fun K "nothing_yet" "nothing_yet" uR f fd)(Z:Zs mg)(J:Cb P w mg base)  : yI P w K mg base CX0 1 f fd [] (yn K):=by
 specialize nP
 ·obtain⟨rfl,_⟩:=h;rfl
 obtain⟨rfl,q⟩:=h
 refine'⟨_,zD ?h,?_⟩
 rotate_left
 with_reducible refine' zK ?_
 rotate_left
 with_reducible exact az (wL zV qD (wL zV qD (wL zV qD (wL zV qD (wL zV yF bN))))) rfl rfl (λz=>nomatch z) 'a'
 try dsimp only[L2.cxOf]
 intro p j m u b v r hr n l;have y:=zC j (.dK []);have i:=zC u (.dK []);have g:=zC v (.dK []);have d:=zC hr (.dK []);have a:=zC l (.dK []);have em:=(g.trans (d.trans a)) _ _ zA;have I:=(d.trans a) _ _ zA;have D:=a _ _ zA;have G:=(i.trans (g.trans (d.trans a))) _ _ zA;exists G,[(.inr "marks",.ref m),(.inr "banks",.ref b),(.inr "runs",.ref r),(.inr "notes",.ref n),(.inr "coming",.int 1)],U,(show 5<=15 by decide);rw[TN];have ne:∀{x:c5},(upd H p (.dK [])) x=Jt->x≠p:=λ{x} h z=>by rw[z,zA] at h; cases h
 have nb:=ne (i.free v);have B:=ne (i.free (g.free hr));have C:=ne (i.free (g.free (d.free l)));erw[q p _ (λc o e=>?_) j ⟨m,b,r,n,.inl zA,.nil ?_,.nil ?_,.nil ?_,.nil ?_⟩]
 ·rw[zH (zI e j)];exact(y.trans (i.trans (g.trans (d.trans a)))) c o e
 ·rw[zH (ne u)]; rwa[em]
 ·rw[zH nb]; rwa[I]
 ·rw[zH B]; rwa[D]
 ·rw[zH C]; rwa[zA]
def rX(K:b8):Sp:=λi H Q _=>E7 λ(d a:c5) (kind:i9) (e:Key) (v:V) (b h:List (Key×V))=>A7 (i=[.ref d,.str kind,kV e,v]) (Rd H d (.dK b)) (sV b (.inr kind)=Js (.ref a)) (Rd H a (.dK h)) (b.length<=100) (h.length<=100) (∀(f c:c5)(g:Hp),Same H g->H f=Jt->f≠c->g f=Js (.dK (rV b (.inr kind) (.ref c)))->g c=Js (.dK (rV h e v))->Q (.ref f) g)
def dX(F:Fun K "changed" "changed" ze f fd)(Z:Zs mg)(J:Cb P w mg base)  : yI P w K mg base CX0 1 f fd ["state","kind","key","value"] (rX K):=by
 specialize nh
 ·obtain⟨d,a,kind,m,v,g,j,rfl,_⟩:=h;rfl
 obtain⟨d,a,kind,m,v,g,j,rfl,hd,B,z,I,G,q⟩:=h
 refine'⟨_,(zB (zQ 4 nh.nd ?_)
   (zB (vG (yD hr) (pv 4) (pv 1) (xY xa rfl Z.dict oG (zG (zS (yD hr) (pv 0) (pv 1) 'e') zL)) rfl)
   (zB (vG (yD hr) (zS (yD hr) (pv 4) (pv 1) 'e') (pv 2) (pv 3) rfl)
   (zD (zK (pv 4)))))),?_⟩
 nofun
 erw[_,rfl,d,g,rfl,hd,λp n=>?_];have l:=zC n (.dK g);have r:Rd (upd H p (.dK g)) d (.dK g):=hd.imp (l _ _) λ⟨o,e⟩=>⟨o,l _ _ e⟩;have x:Rd (upd H p (.dK g)) a (.dK j):=z.imp (l _ _) λ⟨o,e⟩=>⟨o,l _ _ e⟩;erw[_,rfl,_,rfl,d,.ref a,rfl,.inl ⟨g,.inr kind,r,rfl,B.symm⟩,a,j,rfl,x,λc u=>?_];have i:p≠c:=zI zA u;have y:=zC u (.dK j);have D:upd (upd H p (.dK g)) c (.dK j) p=Js (.dK g):=y _ _ zA;exists _,U,_,U,p,_,U,iA.k (k:=.inr kind) D (zM (by lia));have C:upd (upd (upd H p (.dK g)) c (.dK j)) p (.dK (rV g (.inr kind) (.ref c))) c=Js (.dK j):=by rw[zH i.symm,zA]
 erw[_,rfl,_,rfl,_,rfl,p,.ref c,rfl,.inl ⟨_,.inr kind,.inl zA,rfl,?_⟩,_,rfl,c,_,rfl,iA.k C (zM (by lia)),_,rfl,?_]
 ·rw[gK,y6 rfl]
 erw[q p c _ (λb o e=>?_) n i ?_ zA]
 ·have n1:=zI e n;have n2:=zI (l _ _ e) u;rw[zH n2,zH n1,zH n2,zH n1];rwa[e]
 ·rw[zH i,zA]
def de(ns:List Int)(m:Int):Bool:=ns.all λn=>decide (-m<=n)&&decide (n<=m)
def yu(K:b8):Sp:=λc H Q _=>E3 λ(a:c5) (ns:List Int) (m:Int)=>A4 (c=[.ref a,.int m]) (H a=Js (.tup (ns.map V.int))) (ns.length<=100) (∀ b,Same H b->Q (.bl (de ns m)) b)
def aI(F:Fun K "within" "within" we f fd)(Z:Zs mg)(I:Cb P w mg base)  : yI P w K mg base CX0 1 f fd ["numbers","most"] (yu K):=by
 specialize aE
 ·obtain⟨a,ns,m,rfl,_⟩:=h;rfl
 obtain⟨a,ns,m,rfl,z,G,q⟩:=h
 refine'⟨_,(zD (zK (yK (jf rfl) rfl Z.all XT (zG (wN (T:=["number"]) (caps:=[("most",1)]) ⟨rfl,by ac_nf,by ac_nf,rfl,⟨⟨rfl,rfl,BW rfl⟩,Ao⟩⟩ rfl (xL (pv 0)) (λ_=>(uG 0 (show(["number","most"]:List i9).Nodup by ac_nf))) (λ_=>xM) (λ_=>(Zh Um Um ?_ (pv 0) (pv 1)))) zL)))),?_⟩
 nofun
 refine⟨_,U,a,U,.inr ⟨⟨_,SqT.of z⟩,λc D y=>?_⟩⟩;refine lg (K:=K) (a:=a) (xs:=ns.map V.int) (λi o g l=>A4 (Same H l) (l D=Js (.lst g)) (g=((ns.take i).map λn=>decide (-m<=n)&&decide (n<=m)).map V.bl) (∃ u:Option V,o=[u,Js (.int m)]))
  ⟨zC y _,zA,rfl,Jt,rfl⟩ (λi o g l _ v=>by obtain⟨d,e,_⟩:=v; rwa[SqT.of (d _ _ z),e]) ?_ ?_
 ·rintro i x o g l hi ⟨d,p,rfl,u,rfl⟩;obtain⟨n,B,rfl⟩:=uF hi;have C:=(c9.mp B).1;have len:(((ns.take i).map λn=>decide (-m<=n)&&decide (n<=m)).map V.bl).length<sizeLine:=zM (by rw[ac,ac,o3]; lia);have j:∀ b:Bool,b=(decide (-m<=n)&&decide (n<=m))->((ns.take i).map λn=>decide (-m<=n)&&decide (n<=m)).map V.bl++[V.bl b]=((ns.take (i+1)).map λn=>decide (-m<=n)&&decide (n<=m)).map V.bl:=λb e=>by
   rw[Az,B,e,g5,g5];rfl
  exists _,U,_,U,_,U,_,_,U,U,_,rfl;erw[ite2 (λh1=>?_) (λh1=>?_)]
  ·rwa[_,rfl,_,_,rfl,rfl,p,len,d.putNew y,zA,j _ (by rw[h1,Bool.true_and]),_,rfl]
  ·rwa[p,len,d.putNew y,zA,j _ (by rw[eq_false_of_ne_true h1,HE]),_,rfl]
 ·rintro o g l ⟨d,p,rfl,u,rfl⟩;exists D,_,U,SqL.of p;have r:=q _ d;rw[ac,v9,DJ];rwa[r]
def xc(K:b8):Sp:=λb H Q _=>∃ x:i9,A3 (b=[.str x]) (qE x) (∀ a,Same H a->Q .non a)
def Rz(a c:Nat):(!decide ((⟨#[c]⟩:i9).cps.toList<(⟨#[a]⟩:i9).cps.toList))=decide (a<=c):=by
 have e:([c]<[a])↔c<a:=by
  rw[List.cons_lt_cons_iff];simp
 show(!decide ([c]<[a]))=_;by_cases h:c<a
 ·rw[y7 (e.mpr h),y8 (by lia)];rfl
 ·rw[y8 (λz=>h (e.mp z)),y7 (by lia)];rfl
def kD(F:Fun K "check_name" "check_name" vZ f fd)(Z:Zs mg)(J:Cb P w mg base)  : yI P w K mg base CX0 1 f fd ["name"] (xc K):=by
 specialize jk
 ·obtain⟨x,rfl,_⟩:=h;rfl
 obtain⟨x,rfl,⟨h1,h8,y⟩,q⟩:=h;exists _,(zD (yM (PW.pt (bO (yS UQ (yK nv rfl Z.len ux (zG (pv 0) zL)) yF (tM _)) (bO (yS VE (yK nv rfl Z.len ux (zG (pv 0) zL)) (Zj J.LONGEST_NAME) (tM _)) (ik (eI (dw (yK (jf rfl) rfl Z.all XT (zG (wN (T:=["letter"]) (caps:=[]) ⟨rfl,by ac_nf,by ac_nf,rfl,Ao⟩ rfl (NF (pv 0)) (λ_=>(lV (i:=0) (show(["letter"]:List i9).Nodup by ac_nf) rfl (BW rfl))) (λ_=>xM) (λ_=>(Zh dm dm zV (pv 0) zV))) zL)))))))) (zD sF) zU))
 try dsimp only[L2.cxOf,L2.cxComp,L2.Cx.nox,iW,iB]
 have r:x.length<=sizeLine:=d9 h8 'a';exists _,U,x,U,r,_,_,U,U,_,rfl;refine ifD (λz=>y9 z (by lia)) (λ_=>?_);exists _,U,x,U,r,_,_,U,U,_,rfl;refine ifD (λz=>y9 z (by lia)) (λ_=>?_);have p:x.cps.all (· < 128)=true:=by
  rw[Array.all_eq_true'];intro c G;have:=y c (FR.mpr G);rwa[y7 (by lia)]
 refine⟨_,U,x,U,p,λc D B=>?_⟩;refine RZ (xs:=cH x) (λi d a b=>A5 (Same H b) (b D=Js (.lst a)) (a=(Cy i Ju).map V.bl) (i<=x.length) (∃ g:Option V,d=[g]))
  ⟨zC B _,zA,rfl,Aa _,Jt,rfl⟩ (λi d a b l=>by obtain⟨_,e,_⟩:=l; rwa[Ao,e]) ?_ ?_
 ·rintro i v d a b hi ⟨j,o,rfl,I,g,rfl⟩;unfold cH at hi;rw[e7,x6] at hi;obtain⟨n,C,rfl⟩:=hi;have u:=y n (f6 C);have m:i<x.length:=by
   have:=(c9.mp C).1;rw[Ay] at this;rwa[this]
  exists _,U,_,_,U,U,_,rfl;rw[show(!decide (((⟨#[n]⟩:i9).cps.toList)<(("a" : i9).cps.toList)))=Ju from(Rz 97 n).trans (y7 u.1)];erw[jD ?_];erw[_,_,rfl,rfl,o,zM (by rw[ac,BH]; lia),j.putNew B,zA,?_,m,_,rfl];rw[show(!decide ((("z" : i9).cps.toList)<((⟨#[n]⟩:i9).cps.toList)))=Ju from(Rz n 122).trans (y7 u.2),List.replicate_succ',g5];rfl
 ·rintro d a b ⟨j,o,rfl,_,g,rfl⟩;exists D,_,U,SqL.of o,_,rfl;rw[show(Cy (cH x).length Ju).all id=Ju from by simp];erw[vY ?_];rwa[q _ j]
def ww(K:b8):Sp:=λe H Q _=>E6 λ(d a:c5) (kind:i9) (n:i9) (b c:List (Key×V))=>A6 (e=[.ref d,.str kind,.str n]) (Rd H d (.dK b)) (sV b (.inr kind)=Js (.ref a)) (Rd H a (.dK c)) (sV c (.inr n)=Jt) (Q .non H)
def kE(F:Fun K "check_free" "check_free" vU f fd)(Z:Zs mg)(j:Cb P w mg base)  : yI P w K mg base CX0 1 f fd ["state","kind","name"] (ww K):=by
 specialize mW
 ·obtain⟨d,a,kind,n,b,c,rfl,_⟩:=h;rfl
 obtain⟨d,a,kind,n,b,c,rfl,hd,i,e,g,q⟩:=h;exists _,(zD (yM (Sc (PQ (yD hr) (pv 2) (zS (yD hr) (pv 0) (pv 1) 'e')) (by with_unfolding_all rfl)) (zD sF) zU))
 try dsimp only[L2.cxOf,L2.cxComp,L2.Cx.nox,iW,iB]
 exists _,U,_,U,_,U,d,.ref a,U,.inl ⟨b,.inr kind,hd,U,i.symm⟩,a,_,U,.inl ⟨c,.inr n,e,U,U⟩,_,rfl;rw[g];rwa[vY q]
def yo(K:b8):Sp:=λc H Q _=>E3 λ(a:c5) (x y:Int)=>A4 (c=[.ref a]) (H a=Js 'q') (pY (x,y)) (∀ b,Same H b->Q .non b)
def VR{x y:Int}(h:pY (x,y)):de [x,y] 1000=true:=by
 obtain⟨h1,h2,h3,h4⟩:=h;simp only[de,Fe,IR,Iy,AG,decide_eq_true_eq];rwa[⟨h1,h2⟩,h3,h4]
def nV(F:Fun K "check_place" "check_place" uK f fd)(Z:Zs mg)(i:Cb P w mg base)(b:Has P w K mg base "within" 1 ["numbers","most"] (yu K)):yI P w K mg base CX0 2 f fd ["place"] (yo K):=by
 specialize nH
 ·obtain⟨a,x,y,rfl,_⟩:=h;rfl
 obtain⟨a,x,y,rfl,e,d,q⟩:=h;exists _,(zD (yM (eI (dw (zZ b 'f' rfl (zG (pv 0) (zG (Zj i.FARTHEST) zL))))) (zD sF) zU))
 try dsimp only[L2.cxOf,L2.cxComp,L2.Cx.nox,iW,iB]
 refine⟨_,U,a,[x,y],1000,U,e,(by show 2<=100; decide),λg c=>⟨_,rfl,?_⟩⟩;rw[VR d];rwa[vY (q g c)]
def ur(K:b8):Sp:=λc H Q _=>E3 λ(a:c5) (x y:Int)=>A4 (c=[.ref a]) (H a=Js 'q') (pY (x,y)) (∀ b,Same H b->Q .non b)
def jV(F:Fun K "check_run" "check_run" sQ f fd)(Z:Zs mg)(i:Cb P w mg base)(b:Has P w K mg base "within" 1 ["numbers","most"] (yu K)):yI P w K mg base CX0 2 f fd ["run"] (ur K):=by
 specialize jJ
 ·obtain⟨a,x,y,rfl,_⟩:=h;rfl
 obtain⟨a,x,y,rfl,e,d,q⟩:=h;exists _,(zD (yM (eI (dw (zZ b 'f' rfl (zG (pv 0) (zG (Zj i.FARTHEST) zL))))) (zD sF) zU))
 try dsimp only[L2.cxOf,L2.cxComp,L2.Cx.nox,iW,iB]
 refine⟨_,U,a,[x,y],1000,U,e,(by show 2<=100; decide),λg c=>⟨_,rfl,?_⟩⟩;rw[VR d];rwa[vY (q g c)]
def uO(K:b8):Sp:=λg H Q _=>E6 λ(d a:c5) (kind:i9) (b e:List (Key×V)) (c:Int)=>A7 (g=[.ref d,.str kind]) (Rd H d (.dK b)) (sV b (.inr kind)=Js (.ref a)) (Rd H a (.dK e)) (sV OB (.inr kind)=Js (.int c)) ((e.length:Int)<c) (Q .non H)
def jo(F:Fun K "check_room" "check_room" vR f fd)(Z:Zs mg)(g:Cb P w mg base)  : yI P w K mg base CX0 1 f fd ["state","kind"] (uO K):=by
 specialize kh
 ·obtain⟨d,a,kind,b,e,c,rfl,_⟩:=h;rfl
 obtain⟨d,a,kind,b,e,c,rfl,hd,j,i,em,l,q⟩:=h;exists _,(zD (yM (yS RT (yK pN rfl Z.len ux (zG (zS (yD hr) (pv 0) (pv 1) 'e') zL)) (UC g.dMOST g.gMOST (pv 1)) (tM _)) (zD sF) zU))
 try dsimp only[L2.cxOf,L2.cxComp,L2.Cx.nox,iW,iB]
 exists _,U,_,U,d,.ref a,U,.inl ⟨b,.inr kind,hd,U,j.symm⟩,a,e,U,i,_,U,.inr kind,.int c,U,em,_,_,U,U,_,rfl;rwa[ifD (λz=>y9 z (by lia)) (λ_=>q)]
def rF(K:b8):Sp:=λa H Q _=>E7 λ(d m b r n:c5) (S:BS) (x:i9)=>A4 (a=[.ref d,.str x]) (StA H d m b r n S) ((zT S x).isSome=Ju) (Q .non H)
def mK(F:Fun K "check_mark" "check_mark" vX f fd)(Z:Zs mg)(i:Cb P w mg base)  : yI P w K mg base CX0 1 f fd ["state","name"] (rF K):=by
 specialize kA
 ·obtain⟨d,m,b,r,n,S,x,rfl,_⟩:=h;rfl
 obtain⟨d,m,b,r,n,S,x,rfl,st,e,q⟩:=h;obtain⟨a,g,c⟩:=st.ma;exists _,(zD (yM (Sc (VY (yD hr) (pv 1) 'l') (by with_unfolding_all rfl)) (zD sF) zU))
 try dsimp only[L2.cxOf,L2.cxComp,L2.Cx.nox,iW,iB]
 exists _,U,_,U,d,.ref m,U,.inl ⟨_,.inr "marks",st.at_,U,yw.symm⟩,m,_,U,.inl ⟨a,.inr x,g,U,U⟩,_,rfl;rw[c.isSome,jx,CV,e];rwa[vY q]
def offM(n:Nat)(m:Int):Prop:=(m<0\/(n:Int)<m)/\m.natAbs.log2<1920
def xG(K:b8):Sp:=λc H Q E=>E3 λ(a:c5) (m:Int) (n:Nat)=>A3 (c=[.int m,.ref a]) ((∃ xs,SqL K H a xs/\xs.length=n)\/∃ b,Rd H a (.dK b)/\b.length=n) ((A3 (0<=m) (m<=n) (Q .non H))\/(offM n m/\E (.ref zt) Jt H))
def ot(F:Fun K "check_moment" "check_moment" wU f fd)(Z:Zs mg)(p:Cb P w mg base)  : yI P w K mg base (CX1 P w) 1 f fd ["moment","runs"] (xG K):=by
 erw[F.okX oF (λd H Q E h=>?_) (λj A outer s H d Q E hr h=>?_)]
 ·obtain⟨a,m,n,rfl,_⟩:=h;rfl
 obtain⟨a,m,n,rfl,i,q⟩:=h
 refine'⟨_,(zD (yM (PW.pt (bO ?_ (ik (yS VE (pv 0) (yK (vA.or tG pN) rfl Z.len ux (zG (pv 1) zL)) (tM _))))) (zD (UY (λ_=>E) p.e_NoMoment EN 'a' EN Ub (zG (Qe (PX (Os (pv 0) Ox))) zL))) zU)),?_⟩
 nofun
 exists _,U,_,_,U,U,_,rfl;have go:¬ (0<=m/\m<=n)->Ny (Nh (Ps 0) Ni) [Js (.int m),Js (.ref a)] H (λv l=>1<=sizeLine/\E (.ref zt) Jt l):=λz=>by
  rcases q with ⟨h0,g,_⟩ | ⟨⟨_,e⟩,q⟩
  ·rwa[y9 ⟨h0,g⟩ z]
  ·rwa[_,rfl,.inl ⟨m,rfl,e⟩,λx _=>⟨by decide,q⟩]
 erw[ifD (λz=>?_) (λz=>?_)]
 ·erw[jD ?_];rwa[go (λy=>y9 y.1 (by lia))]
 exists _,U,_,rfl;rcases i with ⟨xs,c,rfl⟩ | ⟨b,c,rfl⟩
 ·erw[.inl ⟨a,xs,rfl,.inl c,_,_,rfl,rfl,_,rfl,?_⟩];erw[ifD (λy=>go (λy=>y9 y.2 (by lia))) (λy=>?_)];rcases q with ⟨_,_,q⟩ | ⟨⟨o,_⟩,_⟩
  ·rwa[q]
  ·rwa[y9 o (by lia)]
 ·erw[.inr ⟨a,b,rfl,c,_,_,rfl,rfl,_,rfl,?_⟩];erw[ifD (λy=>go (λy=>y9 y.2 (by lia))) (λy=>?_)];rcases q with ⟨_,_,q⟩ | ⟨⟨o,_⟩,_⟩
  ·rwa[q]
  ·rwa[y9 o (by lia)]
def uo(K:b8):Sp:=λc H Q _=>E3 λ(a:c5) (x y:Int)=>A4 (c=[.ref a]) (H a=Js 'q') (rz (x,y)) (∀ b,Same H b->Q .non b)
def PV{x y:Int}(h:rz (x,y)):de [x,y] 100=true:=by
 obtain⟨_,h1,h2,h3,h4⟩:=h;simp only[de,Fe,IR,Iy,AG,decide_eq_true_eq];rwa[⟨h1,h2⟩,h3,h4]
def jF(F:Fun K "check_way" "check_way" tX f fd)(Z:Zs mg)(m:Cb P w mg base)(c:Has P w K mg base "within" 1 ["numbers","most"] (yu K)):yI P w K mg base CX0 2 f fd ["direction"] (uo K):=by
 specialize jS
 ·obtain⟨a,x,y,rfl,_⟩:=h;rfl
 obtain⟨a,x,y,rfl,j,e,q⟩:=h
 refine'⟨_,(zD (yM (PW.pt (bO (yS (Ww hr.units0) (pv 0) ?_ (tM _)) (ik (eI (dw (zZ c 'f' rfl (zG (pv 0) (zG (Zj m.LONGEST_WAY) zL)))))))) (zD sF) zU)),?_⟩
 nofun
 erw[_,rfl,sz2,λp i=>?_];have d:=zC i (.tup [.int 0,.int 0]);have b:=d _ _ j;exists a,p,[x,y],[0,0],U,U,SqT.of b,SqT.of zA,_,rfl;refine ifD (λz=>y9 (show(x,y)=(0,0) by simp at z; rw[z.1,z.2]) e.1) (λ_=>?_);refine⟨_,U,a,[x,y],100,U,b,(by show 2<=100; decide),λl g=>⟨_,rfl,?_⟩⟩;rw[PV e];rwa[vY (q l (d.trans g))]
def yt(K:b8):Sp:=λa H Q _=>E10 λ(d m b r n:c5) (S:BS) (x y:i9) (p u:Int×Int)=>A6 (a=[.ref d,.str x,.str y]) (StA H d m b r n S) (zT S x=Js p) (zT S y=Js u) (p≠u) (Q .non H)
def nQ(F:Fun K "check_apart" "check_apart" uY f fd)(Z:Zs mg)(B:Cb P w mg base)  : yI P w K mg base CX0 1 f fd ["state","left","right"] (yt K):=by
 specialize nM
 ·obtain⟨d,m,b,r,n,S,x,y,p,u,rfl,_⟩:=h;rfl
 obtain⟨d,m,b,r,n,S,x,y,p,u,rfl,st,ex,ey,ne,q⟩:=h;obtain⟨a,e,c⟩:=st.ma;obtain⟨v,l,i⟩:=c.get (k:=.inr x) (d:=ptD p) (by rw[jx,ex]; rfl);obtain⟨o,j,g⟩:=c.get (k:=.inr y) (d:=ptD u) (by rw[jx,ey]; rfl);obtain⟨a1,rfl,h1⟩:=kO i;obtain⟨a2,rfl,h2⟩:=kO g;exists _,(zD (yM (yS (Ww hr.units0) (zS (yD hr) 'l' (pv 1) 'e') (zS (yD hr) 'l' (pv 2) 'e') (tM _)) (zD sF) zU))
 try dsimp only[L2.cxOf,L2.cxComp,L2.Cx.nox,iW,iB]
 refine⟨_,U,d,.ref m,U,.inl ⟨_,.inr "marks",st.at_,U,yw.symm⟩,_,U,m,_,U,.inl ⟨a,.inr x,e,U,l.symm⟩,_,U,d,.ref m,U,.inl ⟨_,.inr "marks",st.at_,U,yw.symm⟩,_,U,m,_,U,.inl ⟨a,.inr y,e,U,j.symm⟩,
  a1,a2,[p.1,p.2],[u.1,u.2],rfl,rfl,SqT.of h1,SqT.of h2,_,rfl,?_⟩
 exact ifD (λz=>y9 (show p=u by simp at z; rwa[Ev z.1 z.2]) ne) (λ_=>q)
def rJ(_:b8):Sp:=XR λD=>E3 λn x y=>D=.mark n x y
def lX(F:Fun K "after_mark" "after_mark" vL f fd)(Z:Zs mg)(CB:Cb P w mg base)(R:Has P w K mg base "changed" 1 ["state","kind","key","value"] (rX K))(X:Has P w K mg base "check_room" 1 ["state","kind"] (uO K))(yAp:Has P w K mg base "check_place" 2 ["place"] (yo K))(T:Has P w K mg base "check_free" 1 ["state","kind","name"] (ww K))(Y:Has P w K mg base "check_name" 1 ["name"] (xc K)):yI P w K mg base CX0 3 f fd ["state","row"] (rJ K):=by
 specialize rN
 ·obtain⟨d,v,S,D,rfl,_⟩:=h;rfl
 obtain⟨d,v,S,D,rfl,⟨n,x,y,rfl⟩,⟨m,b,r,t,st⟩,hv,⟨k1,L,k3,k4⟩,few,_,q⟩:=h;obtain⟨a,rfl,J⟩:=aA hv
 refine'⟨_,(zB (zQ 2 rN.nd ?_)
   (zB (zQ 3 rN.nd ?_)
   (zB (yA ?_)
   (zB (yA ?_)
   (zB (yA ?_)
   (zB (yA ?_)
   (zD (zK ?_)))))))),?_⟩
 nofun
 exists _,U,a,_,_,.str n,U,U,.inr (SqT.of J),rfl;erw[_,rfl,a,_,_,.int x,rfl,rfl,.inr (SqT.of J),rfl,_,rfl,a,_,_,.int y,rfl,rfl,.inr (SqT.of J),rfl,sz2,λp hp=>?_];have s1:=zC hp 'q';erw[_,rfl,n,rfl,k1,λH2 I=>?_];have u:=s1.trans I;have l:=st.to (.of u);obtain⟨i,M,C⟩:=l.ma;exists _,U,_,U,d,m, "marks",n,_,i,U,l.at_,yw,M,C.none (by rw[jx,L]; rfl);erw[_,rfl,p,x,y,rfl,I _ _ zA,k3,λH3 B=>?_];have g:=u.trans B;have j:=st.to (.of g);have z:=Rd.same M B;erw[_,rfl,d,m, "marks",_,i,20,rfl,j.at_,yw,z,(by symm),by rw[C.length,fj]; lia,?_];erw[_,rfl,_,rfl,_,rfl,d,m, "marks",.inr n,.ref p,_,i,rfl,j.at_,yw,z,StA.stKlen,C.le (by rw[fj]; lia),λf c O G hf _ N ec=>?_];have o:=g.trans G;have e:=st.to (.of o);rw[WY] at N;erw[q f O (.of o) (g.free hf) ⟨c,b,r,t,.inl N,⟨_,.inl ec,?_⟩,e.ba,e.ru,e.no⟩];show uI O _ (mkE (S.marks++[(n,x,y)]));rw[al,<- zh (gJ L)];exact(C.to (.of (B.trans G))).put (se ((I.trans (B.trans G)) _ _ zA))
def rG(_:b8):Sp:=XR λD=>E2 λx y=>D=.sail x y
def kL(F:Fun K "after_sail" "after_sail" vV f fd)(Z:Zs mg)(CB:Cb P w mg base)(n:Has P w K mg base "changed" 1 ["state","kind","key","value"] (rX K))(L:Has P w K mg base "check_room" 1 ["state","kind"] (uO K))(J:Has P w K mg base "check_run" 2 ["run"] (ur K)):yI P w K mg base CX0 3 f fd ["state","row"] (rG K):=by
 specialize xz
 ·obtain⟨d,v,S,D,rfl,_⟩:=h;rfl
 obtain⟨d,v,S,D,rfl,⟨x,y,rfl⟩,⟨m,b,r,t,st⟩,R,⟨O,k2⟩,few,_,q⟩:=h;obtain⟨a,rfl,C⟩:=bR R
 refine'⟨_,(zB (zQ 2 xz.nd ?_)
   (zB (yA ?_)
   (zB (yA ?_)
   (zD (zK (zZ n 'f' rfl (zG (pv 0) (zG zV (zG (yK pN rfl Z.len ux (zG 'l' zL)) (zG (pv 2) zL)))))))))),?_⟩
 nofun
 erw[_,rfl,a,_,_,.int x,rfl,rfl,.inr (SqT.of C),rfl,_,rfl,a,_,_,.int y,rfl,rfl,.inr (SqT.of C),rfl,sz2,λp T=>?_];have M:=zC T 'q';erw[_,rfl,p,x,y,rfl,zA,O,λH2 z=>?_];have j:=M.trans z;have g:=st.to (.of j);obtain⟨e,u,B⟩:=g.ru;have N:e.length=S.runs.length:=by rw[B.length,fS]
 erw[_,rfl,d,r, "runs",_,e,12,rfl,g.at_,ou,u,(by symm),by lia,?_];erw[_,rfl,_,rfl,d,.ref r,rfl,.inl ⟨_,.inr "runs",g.at_,rfl,ou.symm⟩,r,e,rfl,u,_,rfl,d,r, "runs",.inl (e.length:Int),.ref p,_,e,rfl,g.at_,ou,u,StA.stKlen,by lia,λf c I o X _ G Y=>?_];have l:=j.trans o;have i:=st.to (.of l);rw[UA] at G;erw[q f I (.of l) (j.free X) ⟨m,b,c,t,.inl G,i.ma,i.ba,⟨_,.inl Y,?_⟩,i.no⟩];show uI I _ (rnE (S.runs++[(x,y)]));rw[Rp,<- zh TM,<- N];exact(B.to (.of o)).put (se ((z.trans o) _ _ zA))
def rA(_:b8):Sp:=λc H Q _=>E4 λ(d:c5) (v:V) (S:BS) (D:Deed)=>A6 (c=[.ref d,v]) (cW H d S) (Rep H D.dt v) (S.notes.length<24) (YX S) (∀(a:c5)(b:Hp),Same H b->H a=Jt->cW b a { S with notes:=S.notes++[(S.coming,D)],coming:=S.coming+1 }->Q (.ref a) b)
def jp(F:Fun K "after_note" "after_note" vK f fd)(Z:Zs mg)(I:Cb P w mg base)(i:Has P w K mg base "changed" 1 ["state","kind","key","value"] (rX K))(x:Has P w K mg base "check_room" 1 ["state","kind"] (uO K)):yI P w K mg base CX0 2 f fd ["state","row"] (rA K):=by
 specialize ya
 ·obtain⟨d,v,S,D,rfl,_⟩:=h;rfl
 obtain⟨d,v,S,D,rfl,⟨m,b,r,t,st⟩,y,G,fr,q⟩:=h;obtain⟨e,o,n⟩:=st.no;have C:e.length=S.notes.length:=by rw[n.length,VA]
 refine'⟨_,(zB (yA ?_)
   (zB (zQ 2 ya.nd (zZ i 'f' rfl (zG (pv 0) (zG zV (zG 'l' (zG (pv 1) zL))))))
   (zB (vG (yD hr) (pv 2) zV (yR iS 'l' yF) rfl)
   (zD (zK (pv 2)))))),?_⟩
 nofun
 erw[_,rfl,d,t, "notes",_,e,24,rfl,st.at_,gC,o,(by symm),by lia,?_];erw[_,rfl,_,rfl,d,.int S.coming,rfl,.inl ⟨_,.inr "coming",st.at_,rfl,ji.symm⟩,_,rfl,d,t, "notes",.inl S.coming,v,_,e,rfl,st.at_,gC,o,StA.stKlen,by lia,λf c B l p ne u z=>?_];have j:=st.to (.of l);rw[VL] at u;exists _,U,d,.int S.coming,U,.inl ⟨_,.inr "coming",j.at_,U,ji.symm⟩,_,_,U,U,_,U,f,_,U,iA.k (k:=.inr "coming") u (zM (d9 StA.stKlen 'a')),_,rfl;rw[YA];have g:Same H (upd B f (.dK (stK m b r c (S.coming+1)))):=l.putNew p;have a:=st.to (.of g);erw[q f _ g p ⟨m,b,r,c,.inl zA,a.ma,a.ba,a.ru,⟨_,.inl (by rw[zH ne.symm]; rwa[z]),?_⟩⟩];rw[br,<- zh (fh fr)];exact(n.to (.of g)).put (y.to (.of g))
def uL(_:b8):Sp:=XR λD=>E6 λm n a b c d=>D=.bearing m n a b c d
def qx(F:Fun K "after_bearing" "after_bearing" wE f fd)(Z:Zs mg)(CB:Cb P w mg base)(Y:Has P w K mg base "after_note" 2 ["state","row"] (rA K))(T:Has P w K mg base "turn" 1 'i' (xF K))(X:Has P w K mg base "check_way" 2 ["direction"] (uo K))(yAs:Has P w K mg base "check_mark" 1 ["state","name"] (rF K))(n:Ye P w K mg base "check_moment" 1 ["moment","runs"] (xG K)):yI P w K mg base CX0 3 f fd ["state","row"] (uL K):=by
 specialize qt
 ·obtain⟨d,v,S,D,rfl,_⟩:=h;rfl
 obtain⟨d,v,S,D,rfl,⟨G,nm,j,i,x,o,rfl⟩,⟨m,b,r,t,st⟩,N,⟨k1,k2,k3,M,k5,k6,k7⟩,few,fr,q⟩:=h;obtain⟨a,p,u,rfl,l,R,O⟩:=qT N;obtain⟨C,I,kr⟩:=st.ru
 refine'⟨_,(zB (yA (uS (λ_=>E0) n oy 'f' rfl (zG ?_ (zG 'l' zL))))
   (zB (yA ?_)
   (zB (yA ?_)
   (zB (yA ?_)
   (zB (yM ?_ (zD sF) zU)
   (zD (zK ?_))))))),?_⟩
 nofun
 erw[_,rfl,a,_,_,.int G,rfl,rfl,.inr (SqT.of l),rfl,_,rfl,d,.ref r,rfl,.inl ⟨_,.inr "runs",st.at_,rfl,ou.symm⟩,r,G,S.runs.length,rfl,.inr ⟨C,I,by rw[kr.length,fS]⟩,.inl ⟨k1,k2,?_⟩];exists _,U,_,U,a,_,_,.str nm,U,U,.inr (SqT.of l),U,d,m,b,r,t,S,nm,U,st,k3;erw[_,rfl,a,_,_,.ref p,rfl,rfl,.inr (SqT.of l),rfl,p,j,i,rfl,R,M,λH2 B=>?_];have g:=B _ _ l;erw[_,rfl,a,_,_,.ref u,rfl,rfl,.inr (SqT.of g),rfl,u,x,o,rfl,B _ _ O,k5,λH3 L=>?_];have e:=L _ _ g;have c:=B.trans L;obtain⟨_,b1,b2,b3,b4⟩:=M;have n1:j.natAbs<=10^18:=by simp at b1 b2; lia
 have n2:i.natAbs<=10^18:=by simp at b3 b4; lia
 exists _,U,a,_,_,.ref p,U,U,.inr (SqT.of e),U,_,U,a,_,_,.ref u,U,U,.inr (SqT.of e),U,p,u,_,_,j,i,x,o,U,.inr (SqT.of (c _ _ R)),.inr (SqT.of (c _ _ O)),U,U,U,U,n1,n2,_,_,U,U,_,rfl;erw[ifD (λz=>y9 z (by lia)) (λ_=>?_)];erw[_,rfl,_,rfl,d,.ref a,S,.bearing G nm j i x o,rfl,⟨m,b,r,t,st.to (.of c)⟩,N.to (.of c),k7,fr,λd' H4 s4 J y=>q d' H4 (.of (c.trans s4)) (c.free J) y]
def tO(_:b8):Sp:=XR λD=>E3 λm l r=>D=.range m l r
def nJ(F:Fun K "after_range" "after_range" uN f fd)(Z:Zs mg)(CB:Cb P w mg base)(G:Has P w K mg base "after_note" 2 ["state","row"] (rA K))(J:Has P w K mg base "check_apart" 1 ["state","left","right"] (yt K))(I:Has P w K mg base "check_mark" 1 ["state","name"] (rF K))(i:Ye P w K mg base "check_moment" 1 ["moment","runs"] (xG K)):yI P w K mg base CX0 3 f fd ["state","row"] (tO K):=by
 specialize nL
 ·obtain⟨d,v,S,D,rfl,_⟩:=h;rfl
 obtain⟨d,v,S,D,rfl,⟨n,g,e,rfl⟩,⟨m,b,r,t,st⟩,y,⟨T,R,x,u,O,N⟩,few,fr,q⟩:=h;obtain⟨a,rfl,X⟩:=pE y;obtain⟨l,o,M⟩:=st.ru;obtain⟨p1,C⟩:=o6.mp x;obtain⟨p2,B⟩:=o6.mp u;have c:Sq K H a _:=.inr (SqT.of X)
 refine'⟨_,(zB (yA (uS (λ_=>E0) i oy 'f' rfl (zG ?_ (zG 'l' zL))))
   (zB (yA ?_)
   (zB (yA ?_)
   (zB (yA ?_)
   (zD (zK ?_)))))),?_⟩
 nofun
 erw[_,rfl,a,_,_,.int n,rfl,rfl,c,rfl,_,rfl,d,.ref r,rfl,.inl ⟨_,.inr "runs",st.at_,rfl,ou.symm⟩,r,n,S.runs.length,rfl,.inr ⟨l,o,by rw[M.length,fS]⟩,.inl ⟨T,R,?_⟩];exists _,U,_,U,a,_,_,.str g,U,U,c,U,d,m,b,r,t,S,g,U,st,x;exists _,U,_,U,a,_,_,.str e,U,U,c,U,d,m,b,r,t,S,e,U,st,u;exists _,U,_,U,a,_,_,.str g,U,U,c,U,_,U,a,_,_,.str e,U,U,c,U,d,m,b,r,t,S,g,e,p1,p2,U,st,C,B,λz=>O (by rw[C,B,z]);erw[_,rfl,_,rfl,d,.ref a,S,.range n g e,rfl,⟨m,b,r,t,st⟩,y,N,fr,λY H4 L p j=>q Y H4 (.of L) p j]
def Tw:Deed->Prop
 | .mark .. | .sail .. | .bearing .. | .range ..=>True
 | _=>False
def iZ(_:b8):Sp:=XR Tw
def tabL:List (Key×Sp):=[(.inr "mark",rJ []),(.inr "sail",rG []),(.inr "bearing",uL []),(.inr "range",tO [])]
def Xw(F:Fun K "after" "after" qe f fd)(Z:Zs mg)(e:Cb P w mg base)(i:Has P w K mg base "after_mark" 3 ["state","row"] (rJ K))(j:Has P w K mg base "after_sail" 3 ["state","row"] (rG K))(o:Has P w K mg base "after_bearing" 3 ["state","row"] (uL K))(l:Has P w K mg base "after_range" 3 ["state","row"] (tO K)):yI P w K mg base CX0 4 f fd ["state","row"] (iZ K):=by
 specialize YR
 ·obtain⟨d,v,S,D,rfl,_⟩:=h;rfl
 obtain⟨d,v,S,D,rfl,kd,st,b,ok,few,fr,q⟩:=h;have g:∀ r∈tabL,Nc P w K mg base 3 Sw r.1 r.2:=by
  intro r hr;simp only[tabL,g9,CD,or_false] at hr;rcases hr with rfl | rfl | rfl | rfl
  ·rwa["after_mark",_,_,_,by symm,e.t_mark,i,by decide]
  ·rwa["after_sail",_,_,_,by symm,e.t_sail,j,by decide]
  ·rwa["after_bearing",_,_,_,by symm,e.t_bearing,o,by decide]
  ·rwa["after_range",_,_,_,by symm,e.t_range,l,by decide]
 refine'⟨_,(zD (zK (Of e.dAFTER e.gAFTER g 'f' ?_ (zG (pv 0) (zG (pv 1) zL))))),?_⟩
 nofun
 cases D with
 | mark n x y =>
  obtain⟨a,rfl,c⟩:=aA b;rwa[_,rfl,a,_,_,.str "mark",rfl,rfl,.inr (SqT.of c),rfl,.inr "mark",_,rfl,.head _,_,rfl,_,rfl,d,.ref a,S,_,rfl,⟨n,x,y,rfl⟩,st,b,ok,few,fr,q]
 | sail x y =>
  obtain⟨a,rfl,c⟩:=bR b;rwa[_,rfl,a,_,_,.str "sail",rfl,rfl,.inr (SqT.of c),rfl,.inr "sail",_,rfl,.tail _ (.head _),_,rfl,_,rfl,d,.ref a,S,_,rfl,⟨x,y,rfl⟩,st,b,ok,few,fr,q]
 | bearing m n x y z t =>
  obtain⟨a,p,u,rfl,c,_⟩:=qT b;rwa[_,rfl,a,_,_,.str "bearing",rfl,rfl,.inr (SqT.of c),rfl,.inr "bearing",_,rfl,.tail _ (.tail _ (.head _)),_,rfl,_,rfl,d,.ref a,S,_,rfl,⟨_,_,_,_,_,_,rfl⟩,st,b,ok,few,fr,q]
 | range m n k =>
  obtain⟨a,rfl,c⟩:=pE b;rwa[_,rfl,a,_,_,.str "range",rfl,rfl,.inr (SqT.of c),rfl,.inr "range",_,rfl,.tail _ (.tail _ (.tail _ (.head _))),_,rfl,_,rfl,d,.ref a,S,_,rfl,⟨_,_,_,rfl⟩,st,b,ok,few,fr,q]
 | move | unmark | bank | level | right | strike=>rwa[kd.elim]
def pf(_:b8):Sp:=λc H Q _=>E4 λ(d:c5) (v:V) (S:BS) (D:Deed)=>A6 (c=[v,.ref d]) (Rep H D.dt v) (pF H d S) (yz S D) (∀ e∈S.marks,pY e.2) (∀(l:c5)(b:List c5)(a:Hp),Same H a->a l=Js (.lst (b.map V.ref))->xA a b (xq S D)->Q (.ref l) a)
def fT(F:Fun K "sides_of" "sides_of" qB f fd)(Z:Zs mg)(CB:Cb P w mg base)(B:Has P w K mg base "range_side" 4 ["left","right"] (xf K))(C:Has P w K mg base "bearing_sides" 4 ["place","one","other"] (rR K)):yI P w K mg base CX0 5 f fd ["note","places"] (pf K):=by
 specialize fI
 ·obtain⟨d,v,S,D,rfl,_⟩:=h;rfl
 obtain⟨d,v,S,D,rfl,rep,⟨j,hd,M⟩,kn,N,q⟩:=h
 refine'⟨_,(zB (yM ?_ (zD (zK (zZ C 'f' rfl (zG (zS (yD hr) (pv 1) ?_ 'e') (zG ?_ (zG ?_ zL)))))) zU)
   (zD (zK (Wh (zG (zZ B 'f' rfl (zG (zS (yD hr) (pv 1) ?_ 'e') (zG (zS (yD hr) (pv 1) ?_ 'e') zL))) zL))))),?_⟩
 nofun
 cases D with
 | bearing m n a b c e =>
  obtain⟨t,p1,p2,rfl,u,h1,h2⟩:=qT rep;obtain⟨_,_,hn,w1,w2⟩:=kn;obtain⟨pt,g⟩:=o6.mp hn;obtain⟨pa,T,R⟩:=M n pt g;obtain⟨n1,n2,n3,n4⟩:=tH N g;exists _,U,t,_,0,.str "bearing",U,U,.inr (SqT.of u),U,U,_,rfl;erw[jD ?_];have o:Sq K H t _:=.inr (SqT.of u);exists _,U,_,U,t,_,2,.str n,U,U,o,U,d,.ref pa,U,.inl ⟨j,.inr n,hd,U,T.symm⟩,_,U,t,_,3,.ref p1,U,U,o,U,_,U,t,_,4,.ref p2,U,U,o,rfl;obtain⟨I,w11,w12,w13,w14⟩:=w1;obtain⟨G,w21,w22,w23,w24⟩:=w2;refine⟨pa,p1,p2,pt.1,pt.2,a,b,c,e,U,SqT.of R,SqT.of h1,SqT.of h2,(by lia),(by lia),(by dsimp only at *; lia),(by dsimp only at *; lia),(by dsimp only at *; lia),(by dsimp only at *; lia),?_,?_,λl p q' Y J X e2 e3=>?_⟩
  ·rcases FA (a=0) with z | z
   ·rwa[.inr λx=>I (by rw[z,x])]
   ·rwa[.inl z]
  ·rcases FA (c=0) with z | z
   ·rwa[.inr λx=>G (by rw[z,x])]
   ·rwa[.inl z]
  ·erw[q l [p,q'] Y J X ?_];show xA Y ([p]++[q']) ([_]++[_]);rw[uE g];exact(xA.one e2).app (.one e3)
 | range m l r =>
  obtain⟨t,rfl,u⟩:=pE rep;obtain⟨_,_,hl,O,ne⟩:=kn;obtain⟨pt,g⟩:=o6.mp hl;obtain⟨y,i⟩:=o6.mp O;obtain⟨pa,T,R⟩:=M l pt g;obtain⟨pb,g3,g4⟩:=M r y i;obtain⟨n1,n2,n3,n4⟩:=tH N g;obtain⟨n5,n6,n7,n8⟩:=tH N i;exists _,U,t,_,0,.str "range",U,U,.inr (SqT.of u),U,U,_,rfl;erw[vY ?_];have o:Sq K H t _:=.inr (SqT.of u);exists _,U,_,U,t,_,2,.str l,U,U,o,U,d,.ref pa,U,.inl ⟨j,.inr l,hd,U,T.symm⟩,_,U,_,U,t,_,3,.str r,U,U,o,U,d,.ref pb,U,.inl ⟨j,.inr r,hd,U,g3.symm⟩;erw[pa,pb,pt.1,pt.2,y.1,y.2,rfl,.inr (SqT.of R),.inr (SqT.of g4),(by lia),(by lia),(by lia),(by lia),?_,λp Y J hp' X=>⟨sz1,λL hL=>?_⟩]
  ·rcases FA (pt.2-y.2=0) with z | z
   ·erw[.inr λx=>ne ?_];rw[g,i];rwa[congrArg Js (Ev (by lia) (by lia))]
   ·rwa[.inl z]
  ·have sL:=zC hL (.lst [.ref p]);erw[q L [p] _ (J.trans sL) zA ?_];show xA _ [p] [_];rw[uE g,uE i];exact(xA.one X).to (.of sL)
 | _=>rwa[kn.elim]
def jW(_:b8):Sp:=λa H Q _=>∃(n:Int),a=[.int n]/\∀ v:Int,0<=v->v<1000003->Q (.int v) H
def YS(F:Fun K "_law_power" "_law_power" pH f fd)(Z:Zs mg):yI P w K mg base CX0 1 f fd ["_law_number"] (jW K):=by
 specialize Yr
 ·obtain⟨n,rfl,_⟩:=h;rfl
 obtain⟨n,rfl,q⟩:=h
 refine'⟨_,(zD (zK ?_)),?_⟩
 nofun
 have h1:=Ar n (show(1000003:Int)≠0 by decide);have h2:=Ad n (show(0:Int)<1000003 by decide);exists _,U,_,_,U,U,(by show(0:Int)<1000003; decide),_,_,rfl,rfl,⟨by decide,by decide,by lia⟩,_,_,rfl,rfl,(by show(0:Int)<1000003; decide);rwa[q _ (Ar _ 'a') (Ad _ 'a')]
def iD(K:b8):Sp:=λd H Q _=>E3 λ(a:c5) (ns:List Int) (b:Int)=>A6 (d=[.ref a,.int b]) (SqL K H a (ns.map V.int)) (ns.length<=63) (0<=b) (b<=500) (∀(r:c5)(rows:List Int)(c:Hp),Same H c->H r=Jt->c r=Js (.lst 'm')->b<=rows.length->rows.length<=600->(∀ x∈rows,0<=x/\x<1000003)->Q (.ref r) c)
structure lF(H:Hp)(r c:c5)(ms:List Int)(H':Hp)(rows:List Int):Prop where
 same:Same H H'
 src:H' c=Js (.lst (ms.map V.int))
 at':H' r=Js (.lst (rows.map V.int))
 bd:∀ x∈rows,0<=x/\x<1000003
def lF.app{H h:Hp}{v:Int}(d:lF H r c g h rows)(j:H r=Jt)(a:c≠r)(h0:0<=v)(h1:v<1000003):lF H r c g (upd h r (.lst (rows.map V.int++[.int v]))) (rows++[v]):=by
 erw[λb o e=>?_,?_,?_,λx i=>?_]
 ·rw[zH (zI e j)];rwa[d.same b o e]
 ·rw[zH a];rwa[d.src]
 ·rw[zA,g5];rfl
 ·rcases m9.mp i with e | e
  ·rwa[d.bd x e]
  ·rw[e8] at e;rw[e];rwa[h0,h1]
def cutR{ok:Int->Hp->Prop}{G:Prop}{R:Int->Hp->Prop}(h1:(∀ m H,ok m H->R m H)->G)(h2:∀ m H,ok m H->R m H):G:=h1 h2
def Yq(F:Fun K "_law_draws" "_law_draws" qu f fd)(Z:Zs mg)(CB:Cb P w mg base)(yCq:Has P w K mg base "_law_power" 1 ["_law_number"] (jW K)):yI P w K mg base CX0 2 f fd ["_law_script","_law_many"] (iD K):=by
 specialize wK
 ·obtain⟨a,ns,g,rfl,_⟩:=h;rfl
 obtain⟨a,ns,g,rfl,hS,hl,hm0,hm1,q⟩:=h
 refine'⟨_,(zB (zQ 2 wK.nd ?_)
   (zB (zQ 3 wK.nd yF)
   (zB (xK r9 rfl (WG ?_) (uG 4 wK.nd) (zB (zQ 3 wK.nd ?_)
   (zB (zQ 5 wK.nd ?_)
   (zB (yM ?_ (zB (yA (og (pv 2) ?_))
   (zD (zQ 5 wK.nd yF))) zU)
   (zD (re r9 ?_ (zB (yA (og (pv 2) ?_))
   (zD (zQ 5 wK.nd ?_)))))))))
   (zB (re r9 ?_ (zB (zQ 3 wK.nd ?_)
   (zD (yA (og (pv 2) ?_)))))
   (zD (zK (pv 2))))))),?_⟩
 nofun
 refine⟨sz0,λr p=>?_⟩;have S1:=zC p (.lst []);refine⟨_,U,_,U,a,_,U,S1.seq hS,λc X=>⟨c,U,⟨_,SqL.of zA⟩,?_⟩⟩;rw[mR];generalize hms:((ns.drop (HT.sIx ns.length 0 Jt)).take (HT.sIx ns.length ns.length (Js 63)-HT.sIx ns.length 0 Jt))=O;have hml:O.length<=63:=by
  rw[<- hms,o3,Ak];lia
 have B:c≠r:=λe=>by
  rw[e,zA] at X;cases X
 have hc0:H c=none:=S1.free X;refine xE (K:=K) (a:=c) (xs:=O.map V.int) (λi o G=>E4 λ(rows:List Int) (j:Int) (u v:Option V)=>A5 (o=[Js (.ref a),Js (.int g),Js (.ref r),Js (.int j),u,v]) (lF H r c O G rows) (0<=j) (j<2147483647) (rows.length<=g.toNat+i))
  ⟨[],7,Jt,Jt,rfl,⟨S1.trans (zC X _),zA,by rw[zH (Bk B),zA]; rfl,λx hx=>nomatch hx⟩,by decide,by decide,Aa _⟩ (λi o G _ hq'=>by obtain⟨_,_,_,_,_,d,_⟩:=hq'; rwa[SqL.of d.src]) ?_ ?_
 ·rintro i x o G hi ⟨rows,j,u,v,rfl,d,J,I,L⟩;obtain⟨n,hn,rfl⟩:=uF hi;have hi63:i<63:=j5 (c9.mp hn).1 hml;exists _,U,_,_,U,U,.inr ⟨by decide,by decide⟩,_,U,_,_,U,U,_,_,U,U,(by show(0:Int)<2147483647; decide);have T:=Ar (j*48271+n) (show(2147483647:Int)≠0 by decide);have S:=Ad (j*48271+n) (show(0:Int)<2147483647 by decide);exists _,U,n,rfl;have a0:0<=(if n<0 then -n else n):=by split <;> lia
  generalize (if n<0 then -n else n)=b at a0 ⊢;revert G b;apply cutR (ok:=λb C=>0<=b/\∃ rows,lF H r c O C rows/\rows.length<=g.toNat+(i+1))
  ·intro D G d b a0;exists _,U,_,_,U,U,⟨by decide,by decide,by decide⟩,_,_,U,U,_,rfl;erw[ifD (λhsm=>?_) (λhsm=>?_)];rotate_left
   ·rwa[D b G ⟨a0,rows,d,by lia⟩]
   ·erw[_,rfl,.inl ⟨rfl,_,SqL.of d.at'⟩,_,rfl,_,rfl,r,_,rfl,.inl (SqL.of d.at'),_,_,rfl,rfl,.inl ⟨by decide,by decide⟩,_,_,rfl,rfl,_,rfl,λv N M=>?_];exists r,_,_,U,U,d.at',zM (by rw[ac]; lia);rwa[D 0 _ ⟨Dy 0,_,d.app p B N M,by rw[g7,AQ]; lia⟩]
  clear L rows;rintro b G ⟨j0,rows,j1,j2⟩;refine vp (λo C=>E2 λ(rows:List Int) (b:Int)=>A4 (o=[Js (.ref a),Js (.int g),Js (.ref r),Js (.int ((j*48271+n)%2147483647)),Js (.int n),Js (.int b)]) (0<=b) (lF H r c O C rows) (rows.length<=g.toNat+(i+1)))
   (λo _=>match o with | [_,_,_,_,_,Js (.int z)]=>z.toNat | _=>0) ⟨_,_,rfl,j0,j1,j2⟩ ?_ (SK (gA (XZ Ul uv mo_c)) (gA (XZ Ul (Qt VX (kY uv Za)) uv)))
  rintro o C ⟨rows,b,rfl,r0,m,Y⟩;exists _,U,_,_,U,U,_,rfl;erw[ifD (λR=>?_) (λR=>?_)]
  ·exists _,U,r,_,U,.inl (SqL.of m.at'),_,U,_,_,U,U,_,rfl;erw[ifD (λy=>?_) (λy=>?_)]
   ·have l:((rows.map V.int).length:Int)<g:=y;rw[ac] at l;exists _,U,.inl ⟨U,_,SqL.of m.at'⟩,_,U,_,_,U,U,(by show(0:Int)<1000003; decide),r,_,_,rfl,rfl,m.at',zM (by rw[ac]; lia);have N:=Ar b (show(1000003:Int)≠0 by decide);have M:=Ad b (show(0:Int)<1000003 by decide);exists _,U,_,_,U,U,uy.of 'a' 'h',⟨rows++[b%1000003],_,U,by lia,m.app p B N M,by rw[g7,AQ]; lia⟩;show(b/1000003).toNat<b.toNat;lia
   ·rwa[rows,_,_,_,rfl,m,T,S,Y]
  ·rwa[rows,_,_,_,rfl,m,T,S,Y]
 ·rintro o G ⟨rows,j,u,v,rfl,d,J,I,L⟩;rw[ac] at L;refine vp (λo C=>E2 λ(rows:List Int) (j:Int)=>A6 (o=[Js (.ref a),Js (.int g),Js (.ref r),Js (.int j),u,v]) (lF H r c O C rows) (0<=j) (j<2147483647) (rows.length<=g.toNat+63) (C r=Js (.lst 'm')))
   (λo C=>match C r with | some (.lst xs)=>g.toNat-xs.length | _=>0) ⟨rows,j,rfl,d,J,I,by lia,d.at'⟩ ?_ (gA (XZ Ul (Qt VX (kY uv Za)) uv))
  rintro o C ⟨rows,j,rfl,m,J,I,Y,ha2⟩;exists _,U,r,_,U,.inl (SqL.of m.at'),_,U,_,_,U,U,_,rfl;erw[ifD (λy=>?_) (λy=>?_)]
  ·have l:((rows.map V.int).length:Int)<g:=y;rw[ac] at l;exists _,U,_,_,U,U,.inr ⟨by decide,by decide⟩,_,_,U,U,_,_,U,U,(by show(0:Int)<2147483647; decide);have T:=Ar (j*48271+11) (show(2147483647:Int)≠0 by decide);have S:=Ad (j*48271+11) (show(0:Int)<2147483647 by decide);erw[_,rfl,.inl ⟨rfl,_,SqL.of m.at'⟩,_,rfl,_,rfl,λv N M=>?_];exists r,_,_,U,U,m.at',zM (by rw[ac]; lia),⟨rows++[v],_,rfl,m.app p B N M,T,S,by rw[g7,AQ]; lia,(m.app p B N M).at'⟩;rw[ha2,zA];show g.toNat-(rows.map V.int++[V.int v]).length<g.toNat-(rows.map V.int).length;rw[g7,ac,AQ];lia
  ·have l:¬ ((rows.map V.int).length:Int)<g:=y;rw[ac] at l;rwa[_,rfl,q r rows C m.same p m.at' (by lia) (by lia) m.bd]
def gU(_:b8):Sp:=λc H Q _=>c=[]/\∀(d m b r n:c5)(a:Hp),Same H a->H d=Jt->H m=Jt->H r=Jt->a d=Js (.dK (lwK m b r n 1))->a m=Js (.dK [])->a b=Js (.dK [])->a r=Js (.lst [])->a n=Js (.dK [])->b≠m->n≠m->Q (.ref d) a
def TU(F:Fun K "_law_new" "_law_new" fe f fd)(Z:Zs mg)(J:Cb P w mg base)  : yI P w K mg base CX0 1 f fd [] (gU K):=by
 specialize Sz
 ·obtain⟨rfl,_⟩:=h;rfl
 obtain⟨rfl,q⟩:=h
 refine'⟨_,zD ?h,?_⟩
 rotate_left
 with_reducible refine' zK ?_
 rotate_left
 with_reducible exact az (wL zV qD (wL zV qD (wL zV (Wh zL) (wL zV qD (wL zV yF bN))))) rfl rfl (λz=>nomatch z) 'a'
 try dsimp only[L2.cxOf]
 intro p u m y b j;erw[sz0,λr hr n v=>?_];have l:=zC u (.dK []);have g:=zC y (.dK []);have a:=zC j (.dK []);have d:=zC hr (.lst []);have i:=zC v (.dK []);have em:=(a.trans (d.trans i)) _ _ zA;have I:=(d.trans i) _ _ zA;have D:=i _ _ zA;have G:=(g.trans (a.trans (d.trans i))) _ _ zA;exists G,[(.inr "marks",.ref m),(.inr "banks",.ref b),(.inr "runs",.ref r),(.inr "notes",.ref n),(.inr "next",.int 1)],U,(show 5<=15 by decide);rw[UK];have ne:∀{x:c5},(upd H p (.dK [])) x=Jt->x≠p:=λ{x} h z=>by rw[z,zA] at h; cases h
 have nb:=ne (g.free j);have B:=ne (g.free (a.free hr));have C:=ne (g.free (a.free (d.free v)));refine q p m b r n _ (λc o e=>?_) u (l.free y) (l.free (g.free (a.free hr))) zA ?_ ?_ ?_ ?_ (λz=>by rw[z,zA] at j; cases j) (λz=>by have:=a.free (d.free v); rw[z,zA] at this; cases this)
 ·rw[zH (zI e u)];exact(l.trans (g.trans (a.trans (d.trans i)))) c o e
 ·rw[zH (ne y)]; rwa[em]
 ·rw[zH nb]; rwa[I]
 ·rw[zH B]; rwa[D]
 ·rw[zH C]; rwa[zA]
def ko(_:b8):Sp:=λb H Q _=>E4 λ(d:c5) (S:BS) (i j:Nat)=>A6 (b=[.ref d,.int i,.int j]) (XG H d S) (i<=S.runs.length) (j<=S.runs.length) (S.runs.length<=60) (∀(t:c5)(a:Hp),Same H a->H t=Jt->a t=Js (.tup [.int (yT S.runs i j).1,.int (yT S.runs i j).2])->Q (.ref t) a)
def Uz(F:Fun K "_law_lead" "_law_lead" nY f fd)(Z:Zs mg)(CB:Cb P w mg base)  : yI P w K mg base CX0 1 f fd ["_law_m","_law_one","_law_other"] (ko K):=by
 specialize jt
 ·obtain⟨d,S,i,j,rfl,_⟩:=h;rfl
 obtain⟨d,S,l,g,rfl,⟨m,b,r,n,lw⟩,hi,hj,few,k⟩:=h;obtain⟨L,hr1,rep⟩:=lw.ru;have lrs:L.length=S.runs.length:=by rw[rep.length,ac]
 refine'⟨_,(zB (zQ 3 jt.nd (uQ gZ 'l' (tR ?_) (tR ?_)))
   (zB (zQ 4 jt.nd ?_)
   (zD (zK (iP (zG (yR cg (pv 4) (yK (yj rfl) rfl Z.sum dD (zG (wN (T:=["_law_x","_law_y"]) (caps:=[]) ⟨rfl,by ac_nf,by ac_nf,rfl,Ao⟩ rfl (xL (pv 3)) (λ_=>(xj rfl (yE (uG 0 (show(["_law_x","_law_y"]:List i9).Nodup by ac_nf)) (yE (uG 1 (show(["_law_x","_law_y"]:List i9).Nodup by ac_nf)) sX)))) (λ_=>xM) (λ_=>(pv 0))) zL))) (zG (yR cg (pv 4) (yK (yj rfl) rfl Z.sum dD (zG (wN (T:=["_law_x","_law_y"]) (caps:=[]) ⟨rfl,by ac_nf,by ac_nf,rfl,Ao⟩ rfl (xL (pv 3)) (λ_=>(xj rfl (yE (uG 0 (show(["_law_x","_law_y"]:List i9).Nodup by ac_nf)) (yE (uG 1 (show(["_law_x","_law_y"]:List i9).Nodup by ac_nf)) sX)))) (λ_=>xM) (λ_=>(pv 1))) zL))) zL))))))),?_⟩
 nofun
 erw[_,rfl,d,.ref r,rfl,.inl ⟨_,.inr "runs",lw.at_,rfl,oK.symm⟩,_,rfl,_,rfl,_,_,rfl,_,rfl,_,rfl,_,rfl,_,_,rfl,_,rfl,r,L,rfl,SqL.of hr1,λq hq=>?_];have e1:(if (g:Int)<l then(g:Int) else l)=((min l g:Nat):Int):=by split <;> lia
 have e2:(if (g:Int)>l then(g:Int) else l)=((max l g:Nat):Int):=by split <;> lia
 have ec:qH L (Js (if (g:Int)<l then(g:Int) else l)) (Js (if (g:Int)>l then(g:Int) else l))=(L.drop (min l g)).take (max l g-min l g):=by
  rw[e1,e2,ZO (by lia) (by lia)]
 generalize hcs:qH L (Js (if (g:Int)<l then(g:Int) else l)) (Js (if (g:Int)>l then(g:Int) else l))=G at hq;have sq:=zC hq (.lst G);have rc:wH (upd H q (.lst G)) ((qZ S.runs l g).map ptD) G:=by
  have ecs:G=(L.drop (min l g)).take (max l g-min l g):=hcs.symm.trans ec;have:=((rep.drop (min l g)).take (max l g-min l g)).to (.of sq);rw[<- ecs,<- DZ,<- DY] at this;rwa[this]
 have ls:=si S.runs l g;have N:(1:Int)-2*(if decide ((g:Int)<l) then 1 else 0)=tE l g:=by
  unfold tE;by_cases c:g<l
  ·rw[y6 c,y6 (y7 (by lia))]; rfl
  ·rw[y4 c,y4 (by simp; lia)]; rfl
 refine⟨_,U,_,U,_,_,U,U,.inr ⟨_,U,_,_,U,U,zv 'a',_,_,U,U,?_⟩⟩;show ZZ 4 (V.int (1-2*if decide ((g:Int)<l)=Ju then 1 else 0)) _ _ _;rw[N];have cmh:∀ y:Int,Pq (tE l g) y:=λy=>zv (by unfold tE; split <;> decide);refine⟨_,U,_,U,q,U,.inl ⟨⟨_,SqL.of zA⟩,λc D O=>?_⟩⟩;refine wG (K:=K) (a:=q) (xs:=G) (λi B z I=>A4 (Same (upd H q (.lst G)) I) (I D=Js (.lst z)) (z=(((qZ S.runs l g).take i).map (·.1)).map V.int) (E2 λ(u v:Option V)=>B=[u,v]))
  ⟨zC O _,zA,rfl,Jt,Jt,rfl⟩ (λi B z I _ J=>by obtain⟨C,e,_⟩:=J; rwa[SqL.of (C _ _ zA),e]) ?_ ?_
 ·rintro i x B z I hi ⟨C,Y,rfl,u,v,rfl⟩;obtain⟨p,a,R,rfl,ea⟩:=gE rc hi;have hil:=(c9.mp R).1;erw[a,_,rfl,SqT.of (C _ _ ea),rfl,.int p.1,_,rfl,.int p.2,_,rfl,rfl,_,rfl,Y,zM (by rw[ac,ac,o3]; lia),C.putNew O,zA,?_,_,_,rfl];rw[Az,R,g5,g5];rfl
 rintro B z H2 ⟨s2,Y,rfl,u,v,rfl⟩;exists D,_,U,SqL.of Y,_,_,U,U,cmh _;have X:=s2 _ _ (zA (H:=H) (a:=q) (o:=.lst G));have rc2:=rc.to (.of s2);refine⟨_,U,_,U,q,U,.inl ⟨⟨_,SqL.of X⟩,λc D O=>?_⟩⟩;refine wG (K:=K) (a:=q) (xs:=G) (λi B z I=>A4 (Same H2 I) (I D=Js (.lst z)) (z=(((qZ S.runs l g).take i).map (·.2)).map V.int) (E2 λ(u v:Option V)=>B=[u,v]))
  ⟨zC O _,zA,rfl,Jt,Jt,rfl⟩ (λi B z I _ J=>by obtain⟨C,e,_⟩:=J; rwa[SqL.of (C _ _ X),e]) ?_ ?_
 ·rintro i x B z I hi ⟨C,Y,rfl,u,v,rfl⟩;obtain⟨p,a,R,rfl,ea⟩:=gE rc2 hi;have hil:=(c9.mp R).1;erw[a,_,rfl,SqT.of (C _ _ ea),rfl,.int p.1,_,rfl,.int p.2,_,rfl,rfl,_,rfl,Y,zM (by rw[ac,ac,o3]; lia),C.putNew O,zA,?_,_,_,rfl];rw[Az,R,g5,g5];rfl
 rintro B z H3 ⟨s3,eD3,rfl,u,v,rfl⟩;erw[D,_,rfl,SqL.of eD3,_,_,rfl,rfl,cmh _,sz2,λt ht=>?_];have M:=s2.trans s3;erw[k t _ ((sq.trans M).trans (zC ht _)) (sq.free (M.free ht)) ?_];rw[zA,show G.length=(qZ S.runs l g).length by rw[rc.length,ac],v9];rfl
def gD(_:b8):Sp:=λb H Q _=>E3 λ(o t wd:Int)=>A4 (b=[.int o,.int t,.int wd]) (1<=wd) (wd<=1000000) (∀(p:c5)(x y:Int)(a:Hp),Same H a->H p=Jt->a p=Js 'q'->(x≠0\/y≠0)->x.natAbs<=wd.natAbs->y.natAbs<=wd.natAbs->Q (.ref p) a)
def UZ(F:Fun K "_law_way" "_law_way" fF f fd)(Z:Zs mg)(l:Cb P w mg base)  : yI P w K mg base CX0 1 f fd ["_law_one","_law_two","_law_wide"] (gD K):=by
 specialize ml
 ·obtain⟨o,t,wd,rfl,_⟩:=h;rfl
 obtain⟨o,t,wd,rfl,w1,j,q⟩:=h
 refine'⟨_,(zB (zQ 3 ml.nd ?_)
   (zB (zQ 4 ml.nd ?_)
   (zB (yM ?_ (zD (zQ 3 ml.nd ?_)) zU)
   (zD (zK ?_))))),?_⟩
 nofun
 have i:=Ar o (show 2*wd+1≠0 by lia);have g:=Ad o (show 0<2*wd+1 by lia);have e:=Ar t (show 2*wd+1≠0 by lia);have d:=Ad t (show 0<2*wd+1 by lia);exists _,U,_,U,_,_,U,U,.inl ⟨by decide,by decide⟩,_,_,U,U,_,_,U,U,(by show 0<2*wd+1; lia),_,rfl,_,_,rfl,rfl;exists _,U,_,U,_,_,U,U,.inl ⟨by decide,by decide⟩,_,_,U,U,_,_,U,U,(by show 0<2*wd+1; lia),_,rfl,_,_,rfl,rfl;exists _,U,U,_,rfl;erw[ifE (λc=>?_) (λc=>?_)]
 ·exists _,U,U,_,rfl;erw[ifE (λb=>?_) (λb=>?_)]
  ·exists _,U,_,_,U,U,gt2,_,_,U,U,.inl ⟨by decide,by decide⟩,_,_,U,rfl;erw[_,rfl,_,rfl,sz2,λp a=>?_];rwa[q p _ _ _ (zC a _) a zA (by left; lia) (by lia) (by lia)]
  ·erw[_,rfl,_,rfl,sz2,λp a=>?_];rwa[q p _ _ _ (zC a _) a zA (.inr b) (by lia) (by lia)]
 ·erw[vY ?_];erw[_,rfl,_,rfl,sz2,λp a=>?_];rwa[q p _ _ _ (zC a _) a zA (.inl c) (by lia) (by lia)]
def mL(K:b8):Sp:=λj H Q _=>E8 λ(a b:c5) (g e:List V) (d c i h:Int)=>A10 (j=[.ref a,.ref b]) (Sq K H a g) (Sq K H b e) (atI g 0=Js (.int d)) (atI g 1=Js (.int c)) (atI e 0=Js (.int i)) (atI e 1=Js (.int h)) (d.natAbs<=10^18) (c.natAbs<=10^18) (Q (.int (d*h-c*i)) H)
def bf(F:Fun K "_law_turned" "_law_turned" vq f fd)(Z:Zs mg)(u:Cb P w mg base)  : yI P w K mg base CX0 1 f fd ["_law_one","_law_other"] (mL K):=by
 specialize bp
 ·obtain⟨a,b,n,l,g,d,e,c,rfl,_⟩:=h;rfl
 obtain⟨a,b,n,l,g,d,e,c,rfl,j,i,o,u1,m,w1,r,p,q⟩:=h
 refine'⟨_,(zD (zK ?_)),?_⟩
 nofun
 exact⟨_,U,a,_,_,.int g,U,U,j,o,_,U,b,_,_,.int c,U,U,i,w1,_,_,U,U,zv (by lia),
  _,rfl,a,_,_,.int d,rfl,rfl,j,u1,_,rfl,b,_,_,.int e,rfl,rfl,i,m,_,_,rfl,rfl,zv (by lia),_,_,rfl,rfl,q⟩
def uk(K:b8):Sp:=λh H Q _=>E3 λ(a:c5) (rows:List Int) (wd:Int)=>A7 (h=[.ref a,.int wd]) (SqL K H a 'm') (5<=rows.length) (∀ x∈rows,0<=x/\x<1000003) (1<=wd) (wd<=100) (∀(t p r:c5)(g e d c:Int)(b:Hp),Same H b->b t=Js (.tup [.ref p,.ref r])->b p=Js (.tup [.int g,.int e])->b r=Js (.tup [.int d,.int c])->0<g*c-e*d->g.natAbs<=100->e.natAbs<=100->d.natAbs<=100->c.natAbs<=100->Q (.ref t) b)
def jU(F:Fun K "_law_left_pair" "_law_left_pair" sI f fd)(Z:Zs mg)(CB:Cb P w mg base)(yCb:Has P w K mg base "_law_turned" 1 ["_law_one","_law_other"] (mL K))(yDf:Has P w K mg base "_law_way" 1 ["_law_one","_law_two","_law_wide"] (gD K)):yI P w K mg base CX0 2 f fd ["_law_d","_law_wide"] (uk K):=by
 specialize xQ
 ·obtain⟨a,rows,wd,rfl,_⟩:=h;rfl
 obtain⟨a,rows,wd,rfl,x,M,bd,w1,I,q⟩:=h
 refine'⟨_,(zB (zQ 2 xQ.nd ?_)
   (zB (zQ 3 xQ.nd ?_)
   (zB (yM ?_ (zD (zQ 3 xQ.nd ?_)) zU)
   (zB (yM ?_ (zD (dq (i:=2) (j:=3) rfl xQ.nd rfl rfl 'a' rfl rfl (zG (pv 3) (zG (pv 2) zL)) rfl)) zU)
   (zB (yM ?_ (zD (zQ 3 xQ.nd ?_)) zU)
   (zD (zK ?_))))))),?_⟩
 nofun
 obtain⟨v0,a0,_⟩:=wR bd (k:=0) 'a' (by lia);obtain⟨v1,a1,_⟩:=wR bd (k:=1) 'a' (by lia);obtain⟨v2,a2,_⟩:=wR bd (k:=2) 'a' (by lia);obtain⟨v3,a3,_⟩:=wR bd (k:=3) 'a' (by lia);obtain⟨v4,a4,_⟩:=wR bd (k:=4) 'a' (by lia);erw[_,rfl,a,_,_,_,rfl,rfl,.inl x,a0,_,rfl,a,_,_,_,rfl,rfl,.inl x,a1,_,rfl,v0,v1,wd,rfl,w1,by lia,λp1 c b H2 L hp1 S n1 m1 m2=>?_];have g:c.natAbs<=100:=by lia
 have e:b.natAbs<=100:=by lia
 clear m1 m2;apply cut4 (ok:=λO X Y G=>A5 (Same H G) (G p1=Js (.tup [.int c,.int b])) (G O=Js (.tup [.int X,.int Y])) (X.natAbs<=100) (Y.natAbs<=100))
 ·intro m;erw[_,rfl,a,_,_,_,rfl,rfl,.inl (L.seq x),a2,_,rfl,a,_,_,_,rfl,rfl,.inl (L.seq x),a3,_,rfl,v2,v3,wd,rfl,w1,by lia,λp2 x2 y2 H3 T hp2 e3 n2 m3 m4=>?_];have n:=L.trans T;have l:=T _ _ S;exists _,U,a,_,_,_,U,U,.inl (n.seq x),a4,_,_,U,U,gt4,U,_,rfl;erw[ifE (λ_=>?_) (λ_=>?_)];rotate_left
  ·rwa[m p2 x2 y2 H3 ⟨n,l,e3,by lia,by lia⟩]
  ·erw[_,rfl,p1,_,_,.int b,rfl,rfl,.inr (SqT.of l),rfl,_,rfl,_,rfl,p1,_,_,.int c,rfl,rfl,.inr (SqT.of l),rfl,sz2,λd hd=>?_];have r:=zC hd (.tup [.int (-b),.int c]);rwa[m d (-b) c _ ⟨n.trans r,r _ _ l,zA,by rw[FU]; exact e,g⟩]
 rintro O X Y G ⟨J,D,R,p,o⟩;have y:Sq K G p1 [.int c,.int b]:=.inr (SqT.of D);have N:Sq K G O [.int X,.int Y]:=.inr (SqT.of R);have C:c.natAbs<=10^18:=d9 g 'a';have B:b.natAbs<=10^18:=d9 e 'a';exists _,U,_,U,p1,O,_,_,c,b,X,Y,U,y,N,U,U,U,U,C,B,_,_,U,U,_,rfl;have eT:X*b-Y*c = -(c*Y-b*X):=by rw[d8 X b,d8 Y c]; lia
 erw[ifD (λv=>?_) (λv=>?_)]
 ·exists _,U,_,U,_,_,rfl;exists _,U,_,U,O,p1,_,_,X,Y,c,b,U,N,y,U,U,U,U,d9 p 'a',d9 o 'a',U,_,rfl;erw[ifE (λz=>y9 z (by clear g e p o C B w1 I M; lia)) (λ_=>?_)];erw[_,rfl,_,rfl,sz2,λt u=>?_];have st:=zC u (.tup [.ref O,.ref p1]);rwa[q t O p1 X Y c b _ ((J).trans st) zA (st _ _ R) (st _ _ D) (by clear g e p o C B w1 I M; lia) p o g e]
 ·exists _,U,_,U,p1,O,_,_,c,b,X,Y,U,y,N,U,U,U,U,C,B,U,_,rfl;erw[ifE (λhz=>?_) (λhz=>?_)]
  ·erw[_,rfl,p1,_,_,.int b,rfl,rfl,y,rfl,_,rfl,_,rfl,p1,_,_,.int c,rfl,rfl,y,rfl,sz2,λd hd=>?_];have r:=zC hd (.tup [.int (-b),.int c]);erw[_,rfl,_,rfl,sz2,λt u=>?_];have st:=zC u (.tup [.ref p1,.ref d]);have sp:=kZ n1;rwa[q t p1 d c b (-b) c _ (J.trans (r.trans st)) zA (st _ _ (r _ _ D)) (st _ _ zA) (by rw[t8]; lia) g e (by rw[FU]; exact e) g]
  ·erw[_,rfl,_,rfl,sz2,λt u=>?_];have st:=zC u (.tup [.ref p1,.ref O]);rwa[q t p1 O c b X Y _ (J.trans st) zA (st _ _ D) (st _ _ R) (by clear g e p o C B w1 I M; lia) g e p o]
def qX(_:b8):Sp:=λi H Q _=>E9 λ(a d:c5) (rows:List Int) (S:BS) (g:Nat) (n:i9) (x y:Int) (pt:Int×Int)=>A12 (i=[.ref a,.ref d,.int g,.str n,.int x,.int y]) (H a=Js (.lst 'm')) (8<=rows.length) (∀ v∈rows,0<=v/\v<1000003) (XG H d S) (g<=S.runs.length) (S.runs.length<=3) (∀ e∈S.runs,e.1.natAbs<=4/\e.2.natAbs<=4) (zT S n=Js pt) ((pt.1-x).natAbs<=10) ((pt.2-y).natAbs<=10) (∀(v:V)(a b c e:Int)(h:Hp),Same H h->Rep h (Deed.bearing g n a b c e).dt v->rz (a,b)->rz (c,e)->0<a*e-b*c->Q v h)
def pZ(F:Fun K "_law_true_bearing" "_law_true_bearing" wT f fd)(Z:Zs mg)(CB:Cb P w mg base)(yBh:Has P w K mg base "_law_left_pair" 2 ["_law_d","_law_wide"] (uk K))(yCw:Has P w K mg base "_law_lead" 1 ["_law_m","_law_one","_law_other"] (ko K)):yI P w K mg base CX0 3 f fd ["_law_d","_law_m","_law_moment","_law_mark","_law_x","_law_y"] (qX K):=by
 specialize yB
 ·obtain⟨a,d,rows,S,p,n,x,y,pt,rfl,_⟩:=h;rfl
 obtain⟨a,d,rows,S,p,n,x,y,pt,rfl,ha,l8,bd,T,hmo,l3,rb,hpt,hx,hy,q⟩:=h;obtain⟨m,b,r,nn,lw⟩:=id T;obtain⟨v2,a2,_⟩:=wR bd (k:=2) 'a' (by lia);obtain⟨v3,a3,_⟩:=wR bd (k:=3) 'a' (by lia)
 refine'⟨_,(zB (oZ ?_ (xj rfl (yE (uG 6 yB.nd) (yE (uG 7 yB.nd) sX))))
   (zB (oZ (zS (yD hr) (zS (yD hr) (pv 1) zV 'e') (pv 3) 'e') (xj rfl (yE (uG 8 yB.nd) (yE (uG 9 yB.nd) sX))))
   (zB (dq (i:=8) (j:=9) rfl yB.nd rfl rfl 'a' rfl rfl ?_ rfl)
   (zB (zQ 10 yB.nd ?_)
   (zB (yM ?_ (zB (oZ ?_ (xj rfl (yE (uG 11 yB.nd) (yE (uG 12 yB.nd) sX))))
   (zD (zK ?_))) zU)
   (zD (zK ?_))))))),?_⟩
 nofun
 erw[_,rfl,_,rfl,d,S,0,p,rfl,T,(by lia),hmo,(by lia),λt H1 B ht et=>?_];have lb:(yT S.runs 0 p).1.natAbs<=12/\(yT S.runs 0 p).2.natAbs<=12:=YQ l3 rb;generalize yT S.runs 0 p=ld at et lb;obtain⟨kvs,pa,hm,g1,g2⟩:=qy (lw.ma.to (.of B)) hpt;exists t,_,U,SqT.of et,U,.int ld.1,_,U,.int ld.2,_,U,rfl;exists _,U,d,.ref m,U,.inl ⟨_,.inr "marks",Rd.same lw.at_ B,U,zu.symm⟩,_,U,m,.ref pa,U,.inl ⟨kvs,.inr n,hm,U,g1.symm⟩,pa,_,U,SqT.of g2,U,.int pt.1,_,U,.int pt.2,_,U,rfl;exists _,U,_,U,_,_,U,U,_,U,_,_,U,U,_,U,_,U,_,_,U,U,_,U,_,_,U,U,_,_,rfl;have bP:(pt.1-x-ld.1).natAbs<=22:=by lia
 have bQ:(pt.2-y-ld.2).natAbs<=22:=by lia
 generalize pt.1-x-ld.1=P at bP ⊢;generalize pt.2-y-ld.2=R at bQ ⊢;have D:Sq K H1 a 'm':=.inl (SqL.of (B _ _ ha));exists _,U,a,_,_,_,U,U,D,a3,_,_,U,U,gt3,_,_,U,rfl;have b1:1<=1+v3%3:=by lia
 have b2:1+v3%3<=3:=by lia
 generalize 1+v3%3=k at b1 b2;have g:qH 'm' (Js ((3:Nat):Int)) Jt=(rows.drop 3).map V.int:=by rw[mR,HT.sIx_nat rows.length 0 3,show min 3 rows.length=3 by lia,show HT.sIx rows.length rows.length Jt=rows.length from rfl,Bb (by rw[Ak]; lia)]
 have g:qH 'm' (Js 3) Jt=(rows.drop 3).map V.int:=g;have I:SqL K H1 a 'm':=SqL.of (B _ _ ha);exists _,U,U,_,rfl;erw[ifE (λzP=>?_) (λzP=>?_)]
 ·exists _,U,U,_,rfl;erw[ifE (λzR=>?_) (λzR=>?_)]
  ·erw[jD ?_];erw[_,rfl,_,rfl,a,_,rfl,I,λc Y=>?_];have N:=zC Y (.lst (qH 'm' (Js 3) Jt));erw[c,rows.drop 3,3,rfl,SqL.of (by rw[zA,g]),(by rw[Ak]; lia),(λv X=>bd v (AX X)),'a','a',λM p1 p2 A0 A1 B0 B1 H2 O o e1 e2 tn n1 n2 n3 n4=>?_];exists M,_,U,SqT.of o,U,.ref p1,_,U,.ref p2,_,U,rfl;refine⟨_,U,_,U,_,U,_,U,(by show 5<=sizeLine; decide),λw C=>?_⟩;have e:=zC C (.tup [.str "bearing",.int p,.str n,.ref p1,.ref p2]);obtain⟨w1,u⟩:=cT tn (d9 n1 'a') (d9 n2 'a') (d9 n3 'a') (d9 n4 'a');rwa[q (.ref w) A0 A1 B0 B1 _ (B.trans (N.trans (O.trans e))) (rH zA (e _ _ e1) (e _ _ e2)) w1 u tn]
  ·exists _,U,a,_,_,_,U,U,D,a2,_,_,U,U,gt5,U,_,rfl;erw[ifE (λz5=>?_) (λz5=>?_)]
   ·
    erw[_,rfl,_,rfl,a,_,rfl,I,λc Y=>?_];have N:=zC Y (.lst (qH 'm' (Js 3) Jt));erw[c,rows.drop 3,3,rfl,SqL.of (by rw[zA,g]),(by rw[Ak]; lia),(λv X=>bd v (AX X)),'a','a',λM p1 p2 A0 A1 B0 B1 H2 O o e1 e2 tn n1 n2 n3 n4=>?_];exists M,_,U,SqT.of o,U,.ref p1,_,U,.ref p2,_,U,rfl;refine⟨_,U,_,U,_,U,_,U,(by show 5<=sizeLine; decide),λw C=>?_⟩;have e:=zC C (.tup [.str "bearing",.int p,.str n,.ref p1,.ref p2]);obtain⟨w1,u⟩:=cT tn (d9 n1 'a') (d9 n2 'a') (d9 n3 'a') (d9 n4 'a');rwa[q (.ref w) A0 A1 B0 B1 _ (B.trans (N.trans (O.trans e))) (rH zA (e _ _ e1) (e _ _ e2)) w1 u tn]
   ·have nz:¬ (P=0/\R=0):=λz=>zR z.2;erw[_,rfl,_,rfl,_,rfl,_,rfl,_,_,rfl,rfl,zv (by lia),_,rfl,_,_,rfl,rfl,_,rfl,_,rfl,_,_,rfl,rfl,zv (by lia),_,rfl,_,_,rfl,rfl,sz2,λp1 L=>?_];have G:=zC L (.tup [.int (k*P+R),.int (k*R-P)]);refine⟨_,U,_,U,_,_,U,U,zv (by lia),_,U,_,_,U,U,_,U,_,U,_,_,U,U,zv (by lia),_,U,_,_,U,U,sz2,λp2 J=>⟨(by show 5<=sizeLine; decide),λw C=>?_⟩⟩;have l:=zC J (.tup [.int (k*P-R),.int (k*R+P)]);have e:=zC C (.tup [.str "bearing",.int p,.str n,.ref p1,.ref p2]);have tn:=Zf b1 nz;have z1:=zE k P (show k.natAbs<=3 by lia) bP;have z2:=zE k R (show k.natAbs<=3 by lia) bQ;obtain⟨w1,u⟩:=cT tn (by lia) (by lia) (by lia) (by lia);rwa[q (.ref w) _ _ _ _ _ (B.trans (G.trans (l.trans e))) (rH zA (e _ _ (l _ _ zA)) (e _ _ zA)) w1 u tn]
 ·erw[vY ?_];exists _,U,a,_,_,_,U,U,D,a2,_,_,U,U,gt5,U,_,rfl;erw[ifE (λz5=>?_) (λz5=>?_)]
  ·
   erw[_,rfl,_,rfl,a,_,rfl,I,λc Y=>?_];have N:=zC Y (.lst (qH 'm' (Js 3) Jt));erw[c,rows.drop 3,3,rfl,SqL.of (by rw[zA,g]),(by rw[Ak]; lia),(λv X=>bd v (AX X)),'a','a',λM p1 p2 A0 A1 B0 B1 H2 O o e1 e2 tn n1 n2 n3 n4=>?_];exists M,_,U,SqT.of o,U,.ref p1,_,U,.ref p2,_,U,rfl;refine⟨_,U,_,U,_,U,_,U,(by show 5<=sizeLine; decide),λw C=>?_⟩;have e:=zC C (.tup [.str "bearing",.int p,.str n,.ref p1,.ref p2]);obtain⟨w1,u⟩:=cT tn (d9 n1 'a') (d9 n2 'a') (d9 n3 'a') (d9 n4 'a');rwa[q (.ref w) A0 A1 B0 B1 _ (B.trans (N.trans (O.trans e))) (rH zA (e _ _ e1) (e _ _ e2)) w1 u tn]
  ·have nz:¬ (P=0/\R=0):=λz=>zP z.1;erw[_,rfl,_,rfl,_,rfl,_,rfl,_,_,rfl,rfl,zv (by lia),_,rfl,_,_,rfl,rfl,_,rfl,_,rfl,_,_,rfl,rfl,zv (by lia),_,rfl,_,_,rfl,rfl,sz2,λp1 L=>?_];have G:=zC L (.tup [.int (k*P+R),.int (k*R-P)]);refine⟨_,U,_,U,_,_,U,U,zv (by lia),_,U,_,_,U,U,_,U,_,U,_,_,U,U,zv (by lia),_,U,_,_,U,U,sz2,λp2 J=>⟨(by show 5<=sizeLine; decide),λw C=>?_⟩⟩;have l:=zC J (.tup [.int (k*P-R),.int (k*R+P)]);have e:=zC C (.tup [.str "bearing",.int p,.str n,.ref p1,.ref p2]);have tn:=Zf b1 nz;have z1:=zE k P (show k.natAbs<=3 by lia) bP;have z2:=zE k R (show k.natAbs<=3 by lia) bQ;obtain⟨w1,u⟩:=cT tn (by lia) (by lia) (by lia) (by lia);rwa[q (.ref w) _ _ _ _ _ (B.trans (G.trans (l.trans e))) (rH zA (e _ _ (l _ _ zA)) (e _ _ zA)) w1 u tn]
def xm(_:b8):Sp:=PP
def lI(F:Fun K "_law_some_deeds" "_law_some_deeds" vP f fd)(Z:Zs mg)(CB:Cb P w mg base)(yAf:Has P w K mg base "_law_true_bearing" 3 ["_law_d","_law_m","_law_moment","_law_mark","_law_x","_law_y"] (qX K))(yDe:Has P w K mg base "_law_new" 1 [] (gU K)):yI P w K mg base CX0 4 f fd ["_law_some","_law_names_here"] (xm K):=by
 specialize zX
 ·obtain⟨a,r,rows,ns,rfl,_⟩:=h;rfl
 obtain⟨a,R,rows,ns,rfl,ha,l90,bd,eR,ln,okn,nod,q⟩:=h;obtain⟨v5,a5,_⟩:=wR bd (k:=5) 'a' (by lia);obtain⟨v6,a6,_⟩:=wR bd (k:=6) 'a' (by lia);obtain⟨v7,a7,_⟩:=wR bd (k:=7) 'a' (by lia);obtain⟨v18,a18,_⟩:=wR bd (k:=18) 'a' (by lia);have sq:∀{H':Hp},H' a=Js (.lst 'm')->Sq K H' a 'm':=λh=>.inl (SqL.of h)
 refine'⟨_,(zB (dq (i:=2) (j:=3) rfl zX.nd rfl rfl 'a' rfl rfl ?_ rfl)
   (zB (zQ 4 zX.nd (kU yDe 'f' rfl))
   (zB (zQ 5 zX.nd ?_)
   (zB (xK r9 rfl (xB rfl Z.range ?_) (uG 6 zX.nd) (zB (yA (og (pv 5) ?_))
   (zD (vG (yD hr) (zS (yD hr) (pv 4) zV 'e') ?_ (uQ dQ ?_ (tR yF) qI) rfl))))
   (zB (xK r9 rfl (xB rfl Z.range ?_) (uG 6 zX.nd) (zB (yA (og (pv 5) ?_))
   (zD (yA (og (zS (yD hr) (pv 4) zV 'e') (zG (uQ dQ ?_ (tR yF) qI) zL))))))
   (zB (zQ 7 zX.nd (yK ny rfl Z.sorted tL (zG (xY (oR rfl) rfl Z.list ue (zG (zS (yD hr) (pv 4) zV 'e') zL)) zL)))
   (zB (xK r9 rfl (xB rfl Z.range ?_) (uG 6 zX.nd) (zB (zQ 8 zX.nd ?_)
   (zB (zQ 9 zX.nd (yR Sk ?_ (yR iS (yK tG rfl Z.len ux (zG (zS (yD hr) (pv 4) zV 'e') zL)) yF)))
   (zB (dq (i:=10) (j:=11) rfl zX.nd rfl rfl 'a' rfl rfl ?_ rfl)
   (zB (zQ 12 zX.nd ?_)
   (zB (yM (PW.pt (bO ?_ (ik (yS (Ww hr.units0) (zS (yD hr) (zS (yD hr) (pv 4) zV 'e') (pv 10) 'e') (zS (yD hr) (zS (yD hr) (pv 4) zV 'e') (pv 11) 'e') (tM _))))) (zD (zQ 12 zX.nd ?_)) zU)
   (zD (yA (og (pv 5) (zG (pv 12) zL))))))))))
   (zD (zK (pv 5)))))))))),?_⟩
 nofun
 exists _,U,a,_,_,_,U,U,sq ha,a5,_,_,U,U,(by show(0:Int)<1701; decide),_,_,rfl,rfl,_,rfl,a,_,_,_,rfl,rfl,sq ha,a6,_,_,rfl,rfl,(by show(0:Int)<1701; decide),_,_,rfl,rfl,_,_,rfl;have x1:(v5%1701-850).natAbs<=850:=by lia
 have y1:(v6%1701-850).natAbs<=850:=by lia
 generalize v5%1701-850=X at x1 ⊢;generalize v6%1701-850=Y at y1 ⊢;erw[rfl,λd m b r n H1 s1 hd hm hr0 ed em eb er en nbm nnm=>?_];erw[sz0,λL hL=>?_];have sL:=zC hL (.lst []);have ndL:d≠L:=zI ed hL;have nmL:m≠L:=zI em hL;have nrL:r≠L:=zI er hL;have eL1:upd H1 L (.lst []) L=Js (.lst []):=zA;have ha1:=sL _ _ (s1 _ _ ha);have eR1:=sL _ _ (s1 _ _ eR);have ed1:=sL _ _ ed;have em1:=sL _ _ em;have eb1:=sL _ _ eb;have er1:=sL _ _ er;have en1:=sL _ _ en;have s01:=s1.trans sL;have hL0:=s1.free hL;generalize upd H1 L (.lst [])=H2 at eL1 ha1 eR1 ed1 em1 eb1 er1 en1 s01 ⊢;have naL:a≠L:=λz=>by rw[z,hL0] at ha; cases ha
 have nam:a≠m:=λz=>by rw[z,hm] at ha; cases ha
 have nRL:R≠L:=λz=>by rw[z,hL0] at eR; cases eR
 have nRm:R≠m:=λz=>by rw[z,hm] at eR; cases eR
 have ndm:d≠m:=λz=>by rw[z,em1] at ed1; cases ed1
 exists _,U,a,_,_,_,U,U,sq ha1,a7,_,_,U,U,gt3,_,_,U,rfl;have k3:3<=3+v7%3:=by lia
 have k5:3+v7%3<=5:=by lia
 generalize 3+v7%3=M at k3 k5;refine⟨_,U,(by lia),(by lia),wC (lo:=0) (n:=M.toNat) (λi σ H'=>A3 (∀ x o,x≠L->x≠m->H2 x=Js o->H' x=Js o) (E4 λ(G:List Deed) (l:List (i9×Int×Int)) (xs:List V) (mk:List (Key×V))=>A8 (H' L=Js (.lst xs)) (wH H' (G.map Deed.dt) xs) (G.length=i) (iX G l [] [] 1) (l.map (·.1)=ns.take i) (H' m=Js (.dK mk)) (uI H' mk (mkE l)) (∀ e∈l,(e.2.1-X).natAbs<=10/\(e.2.2-Y).natAbs<=10)) (∃ u:Option V,σ=[Js (.ref a),Js (.ref R),Js (.int X),Js (.int Y),Js (.ref d),Js (.ref L),u,Jt,Jt,Jt,Jt,Jt,Jt]))
  ⟨λ_ _ _ _ e=>e,⟨[],[],[],[],eL1,yN.mpr rfl,rfl,TQ,rfl,em1,.nil,λe he=>(nomatch he)⟩,Jt,rfl⟩ ?_ ?_⟩
 ·rintro i σ H3 hi ⟨sH,⟨G,l,xs,mk,eL,rp,lD,T,nms,eM,kv,pl⟩,u,rfl⟩;have hi5:i<ns.length:=by lia
  have hn:ns[i]?=Js ns[i]:=d6 hi5;have ha3:=sH _ _ naL nam ha1;have eR3:=sH _ _ nRL nRm eR1;obtain⟨w1,b1,_⟩:=wR bd (k:=8+2*i) (by lia) (by lia);obtain⟨w2,b2,_⟩:=wR bd (k:=9+2*i) (by lia) (by lia);rw[Be];have c1:atI 'm' (8+2*(i:Int))=Js (.int w1):=by rw[show 8+2*(i:Int)=((8+2*i:Nat):Int) by lia]; rwa[b1]
  have c2:atI 'm' (9+2*(i:Int))=Js (.int w2):=by rw[show 9+2*(i:Int)=((9+2*i:Nat):Int) by lia]; rwa[b2]
  have cn:atI (ns.map V.str) (i:Int)=Js (.str ns[i]):=rE (by rw[e7,hn]; rfl);exists _,U,.inl ⟨U,_,SqL.of eL⟩,_,U,_,U,R,_,_,.str ns[i],U,U,.inl (SqL.of eR3),cn;exists _,U,_,U,_,U,_,_,U,U,zv (by lia),_,_,U,U,a,_,_,_,U,U,sq ha3,c1,_,_,U,U,(by show(0:Int)<21; decide),_,_,rfl,rfl,_,_,rfl,rfl;refine⟨_,U,_,U,_,U,_,_,U,U,zv (by lia),_,_,U,U,a,_,_,_,U,U,sq ha3,c2,_,_,U,U,(by show(0:Int)<21; decide),_,_,rfl,rfl,_,_,rfl,rfl,(by show 4<=sizeLine; decide),λt ht=>?_⟩;have x3:(X+w1%21-10-X).natAbs<=10:=by lia
  have y3:(Y+w2%21-10-Y).natAbs<=10:=by lia
  generalize X+w1%21-10=g at x3 ⊢;generalize Y+w2%21-10=W at y3 ⊢;have st:=zC ht (.tup [.str "mark",.str ns[i],.int g,.int W]);have eL3:=st _ _ eL;exists L,_,.ref t,U,U,eL3,zM (by rw[rp.length,ac]; lia);have sE4:=rP (o:=.lst (xs++[.ref t])) eL3;have np4:=rK eL3;have ntL:t≠L:=λz=>by rw[z,eL] at ht; cases ht
  have rp4:wH (upd (upd H3 t (.tup [.str "mark",.str ns[i],.int g,.int W])) L (.lst (xs++[.ref t]))) ((G++[Deed.mark ns[i] g W]).map Deed.dt) (xs++[.ref t]):=by
   rw[g5];exact(wH.app (rp.to (.of st)) (.one (TC zA))).sam sE4 np4
  have kv4:=(kv.to (.of st)).sam sE4 np4;have k4:∀ x o,x≠L->H3 x=Js o->upd (upd H3 t (.tup [.str "mark",.str ns[i],.int g,.int W])) L (.lst (xs++[.ref t])) x=Js o:=λx o h e=>by rw[zH h]; rwa[st _ _ e]
  have eL4:upd (upd H3 t (.tup [.str "mark",.str ns[i],.int g,.int W])) L (.lst (xs++[.ref t])) L=Js (.lst (xs++[.ref t])):=zA;have et4:upd (upd H3 t (.tup [.str "mark",.str ns[i],.int g,.int W])) L (.lst (xs++[.ref t])) t=Js (.tup [.str "mark",.str ns[i],.int g,.int W]):=by rw[zH ntL,zA]
  generalize upd (upd H3 t (.tup [.str "mark",.str ns[i],.int g,.int W])) L (.lst (xs++[.ref t]))=H4 at rp4 kv4 k4 eL4 et4 ⊢;have eM4:=k4 _ _ nmL eM;have ed4:=k4 _ _ ndL (sH _ _ ndL ndm ed1);have eR4:=k4 _ _ nRL eR3;have lst1:atI (xs++[.ref t]) (-1)=Js (.ref t):=Zo xs (.ref t);refine⟨_,U,_,U,L,_,_,.ref t,U,U,.inl (SqL.of eL4),lst1,_,U,t,_,U,SqT.of et4,(λz=>y9 z.1 (by show ¬ HT.sIx 4 0 (Js 2)=0; decide)),λc hc=>?_⟩;rw[show qH [V.str "mark",V.str ns[i],V.int g,V.int W] (Js 2) Jt=[V.int g,V.int W] from rfl];have sc:=zC hc (.tup [.int g,.int W]);have eM5:=sc _ _ eM4;have lk:mk.length=l.length:=by rw[kv.length,fj]
  have ll:l.length=i:=by have:=congrArg Br nms; rw[ac,o3] at this; lia
  exists _,U,d,.ref m,U,.inl ⟨_,.inr "marks",.inl (sc _ _ ed4),U,zu.symm⟩,_,U,_,U,R,_,_,.str ns[i],U,U,.inl (SqL.of (sc _ _ eR4)),cn,m,_,U,iA.k (k:=.inr ns[i]) eM5 (zM (by lia));have sE5:=rP (o:=.dK (rV mk (.inr ns[i]) (.ref c))) eM5;have np5:=Yv eM5;have nmem:ns[i] ∉ l.map (·.1):=by
   rw[nms];rwa[YG nod hn]
  have nr5:pY (g,W):=⟨by dsimp only; lia,by dsimp only; lia,by dsimp only; lia,by dsimp only; lia⟩;erw[λx o h1 h2 e=>by rw[zH h2]; exact sc _ _ (k4 _ _ h1 (sH _ _ h1 h2 e)),⟨G++[.mark ns[i] g W],l++[(ns[i],g,W)],xs++[.ref t],_,?_,(rp4.to (.of sc)).sam sE5 np5,(by rw[g7,lD]; rfl),T.mark (Re (okn _ (Ap hi5)) nmem nr5 (by lia)),?_,zA,?_,λe he=>?_⟩,_,rfl]
  ·rw[zH nmL.symm]; rwa[sc _ _ eL4]
  ·rw[g5,nms,Az,hn]; rfl
  ·have:=((kv4.to (.of sc)).put (k:=.inr ns[i]) (se (p:=(g,W)) zA)).sam sE5 np5;have pe:=zh (es:=mkE l) (k:=.inr ns[i]) (d:=ptD (g,W)) (gJ (S:=stN l [] [] 1) (iT nmem));rw[pe] at this;rw[al];rwa[this]
  ·rcases m9.mp he with z | z
   ·rwa[pl e z]
   ·rw[e8.mp z]; rwa[x3,y3]
 ·rintro σ H3 ⟨sH,⟨G,l,xs,mk,eL,rp,lD,T,nms,eM,kv,pl⟩,u,rfl⟩;have nrm:r≠m:=λz=>by rw[z,em1] at er1; cases er1
  have nar:a≠r:=λz=>by rw[z,hr0] at ha; cases ha
  have ndr:d≠r:=λz=>by rw[z,er1] at ed1; cases ed1
  have nbL:b≠L:=zI eb hL;have nnL:n≠L:=zI en hL;have nbr:b≠r:=λz=>by rw[z,er1] at eb1; cases eb1
  have nnr:n≠r:=λz=>by rw[z,er1] at en1; cases en1
  have ha3:=sH _ _ naL nam ha1;have ed3:=sH _ _ ndL ndm ed1;have er3:=sH _ _ nrL nrm er1;have eb3:=sH _ _ nbL nbm eb1;have en3:=sH _ _ nnL nnm en1;have s03:∀ x o,H x=Js o->H3 x=Js o:=λx o e=>sH x o (zI e hL0) (zI e hm) (s01 _ _ e);have lM:l.length=M.toNat:=by have:=congrArg Br nms; rw[ac,o3] at this; lia
  clear sH;exists _,U,a,_,_,_,U,U,sq ha3,a18,_,_,U,U,gt4;have n0:0<=v18%4:=by lia
  have n3:v18%4<=3:=by lia
  generalize v18%4=N at n0 n3;refine⟨_,U,(by lia),(by lia),wC (lo:=0) (n:=N.toNat) (λi σ H'=>A3 (∀ x o,x≠L->x≠r->H3 x=Js o->H' x=Js o) (E4 λ(G:List Deed) (I:List (Int×Int)) (xs ys:List V)=>A8 (H' L=Js (.lst xs)) (wH H' (G.map Deed.dt) xs) (G.length=M.toNat+i) (iX G l I [] 1) (I.length=i) (H' r=Js (.lst ys)) (wH H' (I.map ptD) ys) (∀ e∈I,e.1.natAbs<=4/\e.2.natAbs<=4)) (∃ u:Option V,σ=[Js (.ref a),Js (.ref R),Js (.int X),Js (.int Y),Js (.ref d),Js (.ref L),u,Jt,Jt,Jt,Jt,Jt,Jt]))
   ⟨λ_ _ _ _ e=>e,⟨G,[],xs,[],eL,rp,lD,T,rfl,er3,yN.mpr rfl,λe he=>(nomatch he)⟩,u,rfl⟩ ?_ ?_⟩
  ·clear lD rp T;rintro i σ H4 hi ⟨sK,⟨G,I,xs,ys,eL,rp,lD,T,lrs,er4,rr,rb⟩,u,rfl⟩;have ha4:=sK _ _ naL nar ha3;have ed4:=sK _ _ ndL ndr ed3;obtain⟨w1,b1,_⟩:=wR bd (k:=19+2*i) (by lia) (by lia);obtain⟨w2,b2,_⟩:=wR bd (k:=20+2*i) (by lia) (by lia);rw[Be];have c1:atI 'm' (19+2*(i:Int))=Js (.int w1):=b1;have c2:atI 'm' (20+2*(i:Int))=Js (.int w2):=b2;exists _,U,.inl ⟨U,_,SqL.of eL⟩,_,U,_,U,_,_,U,U,zv (by lia),_,_,U,U,a,_,_,_,U,U,sq ha4,c1,_,_,U,U,(by show(0:Int)<9; decide),_,_,rfl,rfl;refine⟨_,U,_,U,_,_,U,U,zv (by lia),_,_,U,U,a,_,_,_,U,U,sq ha4,c2,_,_,U,U,(by show(0:Int)<9; decide),_,_,rfl,rfl,sz3,λt ht=>?_⟩;have x3:(w1%9-4).natAbs<=4:=by lia
   have y3:(w2%9-4).natAbs<=4:=by lia
   generalize w1%9-4=g at x3 ⊢;generalize w2%9-4=W at y3 ⊢;have st:=zC ht (.tup [.str "sail",.int g,.int W]);have eL3:=st _ _ eL;exists L,_,.ref t,U,U,eL3,zM (by rw[rp.length,ac]; lia);have sE4:=rP (o:=.lst (xs++[.ref t])) eL3;have np4:=rK eL3;have ntL:t≠L:=λz=>by rw[z,eL] at ht; cases ht
   have rp4:wH (upd (upd H4 t (.tup [.str "sail",.int g,.int W])) L (.lst (xs++[.ref t]))) ((G++[Deed.sail g W]).map Deed.dt) (xs++[.ref t]):=by
    rw[g5];exact(wH.app (rp.to (.of st)) (.one (UE zA))).sam sE4 np4
   have rr4:=(rr.to (.of st)).sam sE4 np4;have k4:∀ x o,x≠L->H4 x=Js o->upd (upd H4 t (.tup [.str "sail",.int g,.int W])) L (.lst (xs++[.ref t])) x=Js o:=λx o h e=>by rw[zH h]; rwa[st _ _ e]
   have eL4:upd (upd H4 t (.tup [.str "sail",.int g,.int W])) L (.lst (xs++[.ref t])) L=Js (.lst (xs++[.ref t])):=zA;have et4:upd (upd H4 t (.tup [.str "sail",.int g,.int W])) L (.lst (xs++[.ref t])) t=Js (.tup [.str "sail",.int g,.int W]):=by rw[zH ntL,zA]
   generalize upd (upd H4 t (.tup [.str "sail",.int g,.int W])) L (.lst (xs++[.ref t]))=H5 at rp4 rr4 k4 eL4 et4 ⊢;have er5:=k4 _ _ nrL er4;have ed5:=k4 _ _ ndL ed4;have lst1:atI (xs++[.ref t]) (-1)=Js (.ref t):=Zo xs (.ref t);refine⟨_,U,d,.ref r,U,.inl ⟨_,.inr "runs",.inl ed5,U,oK.symm⟩,.inl ⟨U,_,SqL.of er5⟩,_,U,_,U,L,_,_,.ref t,U,U,.inl (SqL.of eL4),lst1,_,U,t,_,U,SqT.of et4,(λz=>y9 z.1 (by show ¬ HT.sIx 3 0 (Js 1)=0; decide)),λc hc=>?_⟩;rw[show qH [V.str "sail",V.int g,V.int W] (Js 1) Jt=[V.int g,V.int W] from rfl];have sc:=zC hc (.tup [.int g,.int W]);have er6:=sc _ _ er5;have ly:ys.length=I.length:=by rw[rr.length,ac]
   exists r,_,.ref c,U,U,er6,zM (by lia);have sE6:=rP (o:=.lst (ys++[.ref c])) er6;have np6:=rK er6;have nr5:pY (g,W):=⟨by dsimp only; lia,by dsimp only; lia,by dsimp only; lia,by dsimp only; lia⟩;erw[λx o h1 h2 e=>by rw[zH h2]; exact sc _ _ (k4 _ _ h1 (sK _ _ h1 h2 e)),⟨G++[.sail g W],I++[(g,W)],xs++[.ref t],ys++[.ref c],?_,(rp4.to (.of sc)).sam sE6 np6,(by rw[g7,lD]; rfl),T.sail (QH nr5 (by lia)),(by rw[g7,lrs]; rfl),zA,?_,λe he=>?_⟩,_,rfl]
   ·rw[zH nrL.symm]; rwa[sc _ _ eL4]
   ·rw[g5];exact(wH.app (rr4.to (.of sc)) (.one (se (p:=(g,W)) zA))).sam sE6 np6
   ·rcases m9.mp he with z | z
    ·rwa[rb e z]
    ·rw[e8.mp z]; rwa[x3,y3]
  ·rintro σ H4 ⟨sK,hh,u,rfl⟩;have sE4:tZ (λx=>x=L\/x=r) H3 H4:=λx o hx e=>.inl (sK x o (λz=>hx (.inl z)) (λz=>hx (.inr z)) e);have np4:∀ b xs,H3 b=Js 'w'->¬ (b=L\/b=r):=λb xs e z=>z.elim (rK eL b xs e) (rK er3 b xs e);have kv4:=kv.sam sE4 np4;clear eL rp lD T;obtain⟨G,I,xs,ys,eL,rp,lD,T,lrs,er4,rr,rb⟩:=hh;have ha4:=sK _ _ naL nar ha3;have ed4:=sK _ _ ndL ndr ed3;have eM4:=sK _ _ nmL nrm.symm eM;have eb4:=sK _ _ nbL nbr eb3;have en4:=sK _ _ nnL nnr en3;have s04:∀ x o,H x=Js o->H4 x=Js o:=λx o e=>sK x o (zI e hL0) (zI e hr0) (s03 _ _ e);have lw4:LwA H4 d m b r n (stN l I [] 1):=⟨.inl ed4,⟨mk,.inl eM4,kv4⟩,.nil eb4,⟨ys,er4,rr⟩,.nil en4⟩;have lrm:(mk.map λkv=>kV kv.1)=(l.map (·.1)).map V.str:=gf kv4;have ly:ys.length=I.length:=by rw[rr.length,ac]
   erw[_,rfl,d,.ref m,rfl,.inl ⟨_,.inr "marks",.inl ed4,rfl,zu.symm⟩,m,mk,rfl,.inl eM4,λp1 hp1=>?_];rw[lrm];have s5:=zC hp1 (.lst ((l.map (·.1)).map V.str));erw[p1,l.map (·.1),rfl,SqL.of zA,(by rw[ac]; lia),λp2 ms hp2 pm srt=>?_];have s6:=zC hp2 (.lst (ms.map V.str));have s46:=s5.trans s6;have ep2:upd (upd H4 p1 (.lst ((l.map (·.1)).map V.str))) p2 (.lst (ms.map V.str)) p2=Js (.lst (ms.map V.str)):=zA;generalize upd (upd H4 p1 (.lst ((l.map (·.1)).map V.str))) p2 (.lst (ms.map V.str))=H6 at s46 ep2 ⊢;have lms:ms.length=M.toNat:=by rw[pm.length_eq,ac,lM]
   have np2:p2≠L:=λz=>by rw[z] at hp2; rw[s5 _ _ eL] at hp2; cases hp2
   have ha6:=s46 _ _ ha4;have lw6:=lw4.to (.of s46);have rp6:=rp.to (.of s46);have eL6:=s46 _ _ eL;have s06:∀ x o,H x=Js o->H6 x=Js o:=λx o e=>s46 _ _ (s04 _ _ e);exists _,U,a,_,_,_,U,U,sq ha6,a7,_,_,U,U,uy.of 'a' 'h',_,_,U,U,(by show(0:Int)<7; decide);have j0:0<=v7/3%7:=by lia
   have j6:v7/3%7<=6:=by lia
   generalize v7/3%7=J at j0 j6;refine⟨_,U,(by lia),(by lia),wC (lo:=0) (n:=J.toNat) (λi σ H'=>A3 (∀ x o,x≠L->H6 x=Js o->H' x=Js o) (E4 λ(G:List Deed) (no:List (Int×Deed)) (k:Int) (xs:List V)=>A5 (H' L=Js (.lst xs)) (wH H' (G.map Deed.dt) xs) (G.length=M.toNat+N.toNat+i) (iX G l I no k) (xi no k i)) (E6 λ(u1 u2 u3 u4 u5 u6:Option V)=>σ=[Js (.ref a),Js (.ref R),Js (.int X),Js (.int Y),Js (.ref d),Js (.ref L),u1,Js (.ref p2),u2,u3,u4,u5,u6]))
    ⟨λ_ _ _ e=>e,⟨G,[],1,xs,eL6,rp6,lD,T,xi.nil⟩,u,Jt,Jt,Jt,Jt,Jt,rfl⟩ ?_ ?_⟩
   ·clear lD rp T rp6 eL6;rintro i σ H7 hi ⟨sJ,⟨G,no,k,xs,eL7,rp,lD,T,lno⟩,u1,u2,u3,u4,u5,u6,rfl⟩;have sE7:tZ (λx=>x=L) H6 H7:=λx o hx e=>.inl (sJ x o hx e);have eLq:∃ zs,H6 L=Js (.lst zs):=⟨_,s46 _ _ eL⟩;obtain⟨zs,eLq⟩:=eLq;have lw7:=lw6.samE sE7 (λa kvs h z=>by
     rw[z] at h;rcases h with h | ⟨o,h⟩ <;> rw[eLq] at h <;> cases h) (rK eLq) (λ_ _=>nrL)
    have ha7:=sJ _ _ naL ha6;have ep7:=sJ _ _ np2 ep2;rw[Be];have cut:qH 'm' (Js (27+8*(i:Int))) Jt=(rows.drop (27+8*i)).map V.int:=by
     rw[show 27+8*(i:Int)=((27+8*i:Nat):Int) by lia,mR,HT.sIx_nat rows.length 0 (27+8*i),show min (27+8*i) rows.length=27+8*i by lia,show HT.sIx rows.length rows.length Jt=rows.length from rfl,Bb (by rw[Ak]; lia)]
    erw[_,rfl,_,rfl,_,_,rfl,rfl,zv (by lia),_,_,rfl,rfl,_,rfl,a,_,rfl,SqL.of ha7,λc hc=>?_];rw[cut];have bd8:∀ v∈rows.drop (27+8*i),0<=v/\v<1000003:=λv hv=>bd v (AX hv);have l8:8<=(rows.drop (27+8*i)).length:=by rw[Ak]; lia
    generalize rows.drop (27+8*i)=rw8 at bd8 l8 ⊢;have sc:=zC hc (.lst (rw8.map V.int));have ec:upd H7 c (.lst (rw8.map V.int)) c=Js (.lst (rw8.map V.int)):=zA;have lw8:=lw7.to (.of sc);have rp8:=rp.to (.of sc);have eL8:=sc _ _ eL7;have ep8:=sc _ _ ep7;have k8:∀ x o,x≠L->H6 x=Js o->upd H7 c (.lst (rw8.map V.int)) x=Js o:=λx o h e=>sc _ _ (sJ x o h e);generalize upd H7 c (.lst (rw8.map V.int))=H8 at ec lw8 rp8 eL8 ep8 k8 ⊢;obtain⟨d0,g0,_⟩:=wR bd8 (k:=0) 'a' (by lia);obtain⟨d1,g1,_⟩:=wR bd8 (k:=1) 'a' (by lia);obtain⟨d2,g2,_⟩:=wR bd8 (k:=2) 'a' (by lia);have cq:Sq K H8 c (rw8.map V.int):=.inl (SqL.of ec);obtain⟨ys8,er8,rr8⟩:=lw8.ru;have ly8:ys8.length=I.length:=by rw[rr8.length,ac]; rfl
    exists _,U,c,_,_,_,U,U,cq,g0,_,U,d,.ref r,U,.inl ⟨_,.inr "runs",lw8.at_,U,oK.symm⟩,r,ys8,U,.inl (SqL.of er8),_,_,U,U,_,_,U,U,(by show(0:Int)<(ys8.length:Int)+1; lia);rw[ly8];obtain⟨mo,emo⟩:∃ mo:Nat,d0%((I.length:Int)+1)=mo:=⟨(d0%((I.length:Int)+1)).toNat,(Eg (Ar _ (by lia))).symm⟩;have hmo:mo<=I.length:=by have:=Ad d0 (show(0:Int)<(I.length:Int)+1 by lia); lia
    rw[emo];have lk:((ms.map V.str).length:Int)=M:=by rw[ac,lms]; lia
    obtain⟨i1,h1,g3⟩:∃ n1,n1∈ms/\atI (ms.map V.str) (d1%((ms.map V.str).length:Int))=Js (.str n1):=SX (by lia);obtain⟨i2,h2,g4⟩:∃ n1,n1∈ms/\atI (ms.map V.str) (d2/5%((ms.map V.str).length:Int))=Js (.str n1):=SX (by lia);have pq:Sq K H8 p2 (ms.map V.str):=.inl (SqL.of ep8);exists _,U,_,U,c,_,_,_,U,U,cq,g1,_,U,p2,_,U,.inl (SqL.of ep8),_,_,U,U,(by show(0:Int)<((ms.map V.str).length:Int); lia),p2,_,_,.str i1,rfl,rfl,pq,g3;exists _,U,_,U,c,_,_,_,U,U,cq,g2,_,_,U,U,uy.of 'a' 'h',_,U,p2,_,U,.inl (SqL.of ep8),_,_,U,U,(by show(0:Int)<((ms.map V.str).length:Int); lia),p2,_,_,.str i2,rfl,rfl,pq,g4,_,_,rfl;refine⟨_,U,_,U,_,U,(by show 4<=sizeLine; decide),λt ht=>?_⟩;have st:=zC ht (.tup [.str "range",.int mo,.str i1,.str i2]);have et:upd H8 t (.tup [.str "range",.int mo,.str i1,.str i2]) t=Js (.tup [.str "range",.int mo,.str i1,.str i2]):=zA;have ec9:=st _ _ ec;have lw9:=lw8.to (.of st);have rp9:=rp8.to (.of st);have eL9:=st _ _ eL8;have k9:∀ x o,x≠L->H6 x=Js o->upd H8 t (.tup [.str "range",.int mo,.str i1,.str i2]) x=Js o:=λx o h e=>st _ _ (k8 x o h e);have ntL:t≠L:=λz=>by rw[z,eL8] at ht; cases ht
    generalize upd H8 t (.tup [.str "range",.int mo,.str i1,.str i2])=H9 at et ec9 lw9 rp9 eL9 k9 ⊢;have m1:i1∈l.map (·.1):=pm.mem_iff.mp h1;have m2:i2∈l.map (·.1):=pm.mem_iff.mp h2;obtain⟨q1,f1⟩:=qR (S:=stN l I [] 1) m1;obtain⟨q2,f2⟩:=qR (S:=stN l I [] 1) m2;obtain⟨kvs,pa,hkv,t1,t2⟩:=qy lw9.ma f1;obtain⟨kvs',pb,hkv',t3,t4⟩:=qy lw9.ma f2;have pl1:=pl _ (oE f1);have cq9:Sq K H9 c (rw8.map V.int):=.inl (SqL.of ec9);have lx:xs.length=M.toNat+N.toNat+i:=by rw[rp.length,ac,lD]
    have fin:∀(v:V)(D:Deed)(no':List (Int×Deed))(k':Int)(Hz:Hp),Same H9 Hz->Rep Hz D.dt v->iX (G++[D]) l I no' k'->xi no' k' (i+1) ->
      Hz L=Js (.lst xs)/\((∀ x o,x≠L->H6 x=Js o->upd Hz L (.lst (xs++[v])) x=Js o)/\(E4 λ(G:List Deed) (no:List (Int×Deed)) (k:Int) (ys:List V)=>A5 (upd Hz L (.lst (xs++[v])) L=Js (.lst ys)) (wH (upd Hz L (.lst (xs++[v]))) (G.map Deed.dt) ys) (G.length=M.toNat+N.toNat+(i+1)) (iX G l I no k) (xi no k (i+1)))):=by
     intro v D no' k' Hz sz rv dz ln;have O:=sz _ _ eL9;erw[O,λx o h e=>by rw[zH h]; exact sz _ _ (k9 x o h e),G++[D],no',k',xs++[v],zA,?_,by rw[g7,lD]; rfl,dz,ln];rw[g5];exact(wH.app (rp9.to (.of sz)) (.one rv)).sam (rP O) (rK O)
    exists _,U,c,_,_,_,U,U,cq9,g2,_,_,U,U,gt5,_,_,U,U,_,rfl;erw[ifD (λz=>?_) (λz=>?_)]
    ·erw[jD ?_];refine⟨_,U,_,U,_,U,_,U,_,U,_,U,c,d,rw8,stN l I [] 1,mo,i1,X,Y,q1,U,ec9,l8,bd8,⟨m,b,r,n,lw9⟩,hmo,(by show I.length<=3; lia),rb,f1,pl1.1,pl1.2,λv A B C D Hz sz rv w1 w2 tn=>?_⟩;obtain⟨O,f3,f4⟩:=fin v _ _ _ Hz sz rv (T.bearing (io hmo m1 w1 w2 tn (by rw[lno.len]; lia))) lno.snoc;erw[_,rfl,.inl ⟨rfl,_,SqL.of O⟩,_,rfl,L,_,v,rfl,rfl,O,zM (by lia),f3,f4,_,_,_,_,_,_,rfl]
    ·refine⟨_,U,d,.ref m,U,.inl ⟨_,.inr "marks",lw9.at_,U,zu.symm⟩,_,U,m,_,U,.inl ⟨kvs,.inr i1,hkv,U,t1.symm⟩,_,U,d,.ref m,U,.inl ⟨_,.inr "marks",lw9.at_,U,zu.symm⟩,_,U,m,_,U,.inl ⟨kvs',.inr i2,hkv',U,t3.symm⟩,
      pa,pb,[q1.1,q1.2],[q2.1,q2.2],rfl,rfl,SqT.of t2,SqT.of t4,_,rfl,?_⟩
     erw[ifD (λz=>?_) (λz=>?_)]
     ·
      refine⟨_,U,_,U,_,U,_,U,_,U,_,U,c,d,rw8,stN l I [] 1,mo,i1,X,Y,q1,U,ec9,l8,bd8,⟨m,b,r,n,lw9⟩,hmo,(by show I.length<=3; lia),rb,f1,pl1.1,pl1.2,λv A B C D Hz sz rv w1 w2 tn=>?_⟩;obtain⟨O,f3,f4⟩:=fin v _ _ _ Hz sz rv (T.bearing (io hmo m1 w1 w2 tn (by rw[lno.len]; lia))) lno.snoc;erw[_,rfl,.inl ⟨rfl,_,SqL.of O⟩,_,rfl,L,_,v,rfl,rfl,O,zM (by lia),f3,f4,_,_,_,_,_,_,rfl]
     ·have ne:zT (stN l I no k) i1≠zT (stN l I no k) i2:=λy=>by
       have y:zT (stN l I [] 1) i1=zT (stN l I [] 1) i2:=y;rw[f1,f2] at y;injection y with y
       rwa[z (by rw[y])]
      obtain⟨O,f3,f4⟩:=fin (.ref t) _ _ _ H9 (Same.refl _) (Xg et) (T.range (Uj hmo m1 m2 ne (by rw[lno.len]; lia))) lno.snoc;erw[_,rfl,.inl ⟨rfl,_,SqL.of O⟩,_,rfl,L,_,.ref t,rfl,rfl,O,zM (by lia),f3,f4,_,_,_,_,_,_,rfl]
   ·clear lD rp T;rintro σ H7 ⟨sJ,⟨G,no,k,xs,eL7,rp,lD,T,lno⟩,u1,u2,u3,u4,u5,u6,rfl⟩;refine⟨_,U,q L xs G H7 (λx o e=>sJ x o (zI e hL0) (s06 _ _ e)) hL0 eL7 rp (by lia) T.ok (by rw[T.at_]; show I.length<=3; lia) T.four ⟨J.toNat,by lia,by rw[T.at_]; rwa[lno]⟩ (by rw[T.at_]; exact⟨by show 3<=l.length; lia,by show l.length<=5; lia,λe he=>by have:=pl e he; lia,rfl⟩)⟩
def iw(K:b8):Sp:=λd H Q _=>E3 λ(a:c5) (rows:List Int) (b:Nat)=>A6 (d=[.ref a,.int b]) (SqL K H a 'm') (b<=rows.length) (b<=25) (∀ x∈rows,0<=x/\x<1000003) (∀(r:c5)(ns:List i9)(c:Hp),Same H c->H r=Jt->c r=Js (.lst (ns.map V.str))->ns.length=b->(∀ n∈ns,qE n)->ns.Nodup->Q (.ref r) c)
def Xz(F:Fun K "_law_names" "_law_names" ql f fd)(Z:Zs mg)(CB:Cb P w mg base)  : yI P w K mg base CX0 1 f fd ["_law_some","_law_many"] (iw K):=by
 specialize yY
 ·obtain⟨a,rows,b,rfl,_⟩:=h;rfl
 obtain⟨a,rows,b,rfl,ha,h1,h2,bd,q⟩:=h
 refine'⟨_,(zB (zQ 2 yY.nd zV)
   (zB (zQ 3 yY.nd ?_)
   (zB (xK r9 rfl (xB rfl Z.range (zG (pv 1) zL)) (uG 4 yY.nd) (zB (zQ 5 yY.nd ?_)
   (zB (zQ 6 yY.nd ?_)
   (zB (zQ 7 yY.nd ?_)
   (zB (zQ 8 yY.nd (RF PySem.F.plainAttrs_str PySem.F.slot_str_join PySem.F.type_str_join RL zV (zG (wN (T:=["_law_k"]) (caps:=[("_law_letters",2),("_law_raw",5),("_law_step",7)]) ⟨rfl,by ac_nf,by ac_nf,rfl,⟨⟨rfl,rfl,BW rfl⟩,⟨rfl,rfl,BW rfl⟩,⟨rfl,rfl,BW rfl⟩,Ao⟩⟩ rfl (xB rfl Z.range (zG (pv 6) zL)) (λ_=>(uG 0 (show(["_law_k","_law_letters","_law_raw","_law_step"]:List i9).Nodup by ac_nf))) (λ_=>xM) (λ_=>(qN SG (pv 1) ?_ 'e'))) zL)))
   (zB (zQ 9 yY.nd ?_)
   (zB (xK r9 rfl (xB rfl Z.range (zG yF zL)) (uG 10 yY.nd) (zD (yM (yS dE (pv 8) (pv 3) (by with_unfolding_all rfl)) (zB (zQ 11 yY.nd (qN SG (pv 2) ?_ 'e'))
   (zD (zQ 8 yY.nd (yR ir (yR ir (uQ Sv (pv 8) qI (tR (pv 9))) (pv 11)) (uQ Sv (pv 8) (tR ?_) qI))))) zU)))
   (zD (yA (og (pv 3) (zG (pv 8) zL)))))))))))
   (zD (zK (pv 3)))))),?_⟩
 nofun
 refine⟨sz0,λr M=>?_⟩;have s0:=zC M (.lst []);refine⟨_,U,_,U,by lia,by lia,wC (lo:=0) (n:=((b:Nat):Int).toNat) (λi v G=>∃ ns:List i9,A6 (Same H G) (G r=Js (.lst (ns.map V.str))) (ns.length=i) (∀ n∈ns,qE n) ns.Nodup (E8 λ(u4 u5 u6 u7 u8 u9 g d:Option V)=>v=[Js (.ref a),Js (.int b),Js (.str abc),Js (.ref r),u4,u5,u6,u7,u8,u9,g,d]))
  ⟨[],s0,zA,rfl,(λ_ z=>nomatch z),F1,Jt,Jt,Jt,Jt,Jt,Jt,Jt,Jt,rfl⟩ ?_ ?_⟩
 ·rintro i v H1 hi ⟨ns,s1,er,ln,L,nd,u4,u5,u6,u7,u8,u9,g,d,rfl⟩;rw[Ac] at hi;obtain⟨x,ax,x0,x1⟩:=wR bd (k:=(0:Int)+i) (by lia) (by lia);exists _,U,_,U,a,_,_,_,U,U,.inl (s1.seq ha),ax;exists _,U,_,_,U,U,(by show(0:Int)<8; decide),_,_,rfl,rfl;exists _,U,_,_,U,U,uy.of 'a' 'h',_,_,U,U,gt5;have z0:0<=x%8:=Ar _ 'a';have z1:x%8<8:=Ad _ 'a';have t0:0<=x/8%5:=Ar _ 'a';have t1:x/8%5<5:=Ad _ 'a';obtain⟨sz,esz⟩:∃ n:Nat,1+x%8=(n:Int):=⟨(1+x%8).toNat,by lia⟩;have w1:1<=sz:=by lia
  have X:sz<=8:=by lia
  refine⟨U,_,U,_,U,by lia,by lia,λc D hD=>?_⟩;have sD:=zC hD (.lst []);refine za (lo:=0) (n:=(1+x%8).toNat) (λj v S G=>A3 (Same H1 G) (G D=Js (.lst S)) (∃ l:List Nat,A4 (S=(l.map chS).map V.str) (l.length=j) (∀ c∈l,97<=c/\c<=122) (∃ u0:Option V,v=[u0,Js (.str abc),Js (.int x),Js (.int (x/8%5))])))
   ⟨sD,zA,[],rfl,rfl,(λ_ z=>nomatch z),Jt,rfl⟩ (λj v S G _ hq'=>by obtain⟨_,e,_⟩:=hq'; rwa[e]) ?_ ?_
  ·rintro j v S G hj ⟨sH,eD,l,rfl,lj,lc,u0,rfl⟩;have m0:0<=(x/40+((0:Int)+j)*(x/8%5))%26:=Ar _ 'a';have m1:(x/40+((0:Int)+j)*(x/8%5))%26<26:=Ad _ 'a';exists _,U,_,U,_,_,U,U,uy.of 'a' 'h',_,U,_,U,_,_,U,U,zv (by lia),_,_,U,U,_,_,U,U,(by show(0:Int)<26; decide),abc,_,_,rfl,rfl,'a',Sr m0 m1;erw[eD,zM (by rw[ac,ac]; lia),sH.putNew hD,zA,l++[97+((x/40+((0:Int)+j)*(x/8%5))%26).toNat],?_,by rw[g7,lj]; rfl,λc I=>?_,_,rfl]
   ·rw[g5,g5];rfl
   ·rcases m9.mp I with I | I
    ·rwa[lc c I]
    ·rw[e8] at I;lia
  ·rintro v S H2 ⟨s2,eD,l,rfl,lj,lc,u0,rfl⟩;have s12:=s1.trans s2;have N:=s2 _ _ er;have ll:l.length=sz:=by lia
   refine⟨"",D,l.map chS,U,U,SqL.of eD,by rw[Yc,ll]; exact d9 X 'a',?_⟩;rw[UU];obtain⟨J,epl⟩:∃ n:Nat,x/7%(1+x%8)=(n:Int):=⟨(x/7%(1+x%8)).toNat,by rw[Eg (Ar _ (by lia))]⟩;have plt:J<l.length:=by
    have:=Ad (x/7) (show 0<1+x%8 by lia);lia
   exists _,U,_,_,U,U,uy.of 'a' 'h',_,U,_,_,U,U,(by show(0:Int)<1+x%8; lia);obtain⟨O,exn⟩:∃ n:Nat,x=(n:Int):=⟨x.toNat,by lia⟩;refine⟨26,U,by decide,by decide,wC (lo:=0) (n:=26) (λk v G=>G=H2/\∃ m:List Nat,A5 (txt m ∉ ns\/((k=0\/∃ j,j+1=k/\m=l.set J (97+(O+j)%26))/\∀ j,j+1<k->txt (l.set J (97+(O+j)%26))∈ns)) (m.length=l.length) (∀ c,m.set J c=l.set J c) (∀ c∈m,97<=c/\c<=122) (E2 λ(g d:Option V)=>v=[Js (.ref a),Js (.int b),Js (.str abc),Js (.ref r),Js (.int (0+i)),Js (.int x),Js (.int (1+x%8)),Js (.int (x/8%5)),Js (.str (txt m)),Js (.int (x/7%(1+x%8))),g,d]))
    ⟨rfl,l,.inr ⟨.inl rfl,λj hj=>y9 hj (AH _)⟩,rfl,λ_=>rfl,lc,g,d,rfl⟩ ?_ ?_⟩
   ·rintro k v G hk ⟨rfl,m,o,Y,B,mc,v10,v11,rfl⟩;exists _,U,_,U,r,_,U,.inl (SqL.of N),U,Wa ns,_,rfl;show if inV (.str (txt m)) (ns.map V.str)=Ju then _ else _
    rw[Ri];erw[ifD (λu=>?_) (λu=>?_)]
    ·have b0:0<=(x+((0:Int)+k))%26:=Ar _ 'a';have b1:(x+((0:Int)+k))%26<26:=Ad _ 'a';exists _,U,_,U,_,U,_,_,U,U,_,_,U,U,(by show(0:Int)<26; decide),abc,_,_,rfl,rfl,'a',Sr b0 b1;have lz:(txt m).length<=sizeLine:=by rw[zc,Y,ll]; rwa[d9 X 'a']
     have es:(97+((x+((0:Int)+k))%26).toNat)=97+(O+k)%26:=by lia
     have c1:C9 (txt m) Jt (Js (x/7%(1+x%8)))++chS (97+((x+((0:Int)+k))%26).toNat)++C9 (txt m) (Js (x/7%(1+x%8)+1)) Jt=txt (l.set J (97+(O+k)%26)):=by
      rw[epl,UL (by lia),es,B]
     erw[_,rfl,_,rfl,_,rfl,txt m,rfl,lz,_,rfl,_,_,rfl,rfl,?_,_,rfl,_,rfl,_,_,rfl,rfl,_,rfl,txt m,rfl,lz,_,_,rfl,rfl,?_,?_]
     ·rwa[d9 (Cc (Fy _ _ _) (e9 1)) (by rw[zc,Y,ll]; exact d9 (F7 X 1) 'a')]
     ·rw[strLen_append];rwa[d9 (Cc (Cc (Fy _ _ _) (e9 1)) (Fy _ _ _)) (by rw[zc,Y,ll]; exact d9 (Cc (F7 X 1) X) 'a')]
     ·erw[rfl,l.set J (97+(O+k)%26),.inr ⟨.inr ⟨k,rfl,rfl⟩,λj hj=>?_⟩,Dm,λc=>List.set_set _,λc I=>?_,_,_,by rw[<- c1]; rfl]
      ·rcases o with o | ⟨o,C⟩
       ·rwa[y9 u o]
       ·by_cases e:j+1=k
        ·rcases o with o | ⟨j0,e0,rfl⟩
         ·lia
         ·rw[show j=j0 by lia];rwa[u]
        ·rwa[C j (by lia)]
      ·rcases ER I with I | I
       ·rwa[lc c I]
       ·lia
    ·rwa[rfl,m,.inl u,Y,B,mc,_,_,rfl]
   ·rintro v G ⟨rfl,m,o,Y,B,mc,v10,v11,rfl⟩;have out:txt m ∉ ns:=by
     rcases o with o | ⟨o,C⟩
     ·rwa[o]
     ·intro u;erw[Ru (l:=l) (p:=J) (r:=O) plt (ws:=ns) (by lia) λj hj=>?_];by_cases e:j+1<26
      ·rwa[C j e]
      ·rcases o with o | ⟨j0,e0,rfl⟩
       ·lia
       ·rw[show j=j0 by lia];rwa[u]
    exists _,U,.inl ⟨U,_,SqL.of N⟩,_,U,r,_,_,U,U,N,zM (by rw[ac]; lia);erw[ns++[txt m],s12.putNew M,?_,by rw[g7,ln]; rfl,λn R=>?_,?_,_,_,_,_,_,_,_,_,rfl]
    ·rw[zA,g5];rfl
    ·rcases m9.mp R with R | R
     ·rwa[L n R]
     ·rw[e8] at R;rw[R];rwa[Yl (by lia) (by lia) mc]
    ·erw[GM.mpr ⟨nd,by simp,λx hx y hy=>?_⟩];rw[e8] at hy;rw[hy];rwa[λz=>out (z ▸ hx)]
 ·rintro v H1 ⟨ns,s1,er,ln,L,nd,u4,u5,u6,u7,u8,u9,g,d,rfl⟩;rwa[_,rfl,q r ns H1 s1 M er (by rw[ln,Ac]) L nd]
def iV(_:b8):Sp:=λc H Q _=>E4 λ(d:c5) (v:V) (S:BS) (D:Deed)=>A8 (c=[.ref d,v]) (Rep H D.dt v) (XG H d S) (okD S D) (Few S) (YX S) (Tw D) (∀(a:c5)(b:Hp),Same H b->H a=Jt->LwN H b a (aft S D)->Q (.ref a) b)
def Xy(F:Fun K "_law_after" "_law_after" pD f fd)(Z:Zs mg)(CB:Cb P w mg base)  : yI P w K mg base CX0 1 f fd ["_law_m","_law_deed"] (iV K):=by
 specialize iH
 ·obtain⟨d,v,S,D,rfl,_⟩:=h;rfl
 obtain⟨d,v,S,D,rfl,rep,⟨m,b,r,n,lw⟩,ok,few,fr,it,q⟩:=h;obtain⟨mk,hm,km⟩:=lw.ma;obtain⟨bk,hb,kb⟩:=lw.ba;obtain⟨rs,hr1,kr⟩:=lw.ru;obtain⟨O,hn,kn⟩:=lw.no;have lm:mk.length=S.marks.length:=by rw[km.length,fj]
 have ln:O.length=S.notes.length:=by rw[kn.length,VA]
 have lr:rs.length=S.runs.length:=by rw[kr.length,ac]
 have fm:=few.ma;have fr':=few.ru;have fn:=few.no;have fb:=few.ba;have lb:bk.length=S.banks.length:=by rw[kb.length,Qx]
 have dg:∀{H':Hp}{k:i9}{x:V},Same H H'->sV (lwK m b r n S.coming) (.inr k)=Js x->UW H' d (.str k) (Js x):=λ{H' k x} s e=>.inl ⟨_,.inr k,Rd.same lw.at_ s,rfl,e.symm⟩
 refine'⟨_,(zB (zQ 2 iH.nd (az (wL zV (xY xa rfl Z.dict oG (zG 'l' zL)) (wL zV (xY xa rfl Z.dict oG (zG 'l' zL)) (wL zV (xY oU rfl Z.list ue (zG 'l' zL)) bN))) rfl rfl (λz=>nomatch z) 'a'))
   (zB (vG (yD hr) (pv 2) zV (xY xa rfl Z.dict oG (zG 'l' zL)) rfl)
   (zB (vG (yD hr) (pv 2) zV 'l' rfl)
   (zB (yM (yS dE ?_ ?_ (by with_unfolding_all rfl)) (zD (vG (yD hr) (zS (yD hr) (pv 2) zV 'e') ?_ (uQ dQ (pv 1) (tR yF) qI) rfl)) (zD (yM ?_ (zD (yA (gT (zS (yD hr) (pv 2) zV 'e') ?_ ⟨rfl,rfl,rfl,rfl⟩))) (zD (yM ?_ (zD (vG (yD hr) (zS (yD hr) (pv 2) zV 'e') ?_ ?_ rfl)) (zD (yM ?_ (zD (yA (gT (zS (yD hr) (pv 2) zV 'e') ?_ ⟨rfl,rfl,rfl,rfl⟩))) (zD (yM ?_ (zD (yA (og (zS (yD hr) (pv 2) zV 'e') (zG (uQ dQ (pv 1) (tR yF) qI) zL)))) (zD (yM ?_ (zD (oZ (uQ dQ (pv 1) (tR yF) qI) (PF (zS (yD hr) (pv 2) zV 'e') ?_ Ts))) (zD (yM ?_ (zD (yA (gT (zS (yD hr) (pv 2) zV 'e') ?_ ⟨rfl,rfl,rfl,rfl⟩))) (zB (vG (yD hr) (zS (yD hr) (pv 2) zV 'e') 'l' (pv 1) rfl)
   (zD (vG (yD hr) (pv 2) zV (yR iS 'l' yF) rfl))))))))))))))))
   (zD (zK (pv 2))))))),?_⟩
 nofun
 intro p hp;have s1:=zC hp (.dK []);erw[_,rfl,d,.ref m,rfl,dg s1 zu,m,mk,rfl,Rd.same hm s1,λg hmc=>?_];have s2:=s1.trans (zC hmc (.dK mk));erw[_,rfl,d,.ref b,rfl,dg s2 TH,b,bk,rfl,Rd.same hb s2,λl hbc=>?_];have s3:=s2.trans (zC hbc (.dK bk));erw[_,rfl,d,.ref r,rfl,dg s3 oK,r,rs,rfl,.inl (SqL.of (s3 _ _ hr1)),λi Y=>?_];have s4:=s3.trans (zC Y (.lst rs));have ep1:upd H p (.dK []) p=Js (.dK []):=zA;have npm:p≠g:=zI ep1 hmc;have ep2:=(zC hmc (.dK mk)) _ _ ep1;have em2:upd (upd H p (.dK [])) g (.dK mk) g=Js (.dK mk):=zA;have npb:p≠l:=zI ep2 hbc;have nmb:g≠l:=zI em2 hbc;have ep3:=(zC hbc (.dK bk)) _ _ ep2;have em3:=(zC hbc (.dK bk)) _ _ em2;have eb3:upd (upd (upd H p (.dK [])) g (.dK mk)) l (.dK bk) l=Js (.dK bk):=zA;have npr:p≠i:=zI ep3 Y;have nmr:g≠i:=zI em3 Y;have nbr:l≠i:=zI eb3 Y;have ep4:=(zC Y (.lst rs)) _ _ ep3;have em4:=(zC Y (.lst rs)) _ _ em3;have eb4:=(zC Y (.lst rs)) _ _ eb3;have er4:upd (upd (upd (upd H p (.dK [])) g (.dK mk)) l (.dK bk)) i (.lst rs) i=Js (.lst rs):=zA;generalize upd (upd (upd (upd H p (.dK [])) g (.dK mk)) l (.dK bk)) i (.lst rs)=H4 at s4 ep4 em4 eb4 er4;exists ep4,['n','o','v'],U,(show 3<=15 by decide);rw[WZ];have s5:Same H (upd H4 p (.dK ['n','o','v'])):=λx o e=>by rw[zH (zI e hp)]; rwa[s4 x o e]
 erw[_,rfl,d,.ref n,rfl,dg s5 fc,n,O,rfl,Rd.same hn s5,λa hnc=>?_];have X:p≠a:=zI zA hnc;have hnc4:H4 a=none:=by rw[zH X.symm] at hnc; rwa[hnc]
 have nmn:g≠a:=zI em4 hnc4;have nbn:l≠a:=zI eb4 hnc4;have nrn:i≠a:=zI er4 hnc4;have s6:=s5.trans (zC hnc (.dK O));exists _,U,p,_,U,iA.k (k:=.inr "notes") (by rw[zH X,zA]) (zM (by show 3<=1000; decide));rw[QW];have s7:Same H (upd (upd (upd H4 p (.dK ['n','o','v'])) a (.dK O)) p (.dK ['n','o','v',(.inr "notes",.ref a)])):=λx o e=>by rw[zH (zI e hp)]; rwa[s6 x o e]
 exists _,U,d,.int S.coming,U,dg s7 jn,_,U,p,_,U,iA.k (k:=.inr "next") zA (zM (by show 4<=1000; decide));rw[QQ];have keep:∀ x o,x≠p->x≠a->H4 x=Js o->upd (upd (upd (upd H4 p (.dK ['n','o','v'])) a (.dK O)) p (.dK ['n','o','v',(.inr "notes",.ref a)])) p (.dK ['n','o','v',(.inr "notes",.ref a),(.inr "next",.int S.coming)]) x=Js o:=λx o h1 h2 e=>by
  rw[zH h1,zH h1,zH h2,zH h1]; rwa[e]
 have em:=keep _ _ npm.symm nmn em4;have eb:=keep _ _ npb.symm nbn eb4;have er:=keep _ _ npr.symm nrn er4;have s8:Same H _:=λx o e=>keep x o (zI e hp) (zI (s5 _ _ e) hnc) (s4 _ _ e);have en:upd (upd (upd (upd H4 p (.dK ['n','o','v'])) a (.dK O)) p (.dK ['n','o','v',(.inr "notes",.ref a)])) p (.dK ['n','o','v',(.inr "notes",.ref a),(.inr "next",.int S.coming)]) a=Js (.dK O):=by rw[zH X.symm,zH X.symm,zA]
 have ep:upd (upd (upd (upd H4 p (.dK ['n','o','v'])) a (.dK O)) p (.dK ['n','o','v',(.inr "notes",.ref a)])) p (.dK ['n','o','v',(.inr "notes",.ref a),(.inr "next",.int S.coming)]) p=Js (.dK ['n','o','v',(.inr "notes",.ref a),(.inr "next",.int S.coming)]):=zA;clear keep s7 s6;generalize upd (upd (upd (upd H4 p (.dK ['n','o','v'])) a (.dK O)) p (.dK ['n','o','v',(.inr "notes",.ref a)])) p (.dK ['n','o','v',(.inr "notes",.ref a),(.inr "next",.int S.coming)])=H8 at s8 ep em eb er en ⊢;have ep:H8 p=Js (.dK (lwK g l i a S.coming)):=ep;have km8:=km.to (.of s8);have kb8:=kb.to (.of s8);have kr8:=kr.to (.of s8);have kn8:=kn.to (.of s8);have rep8:=rep.to (.of s8);have nmH:H g=none:=s1.free hmc;have nrH:H i=none:=s3.free Y;have nbH:H l=none:=s2.free hbc;have nnH:H a=none:=s5.free hnc;obtain⟨t,xs,rfl,ht⟩:=QA rep8;erw[_,rfl,t,_,0,.str (QR D),rfl,rfl,.inr (SqT.of ht),rE (xs:=.str (QR D)::xs) (j:=0) rfl,sz2,λz hz=>?_];have sz:=zC hz (.tup [.str "mark",.str "move"]);exists z,_,U,.inr (SqT.of zA),U,U,_,rfl;have s9:=s8.trans sz;have R:=sz _ _ ep;have em9:=sz _ _ em;have eb9:=sz _ _ eb;have er9:=sz _ _ er;have T:=sz _ _ en;have km9:=km8.to (.of sz);have kb9:=kb8.to (.of sz);have kr9:=kr8.to (.of sz);have kn9:=kn8.to (.of sz);have B:=rep8.to (.of sz);generalize upd H8 z (.tup [.str "mark",.str "move"])=H9 at s9 R em9 eb9 er9 T km9 kb9 kr9 kn9 B ⊢;cases D with
 | mark nm x y =>
  obtain⟨_,e0,G⟩:=aA B;cases e0;have I:Sq K H9 t _:=.inr (SqT.of G);erw[jD ?_];refine⟨_,U,_,U,t,_,U,SqT.of G,(λz=>y9 z.1 (by show ¬ HT.sIx 4 0 (Js 2)=0; decide)),λc hc=>?_⟩;have u:=zC hc 'q';have em10:=u _ _ em9;exists _,U,p,.ref g,U,.inl ⟨_,.inr "marks",.inl (u _ _ R),U,zu.symm⟩,_,U,t,_,1,.str nm,U,U,.inr (SqT.of (u _ _ G)),U,g,_,U,iA.k (k:=.inr nm) em10 (zM (by lia)),_,rfl;have L:=rP (o:=.dK (rV mk (.inr nm) (.ref c))) em10;have N:=Yv em10;erw[q p _ (λx o e=>by rw[zH (zI e nmH)]; rwa[u _ _ (s9 _ _ e)]) hp ⟨g,l,i,a,nrH,.inl ?_,⟨_,.inl zA,?_⟩,⟨bk,.inl ?_,(kb9.to (.of u)).sam L N⟩,⟨rs,?_,(kr9.to (.of u)).sam L N⟩,⟨O,.inl ?_,(kn9.to (.of u)).sam L N⟩⟩]
  ·rw[zH npm]; rwa[u _ _ R]
  ·have:=((km9.to (.of u)).put (k:=.inr nm) (se (p:=(x,y)) zA)).sam L N;rw[zh (gJ ok.2.1)] at this;show uI _ _ (mkE (S.marks++[(nm,x,y)]));rw[al];rwa[this]
  ·rw[zH nmb.symm]; rwa[u _ _ eb9]
  ·rw[zH nmr.symm]; rwa[u _ _ er9]
  ·rw[zH nmn.symm]; rwa[u _ _ T]
 | sail x y =>
  obtain⟨_,e0,G⟩:=bR B;cases e0;have I:Sq K H9 t _:=.inr (SqT.of G);erw[vY ?_];exists _,U,t,_,0,.str "sail",U,U,I,U,U,_,rfl;erw[vY ?_];exists _,U,t,_,0,.str "sail",U,U,I,U,U,_,rfl;erw[vY ?_];exists _,U,t,_,0,.str "sail",U,U,I,U,U,_,rfl;erw[vY ?_];exists _,U,t,_,0,.str "sail",U,U,I,U,U,_,rfl;erw[jD ?_];refine⟨_,U,p,.ref i,U,.inl ⟨_,.inr "runs",.inl R,U,oK.symm⟩,.inl ⟨U,_,SqL.of er9⟩,_,U,_,U,t,_,U,SqT.of G,(λz=>y9 z.1 (by show ¬ HT.sIx 3 0 (Js 1)=0; decide)),λc hc=>?_⟩;have u:=zC hc 'q';have er10:=u _ _ er9;exists i,_,.ref c,U,U,er10,zM (by lia),_,rfl;have L:=rP (o:=.lst (rs++[.ref c])) er10;have N:=rK er10;erw[q p _ (λx o e=>by rw[zH (zI e nrH)]; rwa[u _ _ (s9 _ _ e)]) hp ⟨g,l,i,a,nrH,.inl ?_,⟨mk,.inl ?_,(km9.to (.of u)).sam L N⟩,⟨bk,.inl ?_,(kb9.to (.of u)).sam L N⟩,⟨_,zA,?_⟩,⟨O,.inl ?_,(kn9.to (.of u)).sam L N⟩⟩]
  ·rw[zH npr]; rwa[u _ _ R]
  ·rw[zH nmr]; rwa[u _ _ em9]
  ·rw[zH nbr]; rwa[u _ _ eb9]
  ·show wH _ ((S.runs++[(x,y)]).map ptD) _;rw[g5];exact(wH.app (kr9.to (.of u)) (.one (se (p:=(x,y)) zA))).sam L N
  ·rw[zH nrn.symm]; rwa[u _ _ T]
 | bearing mo nm x1 y1 x2 y2 =>
  obtain⟨_,_,_,e0,G,_⟩:=qT B;cases e0;have I:Sq K H9 t _:=.inr (SqT.of G);erw[vY ?_];exists _,U,t,_,0,.str "bearing",U,U,I,U,U,_,rfl;erw[vY ?_];exists _,U,t,_,0,.str "bearing",U,U,I,U,U,_,rfl;erw[vY ?_];exists _,U,t,_,0,.str "bearing",U,U,I,U,U,_,rfl;erw[vY ?_];exists _,U,t,_,0,.str "bearing",U,U,I,U,U,_,rfl;erw[vY ?_];exists _,U,t,_,0,.str "bearing",U,U,I,U,U,_,rfl;erw[vY ?_];exists _,U,t,_,0,.str "bearing",U,U,I,U,U,_,rfl;erw[vY ?_];exists _,U,_,U,p,.ref a,U,.inl ⟨_,.inr "notes",.inl R,U,fc.symm⟩,_,U,d,.int S.coming,U,dg s9 jn,a,_,U,iA.k (k:=.inl S.coming) T (zM (by lia));have L:=rP (o:=.dK (rV O (.inl S.coming) (.ref t))) T;have N:=Yv T;have s10:Same H (upd H9 a (.dK (rV O (.inl S.coming) (.ref t)))):=λx o e=>by rw[zH (zI e nnH)]; rwa[s9 _ _ e]
  have C:upd H9 a (.dK (rV O (.inl S.coming) (.ref t))) p=Js (.dK (lwK g l i a S.coming)):=by rw[zH X]; rwa[R]
  exists _,U,d,.int S.coming,U,dg s10 jn,_,_,U,U,_,U,p,_,U,iA.k (k:=.inr "next") C (zM (by show 5<=1000; decide)),_,rfl;rw[lv];have J:=rP (o:=.dK (lwK g l i a (S.coming+1))) C;have M:=Yv C;erw[q p _ (λx o e=>by rw[zH (zI e hp)]; rwa[s10 _ _ e]) hp ⟨g,l,i,a,nrH,.inl zA,⟨mk,.inl ?_,(km9.sam L N).sam J M⟩,⟨bk,.inl ?_,(kb9.sam L N).sam J M⟩,⟨rs,?_,(kr9.sam L N).sam J M⟩,⟨rV O (.inl S.coming) (.ref t),.inl ?_,?_⟩⟩]
  ·rw[zH npm.symm,zH nmn]; rwa[em9]
  ·rw[zH npb.symm,zH nbn]; rwa[eb9]
  ·rw[zH npr.symm,zH nrn]; rwa[er9]
  ·rw[zH X.symm,zA]
  ·have:=((kn9.put (k:=.inl S.coming) B).sam L N).sam J M;rw[zh (fh fr)] at this;show uI _ _ (ntE (S.notes++[(S.coming,_)]));rw[br];rwa[this]
 | range mo l1 r1 =>
  obtain⟨_,e0,G⟩:=pE B;cases e0;have I:Sq K H9 t _:=.inr (SqT.of G);erw[vY ?_];exists _,U,t,_,0,.str "range",U,U,I,U,U,_,rfl;erw[vY ?_];exists _,U,t,_,0,.str "range",U,U,I,U,U,_,rfl;erw[vY ?_];exists _,U,t,_,0,.str "range",U,U,I,U,U,_,rfl;erw[vY ?_];exists _,U,t,_,0,.str "range",U,U,I,U,U,_,rfl;erw[vY ?_];exists _,U,t,_,0,.str "range",U,U,I,U,U,_,rfl;erw[vY ?_];exists _,U,t,_,0,.str "range",U,U,I,U,U,_,rfl;erw[vY ?_];exists _,U,_,U,p,.ref a,U,.inl ⟨_,.inr "notes",.inl R,U,fc.symm⟩,_,U,d,.int S.coming,U,dg s9 jn,a,_,U,iA.k (k:=.inl S.coming) T (zM (by lia));have L:=rP (o:=.dK (rV O (.inl S.coming) (.ref t))) T;have N:=Yv T;have s10:Same H (upd H9 a (.dK (rV O (.inl S.coming) (.ref t)))):=λx o e=>by rw[zH (zI e nnH)]; rwa[s9 _ _ e]
  have C:upd H9 a (.dK (rV O (.inl S.coming) (.ref t))) p=Js (.dK (lwK g l i a S.coming)):=by rw[zH X]; rwa[R]
  exists _,U,d,.int S.coming,U,dg s10 jn,_,_,U,U,_,U,p,_,U,iA.k (k:=.inr "next") C (zM (by show 5<=1000; decide)),_,rfl;rw[lv];have J:=rP (o:=.dK (lwK g l i a (S.coming+1))) C;have M:=Yv C;erw[q p _ (λx o e=>by rw[zH (zI e hp)]; rwa[s10 _ _ e]) hp ⟨g,l,i,a,nrH,.inl zA,⟨mk,.inl ?_,(km9.sam L N).sam J M⟩,⟨bk,.inl ?_,(kb9.sam L N).sam J M⟩,⟨rs,?_,(kr9.sam L N).sam J M⟩,⟨rV O (.inl S.coming) (.ref t),.inl ?_,?_⟩⟩]
  ·rw[zH npm.symm,zH nmn]; rwa[em9]
  ·rw[zH npb.symm,zH nbn]; rwa[eb9]
  ·rw[zH npr.symm,zH nrn]; rwa[er9]
  ·rw[zH X.symm,zA]
  ·have:=((kn9.put (k:=.inl S.coming) B).sam L N).sam J M;rw[zh (fh fr)] at this;show uI _ _ (ntE (S.notes++[(S.coming,_)]));rw[br];rwa[this]
 | _=>rwa[it.elim]
def Zt(_:b8):Sp:=λa H Q _=>E2 λ(x y:Int)=>a=[.int x,.int y]/\Q (.int (l9 x.natAbs y.natAbs)) H
def UN(F:Fun K "_law_low" "_law_low" gR f fd)(Z:Zs mg):yI P w K mg base CX0 1 f fd ["_law_one","_law_other"] (Zt K):=by
 specialize mC
 ·obtain⟨x,y,rfl,_⟩:=h;rfl
 obtain⟨x,y,rfl,q⟩:=h
 refine'⟨_,(zB (zQ 0 mC.nd ?_)
   (zB (zQ 1 mC.nd ?_)
   (zB (re r9 ?_ (zD (dq (i:=0) (j:=1) rfl mC.nd rfl rfl 'a' rfl rfl ?_ rfl)))
   (zD (zK (pv 0)))))),?_⟩
 nofun
 exists _,U,_,U,_,U,_,rfl;refine vp (λc g=>g=H/\E2 λ(a b:Int)=>A4 (c=[Js (.int a),Js (.int b)]) (0<=a) (0<=b) (l9 a.toNat b.toNat=l9 x.natAbs y.natAbs))
  (λc _=>match c with | [_,Js (.int b)]=>b.toNat | _=>0) ⟨rfl,_,_,rfl,by split <;> lia,by split <;> lia,by rw[Zb,Zb]; rfl⟩ ?_ (λc H Q r m z=>by
   obtain⟨v,l,i,j,p,o,k,n,z⟩:=z;rwa[v,l,i,j,p,o,k,n,m _ _ z])
 rintro c g ⟨rfl,a,b,rfl,h1,h2,h3⟩;exists _,U,_,_,U,U,_,rfl;erw[ifD (λd=>?_) (λd=>?_)]
 ·erw[_,rfl,_,rfl,_,rfl,_,_,rfl,rfl,d,_,_,rfl,⟨rfl,_,_,rfl,h2,Ar a (by lia),?_⟩,?_]
  ·rw[fD h1 d]; rwa[h3]
  ·have h4:=Ad a d;show(a%b).toNat<b.toNat;lia
 ·exists _,rfl;have e:b=0:=by lia
  subst e;have h5:a=((l9 x.natAbs y.natAbs:Nat):Int):=by
   rw[<- h3];show a=((l9 a.toNat 0:Nat):Int);rw[EM];lia
  rw[h5];rwa[q]
def nq(_:b8):Sp:=λb H Q _=>E3 λ(x y z:Int)=>A4 (b=[.int x,.int y,.int z]) (z≠0) (z.natAbs<=10^40) (∀(p:c5)(a:Hp),Same H a->H p=Jt->a p=Js (.tup ((uJ (upL x y z)).map V.int))->Q (.ref p) a)
def dW(F:Fun K "_law_spot_of" "_law_spot_of" zf f fd)(Z:Zs mg)(v:Cb P w mg base)(l:Has P w K mg base "_law_low" 1 ["_law_one","_law_other"] (Zt K)):yI P w K mg base CX0 2 f fd ["_law_x","_law_y","_law_w"] (nq K):=by
 specialize xo
 ·obtain⟨x,y,z,rfl,_⟩:=h;rfl
 obtain⟨x,y,z,rfl,r,m,q⟩:=h
 refine'⟨_,(zB (yM ?_ (zD (QP (i:=0) (j:=1) (k:=2) rfl xo.nd rfl rfl rfl 'a' 'a' 'a' rfl rfl rfl ?_ rfl)) zU)
   (zB (zQ 3 xo.nd ?_)
   (zD (zK ?_)))),?_⟩
 nofun
 exists _,U,_,_,U,U,_,rfl;erw[ifD (λd=>?_) (λb=>?_)]
 ·exists _,U,_,U,_,U,_,U,_,U,_,U,_,_,_,rfl;have u:upL x y z=[-x,-y,-z]:=by unfold upL; rw[y6 d]
  have g:(l9 ((l9 (-x).natAbs (-y).natAbs:Nat):Int).natAbs (-z).natAbs:Nat)=yC [-x,-y,-z]:=gcd3 _ _ _;exists _,U,_,U,-x,-y,U,_,U,_,-z,rfl;rw[g];have o:0<yC [-x,-y,-z]:=yX (n:=-z) 'd' (by lia);have e:=rM (ns:=[-x,-y,-z]) (n:=-z) 'd' (by lia);have a:∀ i:Int,uy i (yC [-x,-y,-z]:Int):=λi=>uy.of (by lia) (BM (show(yC [-x,-y,-z]:Int)<=10^40 by lia) 'h');erw[_,rfl,_,rfl,_,_,rfl,rfl,a _,_,rfl,_,rfl,_,_,rfl,rfl,a _,_,rfl,_,rfl,_,_,rfl,rfl,a _,sz3,λp c=>?_];erw[q p _ (zC c _) c ?_];rw[u];rwa[zA]
 ·have u:upL x y z=[x,y,z]:=by unfold upL; rw[y4 b]
  have g:(l9 ((l9 (x).natAbs (y).natAbs:Nat):Int).natAbs (z).natAbs:Nat)=yC [x,y,z]:=gcd3 _ _ _;exists _,U,_,U,x,y,U,_,U,_,z,rfl;rw[g];have o:0<yC [x,y,z]:=yX (n:=z) 'd' (by lia);have e:=rM (ns:=[x,y,z]) (n:=z) 'd' (by lia);have a:∀ i:Int,uy i (yC [x,y,z]:Int):=λi=>uy.of (by lia) (BM (show(yC [x,y,z]:Int)<=10^40 by lia) 'h');erw[_,rfl,_,rfl,_,_,rfl,rfl,a _,_,rfl,_,rfl,_,_,rfl,rfl,a _,_,rfl,_,rfl,_,_,rfl,rfl,a _,sz3,λp c=>?_];erw[q p _ (zC c _) c ?_];rw[u];rwa[zA]
def eW(_:b8):Sp:=λc H Q _=>E2 λ(b dx:c5)=>A3 (c=[.ref b]) (H b=Js (.ins bkC dx [])) (∀(p:c5)(a:Hp),tZ (λx=>x=b) H a->H p=Jt->oJ bkC a b p BS.nil [] []->Q .non a)
def VJ(F:Fun K "__init__" "Book.__init__" mD f fd)(Z:Zs mg)(G:Cb P w mg base)(v:Has P w K mg base "nothing_yet" 1 [] (yn K)):yI P w K mg base CX0 2 f fd ["self"] (eW K):=by
 specialize Vg
 ·obtain⟨b,dx,rfl,_⟩:=h;rfl
 obtain⟨b,dx,rfl,L,q⟩:=h
 refine'⟨_,(zB (jb G.state (pv 0) (kU v 'f' rfl))
   (zB (jb G.past (pv 0) ?_)
   (zD (jb G.later (pv 0) ?_)))),?_⟩
 nofun
 refine⟨U,λd m y M st=>?_⟩;have j:=y _ _ L;exists _,U,b,dx,[],U,j,(by show 0<1000; decide);refine⟨sz0,λp C=>?_⟩;have c:b≠p:=zI zA C;exists _,U,b,dx,_,U,(by rw[zH c,zA]),(by show 1<1000; decide);refine⟨sz0,λl u=>?_⟩;have g:b≠l:=zI zA u;have i:p≠l:=λz=>by
  rw[<- z,zH c.symm,zA] at u;cases u
 exists _,U,b,dx,_,U,(by rw[zH g,zA]),(by show 2<1000; decide);rw[Ra];have r:m p=none:=by rw[zH c.symm] at C; rwa[C]
 have D:m l=none:=by rw[zH g.symm,zH i.symm,zH g.symm] at u; rwa[u]
 have I:tZ (λx=>x=b) m (upd (upd (upd (upd (upd m b (.ins bkC dx (md "state" (.ref d) []))) p (.lst [])) b (.ins bkC dx (md "past" (.ref p) (md "state" (.ref d) [])))) l (.lst [])) b (.ins bkC dx (bkF d p l))):=λx o B e=>by
  have n1:=zI e r;have n2:=zI e D;rw[zH B,zH n2,zH B,zH n1,zH B];rwa[.inl e]
 have nd:∀ a n,Rd m a (.dK n)->¬ a=b:=λa n h z=>by
  subst z;rcases h with h | ⟨o,h⟩ <;> rw[j] at h <;> cases h
 have J:∀ a xs,m a=Js 'w'->¬ a=b:=λa xs h z=>by
  subst z;rw[j] at h;cases h
 erw[q p _ ((tZ.of y).trans I) (y.free r) ⟨dx,d,l,[],[],zA,st.samE I nd J,?_,?_,rfl,rfl,i.symm⟩]
 ·rw[zH c.symm,zH i,zH c.symm,zA]
 ·rw[zH g.symm,zA]
def jY(_:b8):Sp:=λg H Q _=>E5 λ(b p:c5) (S:BS) (past later:List (Deed×BS))=>A4 (g=[.ref b]) 'p' (Few S) (∀(c:c5)(e:List c5)(d:List i9)(a:Hp),Same H a->H c=Jt->a c=Js (.lst (e.map V.ref))->d.Perm (S.marks.map (·.1))->Jd d=Ju->wv a S e d->Q (.ref c) a)
def Xs(F:Fun K "marks" "Book.marks" pW f fd)(Z:Zs mg)(CB:Cb P w mg base)  : yI P w K mg base CX0 1 f fd ["self"] (jY K):=by
 specialize iK
 ·obtain⟨b,p,S,past,later,rfl,_⟩:=h;rfl
 obtain⟨b,p,S,past,later,rfl,⟨dx,d,l,ps,ls,k⟩,few,q⟩:=h;obtain⟨m,bk,r,n,st⟩:=k.st;obtain⟨O,hm,kv⟩:=id st.ma;have fm:=few.ma;refine⟨_,(zB (iz (i:=1) iK.nd rfl (Fu rfl) (zS (yD hr) (uf CB.state (pv 0)) zV 'e'))
   (zD (zK (wN (T:=["name"]) (caps:=[("places",1)]) ⟨rfl,by ac_nf,by ac_nf,rfl,⟨⟨rfl,rfl,BW rfl⟩,Ao⟩⟩ rfl (xL (yK ny rfl Z.sorted tL (zG (xY (oR rfl) rfl Z.list ue (zG (pv 1) zL)) zL))) (λ_=>(lV (i:=0) (show(["name","places"]:List i9).Nodup by ac_nf) rfl (BW rfl))) (λ_=>xM) (λ_=>(iP (zG (pv 0) (zG (qN vB (zS (yD hr) (pv 1) (pv 0) 'e') yF 'e') (zG (qN vB (zS (yD hr) (pv 1) (pv 0) 'e') yF 'e') zL))))))))),?_⟩
 try dsimp only[L2.cxOf,L2.cxComp,L2.Cx.nox,iW,iB]
 erw[_,rfl,b,dx,_,_,rfl,k.ob,vw,d,.ref m,rfl,.inl ⟨_,.inr "marks",st.at_,rfl,yw.symm⟩,_,rfl,m,O,rfl,hm,λg hg=>?_];rw[gf kv];have s1:=zC hg (.lst ((S.marks.map (·.1)).map V.str));erw[g,_,rfl,SqL.of zA,(by rw[ac]; lia),λt v ht N L=>?_];have I:=s1.trans (zC ht (.lst (v.map V.str)));have lm:v.length=S.marks.length:=by rw[N.length_eq,ac]
 refine⟨t,U,.inl ⟨⟨_,SqL.of zA⟩,λcc D J=>?_⟩⟩;have s3:=I.trans (zC J (.lst []));refine wG (K:=K) (a:=t) (xs:=v.map V.str) (λi C z c=>A4 (Same (upd (upd H g (.lst ((S.marks.map (·.1)).map V.str))) t (.lst (v.map V.str))) c) (c D=Js (.lst z)) (∃ y:List c5,z=y.map V.ref/\wv c S y (v.take i)) (∃ u:Option V,C=[u,Js (.ref m)]))
  ⟨zC J _,zA,⟨[],rfl,rfl,λj a n e=>by simp at e⟩,Jt,rfl⟩ (λi C z c _ hq=>⟨SqL.of (hq.1 _ _ zA),hq.2⟩) ?_ ?_
 ·rintro i x C z c hi ⟨G,eD,⟨y,rfl,ma⟩,u,rfl⟩;rw[e7,x6] at hi;obtain⟨x,X,rfl⟩:=hi;obtain⟨pt,B⟩:=qR (S:=S) (n:=x) (N.mem_iff.mp (f6 X));obtain⟨R,a,g1,g2,g3⟩:=qy (st.ma.to (.of (I.trans G))) B;have hil:=(c9.mp X).1;have la:=ma.len;rw[o3] at la;have dg:UW c m (.str x) (Js (.ref a)):=.inl ⟨R,.inr x,g1,rfl,g2.symm⟩;exists _,U,_,U,_,U,m,.ref a,U,dg;erw[a,_,0,.int pt.1,rfl,rfl,.inr (SqT.of g3),rfl,_,rfl,_,rfl,m,.ref a,rfl,dg,a,_,1,.int pt.2,rfl,rfl,.inr (SqT.of g3),rfl,sz3,λt3 Y=>?_];have M:=zC Y (.tup [.str x,.int pt.1,.int pt.2]);have o:=M _ _ eD;erw[o,zM (by rw[ac]; lia),(G.trans M).putNew J,zA,⟨y++[t3],by rw[g5]; rfl,?_⟩,_,rfl];rw[Az,X];exact((ma.samE (.of M) (λ_ _ _=>id)).app B zA).samE (rP o) (rK o)
 ·rintro C z c ⟨G,eD,⟨y,rfl,ma⟩,u,rfl⟩;rw[ac,v9] at ma;rwa[q D y v c (I.trans G) (I.free J) eD N L ma]
def yk(_:b8):Sp:=λc H Q _=>E5 λ(b p:c5) (S:BS) (past later:List (Deed×BS))=>A4 (c=[.ref b]) 'p' (Few S) (∀(d:c5)(a:Hp),Same H a->H d=Jt->pF a d S->Q (.ref d) a)
def nR(F:Fun K "mark_places" "mark_places" uT f fd)(Z:Zs mg)(CB:Cb P w mg base)(j:Vf P w K mg base fE 1 ["self"] (jY K)):yI P w K mg base CX0 2 f fd ["book"] (yk K):=by
 specialize tP
 ·obtain⟨b,p,S,past,later,rfl,_⟩:=h;rfl
 obtain⟨b,p,S,past,later,rfl,bk,few,q⟩:=h;have no:∀{d l:c5}{m:i9},m = "marks" ->(bkF d p l).lookup m=none:=λ{d l m} e=>by subst e; rwa[ak 'h' 'h' 'h']
 refine'⟨_,(zB (zQ 1 tP.nd qD)
   (zB (xK r9 rfl (xL (qQ CB.m_marks j 'f' (pv 0))) (uG 2 tP.nd) (zD (vG (yD hr) (pv 1) ?_ ?_ rfl)))
   (zD (zK (pv 1))))),?_⟩
 nofun
 intro D hD;have R:=zC hD (.dK []);obtain⟨dx,d,l,ps,ls,k⟩:=bk.to (.of R);erw[_,rfl,b,dx,_,rfl,k.ob,no rfl,b,p,S,past,later,rfl,bk.to (.of R),few,λc as r H1 s1 hc e1 pm srt ma=>?_];have fm:=few.ma;have lm:r.length=S.marks.length:=by rw[pm.length_eq,ac]
 have X:c≠D:=λz=>by rw[z,zA] at hc; cases hc
 have G:=s1 _ _ (zA (H:=H) (a:=D) (o:=.dK []));refine⟨c,U,.inl ⟨⟨_,SqL.of e1⟩,xE (K:=K) (a:=c) (xs:=as.map V.ref) (λi J y=>A3 (∀ x o,x≠D->H1 x=Js o->y x=Js o) (∃ g,A3 (y D=Js (.dK g)) (g.length<=i) (∀ n∈r.take i,∃(p:Int×Int)(a:c5),zT S n=Js p/\sV g (.inr n)=Js (.ref a)/\y a=Js (.tup [.int p.1,.int p.2]))) (∃ u:Option V,J=[Js (.ref b),Js (.ref D),u]))
  ⟨λ_ _ _ e=>e,⟨[],G,e9 _,λn N=>by simp at N⟩,Jt,rfl⟩ (λi J y _ hq=>SqL.of (hq.1 _ _ X e1)) ?_ ?_⟩⟩
 ·rintro i x J y hi ⟨L,⟨g,I,lk,inv⟩,u,rfl⟩;rw[e7,x6] at hi;obtain⟨a,ha,rfl⟩:=hi;have hil:i<r.length:=by rw[<- ma.len]; exact(c9.mp ha).1
  have N:r[i]?=Js r[i]:=d6 hil;obtain⟨pt,hpt,ea⟩:=ma.at_ i a _ ha N;have Y:a≠D:=λz=>by rw[z,G] at ea; cases ea
  have v:=L _ _ Y ea;erw[_,rfl,a,_,1,.int pt.1,rfl,rfl,.inr (SqT.of v),rfl,_,rfl,a,_,2,.int pt.2,rfl,rfl,.inr (SqT.of v),rfl,sz2,λt ht=>?_];have M:=zC ht (.tup [.int pt.1,.int pt.2]);exists _,U,_,U,a,_,0,.str r[i],U,U,.inr (SqT.of (M _ _ v)),U,D,_,U,iA.k (k:=.inr r[i]) (M _ _ I) (zM (by lia));have T:t≠D:=λz=>by rw[z,I] at ht; cases ht
  refine⟨λx o n e=>by rw[zH n]; exact M _ _ (L x o n e),⟨_,zA,(by have:=zn g (.inr r[i]:Key) (.ref t); lia),λn h=>?_⟩,_,rfl⟩;rw[Az,N,m9] at h;by_cases z:n=r[i]
  ·rwa[pt,t,by rw[z]; exact hpt,by rw[gK,z,y6 rfl],by rw[zH T,zA]]
  ·obtain⟨p',a',O,g2,C⟩:=inv n (h.resolve_right (by simpa using z));have B:a'≠D:=λz=>by rw[z,I] at C; cases C
   exact⟨p',a',O,by rw[gK,y4 (by intro w; injection w with w; rwa[z w])]; exact g2,by rw[zH B]; rwa[M _ _ C]⟩
 ·rintro J y ⟨L,⟨g,I,lk,inv⟩,u,rfl⟩;rw[ac,ma.len,v9] at inv;erw[_,rfl,q D y (λx o e=>?_) hD ⟨g,.inl I,λn p e=>?_⟩]
  ·rwa[L x o (zI e hD) (s1 _ _ (R _ _ e))]
  ·obtain⟨p',a,O,g2,C⟩:=inv n (pm.mem_iff.mpr (o5.mpr ⟨(n,p),oE e,rfl⟩));rw[e] at O;cases O;rwa[a,g2,C]
def ku(_:b8):Sp:=λd H Q _=>E5 λ(b p:c5) (S:BS) (past later:List (Deed×BS))=>A4 (d=[.ref b]) 'p' (Few S) (∀(c:c5)(xs:List V)(a:Hp),Same H a->H c=Jt->a c=Js (.lst xs)->wH a (S.runs.map ptD) xs->Q (.ref c) a)
def XB(F:Fun K "runs" "Book.runs" mj f fd)(Z:Zs mg)(CB:Cb P w mg base)  : yI P w K mg base CX0 1 f fd ["self"] (ku K):=by
 specialize eF
 ·obtain⟨b,p,S,past,later,rfl,_⟩:=h;rfl
 obtain⟨b,p,S,past,later,rfl,⟨dx,d,l,ps,ls,k⟩,few,q⟩:=h;obtain⟨m,bk,r,n,st⟩:=k.st;obtain⟨g,I,R⟩:=id st.ru;have lr:g.length=S.runs.length:=by rw[R.length,fS]
 refine⟨_,(zB (iz (i:=1) eF.nd rfl (Fu rfl) (zS (yD hr) (uf CB.state (pv 0)) zV 'e'))
   (zD (zK (wN (T:=["number"]) (caps:=[("runs",1)]) ⟨rfl,by ac_nf,by ac_nf,rfl,⟨⟨rfl,rfl,BW rfl⟩,Ao⟩⟩ rfl (xB rfl Z.range (zG (yK pN rfl Z.len ux (zG (pv 1) zL)) zL)) (λ_=>(lV (i:=0) (show(["number","runs"]:List i9).Nodup by ac_nf) rfl (BW rfl))) (λ_=>xM) (λ_=>(zS (yD hr) (pv 1) (pv 0) 'e')))))),?_⟩
 try dsimp only[L2.cxOf,L2.cxComp,L2.Cx.nox,iW,iB]
 exists _,U,b,dx,_,_,U,k.ob,vw,d,.ref r,U,.inl ⟨_,.inr "runs",st.at_,U,ou.symm⟩,_,U,r,g,U,I;refine⟨_,U,(by have:=few.ru; lia),(by have:=few.ru; lia),λcc D L=>za (lo:=0) (n:=(g.length:Int).toNat) (λi y j c=>A4 (Same H c) (c D=Js (.lst j)) (wH c ((S.runs.take i).map ptD) j) (∃ u:Option V,y=[u,Js (.ref r)]))
  ⟨zC L _,zA,yN.mpr rfl,Jt,rfl⟩ (λi y j c _ Y=>Y.2) ?_ ?_⟩
 ·rintro i y j c hi ⟨B,C,v,u,rfl⟩;have J:i<S.runs.length:=by lia
  have O:S.runs[i]?=Js S.runs[i]:=d6 J;obtain⟨G,a,g1,g2,g3⟩:=UF (st.ru.to (.of B)) O;refine⟨_,U,_,U,r,.ref a,U,.inl ⟨G,.inl (i:Int),g1,by rw[Be]; rfl,g2.symm⟩,C,zM (by rw[v.length,ac,o3]; have:=few.ru; lia),B.putNew L,zA,?_,_,rfl⟩;rw[Az,O,g5];have M:tZ (λx=>x=D) c (upd c D (.lst (j++[.ref a]))):=λx o X e=>.inl (by rw[zH X]; rwa[e]);have N:∀ b xs,c b=Js 'w'->¬ b=D:=λb xs e z=>by rw[z,C] at e; cases e
  rwa[wH.app (v.sam M N) (.one ((se g3).sam M N))]
 ·rintro y j c ⟨B,C,v,u,rfl⟩;rw[show(g.length:Int).toNat=S.runs.length by lia,v9] at v;rwa[q D j c B L C v]
def Qs(ask:c5->Int->List V->Prop):List V->Hp->XK->Prop:=λc H E=>∃(b p:c5)(S:BS)(past later:List (Deed×BS))(m:Int),ask b m c/\oJ bkC H b p S past later/\Few S/\offM S.runs.length m/\∀ a:Hp,Same H a->E (.ref zt) Jt a
def askW(b:c5)(m:Int)(a:List V):Prop:=∃ o:Int,(a=[.ref b,.int m,.int o]\/a=[.ref b,.int o,.int m])/\o.natAbs.log2<1920
def ym(_:b8):Sp:=λc H Q E=>(E7 λ(b p:c5) (S:BS) (past later:List (Deed×BS)) (i j:Nat)=>A6 (c=[.ref b,.int i,.int j]) 'p' (Few S) (i<=S.runs.length) (j<=S.runs.length) (∀(t:c5)(a:Hp),Same H a->H t=Jt->a t=Js (.tup [.int (yT S.runs i j).1,.int (yT S.runs i j).2])->Q (.ref t) a))\/Qs askW c H E
def nS(F:Fun K "way_between" "way_between" uZ f fd)(Z:Zs mg)(CB:Cb P w mg base)(X:Ye P w K mg base "check_moment" 1 ["moment","runs"] (xG K))(G:Vf P w K mg base fQ 1 ["self"] (ku K)):yI P w K mg base (CX1 P w) 2 f fd ["book","one","other"] (ym K):=by
 erw[F.okX wY (λvs H Q E h=>?_) (λcdv A outer s H vs Q E hr h=>?_)]
 ·rcases h with ⟨b,p,S,past,later,i,j,rfl,_⟩ | ⟨b,p,S,past,later,m,⟨o,rfl | rfl,_⟩,_⟩ <;> rfl
 refine'⟨_,(zB (PS.nox (zQ 3 wY.nd (qQ CB.m_runs G 'f' (pv 0))))
   (zB (yA (uS (λ_=>E) X rf 'f' rfl (zG (pv 1) (zG (pv 3) zL))))
   (zB (yA (uS (λ_=>E) X rf 'f' rfl (zG (pv 2) (zG (pv 3) zL))))
   (zB (PS.nox (zQ 4 wY.nd ?_))
   (zB (PS.nox (zQ 5 wY.nd ?_))
   (zD (PS.nox (zK (iP (zG (yR cg (pv 5) (yK (yj rfl) rfl Z.sum dD (zG (wN (T:=["run"]) (caps:=[]) ⟨rfl,by ac_nf,by ac_nf,rfl,Ao⟩ rfl (xL (pv 4)) (λ_=>(uG 0 (show(["run"]:List i9).Nodup by ac_nf))) (λ_=>xM) (λ_=>?_)) zL))) (zG (yR cg (pv 5) (yK (yj rfl) rfl Z.sum dD (zG (wN (T:=["run"]) (caps:=[]) ⟨rfl,by ac_nf,by ac_nf,rfl,Ao⟩ rfl (xL (pv 4)) (λ_=>(uG 0 (show(["run"]:List i9).Nodup by ac_nf))) (λ_=>xM) (λ_=>?_)) zL))) zL))))))))))),?_⟩
 nofun
 rcases h with h | h
 rotate_left
 ·obtain⟨b,p,S,past,later,m,ask,bk,fw,off,k⟩:=h;have few:=fw.ru;obtain⟨dx,d,l,ps,ls,kk⟩:=id bk;have no:∀{d l:c5}{m:i9},m = "runs" ->(bkF d p l).lookup m=none:=λ{d l m} e=>by subst e; rwa[ak 'h' 'h' 'h']
  obtain⟨o,e | e,so⟩:=ask
  ·subst e;erw[_,rfl,b,dx,_,rfl,kk.ob,no rfl,b,p,S,past,later,rfl,bk,fw,λr B H1 O hr0 v rep=>?_];have C:B.length=S.runs.length:=by rw[rep.length,ac]
   rwa[_,rfl,_,rfl,r,m,S.runs.length,rfl,.inl ⟨B,SqL.of v,C⟩,.inr ⟨off,k _ O⟩]
  ·subst e;erw[_,rfl,b,dx,_,rfl,kk.ob,no rfl,b,p,S,past,later,rfl,bk,fw,λr B H1 O hr0 v rep=>?_];have C:B.length=S.runs.length:=by rw[rep.length,ac]
   exists _,U,_,U,r,o,S.runs.length,U,.inl ⟨B,SqL.of v,C⟩;by_cases z:0<=o/\o<=(S.runs.length:Int)
   ·rwa[.inl ⟨z.1,z.2,_,rfl,_,rfl,r,m,S.runs.length,rfl,.inl ⟨B,SqL.of v,C⟩,.inr ⟨off,k _ O⟩⟩]
   ·rwa[.inr ⟨⟨by lia,so⟩,k _ O⟩]
 obtain⟨b,p,S,past,later,n,g,rfl,bk,fw,hi,hj,k⟩:=h;have few:=fw.ru;obtain⟨dx,d,l,ps,ls,kk⟩:=id bk;have no:∀{d l:c5}{m:i9},m = "runs" ->(bkF d p l).lookup m=none:=λ{d l m} e=>by subst e; rwa[ak 'h' 'h' 'h']
 erw[_,rfl,b,dx,_,rfl,kk.ob,no rfl,b,p,S,past,later,rfl,bk,fw,λr B H1 O hr0 v rep=>?_];have C:B.length=S.runs.length:=by rw[rep.length,ac]
 erw[_,rfl,_,rfl,r,n,S.runs.length,rfl,.inl ⟨B,SqL.of v,C⟩,.inl ⟨(by lia),(by lia),?_⟩];erw[_,rfl,_,rfl,r,g,S.runs.length,rfl,.inl ⟨B,SqL.of v,C⟩,.inl ⟨(by lia),(by lia),?_⟩];erw[_,rfl,_,rfl,_,rfl,_,_,rfl,_,rfl,_,rfl,_,rfl,_,_,rfl,_,rfl,r,B,rfl,SqL.of v,λq hq=>?_];have e1:(if (g:Int)<n then(g:Int) else n)=((min n g:Nat):Int):=by split <;> lia
 have e2:(if (g:Int)>n then(g:Int) else n)=((max n g:Nat):Int):=by split <;> lia
 have ec:qH B (Js (if (g:Int)<n then(g:Int) else n)) (Js (if (g:Int)>n then(g:Int) else n))=(B.drop (min n g)).take (max n g-min n g):=by
  rw[e1,e2,ZO (by lia) (by lia)]
 generalize hcs:qH B (Js (if (g:Int)<n then(g:Int) else n)) (Js (if (g:Int)>n then(g:Int) else n))=M at hq;have sq:=zC hq (.lst M);have rc:wH (upd H1 q (.lst M)) ((qZ S.runs n g).map ptD) M:=by
  have ecs:M=(B.drop (min n g)).take (max n g-min n g):=hcs.symm.trans ec;have:=((rep.drop (min n g)).take (max n g-min n g)).to (.of sq);rw[<- ecs,<- DZ,<- DY] at this;rwa[this]
 have ls:=si S.runs n g;exists _,U,_,U,_,_,U,U,_,rfl;have cmh:∀ y:Int,Pq (tE n g) y:=λy=>zv (by unfold tE; split <;> decide);refine Qg (i:=n) (j:=g) ?_;refine⟨_,U,_,U,q,U,.inl ⟨⟨_,SqL.of zA⟩,λc D hD=>?_⟩⟩;refine wG (K:=K) (a:=q) (xs:=M) (λi J I N=>A4 (Same (upd H1 q (.lst M)) N) (N D=Js (.lst I)) (I=(((qZ S.runs n g).take i).map (·.1)).map V.int) (∃ u:Option V,J=[u]))
  ⟨zC hD _,zA,rfl,Jt,rfl⟩ (λi J I N _ R=>by obtain⟨L,e,_⟩:=R; rwa[SqL.of (L _ _ zA),e]) ?_ ?_
 ·rintro i x J I N hi ⟨L,eD,rfl,u,rfl⟩;obtain⟨p,a,gp,rfl,ea⟩:=gE rc hi;have hil:=(c9.mp gp).1;erw[_,rfl,a,_,0,.int p.1,rfl,rfl,.inr (SqT.of (L _ _ ea)),rfl,eD,zM (by rw[ac,ac,o3]; lia),L.putNew hD,zA,?_,_,rfl];rw[Az,gp,g5,g5];rfl
 rintro J I H2 ⟨s2,eD,rfl,u,rfl⟩;exists D,_,U,SqL.of eD,_,_,U,U,cmh _;have eq2:=s2 _ _ (zA (H:=H1) (a:=q) (o:=.lst M));have rc2:=rc.to (.of s2);refine⟨_,U,_,U,q,U,.inl ⟨⟨_,SqL.of eq2⟩,λc D hD=>?_⟩⟩;refine wG (K:=K) (a:=q) (xs:=M) (λi J I N=>A4 (Same H2 N) (N D=Js (.lst I)) (I=(((qZ S.runs n g).take i).map (·.2)).map V.int) (∃ u:Option V,J=[u]))
  ⟨zC hD _,zA,rfl,Jt,rfl⟩ (λi J I N _ R=>by obtain⟨L,e,_⟩:=R; rwa[SqL.of (L _ _ eq2),e]) ?_ ?_
 ·rintro i x J I N hi ⟨L,eD,rfl,u,rfl⟩;obtain⟨p,a,gp,rfl,ea⟩:=gE rc2 hi;have hil:=(c9.mp gp).1;erw[_,rfl,a,_,1,.int p.2,rfl,rfl,.inr (SqT.of (L _ _ ea)),rfl,eD,zM (by rw[ac,ac,o3]; lia),L.putNew hD,zA,?_,_,rfl];rw[Az,gp,g5,g5];rfl
 rintro J I H3 ⟨s3,eD3,rfl,u,rfl⟩;erw[D,_,rfl,SqL.of eD3,_,_,rfl,rfl,cmh _,sz2,λt ht=>?_];have Y:=s2.trans s3;erw[k t _ (O.trans ((sq.trans Y).trans (zC ht _))) (O.free (sq.free (Y.free ht))) ?_];rw[zA,show M.length=(qZ S.runs n g).length by rw[rc.length,ac],v9];rfl
def iM(_:b8):Sp:=λe H Q _=>E5 λ(b p:c5) (S:BS) (past later:List (Deed×BS))=>A5 (e=[.ref b]) 'p' (Few S) (SZ S) (∀(c:c5)(d:List c5)(a:Hp),Same H a->H c=Jt->a c=Js (.lst (d.map V.ref))->Qw a d S.notes->Q (.ref c) a)
def Yb(F:Fun K "notes" "Book.notes" rh f fd)(Z:Zs mg)(CB:Cb P w mg base)  : yI P w K mg base CX0 1 f fd ["self"] (iM K):=by
 specialize ZU
 ·obtain⟨b,p,S,past,later,rfl,_⟩:=h;rfl
 obtain⟨b,p,S,past,later,rfl,⟨dx,d,l,ps,ls,k⟩,few,D,q⟩:=h;obtain⟨m,bk,r,n,st⟩:=k.st;obtain⟨G,B,I⟩:=st.no;obtain⟨g,rfl,y,C⟩:=ZL I;have lk:g.length=S.notes.length:=by have:=congrArg Br y; simpa using this
 exists _,(zD (zK (yK (cI rfl) rfl Z.sorted tL (zG (Tl (zS (yD hr) (uf CB.state (pv 0)) zV 'e')) zL))))
 try dsimp only[L2.cxOf,L2.cxComp,L2.Cx.nox,iW,iB]
 refine⟨_,U,b,dx,_,_,U,k.ob,vw,d,.ref n,U,.inl ⟨_,.inr "notes",st.at_,U,gC.symm⟩,n,_,U,B,λv J=>?_⟩;have o:=zC J (.ext (dG v n));refine⟨v,n,g,U,zA,Rd.same B o,(by have:=few.no; lia),(by rw[y]; exact D),λc X Y z M L R N=>?_⟩;refine q c X Y (o.trans z) (o.free M) R ⟨L.trans lk,λj a e h1 h2=>?_⟩;have hj:=(c9.mp h1).1;have u:g[j]?=Js g[j]:=d6 (by lia);obtain⟨_,h3⟩:=N j a _ h1 u;obtain⟨x,h4,h5⟩:=(C.to (.of (o.trans z))).at (i:=j) (d:=e.2.dt) (by rw[e7,h2]; rfl);rw[e7,u] at h4;have T:g[j].1=e.1:=by
  have:=congrArg (·[j]?) y;simp only[e7,u,h2,Bj,Fb] at this;rwa[this]
 rw[T] at h3;have O:g[j].2=x:=by simpa using h4
 rwa[x,by rw[<- O]; exact h3,h5]
def askM(b:c5)(m:Int)(a:List V):Prop:=a=[.ref b,.int m]
def yr(_:b8):Sp:=λd H Q E=>(E6 λ(b p:c5) (S:BS) (past later:List (Deed×BS)) (j:Nat)=>A5 (d=[.ref b,.int j]) 'p' (jC S) (j<=S.runs.length) (∀(l:c5)(c:List c5)(a:Hp),Same H a->H l=Jt->(∀ g∈c,g≠l)->a l=Js (.lst (c.map V.ref))->wW H a c (S.notes.map λe=>uW S j e.2)->Q (.ref l) a))\/Qs askM d H E
def nF(F:Fun K "note_groups" "note_groups" uU f fd)(Z:Zs mg)(CB:Cb P w mg base)(I:Vf P w K mg base fK 1 ["self"] (iM K))(yBq:Has P w K mg base "sides_of" 5 ["note","places"] (pf K))(yBz:Has P w K mg base "pushed" 1 ["side","x","y"] (kP K))(yAk:Ye P w K mg base "way_between" 2 ["book","one","other"] (ym K))(yAj:Has P w K mg base "mark_places" 2 ["book"] (yk K))(yAh:Ye P w K mg base "check_moment" 1 ["moment","runs"] (xG K))(J:Vf P w K mg base fQ 1 ["self"] (ku K)):yI P w K mg base (CX1 P w) 6 f fd 's' (yr K):=by
 erw[F.okX yZ (λvs H Q E h=>?_) (λcdv A outer s H vs Q E hr h=>?_)]
 ·rcases h with ⟨b,p,S,past,later,j,rfl,_⟩ | ⟨b,p,S,past,later,m,rfl,_⟩ <;> rfl
 refine'⟨_,(zB (yA (uS (λ_=>E) yAh rf 'f' rfl (zG (pv 1) (zG (qQ CB.m_runs J 'f' (pv 0)) zL))))
   (zB (PS.nox (zQ 2 yZ.nd ?_))
   (zB (PS.nox (zQ 3 yZ.nd ?_))
   (zB (xK GV rfl (xL (qQ CB.m_notes I 'f' (pv 0))) (uG 4 yZ.nd) (zB (PS.nox (zQ 5 yZ.nd ?_))
   (zB (zQ 6 yZ.nd (uS (λ_=>E) yAk rf 'f' rfl ?_))
   (zD (PS.nox (yA (og (pv 3) (zG (wN (T:=["side"]) (caps:=[("way",6)]) ⟨rfl,by ac_nf,by ac_nf,rfl,⟨⟨rfl,rfl,BW rfl⟩,Ao⟩⟩ rfl (xL ?_) (λ_=>(uG 0 (show(["side","way"]:List i9).Nodup by ac_nf))) (λ_=>xM) (λ_=>?_)) zL))))))))
   (zD (PS.nox (zK (pv 3)))))))),?_⟩
 nofun
 rcases h with h | h
 rotate_left
 ·obtain⟨b,p,S,past,later,m,rfl,bk,fw,off,k⟩:=h;obtain⟨dx,d,l,ps,ls,kk⟩:=id bk;have no:(bkF d p l).lookup ("runs" : i9)=none:=ak 'h' 'h' 'h';erw[_,rfl,_,rfl,b,dx,_,rfl,kk.ob,no,b,p,S,past,later,rfl,bk,fw,λr rs H1 s1 hr0 hr1 rep=>?_];rwa[r,m,S.runs.length,rfl,.inl ⟨rs,SqL.of hr1,by rw[rep.length,ac]⟩,.inr ⟨off,k _ s1⟩]
 obtain⟨b,p,S,past,later,j0,rfl,bk,gd,hj,q⟩:=h;have no:∀{d l:c5}{m:i9},m = "runs" \/ m = "notes" ->(bkF d p l).lookup m=none:=λ{d l m} e=>by rcases e with e | e <;> subst e <;> rwa[ak 'h' 'h' 'h']
 obtain⟨dx,d,l,ps,ls,kk⟩:=id bk;erw[_,rfl,_,rfl,b,dx,_,rfl,kk.ob,no (.inl rfl),b,p,S,past,later,rfl,bk,gd.few,λr rs H1 s1 hr0 hr1 rep=>?_];have lrs:rs.length=S.runs.length:=by rw[rep.length,ac]
 erw[r,j0,S.runs.length,rfl,.inl ⟨rs,SqL.of hr1,lrs⟩,.inl ⟨(by lia),(by lia),?_⟩];have bk1:=bk.to (.of s1);erw[_,rfl,b,p,S,past,later,rfl,bk1,gd.few,λdd H2 s2 hdd pl=>?_];erw[sz0,λG hG=>?_];have s3:=zC hG (.lst []);have bk3:=bk1.to (.of (s2.trans s3));obtain⟨dx3,d3,l3,ps3,ls3,kk3⟩:=id bk3;erw[_,rfl,b,dx3,_,rfl,kk3.ob,no (.inr rfl),b,p,S,past,later,rfl,bk3,gd.few,gd.rise,λc as H4 s4 hc e4 na=>?_];have ncG:c≠G:=λz=>by rw[z,zA] at hc; cases hc
 have eG4:=s4 _ _ (zA (H:=H2) (a:=G) (o:=.lst []));have s14:Same H1 H4:=s2.trans (s3.trans s4);have fn:=gd.few.no;have nG:H G=none:=s1.free (s2.free hG);refine⟨c,U,.inl ⟨⟨_,SqL.of e4⟩,xE (K:=K) (a:=c) (xs:=as.map V.ref) (λi N M=>A3 (∀ x o,x≠G->H4 x=Js o->M x=Js o) (∃ X:List c5,A3 (M G=Js (.lst (X.map V.ref))) (∀ g∈X,g≠G) (wW H M X ((S.notes.take i).map λe=>uW S j0 e.2))) (E3 λ(u1 u2 u3:Option V)=>N=[Js (.ref b),Js (.int j0),Js (.ref dd),Js (.ref G),u1,u2,u3]))
  ⟨λ_ _ _ e=>e,⟨[],eG4,λ_ h=>(nomatch h),wW.nil⟩,Jt,Jt,Jt,rfl⟩ (λi N M _ hq=>SqL.of (hq.1 _ _ ncG e4)) ?_ ?_⟩⟩
 ·rintro i x N H5 hi ⟨sH,⟨X,eG,R,ga⟩,u1,u2,u3,rfl⟩;rw[e7,x6] at hi;obtain⟨a,ha,rfl⟩:=hi;have hil:i<S.notes.length:=by rw[<- na.len]; exact(c9.mp ha).1
  have hn:S.notes[i]?=Js S.notes[i]:=d6 hil;obtain⟨v,ea,rv⟩:=na.at_ i a _ ha hn;have kn:=gd.note _ (Ap hil);generalize S.notes[i]=O at hn ea rv kn;have sE:tZ (λx=>x=G) H4 H5:=λx o hx e=>.inl (sH x o hx e);have npG:∀ a xs,H4 a=Js 'w'->¬ a=G:=rK eG4;have ea5:=sE.tup (npG _ _ ea) ea;have rv5:=rv.sam sE npG;obtain⟨t,xs,rfl,et,mo,m0,m1⟩:=bi kn rv5;exists _,U,a,_,1,.ref t,U,U,.inr (SqT.of ea5),rfl;have s05:Same H H5:=λx o e=>sH x o (zI e nG) (s14 _ _ (s1 _ _ e));have s25:Same H2 H5:=λx o e=>sH x o (zI e hG) ((s3.trans s4) _ _ e);erw[_,rfl,_,rfl,t,xs,1,_,rfl,rfl,.inr (SqT.of et),mo,_,rfl,.inl ⟨b,p,S,past,later,(uX O.2).toNat,j0,?_,bk.to (.of s05),gd.few,(by lia),hj,λw H6 s6 hw ew=>?_⟩]
  ·rwa[congrArg (λz=>[V.ref b,V.int z,V.int j0]) (Eg m0).symm]
  refine⟨_,U,.inl ⟨U,_,SqL.of (s6 _ _ eG)⟩,_,U,_,U,dd,.ref t,S,O.2,U,rv5.to (.of s6),pl.to (.of (s25.trans s6)),kn,gd.mk_,λL sd H7 s7 eL ts=>?_⟩;have QN:=cN gd.mk_ kn;have two:=iI (S:=S) (D:=O.2);refine⟨L,U,.inl ⟨⟨_,SqL.of eL⟩,λcc B hB=>?_⟩⟩;have ew7:=s7 _ _ ew;refine wG (K:=K) (a:=L) (xs:=sd.map V.ref) (λi N zs M=>A4 (Same H7 M) (M B=Js (.lst zs)) (∃ bs:List c5,zs=bs.map V.ref/\xA M bs (((xq S O.2).take i).map (OJ (yT S.runs (uX O.2).toNat j0).1 (yT S.runs (uX O.2).toNat j0).2))) (∃ u:Option V,N=[u,Js (.ref w)]))
   ⟨zC hB _,zA,⟨[],rfl,.nil⟩,Jt,rfl⟩ (λi N zs M _ hq=>⟨SqL.of (hq.1 _ _ eL),hq.2⟩) ?_ ?_
  ·rintro i x N zs M hi ⟨sH',eB,⟨bs,rfl,tb⟩,u,rfl⟩;rw[e7,x6] at hi;obtain⟨y,hy,rfl⟩:=hi;have hil':i<(xq S O.2).length:=by rw[<- ts.len]; exact(c9.mp hy).1
   have hr':(xq S O.2)[i]?=Js (xq S O.2)[i]:=d6 hil';obtain⟨A,B',C,e3,bA,bB⟩:=QN _ (Ap hil');have ey:=ts.at_ i y _ hy hr';rw[e3] at ey hr';have ewq:Sq K M w _:=.inr (SqT.of (sH' _ _ ew7));erw[_,rfl,_,rfl,w,_,0,_,rfl,rfl,ewq,rfl,_,rfl,w,_,1,_,rfl,rfl,ewq,rfl,y,A,B',C,_,_,rfl,.inr (SqT.of (sH' _ _ ey)),(by lia),(by lia),λz H8 s8 hz ez=>?_];have eB8:=s8 _ _ eB;erw[eB8,zM (by rw[ac,tb.len,ac,o3]; lia),(sH'.trans s8).putNew hB,zA,⟨bs++[z],by rw[g5]; rfl,?_⟩,_,rfl];rw[Az,hr',g5];exact((tb.to (.of s8)).app (.one ez)).samE (rP eB8) (rK eB8)
  ·rintro N zs H8 ⟨s8,eB,⟨bs,rfl,tb⟩,u,rfl⟩;rw[ac,ts.len,v9] at tb;have s58:Same H5 H8:=s6.trans (s7.trans s8);have Y:=s58 _ _ eG;have nB5:H5 B=none:=s6.free (s7.free hB);have nBG:B≠G:=λz=>by rw[z,eG] at nB5; cases nB5
   exists G,_,.ref B,U,U,Y,zM (by rw[ac,ga.len,ac,o3]; lia);have sG:=rP (o:=.lst (X.map V.ref++[.ref B])) Y;erw[λx o n e=>by rw[zH n]; exact s58 _ _ (sH x o n e),⟨X++[B],by rw[zA,g5]; rfl,λg hg=>?_,?_⟩,_,_,_,rfl]
   ·rcases m9.mp hg with z | z
    ·rwa[R g z]
    ·rw[e8.mp z]; rwa[nBG]
   ·rw[Az,hn,g5];have ga8:wW H H8 X _:=ga.samE (tZ.of (φ:=λ_=>False) s58) (λ_ _ _=>id) (λ_ _=>id);exact(ga8.samE sG (rK Y) R).snoc (s05.free nB5) (by rw[zH nBG]; rwa[eB]) (tb.samE sG (rK Y))
 ·rintro N H5 ⟨sH,⟨X,eG,R,ga⟩,u1,u2,u3,rfl⟩;rw[ac,na.len,v9] at ga;rwa[_,rfl,q G X H5 (λx o e=>sH x o (zI e nG) (s14 _ _ (s1 _ _ e))) nG R eG ga]
def xW(_:b8):Sp:=λc H Q E=>(E6 λ(b p:c5) (S:BS) (past later:List (Deed×BS)) (j:Nat)=>A5 (c=[.ref b,.int j]) 'p' (jC S) (j<=S.runs.length) (∀(l:c5)(d:List c5)(a:Hp),Same H a->H l=Jt->a l=Js (.lst (d.map V.ref))->xA a d (S.notes.map λe=>uW S j e.2).flatten->Q (.ref l) a))\/Qs askM c H E
def jm(F:Fun K "note_sides" "note_sides" vJ f fd)(Z:Zs mg)(CB:Cb P w mg base)(T:Ye P w K mg base "note_groups" 6 's' (yr K)):yI P w K mg base (CX1 P w) 7 f fd 's' (xW K):=by
 erw[F.okX sY (λvs H Q E h=>?_) (λcdv A outer s H vs Q E hr h=>?_)]
 ·rcases h with ⟨b,p,S,past,later,j,rfl,_⟩ | ⟨b,p,S,past,later,m,rfl,_⟩ <;> rfl
 refine'⟨_,(zB (PS.nox (zQ 2 sY.nd ?_))
   (zB (xK GV rfl (xL (uS (λ_=>E) T rf 'f' rfl (zG (pv 0) (zG (pv 1) zL)))) (uG 3 sY.nd) (PSs.nox (zD (yA (RF Fj PySem.F.slot_list_extend PySem.F.type_list_extend XN (pv 2) (zG (pv 3) zL))))))
   (zD (PS.nox (zK (pv 2)))))),?_⟩
 nofun
 rcases h with h | h
 rotate_left
 ·obtain⟨b,p,S,past,later,m,rfl,bk,fw,Y,k⟩:=h;erw[sz0,λL B=>?_];have v:=zC B (.lst []);rwa[_,rfl,_,rfl,.inr ⟨b,p,S,past,later,m,rfl,bk.to (.of v),fw,Y,λI N=>k _ (v.trans N)⟩]
 obtain⟨b,p,S,past,later,c,rfl,bk,gd,hj,q⟩:=h;erw[sz0,λL B=>?_];have v:=zC B (.lst []);erw[_,rfl,_,rfl,.inl ⟨b,p,S,past,later,c,rfl,bk.to (.of v),gd,hj,λG gs H2 N hG _ eG O=>?_⟩];have C:=N _ _ (zA (H:=H) (a:=L) (o:=.lst []));have nGL:G≠L:=λz=>by rw[z,zA] at hG; cases hG
 have ngL:∀ g∈gs,g≠L:=λg y z=>by
  have:=O.new g y;rw[z,zA] at this;cases this
 refine⟨G,U,.inl ⟨⟨_,SqL.of eG⟩,xE (K:=K) (a:=G) (xs:=gs.map V.ref) (λi J I=>A3 (∀ x o,x≠L->H2 x=Js o->I x=Js o) (∃ d:List c5,I L=Js (.lst (d.map V.ref))/\xA I d ((S.notes.take i).map λe=>uW S c e.2).flatten) (∃ u:Option V,J=[Js (.ref b),Js (.int c),Js (.ref L),u]))
  ⟨λ_ _ _ e=>e,⟨[],C,xA.nil⟩,Jt,rfl⟩ (λi J I _ hq=>SqL.of (hq.1 _ _ nGL eG)) ?_ ?_⟩⟩
 ·rintro i x J R hi ⟨M,⟨d,l,r⟩,u,rfl⟩;rw[e7,x6] at hi;obtain⟨g,y,rfl⟩:=hi;have hil:i<S.notes.length:=by
   have:=O.len;rw[ac] at this;rw[<- this];exact(c9.mp y).1
  have hn:S.notes[i]?=Js S.notes[i]:=d6 hil;obtain⟨bs,eg,tb⟩:=O.at_ i g (uW S c S.notes[i].2) y (by rw[e7,hn]; rfl);have sE:tZ (λx=>x=L) H2 R:=λx o hx e=>.inl (M x o hx e);have eg5:=sE.lst (ngL g (f6 y)) eg;have X:=tb.samE sE (rK C);have l1:=nW (λe:Int×Deed=>uW S c e.2) (λ_=>vb) (S.notes.take i);have l2:=vb (S:=S) (j:=c) (D:=S.notes[i].2);have l3:=r.len;have l4:=tb.len;have fn:=gd.few.no;rw[o3] at l1;exists _,U,.inl ⟨U,_,SqL.of l⟩,_,U,L,g,_,_,U,U,l,eg5,AC (zM (by rw[ac,ac]; lia));have sL:=rP (o:=.lst (d.map V.ref++bs.map V.ref)) l;erw[λx o n e=>by rw[zH n]; exact M x o n e,⟨d++bs,by rw[zA,g5],?_⟩,_,rfl];rw[Az,hn,g5,List.flatten_append];refine(r.app ?_).samE sL (rK l);show xA R bs [uW S c S.notes[i].2].flatten;rw[List.flatten_singleton];rwa[X]
 ·rintro J R ⟨M,⟨d,l,r⟩,u,rfl⟩;rw[ac,O.len,ac,v9] at r;rwa[_,rfl,q L d R (λx o e=>M x o (zI e B) (N _ _ (v _ _ e))) B l r]
def csd(C:List P3):List Sd:=C.map λt=>(0,t)
def bt(C:List P3):(csd C).map (·.2)=C:=by
 unfold csd;rw[v8];rwa[F3 C]
def pT(S:BS)(j:Nat):List P3:=(S.notes.map λe=>uW S j e.2).flatten.map p3
def Zp{c b:List Sd}(e:c.map (·.2)=b.map (·.2)){P:P3}(h:Cor c P):Cor b P:=by
 have go:∀ t∈c,∃ u∈b,u.2=t.2:=λt a=>by
  have z:=Ab (f:=λx:Sd=>x.2) a;rw[e] at z;rwa[o5.mp z]
 have back:∀ t∈b,∃ u∈c,u.2=t.2:=λt a=>by
  have z:=Ab (f:=λx:Sd=>x.2) a;rw[<- e] at z;rwa[o5.mp z]
 obtain⟨t,a,u,q,h1,h2,h3⟩:=h;obtain⟨o,i,l⟩:=go t a;obtain⟨n,g,j⟩:=go u q;erw[o,i,n,g,by rw[l,j]; exact h1,by rw[l,j]; exact h2,λv p=>?_];obtain⟨m,d,ev⟩:=back v p;rw[<- ev];rwa[h3 m d]
def wm.rows{H:Hp}{b a:List Sd}(e:b.map (·.2)=a.map (·.2))(h:wm H D b c):wm H D a c :=
 ⟨h.at',h.ok,h.nodup,λP=>(h.mem P).trans ⟨Zp e,Zp e.symm⟩,h.rises,by have:=congrArg Br e; rw[ac,ac] at this; rw[<- this]; rwa[h.few]⟩
def mi{j:Nat} : (pT S j).length<=2*S.notes.length:=by
 unfold pT;rw[ac];have:=nW (λe:Int×Deed=>uW S j e.2) (λ_=>vb) S.notes;lia
def WS{H:Hp}{j:Nat}(gd:jC S)(d:xA H c (S.notes.map λe=>uW S j e.2).flatten):∃ a:List Sd,zY a=c.map V.ref/\qb H a/\a.map (·.2)=pT S j:=by
 obtain⟨a,m,ok,l⟩:=WQ d λr b=>by
  obtain⟨g,h,b⟩:=Fm.mp b;obtain⟨e,i,rfl⟩:=o5.mp h;rwa[xw gd (gd.note e i) r b]
 rwa[a,by rw[<- m],ok,l]
def qO(_:b8):Sp:=λc H Q _=>E6 λ(b p:c5) (S:BS) (past later:List (Deed×BS)) (j:Nat)=>A6 (c=[.ref b,.int j]) 'p' (jC S) (j<=S.runs.length) (S.notes.length<=24) (∀(D:c5)(d:List SpT)(a:Hp),Same H a->H D=Jt->wm a D (csd (pT S j)) d->Q (.ref D) a)
def oI(F:Fun K "book_corners" "book_corners" wX f fd)(Z:Zs mg)(J:Cb P w mg base)(a:Has P w K mg base "corners" 16 ["sides"] (ye K))(c:Ye P w K mg base "note_sides" 7 's' (xW K)):yI P w K mg base CX0 17 f fd 's' (qO K):=by
 specialize oH
 ·obtain⟨b,p,S,past,later,j,rfl,_⟩:=h;rfl
 obtain⟨b,p,S,past,later,j,rfl,bk,gd,r,B,q⟩:=h;exists _,(zD (zK (zZ a 'f' rfl (zG (uS (λ_=>E0) c oy 'f' rfl (zG (pv 0) (zG (pv 1) zL))) zL))))
 try dsimp only[L2.cxOf,L2.cxComp,L2.Cx.nox,iW,iB]
 refine⟨_,U,_,U,.inl ⟨b,p,S,past,later,j,U,bk,gd,r,λl G I e C v i=>?_⟩⟩;obtain⟨d,x,ok,g⟩:=WS gd i;have o:d.length<=63:=by
  have:=mi (S:=S) (j:=j);rw[<- g,ac] at this;lia
 rwa[l,d,rfl,SqL.of (by rw[x]; exact v),ok,o,λD n z m u y=>q D n z (e.trans m) (e.free u) (y.rows (by rw[g,bt]))]
def ul(K:b8):Sp:=λd H Q _=>E6 λ(b p:c5) (S:BS) (past later:List (Deed×BS)) (j:Nat)=>A7 (d=[.ref b,.int j]) 'p' (jC S) (j<=S.runs.length) (S.notes.length<=9) (mw K H) (∀(v:V)(c:List Sd)(a:Hp),tF K H a->mw K a->c.map (·.2)=(kK S j).map p3->(∀ t∈c,t.2.1.natAbs<=10^9/\t.2.2.1.natAbs<=10^9/\t.2.2.2.natAbs<=10^13)->fZ c v a->Q v a)
def jG(F:Fun K "book_area" "book_area" sS f fd)(Z:Zs mg)(G:Cb P w mg base)(d:Has P w K mg base "area" 18 ["sides"] (cJ K))(e:Ye P w K mg base "note_sides" 7 's' (xW K)):yI P w K mg base CX0 19 f fd 's' (ul K):=by
 specialize jR
 ·obtain⟨b,p,S,past,later,j,rfl,_⟩:=h;rfl
 obtain⟨b,p,S,past,later,j,rfl,bk,gd,r,z,tab,q⟩:=h;exists _,(zD (zK (zZ d 'f' rfl (zG (uS (λ_=>E0) e oy 'f' rfl (zG (pv 0) (zG (pv 1) zL))) zL))))
 try dsimp only[L2.cxOf,L2.cxComp,L2.Cx.nox,iW,iB]
 erw[_,rfl,_,rfl,.inl ⟨b,p,S,past,later,j,rfl,bk,gd,r,λl C D i B u m=>?_⟩];obtain⟨g,c⟩:=SL gd u m;have fw:=c.few;rwa[l,g,rfl,SqL.of c.at_,c.ok,by lia,tab.same i,λv y n a x=>q v g y ((tF.of i).trans n) a c.rows (λt o=>(c.ok t o).2.2) x]
def dY{b a:List Sd}(e:b.map (·.2)=a.map (·.2))(x y:Int):vD b x y=vD a x y:=by
 have h:∀ l:List Sd,vD l x y=(l.map (·.2)).all λt=>decide (t.1*x+t.2.1*y<=0):=λl=>by
  unfold vD;rw[DJ];rfl
 rw[h,h,e]
def Wz{b a:List Sd}(e:b.map (·.2)=a.map (·.2))(h:WK b b.length k):WK a a.length k:=by
 obtain⟨j,t,d,gt,r⟩:=h;have z:=congrArg (λl:List P3=>l[j]?) e;simp only[e7,gt,Bj] at z;cases g:a[j]? with
 | none=>rw[g] at z; cases z
 | some u =>
  rw[g] at z;have c:t.2=u.2:=m8 z;rw[c,dY e,dY e] at r;rwa[j,u,(c9.mp g).1,g,r]
def oX.rows{H:Hp}{c b:List Sd}(e:c.map (·.2)=b.map (·.2))(h:oX H p c a):oX H p b a :=
 ⟨h.at',h.all,h.rises,h.nodup,λk=>(h.mem k).trans ⟨Wz e,Wz e.symm⟩,h.few⟩
def uw(_:b8):Sp:=λc H Q _=>E6 λ(b p:c5) (S:BS) (past later:List (Deed×BS)) (j:Nat)=>A6 (c=[.ref b,.int j]) 'p' (jC S) (j<=S.runs.length) (S.notes.length<=24) (∀(D:c5)(d:List (c5×List Int))(a:Hp),Same H a->H D=Jt->oX a D (csd (pT S j)) d->Q (.ref D) a)
def jT(F:Fun K "book_ways" "book_ways" sO f fd)(Z:Zs mg)(J:Cb P w mg base)(a:Has P w K mg base "ways" 4 ["sides"] (pc K))(c:Ye P w K mg base "note_sides" 7 's' (xW K)):yI P w K mg base CX0 8 f fd 's' (uw K):=by
 specialize jO
 ·obtain⟨b,p,S,past,later,j,rfl,_⟩:=h;rfl
 obtain⟨b,p,S,past,later,j,rfl,bk,gd,u,B,q⟩:=h;exists _,(zD (zK (zZ a 'f' rfl (zG (uS (λ_=>E0) c oy 'f' rfl (zG (pv 0) (zG (pv 1) zL))) zL))))
 try dsimp only[L2.cxOf,L2.cxComp,L2.Cx.nox,iW,iB]
 refine⟨_,U,_,U,.inl ⟨b,p,S,past,later,j,U,bk,gd,u,λl G I e C x n=>?_⟩⟩;obtain⟨d,y,ok,g⟩:=WS gd n;have r:d.length<=400:=by
  have:=mi (S:=S) (j:=j);rw[<- g,ac] at this;lia
 rwa[l,d,rfl,SqL.of (by rw[y]; exact x),ok,r,λD m z o v i=>q D m z (e.trans o) (e.free v) (i.rows (by rw[g,bt]))]
def xu(K:b8):Sp:=λe H Q _=>E8 λ(b p a:c5) (S:BS) (past later:List (Deed×BS)) (j:Nat) (g:P3)=>A9 (e=[.ref b,.int j,.ref a]) 'p' (jC S) (j<=S.runs.length) (Sq K H a [.int g.1,.int g.2.1]) (g.1≠0\/g.2.1≠0) (g.1.natAbs<=2*10^9) (g.2.1.natAbs<=2*10^9) (∀(t:c5)(d:List Sd)(c:Hp),Same H c->d.map (·.2)=(kK S j).map p3->RcO d g c t->Q (.ref t) c)
def jg(F:Fun K "book_reach" "book_reach" vS f fd)(Z:Zs mg)(I:Cb P w mg base)(d:Has P w K mg base "reach" 10 'x' (ii K))(e:Ye P w K mg base "note_sides" 7 's' (xW K)):yI P w K mg base CX0 11 f fd ["book","moment","direction"] (xu K):=by
 specialize lC
 ·obtain⟨b,p,a,S,past,later,j,g,rfl,_⟩:=h;rfl
 obtain⟨b,p,a,S,past,later,j,g,rfl,bk,gd,v,o,gz,y,x,q⟩:=h;exists _,(zD (zK (zZ d 'f' rfl (zG (uS (λ_=>E0) e oy 'f' rfl (zG (pv 0) (zG (pv 1) zL))) (zG (pv 2) zL)))))
 try dsimp only[L2.cxOf,L2.cxComp,L2.Cx.nox,iW,iB]
 erw[_,rfl,_,rfl,.inl ⟨b,p,S,past,later,j,rfl,bk,gd,v,λl D G m C z n=>?_⟩];obtain⟨i,c⟩:=SL gd z n;have fw:=c.few;have fn:=gd.few.no;rwa[_,rfl,l,a,i,g,rfl,SqL.of c.at_,c.ok,by lia,o.same m,gz,y,x,λt B r u=>q t i B (m.trans r) c.rows u]
def lN(_:b8):Sp:=λa H Q _=>E5 λ(b p:c5) (S:BS) (past later:List (Deed×BS))=>A3 (a=[.ref b]) 'p' (Q (.int S.coming) H)
def bo(F:Fun K "coming" "Book.coming" vf f fd)(Z:Zs mg)(a:Cb P w mg base)  : yI P w K mg base CX0 1 f fd ["self"] (lN K):=by
 specialize aG
 ·obtain⟨b,p,S,past,later,rfl,_⟩:=h;rfl
 obtain⟨b,p,S,past,later,rfl,⟨dx,d,l,c,e,k⟩,q⟩:=h;obtain⟨m,bk,r,n,st⟩:=k.st;exists _,(zD (zK (zS (yD hr) (uf a.state (pv 0)) zV 'e')))
 try dsimp only[L2.cxOf,L2.cxComp,L2.Cx.nox,iW,iB]
 rwa[_,rfl,b,dx,_,_,rfl,k.ob,vw,d,.int S.coming,rfl,.inl ⟨_,.inr "coming",st.at_,rfl,ji.symm⟩,q]
def cE(_:b8):Sp:=λc H Q _=>E7 λ(b p:c5) (v:V) (S:BS) (D:Deed) (past later:List (Deed×BS))=>A9 (c=[.ref b,v]) 'p' (Tw D) (Rep H D.dt v) (okD S D) (Few S) (YX S) (past.length<=500) (∀(a:Hp),tZ (Bp b p) H a->oJ bkC a b p (aft S D) (past++[(D,S)]) []->Q (if S.coming=(aft S D).coming then .non else .int S.coming) a)
def Vz(F:Fun K "deed" "Book.deed" mz f fd)(Z:Zs mg)(u:Cb P w mg base)(a:Vf P w K mg base jj 1 ["self"] (lN K))(N:Has P w K mg base "after" 4 ["state","row"] (iZ K)):yI P w K mg base CX0 5 f fd ["self","row"] (cE K):=by
 specialize kX
 ·obtain⟨b,p,v,S,D,past,later,rfl,_⟩:=h;rfl
 obtain⟨b,p,v,S,D,past,later,rfl,bk,kd,hv,ok,few,fr,hl,q⟩:=h;obtain⟨dx,d,l,B,ls,k⟩:=bk;have no:∀{d l:c5}{m:i9},m = "coming" ->(bkF d p l).lookup m=none:=λ{d l m} e=>by subst e; rwa[ak 'h' 'h' 'h']
 refine'⟨_,(zB (zQ 2 kX.nd (qQ u.m_coming a 'f' (pv 0)))
   (zB (zQ 3 kX.nd (zZ N 'f' rfl (zG (uf u.state (pv 0)) (zG (pv 1) zL))))
   (zB (yA (og (uf u.past (pv 0)) (zG (iP (zG (pv 1) (zG (uf u.state (pv 0)) zL))) zL)))
   (zB (jb u.state (pv 0) (pv 3))
   (zB (jb u.later (pv 0) ?_)
   (zD (zK (ZM (yS RN (qQ u.m_coming a 'f' (pv 0)) (pv 2) (tM _)) yf (pv 2))))))))),?_⟩
 nofun
 exists _,U,b,dx,_,U,k.ob,no rfl,b,p,S,past,later,U,⟨dx,d,l,B,ls,k⟩;erw[_,rfl,b,dx,_,_,rfl,k.ob,vw,_,rfl,d,v,S,D,rfl,kd,k.st,hv,ok,few,fr,λI J T hd' R=>?_];have M:=k.to T;have X:=hv.to T;erw[_,rfl,b,dx,_,_,rfl,M.ob,Qz,.inl ⟨rfl,_,SqL.of M.pa⟩,_,rfl,_,rfl,b,dx,_,_,rfl,M.ob,vw,sz2,λt ht=>?_];have L:=zC ht (.tup [v,.ref d]);have c:=M.to (.of L);exists p,B,.ref t,U,U,c.pa,zM (by rw[c.pp.len]; lia);have i:b≠p:=fR c.ob c.pa (λz=>nomatch z);have e3:upd (upd J t (.tup [v,.ref d])) p (.lst (B++[.ref t])) b=Js (.ins bkC dx (bkF d p l)):=by rw[zH i]; rwa[c.ob]
 exists _,U,_,U,b,dx,_,U,e3,(by show 3<1000; decide);rw[dO];refine⟨sz0,λg G=>?_⟩;have r:b≠g:=zI zA G;have n:p≠g:=λz=>by
  rw[<- z,zH i.symm,zA] at G;cases G
 exists _,U,b,dx,_,U,(by rw[zH r,zA]),(by show 3<1000; decide);rw[fX];have Y:(upd J t (.tup [v,.ref d])) g=none:=by rw[zH r.symm,zH n.symm] at G; rwa[G]
 have y:tZ (Bp b p) (upd J t (.tup [v,.ref d])) (upd (upd (upd (upd (upd J t (.tup [v,.ref d])) p (.lst (B++[.ref t]))) b (.ins bkC dx (bkF I p l))) g (.lst [])) b (.ins bkC dx (bkF I p g))):=λx o hx e=>by
  have n1:x≠b:=λz=>hx (.inl z);have n2:x≠p:=λz=>hx (.inr z);rw[zH n1,zH (zI e Y),zH n1,zH n2];rwa[.inl e]
 have nd:=QF c.ob c.pa;have C:=Qr c.ob c.pa;have O:=R.to (.of L);have BK:oJ bkC (upd (upd (upd (upd (upd J t (.tup [v,.ref d])) p (.lst (B++[.ref t]))) b (.ins bkC dx (bkF I p l))) g (.lst [])) b (.ins bkC dx (bkF I p g))) b p (aft S D) (past++[(D,S)]) []:=by
  erw[dx,I,g,B++[.ref t],[],zA,O.samE y nd C,?_,?_,?_,rfl,n.symm]
  ·rw[zH i.symm,zH n,zH i.symm,zA]
  ·rw[zH r.symm,zA]
  ·rwa[tJ.app (y.tup (C _ _ zA) zA) ((X.to (.of L)).sam y C) (c.st.samE y nd C) (c.pp.samE y nd C)]
 have j:=q _ (((T.trans (.of L)).wider (λ_ z=>z.elim)).trans y) BK;exists _,U,b,dx,_,U,zA,no rfl,b,p,aft S D,_,[],U,BK,_,U,U,_,rfl;erw[ifE (λe=>?_) (λe=>?_)]
 ·rw[y6 e.symm] at j;rwa[j]
 ·rw[y4 (λz=>e z.symm)] at j;rwa[_,rfl,j]
def kj(_:b8):Sp:=λe H Q _=>E4 λ(a b p:c5) (rows:List Int)=>A7 (e=[.ref a,.ref b]) (H a=Js (.lst 'm')) (90<=rows.length) (∀ x∈rows,0<=x/\x<1000003) (oJ bkC H b p BS.nil [] []) (a≠p) (∀(d:c5)(S:BS)(past:List (Deed×BS))(c:Hp),tZ (Bp b p) H c->oJ bkC c b p S past []->LwP c d p S->jC S->S.runs.length<=3->past.length<=14->(∃ i,i<=6/\xi S.notes S.coming i)->Q (.ref d) c)
def aq(F:Fun K "_law_raised" "_law_raised" vj f fd)(Z:Zs mg)(CB:Cb P w mg base)(yAv:Has P w K mg base "_law_some_deeds" 4 ["_law_some","_law_names_here"] (xm K))(yCr:Has P w K mg base "_law_names" 1 ["_law_some","_law_many"] (iw K))(yCs:Has P w K mg base "_law_after" 1 ["_law_m","_law_deed"] (iV K))(g:Vf P w K mg base aj 5 ["self","row"] (cE K))(yDe:Has P w K mg base "_law_new" 1 [] (gU K)):yI P w K mg base CX0 6 f fd ["_law_some","_law_book"] (kj K):=by
 specialize zg
 ·obtain⟨a,b,p,rows,rfl,_⟩:=h;rfl
 obtain⟨a,b,p,rows,rfl,ha,l90,bd,bk,nap,q⟩:=h;have no:∀{d l:c5}{m:i9},m = "deed" ->(bkF d p l).lookup m=none:=λ{d l m} e=>by subst e; rwa[ak 'h' 'h' 'h']
 obtain⟨dx0,d0,l0,ps0,ls0,k0⟩:=id bk
 refine'⟨_,(zB (zQ 2 zg.nd (kU yDe 'f' rfl))
   (zB (xK r9 rfl (xL ?_) (uG 3 zg.nd) (zB (yA (Us CB.m_deed g 'f' (pv 1) (zG (pv 3) zL)))
   (zD (zQ 2 zg.nd ?_))))
   (zD (zK (pv 2))))),?_⟩
 nofun
 erw[rfl,λd m b' r n H1 s1 hd hm Y ed em eb er en _ _=>?_];have lw1:LwA H1 d m b' r n BS.nil:=⟨.inl ed,.nil em,.nil eb,⟨[],er,yN.mpr rfl⟩,.nil en⟩;have nrp:r≠p:=λz=>by rw[z,k0.pa] at Y; cases Y
 erw[_,rfl,_,rfl,a,rows,5,rfl,SqL.of (s1 _ _ ha),(by lia),'a',bd,λR ns H2 s2 hR eR ln okn nd=>?_];erw[a,R,rows,ns,rfl,s2 _ _ (s1 _ _ ha),l90,bd,eR,ln,okn,nd,λL xs x H3 s3 hL eL rp l14 ch l3 four sm _=>?_];have I:=s2.trans s3;have J:=s1.trans I;have o:H L=none:=s1.free (s2.free hL);have nLp:L≠p:=λz=>by rw[z,k0.pa] at o; cases o
 have nLb:L≠b:=λz=>by rw[z,k0.ob] at o; cases o
 have nLB:¬ Bp b p L:=λz=>z.elim nLb nLp;have T:xs.length=x.length:=by rw[rp.length,ac]
 have bk3:=bk.to (.of J);obtain⟨dx3,d3,l3',ps3,ls3,k3⟩:=id bk3;have nd3:=QF k3.ob k3.pa;have np3:=Qr k3.ob k3.pa;refine⟨L,U,.inl ⟨⟨_,SqL.of eL⟩,xE (K:=K) (a:=L) (xs:=xs) (λi σ H'=>tZ (Bp b p) H3 H'/\E2 λ(C:c5) (past:List (Deed×BS))=>A4 (oJ bkC H' b p (tD BS.nil (x.take i)) past []) (past.length<=i) (E4 λm b' r n=>r≠p/\LwA H' C m b' r n (tD BS.nil (x.take i))) (∃ u:Option V,σ=[Js (.ref a),Js (.ref b),Js (.ref C),u]))
  ⟨tZ.refl _,d,[],bk3,e9 _,⟨m,b',r,n,nrp,lw1.to (.of I)⟩,Jt,rfl⟩ (λi σ H' _ hq=>SqL.of (hq.1.lst nLB eL)) ?_ ?_⟩⟩
 ·rintro i v σ H4 hi ⟨s4,C,past,j,lp,⟨m4,b4,M,n4,B,c⟩,u,rfl⟩;have hil:i<x.length:=by rw[<- T]; exact(c9.mp hi).1
  have hD:x[i]?=Js x[i]:=d6 hil;have f4:=four _ (Ap hil);generalize x[i]=D at hD f4;obtain⟨dt,g1,g2⟩:=rp.back hi;rw[e7,hD] at g1;cases g1;have y:=iG ch hD;have gd:=oz (S:=BS.nil) (l:=x.take i) aX (oW ch);rw[ai hD];generalize tD BS.nil (x.take i)=S at j c y gd;have it:Tw D:=by cases D <;> first | exact trivial | exact f4.elim
  have rv:=g2.sam s4 np3;obtain⟨dx4,d4,l4,ps4,ls4,G⟩:=id j;refine⟨_,U,b,dx4,_,U,G.ob,no rfl,_,U,b,p,v,S,D,past,[],U,j,it,rv,y,gd.few,gd.fresh,(by lia),λH5 s5 bk5=>?_⟩;have nd4:=QF G.ob G.pa;have O:=Qr G.ob G.pa;have N:¬ Bp b p M:=λz=>z.elim (λz=>by
   obtain⟨rs,e,_⟩:=c.ru;rw[z,G.ob] at e;cases e) B
  have lw5:LwA H5 C m4 b4 M n4 S:=c.samE s5 nd4 O (λ_ _=>N);erw[_,rfl,_,rfl,C,v,S,D,rfl,rv.sam s5 O,⟨m4,b4,M,n4,lw5⟩,y,gd.few,gd.fresh,it,λd'' H6 s6 hd'' lwn=>?_];obtain⟨m6,b6,r6,n6,X,lw6⟩:=lwn;obtain⟨dx5,d5,l5,ps5,ls5,k5⟩:=id bk5;have nr6:r6≠p:=λz=>by rw[z,k5.pa] at X; cases X
  rwa[(s4.trans s5).trans (.of s6),d'',_,bk5.to (.of s6),(by rw[g7]; simp only[i4,BE]; lia),⟨m6,b6,r6,n6,nr6,lw6⟩,_,rfl]
 ·rintro σ H4 ⟨s4,C,past,j,lp,⟨m4,b4,M,n4,B,c⟩,u,rfl⟩;rw[T,v9] at j c;rwa[_,rfl,q C _ past H4 ((tZ.of J).trans s4) j ⟨m4,b4,M,n4,B,c⟩ (oz aX ch) l3 (by lia) sm]
structure Two(b:Int)(H:Hp)(v v':V)(p p':c5)(s t s' t':Int):Prop where
 ev:v=.ref p
 ev':v'=.ref p'
 e:H p=Js (.tup [.int s,.int t])
 e':H p'=Js (.tup [.int s',.int t'])
 pos:1<=t
 pos':1<=t'
 low:l9 s.natAbs t.natAbs=1
 low':l9 s'.natAbs t'.natAbs=1
 eq:s'*t=t'*(s*b*b)
 bnd:s.natAbs<=10^372/\t.natAbs<=10^372/\s'.natAbs<=10^372/\t'.natAbs<=10^372
def Oz{b x y:Int}(g:0<b)(h:Mv b x y S u)(R:RgA S O a)(j:RgA u n c):n=fi b x y O/\c=a.map (fi b x y):=by
 have cO:qP O:=uD R.rg.cO;have low:∀ A∈O::a,qP A:=λA q=>uD ((R.rg.mem A).mp q);have rel:∀ A∈O::a,Rel b x y A (fi b x y A):=λA q=>(uu (low A q).1).1;have o:=j.rg.nodup;have nd:=R.rg.nodup;have r:n=fi b x y O:=by
  obtain⟨P,s,e⟩:=h.cor' g j.rg.cO;rcases g9.mp ((R.rg.mem P).mpr s) with rfl | d
  ·rwa[e]
  ·exfalso;have a1:ahB (0,O) (0,P)=true:=R.ah P d 0 0;have a2:=((rel O (.head _)).ah g (rel P (.tail _ d))).mpr a1;rw[<- e] at a2;have m:fi b x y O∈n::c:=(j.rg.mem _).mpr (h.cor g R.rg.cO);rcases g9.mp m with z | z
   ·rw[z] at a2;rw[lJ] at a2;lia
   ·have D:ahB (0,n) (0,fi b x y O)=true:=j.ah _ z 0 0;rw[lJ] at a2 D;lia
 exists r;have i:(a.map (fi b x y)).Nodup:=by
  rw[HN,Ai];rwa[Bt (λ{P Q} d v ne e=>ne (Wv g (low P (.tail _ d)) (low Q (.tail _ v)) e)) (Ax.mp nd).2]
 refine NQ (R:=λA B=>0<c3 n A B) ((EJ (Ax.mp o).2 i).mpr λE=>?_) (λA _ B _ h1 h2=>by have z:=WP n A B; lia) j.rg.left ?_
 ·rw[o5];constructor
  ·intro p;obtain⟨P,s,e⟩:=h.cor' g ((j.rg.mem E).mp (.tail _ p));rcases g9.mp ((R.rg.mem P).mpr s) with rfl | d
   ·exfalso;rw[<- r] at e;exact(Ax.mp o).1 (e ▸ p)
   ·rwa[P,d,e.symm]
  ·rintro⟨P,d,rfl⟩;rcases g9.mp ((j.rg.mem _).mpr (h.cor g ((R.rg.mem P).mp (.tail _ d)))) with z | z
   ·exfalso;rw[r] at z;have:=Wv g (low P (.tail _ d)) cO z;exact(Ax.mp nd).1 (this ▸ d)
   ·rwa[z]
 ·rw[Ai,r];rwa[Bt (λ{A B} q C l=>((rel O (.head _)).c3pos g (rel A (.tail _ q)) (rel B (.tail _ C))).mpr l) R.rg.left]
def Vt{b x y:Int}(hb:0<b)(h:Mv b x y S E){H:Hp}(o:fZ S v H)(Z:fZ E Q H)(n18:S.length<=18)(sm:∀ t∈S,t.2.1.natAbs<=10^9/\t.2.2.1.natAbs<=10^9/\t.2.2.2.natAbs<=10^13)(X:∀ t∈E,t.2.1.natAbs<=10^9/\t.2.2.1.natAbs<=10^9/\t.2.2.2.natAbs<=10^13) :
  (v=.non/\Q=.non)\/∃ p B s t Y T,Two b H v Q p B s t Y T:=by
 have J:=h.place hb;have hne:E≠[]↔S≠[]:=by
  have z:=h.len;constructor
  ·intro a e;rw[e] at z;rwa[a (Dz.mp z)]
  ·intro a e;rw[e] at z;rwa[a (Dz.mp z.symm)]
 have I:(E≠[]/\∀ k,¬ WK E E.length k)↔(S≠[]/\∀ k,¬ WK S S.length k):=by
  rw[hne];constructor
  ·rintro⟨a,c⟩;rwa[a,λk z=>c k ((h.wk k).mpr z)]
  ·rintro⟨a,c⟩;rwa[a,λk z=>c k ((h.wk k).mp z)]
 rcases o with ⟨no,p,ev,e⟩ | ⟨z,nc,ev⟩ | ⟨z,cl,p,s,t,O,d,R,ev,e,f⟩
 ·rcases Z with ⟨j,B,ev',e'⟩ | ⟨⟨z,M,N⟩,_⟩ | ⟨⟨z,M,N⟩,_⟩
  ·rwa[.inr ⟨p,B,0,1,0,1,ev,ev',e,e',by decide,by decide,by decide,by decide,by grind,by ac_nf⟩]
  ·obtain⟨u,q,n⟩:=J.mp ⟨z,M,N⟩;rwa[y9 n (no u q)]
  ·obtain⟨u,q,n⟩:=J.mp ⟨z,M,N⟩;rwa[y9 n (no u q)]
 ·rcases Z with ⟨j,B,ev',e'⟩ | ⟨_,_,ev'⟩ | ⟨_,cl',_⟩
  ·obtain⟨u,q,n⟩:=J.mpr z;rwa[y9 n (j u q)]
  ·rwa[.inl ⟨ev,ev'⟩]
  ·rwa[y9 (I.mp cl') nc]
 ·rcases Z with ⟨j,B,ev',e'⟩ | ⟨_,nc',_⟩ | ⟨_,_,B,Y,T,m,g,R',ev',e',G⟩
  ·obtain⟨u,q,n⟩:=J.mpr z;rwa[y9 n (j u q)]
  ·rwa[y9 (I.mpr cl) nc']
  ·obtain⟨fO,fr⟩:=R.fine sm;obtain⟨D,C⟩:=R'.fine X;have few:=R.few;have few':=R'.few;have hl:=h.len;have Bp:0<arB O (rAt O d) (d.length-1):=bF fO.pos λi _=>(fr i).pos;have l:0<arB m (rAt m g) (g.length-1):=bF D.pos λi _=>(C i).pos;obtain⟨eO,er⟩:=Oz hb h R R';have ll:g.length=d.length:=by rw[er,ac]
   have low:∀ A∈O::d,0<A.2.2:=λA hA=>(uD ((R.rg.mem A).mp hA)).1;have ar:∀ i,i<d.length->Rel b x y (rAt O d i) (rAt m g i):=λi hi=>by
    have e1:rAt m g i=fi b x y (rAt O d i):=by
     rw[jZ (show i<g.length by lia),jZ hi];simp only[er,BJ]
    rw[e1,jZ hi];exact(uu (low _ (.tail _ (Ap hi)))).1
   have rO:Rel b x y O m:=by rw[eO]; exact(uu (low O (.head _))).1
   have eq:=Se (b:=b) (O:=O) (O':=m) (r:=rAt O d) (r':=rAt m g) (d.length-1) λi hi=>rO.c3 (ar i (by lia)) (ar (i+1) (by lia));rw[ll] at G l;have L:d.length-1<=16:=by lia
   erw[.inr ⟨p,B,s,t,Y,T,ev,ev',e,e',f.pos,G.pos,f.low,G.low,f.wide G Bp l eq,?_,?_,?_,?_⟩]
   ·rwa[d9 (f.xle (BX Bp)) (Vi fO L λi _=>fr i)]
   ·rwa[d9 (d9 (f.yle (BX Bp)) (Vh fO L λi _=>fr i)) 'h']
   ·rwa[d9 (G.xle (BX l)) (Vi D L λi _=>C i)]
   ·rwa[d9 (d9 (G.yle (BX l)) (Vh D L λi _=>C i)) 'h']
def cutV1{ok:Hp->Prop}{G:Prop}{R:Hp->Prop}(h1:(∀ H,ok H->R H)->G)(h2:∀ H,ok H->R H):G:=h1 h2
def tI(t:SpT):List Int:=[t.2.1,t.2.2.1,t.2.2.2]
def Tg{H:Hp}{a:List SpT}(h:∀ t∈a,jE H t/\0<t.2.2.2/\l9 (l9 t.2.1.natAbs t.2.2.1.natAbs) t.2.2.2.natAbs=1):∀ u∈a.map (λt=>(t.1,tI t)),H u.1=Js (.tup (u.2.map V.int)):=λu b=>by
 obtain⟨t,c,rfl⟩:=o5.mp b;exact(h t c).1.1
def Sx{b x y:Int}{c a:List SpT}(h:a.map (·.2)=(c.map (·.2)).map (fi b x y))(pos:∀ t∈c,0<t.2.2.2):a.map tI=c.map λt=>uJ (upL (b*t.2.1+x*t.2.2.2) (b*t.2.2.1+y*t.2.2.2) t.2.2.2):=by
 have e:a.map tI=(a.map (·.2)).map λP:P3=>[P.1,P.2.1,P.2.2]:=by rw[v8]; rfl
 rw[e,h,v8,v8];erw[AA λt d=>?_];exact(uu (b:=b) (x:=x) (y:=y) (pos t d)).2.2.symm
structure Tws(H0:Hp)(D:c5)(us:List (c5×List Int))(H:Hp):Prop where
 same:Same H0 H
 new:H0 D=Jt
 at':H D=Js (.lst ((us.map (·.1)).map V.ref))
 rows:∀ t∈us,H t.1=Js (.tup (t.2.map V.int))
def Tws.app{j H b:Hp}{k:List Int}(h:Tws j D c H)(d:Same H b)(g:b p=Js (.tup (k.map V.int))):Tws j D (c++[(p,k)]) (upd b D (.lst ((c.map (·.1)).map V.ref++[.ref p]))):=by
 erw[(h.same.trans d).putNew h.new,h.new,by rw[zA]; simp,λu a=>?_];have i:=d _ _ h.at';rcases m9.mp a with a | a
 ·have e:=d _ _ (h.rows u a);rw[zH (fR e i (by intro z; cases z))];rwa[e]
 ·rw[e8] at a;subst a;show upd b D _ p=_;rw[zH (fR g i (by intro z; cases z))];rwa[g]
def RB(a:List SpT):zW a=((a.map λt=>(t.1,tI t)).map (·.1)).map V.ref:=by
 unfold zW;rw[v8,v8];rfl
def OL(a:List SpT):(a.map λt=>(t.1,tI t)).map (·.2)=a.map tI:=by rw[v8]; rfl
structure Prs(H:Hp)(l:c5)(ps:List (c5×Nat×Nat))(n:Nat):Prop where
 mk ::
 at_:H l=Js (.lst ((ps.map (·.1)).map V.ref))
 all:∀ t∈ps,H t.1=Js (.tup [.int (t.2.1:Nat),.int (t.2.2:Nat)])/\t.2.1<=n/\t.2.2<=n
structure UM(K:b8)(H:Hp)(bk p d pl:c5)(S:BS)(past:List (Deed×BS))(ps:List (c5×Nat×Nat))(n:Nat):Prop where
 mk ::
 bk:oJ bkC H bk p S past []
 lw:XG H d S
 tab:mw K H
 pr:Prs H pl ps n
def UM.same{K:b8}{H g:Hp}{bk p d c:c5}{n:Nat}(a:UM K H bk p d c S past b n)(s:Same H g):UM K g bk p d c S past b n :=
 ⟨a.bk.to (.of s),a.lw.to (.of s),a.tab.same s,s _ _ a.pr.at_,λt e=>⟨s _ _ (a.pr.all t e).1,(a.pr.all t e).2⟩⟩
def UM.sameT{K:b8}{H b:Hp}{bk p d g:c5}{n:Nat}(a:UM K H bk p d g S past c n)(s:tF K H b)(i:mw K b):UM K b bk p d g S past c n:=by
 obtain⟨_,e,_⟩:=id a.tab;rwa[a.bk.butT e s,a.lw.butT e s,i,s.lst a.tab a.pr.at_,λt h=>⟨s.tup a.tab (a.pr.all t h).1,(a.pr.all t h).2⟩]
def gX(j:Nat):(csd (pT S j)).map (·.2)=(kK S j).map p3:=by rw[bt]; rfl
def Vy{j:Nat}(gd:jC S):∀ t∈csd (pT S j),(t.2.1≠0\/t.2.2.1≠0)/\t.2.1.natAbs<=10^9/\t.2.2.1.natAbs<=10^9/\t.2.2.2.natAbs<=10^13:=λt c=>by
 obtain⟨r,d,rfl⟩:=o5.mp c;obtain⟨b,a,rfl⟩:=o5.mp d;obtain⟨g,h,a⟩:=Fm.mp a;obtain⟨e,i,rfl⟩:=o5.mp h;obtain⟨x,y,z,rfl,nz,h1,h2,h3⟩:=xw gd (gd.note e i) b a;rwa[nz,d9 h1 'a',d9 h2 'a',d9 h3 'a']
def RcO.same{H b:Hp}(h:RcO a g H t)(s:Same H b):RcO a g b t:=by
 rcases h with ⟨p,v,P,d,c,r⟩ | ⟨v,e,r⟩ | ⟨v,Z,x,y,e,r⟩
 ·rwa[.inl ⟨p,v,P,s _ _ d,s _ _ c,r⟩]
 ·rwa[.inr (.inl ⟨v,s _ _ e,r⟩)]
 ·rwa[.inr (.inr ⟨v,Z,x,y,s _ _ e,r⟩)]
def Ze{g P:P3}{x y:Int}(b:0<P.2.2)(i:inW a P)(c:∀ z:P3,0<z.2.2->inW a z->(g.1*z.1+g.2.1*z.2.1)*P.2.2<=(g.1*P.1+g.2.1*P.2.1)*z.2.2)(l:0<g.1*x+g.2.1*y)(j:vD a x y=Ju):False:=by
 have e:inW a (P.1+x*P.2.2,P.2.1+y*P.2.2,P.2.2):=λt d=>by
  have h1:=i t d;have h2:=of_decide_eq_true (Ag.mp j t d);have h3:=g8 (i3 b) (show 0<=-(t.2.1*x+t.2.2.1*y) by lia);unfold sv at h1 ⊢;dsimp only;grind
 have h:=c (P.1+x*P.2.2,P.2.1+y*P.2.2,P.2.2) b e;have h3:=i8 (i8 b b) l;dsimp only at h;grind
def Nm{X Y:Int}{H:Hp}(G:Mv 1 X Y S D)(h:RcO S g H t)(N:RcO D g H M) :
  (∃(p C:c5)(v b:V)(P a:P3),H t=Js (.tup [.str "far",.ref p,v])/\H p=Js (.tup [.int P.1,.int P.2.1,.int P.2.2])/\H M=Js (.tup [.str "far",.ref C,b])/\H C=Js (.tup [.int a.1,.int a.2.1,.int a.2.2]) /\
   (P.1.natAbs<=10^40/\P.2.1.natAbs<=10^40/\P.2.2.natAbs<=10^40)/\(a.1.natAbs<=10^40/\a.2.1.natAbs<=10^40/\a.2.2.natAbs<=10^40)/\(g.1*P.1+g.2.1*P.2.1+(g.1*X+g.2.1*Y)*P.2.2)*a.2.2=(g.1*a.1+g.2.1*a.2.1)*P.2.2) \/
  ∃(s:i9)(v b:V),s ≠ "far" /\ H t=Js (.tup [.str s,v])/\H M=Js (.tup [.str s,b]):=by
 have J:=G.place 'a';rcases h with ⟨p,v,P,e1,e2,E,L,sz,I⟩ | ⟨v,e,no⟩ | ⟨v,Z,x,y,e,j,T,hg,hw⟩
 ·rcases N with ⟨C,b,a,B,A,c,i,q,d⟩ | ⟨b,e',l⟩ | ⟨b,O,R,Q,e',m,o,u,r⟩
  ·erw[.inl ⟨p,C,v,b,P,a,e1,e2,B,A,sz,q,?_⟩];have r1:Rel 1 X Y P (P.1+X*P.2.2,P.2.1+Y*P.2.2,P.2.2):=⟨E,E,by dsimp only; grind,by dsimp only; grind⟩;have r2:Rel 1 X Y (a.1-X*a.2.2,a.2.1-Y*a.2.2,a.2.2) a:=⟨c,c,by dsimp only; grind,by dsimp only; grind⟩;have h1:=d (P.1+X*P.2.2,P.2.1+Y*P.2.2,P.2.2) E ((G.inW 'a' r1).mpr L);have h2:=I (a.1-X*a.2.2,a.2.1-Y*a.2.2,a.2.2) c ((G.inW 'a' r2).mp i);dsimp only at h1 h2;erw[Hu ?_ ?_]
   ·grind
   ·grind
  ·obtain⟨z,j,n⟩:=J.mpr ⟨P,E,L⟩;rwa[y9 n (l z j)]
  ·exact(Ze E L I u (by rw[<- G.way]; rwa[r])).elim
 ·rcases N with ⟨C,b,a,B,A,c,i,q,d⟩ | ⟨b,e',l⟩ | ⟨b,O,R,Q,e',m,o,u,r⟩
  ·obtain⟨z,j,n⟩:=J.mp ⟨a,c,i⟩;rwa[y9 n (no z j)]
  ·rwa[.inr ⟨"none",v,b,by ac_nf,e,e'⟩]
  ·obtain⟨z,j,n⟩:=J.mp ⟨O,m,o⟩;rwa[y9 n (no z j)]
 ·rcases N with ⟨C,b,a,B,A,c,i,q,d⟩ | ⟨b,e',l⟩ | ⟨b,O,R,Q,e',m,o,u,r⟩
  ·exact(Ze c i d hg (by rw[G.way]; rwa[hw])).elim
  ·obtain⟨z,j,n⟩:=J.mpr ⟨Z,j,T⟩;rwa[y9 n (l z j)]
  ·rwa[.inr ⟨"open",v,b,by ac_nf,e,e'⟩]
def st_eq{T:St->Hp->Prop}{a σ':St}{H:Hp}(e:a=σ')(h:T σ' H):T a H:=e ▸ h
def sp_law(K:b8):Sp:=λb H Q _=>E2 λ(a:c5) (ns:List Int)=>A5 (b=[.ref a]) (SqL K H a (ns.map V.int)) (ns.length<=63) (H (Yh K)=Js (.tbl #[])) (∀ c,Q (.bl Ju) c)
def Nr(F:Fun K "law" "law" bg f fd)(Z:Zs mg)(CB:Cb P w mg base)(yBe:Has P w K mg base "book_reach" 11 ["book","moment","direction"] (xu K))(yBl:Has P w K mg base "book_ways" 8 's' (uw K))(yBk:Has P w K mg base "book_area" 19 's' (ul K))(yAi:Has P w K mg base "book_corners" 17 's' (qO K))(yBt:Has P w K mg base "_law_spot_of" 2 ["_law_x","_law_y","_law_w"] (nq K))(yCw:Has P w K mg base "_law_lead" 1 ["_law_m","_law_one","_law_other"] (ko K))(yDf:Has P w K mg base "_law_way" 1 ["_law_one","_law_two","_law_wide"] (gD K))(yCh:Has P w K mg base "_law_raised" 6 ["_law_some","_law_book"] (kj K))(h_b_init:Vf P w K mg base ap 2 ["self"] (eW K))(yCo:Has P w K mg base "_law_draws" 2 ["_law_script","_law_many"] (iD K)):yI P w K mg base CX0 20 f fd ["_law_script"] (sp_law K):=by
 specialize wM
 ·obtain⟨a,ns,rfl,_⟩:=h;rfl
 obtain⟨ad,ns,rfl,hS,hl,hT,q⟩:=h;have hu:=hr.units0;have hu64:=hr.units
 refine'⟨_,(zB (zQ 1 wM.nd ?_)
   (zB (zQ 2 wM.nd (Vx CB.make h_b_init 'f' CB.gBook))
   (zB (zQ 3 wM.nd ?_)
   (zB (zQ 4 wM.nd (yK tG rfl Z.len ux (zG (zS (yD hr) (pv 3) zV 'e') zL)))
   (zB (oZ ?_ (xj rfl (yE (uG 5 wM.nd) (yE (uG 6 wM.nd) sX))))
   (zB (zQ 7 wM.nd (yR iU (wN (T:=["_law_at"]) (caps:=[]) ⟨rfl,by ac_nf,by ac_nf,rfl,Ao⟩ rfl (xB rfl Z.range (zG (pv 4) zL)) (λ_=>(uG 0 (show(["_law_at"]:List i9).Nodup by ac_nf))) (λ_=>xM) (λ_=>?_)) ?_))
   (zB (xK r9 rfl (xL (pv 7)) (xj rfl (yE (uG 8 wM.nd) (yE (uG 9 wM.nd) sX))) (zB (oZ ?_ (xj rfl (yE (uG 10 wM.nd) (yE (uG 11 wM.nd) sX))))
   (zB (Xr (T:=["_law_p","_law_q","_law_w"]) (caps:=[("_law_dx",10),("_law_dy",11)]) (i:=12) wM.nd rfl rfl ⟨rfl,by ac_nf,by ac_nf,rfl,⟨⟨rfl,rfl,BW rfl⟩,⟨rfl,rfl,BW rfl⟩,Ao⟩⟩ rfl (xL ?_) (λ_=>(xj rfl (yE (uG 0 (show(["_law_p","_law_q","_law_w","_law_dx","_law_dy"]:List i9).Nodup by ac_nf)) (yE (uG 1 (show(["_law_p","_law_q","_law_w","_law_dx","_law_dy"]:List i9).Nodup by ac_nf)) (yE (uG 2 (show(["_law_p","_law_q","_law_w","_law_dx","_law_dy"]:List i9).Nodup by ac_nf)) sX))))) (λ_=>xM) (λ_=>?_))
   (zB (yM (yS (Rx hu64) ?_ (pv 12) (tM _)) (zD (zK nI)) zU)
   (zB (yM (PW.pt (bO (yS (Rx hu64) ?_ ?_ (tM _)) (ik (yS (VI Tz (Ol hu)) ?_ ?_ (tM _))))) (zD (zK nI)) zU)
   (zB (zQ 13 wM.nd ?_)
   (zB (zQ 14 wM.nd ?_)
   (zB (yM ?_ (zD (zK nI)) zU)
   (zD (yM ?_ (zB (oZ ?_ (xj rfl (yE (uG 15 wM.nd) (yE (uG 16 wM.nd) (yE (uG 17 wM.nd) sX)))))
   (zB (oZ ?_ (xj rfl (yE (uG 18 wM.nd) (yE (uG 19 wM.nd) (yE (uG 20 wM.nd) sX)))))
   (zB (zQ 21 wM.nd (yR iS ?_ (yR xN ?_ (pv 17))))
   (zD (yM (yS Tz (yR xN (pv 21) (pv 20)) (yR xN ?_ (pv 17)) (tM _)) (zD (zK nI)) zU))))) zU))))))))))
   (zD (zK nI))))))))),?_⟩
 nofun
 erw[_,rfl,ad,ns,90,rfl,hS,hl,by decide,by decide,λrr rows H1 s1 hr0 c l1 l2 bd=>?_];have g:=s1 _ _ hT;obtain⟨v84,a84,_⟩:=wR bd (k:=84) 'a' (by lia);obtain⟨v85,a85,_⟩:=wR bd (k:=85) 'a' (by lia);clear s1 hr0 hT hS;intro bk dx hb hdx nbd;erw[bk,dx,rfl,zA,λp H2 s2 hp bk2=>⟨rfl,?_⟩];have nrb:rr≠bk:=zI c hb;have nTb:Yh K≠bk:=zI g hb;have er1':upd (upd H1 dx (.own bk)) bk (.ins bkC dx []) rr=Js (.lst 'm'):=by rw[zH nrb,zH (zI c hdx)]; rwa[c]
 have hT1':upd (upd H1 dx (.own bk)) bk (.ins bkC dx []) (Yh K)=Js (.tbl #[]):=by rw[zH nTb,zH (zI g hdx)]; rwa[g]
 have y:=s2.lst nrb er1';have B:=XI s2 nTb hT1';have nrp:rr≠p:=zI er1' hp;have nTp:Yh K≠p:=zI hT1' hp;erw[_,rfl,_,rfl,rr,bk,p,rows,rfl,y,by lia,bd,bk2,nrp,λd S past H3 s3 bk3 lwp gd l3 lp sm=>?_];have er3:=s3.lst (λz=>z.elim nrb nrp) y;have hT3:=XI s3 (λz=>z.elim nTb nTp) B;clear s2 s3 c er1' y bk2 g hT1' B;obtain⟨i6,hi6,sm⟩:=sm;have l6:=sm.len;clear sm;obtain⟨m3,b3,r3,n3,_,lw3⟩:=id lwp;obtain⟨rs,ers,rep⟩:=lw3.ru;have lrs:rs.length=S.runs.length:=by rw[rep.length,ac]
 exists _,U,d,.ref r3,U,.inl ⟨_,.inr "runs",lw3.at_,U,oK.symm⟩,r3,rs,U,.inl (SqL.of ers);rw[lrs];have lwa:=lwp.at;clear lwp lw3 ers rep lrs;generalize hN:S.runs.length=N at l3;refine⟨_,U,rr,_,_,_,U,U,.inl (SqL.of er3),a84,_,U,rr,_,_,_,U,U,.inl (SqL.of er3),a85,v84,v85,9,U,by decide,by decide,λt m l H4 s4 M et gz g1 g2=>?_⟩;exists t,_,U,SqT.of et,U,.int m,_,U,.int l,_,U,rfl;have bk4:=bk3.to (.of s4);have lw4:=lwa.to (.of s4);have hT4:=s4 _ _ hT3;clear bk3 lwa hT3 er3 s4 M et a84 a85 bd;refine⟨_,U,_,U,(by lia),(by lia),λcc D hD=>za (lo:=0) (n:=(N:Int).toNat) (λi R ys H'=>A4 (Same H4 H') (H' D=Js (.lst ys)) (∃ b:List (c5×Nat×Nat),A3 (ys=(b.map (·.1)).map V.ref) (b.length=i) (∀ t∈b,H' t.1=Js (.tup [.int (t.2.1:Nat),.int (t.2.2:Nat)])/\t.2.1<=N/\t.2.2<=N/\t.1≠D)) (∃ u:Option V,R=[u]))
  ⟨zC hD _,zA,⟨[],rfl,rfl,λt M=>(nomatch M)⟩,Jt,rfl⟩ (λi R ys H' _ hq=>hq.2) ?_ ?_⟩
 ·rintro i R ys H5 hi ⟨s5,eD,⟨b,rfl,lp',ok⟩,u,rfl⟩;rw[Ac] at hi;erw[_,rfl,_,rfl,_,_,rfl,rfl,sz2,λT hT=>?_];have sT:=zC hT (.tup [.int (0+(i:Int)),.int (0+(i:Int)+1)]);have nTD:T≠D:=λz=>by rw[z,eD] at hT; cases hT
  erw[sT _ _ eD,zM (by rw[ac,ac]; lia),(s5.trans sT).putNew hD,zA,⟨b++[(T,i,i+1)],by rw[g5,g5]; rfl,by rw[g7,lp']; rfl,λt M=>?_⟩,_,rfl];rcases m9.mp M with z | z
  ·obtain⟨k1,k2,k3,k4⟩:=ok t z;rwa[by rw[zH k4]; exact sT _ _ k1,k2,k3,k4]
  ·obtain rfl:=e8.mp z;erw[?_,by dsimp only; lia,by dsimp only; lia,nTD];rw[zH nTD,zA];dsimp only;rw[Be,Int.natCast_add];rfl
 rintro R ys H5 ⟨s5,eD,⟨b,rfl,lp',ok⟩,u,rfl⟩;rw[Ac] at lp';refine⟨_,U,sz2,λC g=>?_⟩;have sA:=zC g (.tup [.int 0,.int (N:Int)]);refine⟨_,U,sz2,λJ B=>?_⟩;have sB:=zC B (.tup [.int (N:Int),.int 0]);refine⟨sz2,λL2' hL2=>?_⟩;have sC:=zC hL2 (.lst [.ref C,.ref J]);have eC:upd (upd (upd H5 C (.tup [.int 0,.int (N:Int)])) J (.tup [.int (N:Int),.int 0])) L2' (.lst [.ref C,.ref J]) L2'=Js (.lst [.ref C,.ref J]):=zA;have e1:=sC _ _ (sB _ _ (zA (H:=H5) (a:=C) (o:=.tup [.int 0,.int (N:Int)])));have e2:=sC _ _ (zA (H:=upd H5 C (.tup [.int 0,.int (N:Int)])) (a:=J) (o:=.tup [.int (N:Int),.int 0]));have s56:=sA.trans (sB.trans sC);generalize upd (upd (upd H5 C (.tup [.int 0,.int (N:Int)])) J (.tup [.int (N:Int),.int 0])) L2' (.lst [.ref C,.ref J])=H6 at eC e1 e2 s56 ⊢;refine⟨D,L2',_,_,U,U,s56 _ _ eD,eC,AC (zM (by rw[ac,ac]; show b.length+2<=_; lia)),λpl hpl=>?_⟩;have sP:=zC hpl (.lst ((b.map (·.1)).map V.ref++[.ref C,.ref J]));have pr:Prs (upd H6 pl (.lst ((b.map (·.1)).map V.ref++[.ref C,.ref J]))) pl (b++[(C,0,N),(J,N,0)]) N:=by
  erw[by rw[zA,g5,g5]; rfl,λt M=>?_];rcases m9.mp M with z | z
  ·obtain⟨k1,k2,k3,_⟩:=ok t z;rwa[sP _ _ (s56 _ _ k1),k2,k3]
  ·rcases g9.mp z with rfl | z
   ·rwa[sP _ _ e1,Aa _,e9 _]
   ·obtain rfl:=e8.mp z;rwa[sP _ _ e2,e9 _,Aa _]
 have s4P:=s5.trans (s56.trans sP);have at0:UM K (upd H6 pl (.lst ((b.map (·.1)).map V.ref++[.ref C,.ref J]))) bk p d pl S past (b++[(C,0,N),(J,N,0)]) N:=⟨bk4.to (.of s4P),lw4.to (.of s4P),⟨#[],s4P _ _ hT4,trivial,.inl rfl⟩,pr⟩;generalize upd H6 pl (.lst ((b.map (·.1)).map V.ref++[.ref C,.ref J]))=H7 at at0 ⊢;generalize hps:b++[(C,0,N),(J,N,0)]=qs at at0;clear hps pr sP s4P s56 eC e1 e2 s5 eD ok lp' bk4 lw4 hT4 sA sB sC g B hL2 hpl hD;refine⟨_,U,pl,U,.inl ⟨⟨_,SqL.of at0.pr.at_⟩,xE (K:=K) (a:=pl) (xs:=(qs.map (·.1)).map V.ref) (λi R H'=>UM K H' bk p d pl S past qs N/\E14 λ(u8 u9 u10 u11 u12 u13 u14 u15 u16 u17 u18 u19 u20 u21:Option V)=>R=[Js (.ref ad),Js (.ref rr),Js (.ref bk),Js (.ref d),Js (.int (N:Int)),Js (.int m),Js (.int l),Js (.ref pl),u8,u9,u10,u11,u12,u13,u14,u15,u16,u17,u18,u19,u20,u21])
  ⟨at0,_,_,_,_,_,_,_,_,_,_,_,_,_,_,rfl⟩ (λi R H' _ hq=>SqL.of hq.1.pr.at_) ?_ (λR H' _=>q H')⟩⟩
 rintro i x R H8 hi ⟨a8,u8,u9,u10,u11,u12,u13,u14,u15,u16,u17,u18,u19,u20,u21,rfl⟩;rw[e7,e7,Option.map_map,x6] at hi;obtain⟨pq,hpq,ex⟩:=hi;obtain rfl:x=V.ref pq.1:=ex.symm;obtain⟨et,t1,t2⟩:=a8.pr.all pq (f6 hpq);clear ex hpq;generalize pq.2.1=r at et t1;generalize pq.2.2=j1 at et t2;exists pq.1,_,U,SqT.of et,U,.int (r:Nat),_,U,.int (j1:Nat),_,U,rfl;clear et;have few:=gd.few.ru;erw[_,rfl,_,rfl,_,rfl,d,S,r,j1,rfl,a8.lw,by lia,by lia,by lia,λtl H9 s9 htl etl=>?_];have mv0:=λ{ss ts:List Sd}=>Rf gd (i:=r) (j:=j1) (ss:=ss) (ts:=ts);obtain⟨lb1,lb2⟩:=ZK (i:=r) (j:=j1) gd.few.ru gd.way;generalize (yT S.runs r j1).1=X at etl mv0 lb1;generalize (yT S.runs r j1).2=Y at etl mv0 lb2;exists tl,_,U,SqT.of etl,U,.int X,_,U,.int Y,_,U,rfl;have a9:=a8.same s9;clear s9 htl etl a8;erw[_,rfl,_,rfl,bk,p,S,past,[],r,rfl,a9.bk,gd,by lia,by lia,λD b H10 s10 hD ca=>?_];have a10:=a9.same s10;have mvo:Mv 1 X Y (csd (pT S r)) (csd (pT S j1)):=mv0 (gX r) (gX j1);have sm1:∀ t∈csd (pT S r),t.2.1.natAbs<=10^9/\t.2.2.1.natAbs<=10^9/\t.2.2.2.natAbs<=10^13:=λt M=>(Vy gd t M).2;have mb:(b.map (·.2)).Pairwise leP:=by rw[Ai]; rwa[ca.rises]
 have fine:∀ t∈b,bu t.2:=λt M=>gH sm1 ((ca.mem t.2).mp (Ab M));have pos:∀ t∈b,0<t.2.2.2:=λt M=>(ca.ok t M).2.1;have rw2:=mi (S:=S) (j:=r);have fw:=ca.few;rw[show(csd (pT S r)).length=(pT S r).length by unfold csd; rw[ac]] at fw;refine⟨D,U,.inl ⟨⟨_,SqL.of ca.at'⟩,λcc D3 hD3=>wG (K:=K) (a:=D) (xs:=zW b) (λi R ys G=>(∃ us:List (c5×List Int),A3 (ys=(us.map (·.1)).map V.ref) (Tws H10 D3 us G) (us.map (·.2)=(b.take i).map (λt=>uJ (upL (t.2.1+X*t.2.2.2) (t.2.2.1+Y*t.2.2.2) t.2.2.2))))/\E3 λ(u0 u1 u2:Option V)=>R=[u0,u1,u2,Js (.int X),Js (.int Y)])
  ⟨⟨[],rfl,⟨zC hD3 _,hD3,zA,(λt M=>nomatch M)⟩,rfl⟩,Jt,Jt,Jt,rfl⟩ (λi R ys G _ hq=>by
   obtain⟨⟨us,e1,T,_⟩,_⟩:=hq;rwa[SqL.of (T.same _ _ ca.at'),by rw[e1]; exact T.at']) ?_ ?_⟩⟩
 ·rintro i v R ys Gc hi ⟨⟨us,rfl,T,em⟩,u0,u1,u2,rfl⟩;unfold zW at hi;rw[e7] at hi;cases gx':b[i]? with
  | none=>rw[gx'] at hi; cases hi
  | some t =>
   rw[gx'] at hi;cases hi;have mt:=f6 gx';have il:i<b.length:=(c9.mp gx').1;have lu:us.length=i:=by have z:=congrArg Br em; rw[ac,ac,o3] at z; lia
   have ft:=(fine t mt).w;have pt:=pos t mt;exists t.1,_,U,SqT.of (T.same _ _ (ca.ok t mt).1.1),U,.int t.2.1,_,U,.int t.2.2.1,_,U,.int t.2.2.2,_,U,rfl;erw[_,rfl,_,rfl,_,rfl,_,_,rfl,rfl,zv (by lia),_,_,rfl,rfl,_,rfl,_,rfl,_,rfl,_,_,rfl,rfl,zv (by lia),_,_,rfl,rfl,_,rfl,t.2.1+X*t.2.2.2,t.2.2.1+Y*t.2.2.2,t.2.2.2,rfl,by lia,d9 ft 'h',λp G2 s2 hp ep=>?_];erw[s2 _ _ T.at',zM (by simp only[ac]; lia),⟨us++[(p,uJ (upL (t.2.1+X*t.2.2.2) (t.2.2.1+Y*t.2.2.2) t.2.2.2))],by simp,T.app s2 ep,?_⟩,_,_,_,rfl];rw[g5,em,xX gx',g5];rfl
 rintro R ys H11 ⟨⟨us,rfl,T11,em⟩,u0',u1',u2',rfl⟩;rw[show(zW b).length=b.length by unfold zW; rw[ac],v9] at em;have a11:=a10.same T11.same;clear a9 a10;erw[_,rfl,_,rfl,bk,p,S,past,[],j1,rfl,a11.bk,gd,by lia,by lia,λD2 qs2 H12 s12 hD2 cb=>?_];have a12:=a11.same s12;have eqo:qs2.map (·.2)=(b.map (·.2)).map (fi 1 X Y):=mvo.list 'a' ca.nodup cb.nodup ca.mem cb.mem mb (by rw[Ai]; rwa[cb.rises]);erw[_,rfl,D2,D3,qs2.map (λt=>(t.1,tI t)),us,rfl,rfl,SqL.of (by rw[<- RB]; rwa[cb.at']),SqL.of (s12 _ _ T11.at'),Tg cb.ok,λu hu=>s12 _ _ (T11.rows u hu),?_,_,rfl,?_]
 ·rw[OL,em,Sx eqo pos];erw[AA λt _=>?_];rw[Ho,Ho]
 refine vY ?_;clear T11 s12 cb eqo em a11 hD3 hD2 ca fine pos mb s10 hD fw rw2 sm1;refine⟨_,U,_,U,bk,p,S,past,[],r,U,a12.bk,gd,by lia,by lia,λw1 us1 H13 s13 hw1 wa1=>?_⟩;have a13:=a12.same s13;refine⟨_,U,_,U,bk,p,S,past,[],j1,U,a13.bk,gd,by lia,by lia,λw2 us2 H14 s14 hw2 wa2=>?_⟩;have a14:=a13.same s14;exists w1,w2,us1,us2,U,U,SqL.of (s14 _ _ wa1.at'),SqL.of wa2.at',λu hu=>s14 _ _ (wa1.all u hu),wa2.all,wa1.eq wa2 (λk=>(mvo.wk k).symm),_,rfl;refine vY ?_;clear a12 a13 s13 s14 hw1 hw2 wa1 wa2 mvo;refine⟨_,U,_,U,bk,p,S,past,[],r,U,a14.bk,gd,by lia,by lia,a14.tab,λv ss H15 sT15 L c sm1 out=>?_⟩;have a15:=a14.sameT sT15 L;refine⟨_,U,_,U,bk,p,S,past,[],j1,U,a15.bk,gd,by lia,by lia,a15.tab,λv' ss' H16 sT16 tab16 y sm2 out'=>?_⟩;have O:=a15.sameT sT16 tab16;have out16:=out.keep λp xs e=>sT16.tup L e;have ls:ss.length<=18:=by
  have:=congrArg Br c;rw[ac,<- gX,ac] at this;have:=mi (S:=S) (j:=r);rw[show(csd (pT S r)).length=(pT S r).length by unfold csd; rw[ac]] at *;lia
 clear out a14 a15 sT15 sT16 L tab16;apply cutV1 (ok:=λG=>UM K G bk p d pl S past qs N)
 ·intro main;rcases Vt (by decide) (mv0 c y) out16 out' ls sm1 sm2 with ⟨ev,ev'⟩ | ⟨p1,p2,s0,t0,s0',t0',tw⟩
  ·erw[.inl ⟨by rw[ev,ev']; rfl,?_⟩];rw[y7 (ev.trans ev'.symm)];exists _,rfl;erw[vY ?_];rwa[main H16 O]
  ·have two:=tw.eq;rw[Ck,Ck] at two;obtain⟨e1,e2⟩:=VF two tw.pos tw.pos' tw.low tw.low';erw[.inr ⟨p1,p2,[s0,t0],[s0',t0'],tw.ev,tw.ev',SqT.of tw.e,SqT.of tw.e',?_⟩];rw[y7 (show [s0,t0]=[s0',t0'] by rw[e1,e2])];exists _,rfl;erw[vY ?_];rwa[main H16 O]
 clear out16 out' c y sm1 sm2 O ls;intro G O;erw[_,rfl,_,rfl,_,rfl,_,rfl,sz2,λC g=>?_];have sA:=zC g (.tup [.int m,.int l]);erw[bk,p,C,S,past,[],r,(m,l,0),rfl,(O.same sA).bk,gd,by lia,.inr (SqT.of zA),gz,by dsimp only; lia,by dsimp only; lia,λth ss H17 s17 c rc=>?_];have a17:=O.same (sA.trans s17);erw[_,rfl,_,rfl,_,rfl,_,rfl,sz2,λJ B=>?_];have sB:=zC B (.tup [.int m,.int l]);erw[bk,p,J,S,past,[],j1,(m,l,0),rfl,(a17.same sB).bk,gd,by lia,.inr (SqT.of zA),gz,by dsimp only; lia,by dsimp only; lia,λtt ss' H18 s18 y rc'=>?_];have a18:=a17.same (sB.trans s18);have rc18:=rc.same (sB.trans s18);have mv:=mv0 c y;clear rc s18 sB B s17 sA g O a17 mv0 c y;rcases Nm mv rc18 rc' with ⟨ph,pt,vh,vt,I,P2,eh,eph,et,ept,⟨m1,m2,m3⟩,⟨n1,n2,n3⟩,eq⟩ | ⟨wd,vh,vt,nf,eh,et⟩
 rotate_left
 ·exists _,U,th,_,0,.str wd,U,U,.inr (SqT.of eh),U,_,U,tt,_,0,.str wd,U,U,.inr (SqT.of et),U,U,_,rfl;rw[y7 rfl];erw[vY ?_];exists _,U,th,_,0,.str wd,U,U,.inr (SqT.of eh),U,U,_,rfl;erw[ifSf nf ?_];rwa[a18,_,_,_,_,_,_,_,_,_,_,_,_,_,_,rfl]
 exists _,U,th,_,0,.str "far",U,U,.inr (SqT.of eh),U,_,U,tt,_,0,.str "far",U,U,.inr (SqT.of et),U,U,_,rfl;rw[y7 rfl];erw[vY ?_];exists _,U,th,_,0,.str "far",U,U,.inr (SqT.of eh),U,U,_,rfl;erw[ifSt ?_];clear mv rc18 rc';exists _,U,th,_,1,.ref ph,U,U,.inr (SqT.of eh),U,ph,_,U,SqT.of eph,U,.int I.1,_,U,.int I.2.1,_,U,.int I.2.2,_,U,rfl;exists _,U,tt,_,1,.ref pt,U,U,.inr (SqT.of et),U,pt,_,U,SqT.of ept,U,.int P2.1,_,U,.int P2.2.1,_,U,.int P2.2.2,_,U,rfl;erw[st_eq (σ':=[Js (.ref ad),Js (.ref rr),Js (.ref bk),Js (.ref d),Js (.int (N:Int)),Js (.int m),Js (.int l),Js (.ref pl),Js (.int (r:Nat)),Js (.int (j1:Nat)),Js (.int X),Js (.int Y),Js (.ref D3),Js (.ref th),Js (.ref tt),Js (.int I.1),Js (.int I.2.1),Js (.int I.2.2),Js (.int P2.1),Js (.int P2.2.1),Js (.int P2.2.2),u21]) rfl ?_];have b9:m.natAbs<=9:=g1;have b9':l.natAbs<=9:=g2;have z1:=zE m I.1 b9 m1;have z2:=zE l I.2.1 b9' m2;have z3:=zE m P2.1 b9 n1;have z4:=zE l P2.2.1 b9' n2;have z5:=zE m X b9 lb1;have z6:=zE l Y b9' lb2;have z7:(m*X+l*Y).natAbs<=10^10:=d9 (BB _ _) (d9 (Cc z5 z6) 'h');have z8:=zE (m*X+l*Y) I.2.2 z7 m3;have z9:(m*I.1+l*I.2.1+(m*X+l*Y)*I.2.2).natAbs<=10^60:=d9 (BB _ _) (d9 (Cc (d9 (BB _ _) (Cc z1 z2)) z8) 'h');have z10:(m*P2.1+l*P2.2.1).natAbs<=10^60:=d9 (BB _ _) (d9 (Cc z3 z4) 'h');have c0:kB (m*X+l*Y) I.2.2:=cBf z7 m3 'h' 'h';have c1:kB (m*I.1+l*I.2.1+(m*X+l*Y)*I.2.2) P2.2.2:=cBf z9 n3 'h' 'h';have c2:kB (m*P2.1+l*P2.2.1) I.2.2:=cBf z10 m3 'h' 'h';have bX:m.natAbs<=10^18:=d9 b9 'a';have bY:l.natAbs<=10^18:=d9 b9' 'a';clear z1 z2 z3 z4 z5 z6 z7 z8 z9 z10 m1 m2 m3 n1 n2 n3;exists _,U,_,U,_,_,U,U,zv bX,_,U,_,U,_,_,U,U,zv bY,_,_,U,U,_,U,_,U,_,_,U,U,zv bX,_,U,_,U,_,_,U,U,zv bY,_,_,U,U,_,U,_,_,U,U,c0,_,_,U,rfl;exists _,U,_,U,_,_,U,U,c1,_,U,_,U,_,_,U,U,zv bX,_,U,_,U,_,_,U,U,zv bY,_,_,U,U,_,U,_,_,U,U,c2,U,_,rfl;erw[NK (λz=>y9 eq z) (λ_=>?_)];rwa[a18,_,_,_,_,_,_,_,_,_,_,_,_,_,_,rfl]
end
def RO{K:b8}(h:Bg K (.ref C) f=Js Jt):ui K C f:=h
def cm(P:B4):Cls (KK P) bkC:=⟨by symm,by symm,by symm,by symm⟩
set_option maxHeartbeats 0 in
def cb_mk{w:w9}{mg:i9->Option c7}(X:AS (KK w.params) base)(G:base.Ns mainGlobals mg):Cb P w mg base :=
 ⟨⟨_,X,cm _,RO (by symm)⟩,
   ⟨_,X,cm _,RO (by symm)⟩,
   ⟨_,X,cm _,RO (by symm)⟩,
   ⟨_,X,cm _,⟨(by symm),(by symm),(by symm)⟩⟩,
   ⟨_,X,cm _,⟨(by symm),(by symm),(by symm)⟩⟩,
   ⟨_,X,cm _,⟨(by symm),(by symm),(by symm)⟩⟩,
   ⟨_,X,cm _,⟨(by symm),(by symm),(by symm)⟩⟩,
   ⟨_,X,cm _,⟨(by symm),(by symm),(by symm)⟩⟩,
   ⟨_,X,⟨(by symm),(by symm),(by symm),(by symm)⟩⟩,
   (AO X G (by symm)),
   (VS (ep:=4) (l:=[("marks",878,.int 20,.int 20 879),("banks",880,.int 8,.int 8 881),("runs",882,.int 12,.int 12 883),("notes",884,.int 24,.int 24 885)]) (X _ _ (by symm)) (λe a=>by simp only[g9,CD,or_false] at a; rcases a with rfl | rfl | rfl | rfl <;> rwa[_,rfl]) 'h'),
   (AO X G (by symm)),
   (VS (ep:=10) (l:=[("mark",1103,.ref 621,.ref 621),("move",1104,.ref 628,.ref 628),("unmark",1105,.ref 635,.ref 635),("bank",1106,.ref 642,.ref 642),("level",1107,.ref 649,.ref 649),("sail",1108,.ref 656,.ref 656),("right",1109,.ref 663,.ref 663),("bearing",1110,.ref 677,.ref 677),("range",1111,.ref 684,.ref 684),("strike",1112,.ref 691,.ref 691)]) (X _ _ (by symm)) (λe a=>by simp only[g9,CD,or_false] at a; rcases a with rfl | rfl | rfl | rfl | rfl | rfl | rfl | rfl | rfl | rfl <;> rwa[rfl]) 'h'),
   (AO X G (by symm)),
   ⟨891,(AO X G (by symm))⟩,
   ⟨893,(AO X G (by symm))⟩,
   ⟨895,(AO X G (by symm))⟩,
   (AO X G (by symm)),
   (AO X G (by symm)),
   (AO X G (by symm)),
   (AO X G (by symm)),
   (Uq X (AO X G (by symm)) (by symm))⟩
def us0{R:List c7->Prop}(h:R []):∀ a:List c7,a.length=0->R a
 | [],_=>h
 | _::_,e=>nomatch e
def usS{R:List c7->Prop}{n:Nat}(h:∀ a (b:List c7),b.length=n->R (a::b)):∀ b:List c7,b.length=n+1->R b
 | [],e=>nomatch e
 | a::l,e=>h a l (Nat.succ.inj e)
def us1{R:List c7->Prop}(h:∀ a,R [a]):∀ b:List c7,b.length=1->R b:=usS λa=>us0 (R:=λl=>R (a::l)) (h a)
def us2{R:List c7->Prop}(h:∀ a b,R [a,b]):∀ c:List c7,c.length=2->R c:=usS λa=>us1 (R:=λl=>R (a::l)) (h a)
def us3{R:List c7->Prop}(h:∀ a b c,R [a,b,c]):∀ d:List c7,d.length=3->R d:=usS λa=>us2 (R:=λl=>R (a::l)) (h a)
def us4{R:List c7->Prop}(h:∀ a b c d,R [a,b,c,d]):∀ e:List c7,e.length=4->R e:=usS λa=>us3 (R:=λl=>R (a::l)) (h a)
def us5{R:List c7->Prop}(h:∀ a b c d e,R [a,b,c,d,e]):∀ f:List c7,f.length=5->R f:=usS λa=>us4 (R:=λl=>R (a::l)) (h a)
def us6{R:List c7->Prop}(h:∀ a b c d e f,R [a,b,c,d,e,f]):∀ g:List c7,g.length=6->R g:=usS λa=>us5 (R:=λl=>R (a::l)) (h a)
abbrev AtK(i:B4)(x:i9)(s:Af)(f:c5)(e:c7)(d:Option c5)(b:Array (Option c7))(kV g c:c7)(h:Option c5)(a ct:c7):Prop :=
 Bv (KK i) mainGlobals x=Js (Js (.ref f))/\Al f KC=Js ⟨e,d,.func (AI x x (wD s) (xJ s) (zF s) .none kV g c h a ct),b⟩/\C4 KC a x=Ju/\AT KC (.ref f)=Ju
section
variable{Pm:B4}{x:i9}{s:Af}{f:c5}{oc kV dc pm cd ct:c7}{od an:Option c5}{sl:Array (Option c7)}{h:Ae}{mg:i9->Option c7}
def Yg(q:AtK Pm x s f oc od sl kV dc pm an cd ct):Fun K x x s f (AI x x (wD s) (xJ s) (zF s) .none kV dc pm an cd ct):=Sj (st:=s) (by rw[SH]; rwa[q.2.1]) (by rw[SH]; rwa[q.2.2.1]) (by rw[SH]; rwa[q.2.2.2])
abbrev AtE(Pm:B4)(x:i9)(s:Af):Prop:=∃(f:c5)(oc:c7)(od:Option c5)(sl:Array (Option c7))(kV dc pm:c7)(an:Option c5)(cd ct:c7),AtK Pm x s f oc od sl kV dc pm an cd ct
def at_mk(q:AtK Pm x s f oc od sl kV dc pm an cd ct):AtE Pm x s:=⟨_,_,_,_,_,_,_,_,_,_,q⟩
def Vp(P:o7)(w:w9)(base:Ae)(X:AS (KK Pm) h)(G:h.Ns mainGlobals mg)(q:AtE Pm x s){n:Nat}{g:Sp}(o:∀ {f:c5} {fd:AW},Fun K x x s f fd->oN K fd a []->AT K (.ref f)=Ju->mg x=Js (.ref f)->yI P w K mg base CX0 n f fd a g)
  (b:∀(kV d pm:c7)(an:Option c5)(e ct:c7)(c:List c7),c.length=a.length->bindArgs (AI x x (wD s) (xJ s) (zF s) .none kV d pm an e ct) ⟨c,[]⟩=pure (a.zip c)):Has P w K mg base x n a g:=by
 obtain⟨f,oc,od,sl,kV,dc,pm,an,cd,ct,q⟩:=q;have F:=Yg q;rwa[_,_,o F (F.binds b) F.kp (AO X G q.1),F.binds b,F.kp,AO X G q.1]
def PD(P:o7)(w:w9)(base:Ae)(X:AS (KK Pm) h)(G:h.Ns mainGlobals mg){x:i9}{s:Af}(q:AtE Pm x s){a:List i9}{n:Nat}{g:Sp}(o:∀ {f:c5} {fd:AW},Fun K x x s f fd->yI P w K mg base CX0 n f fd a g)
  (b:∀(kV d pm:c7)(an:Option c5)(e ct:c7)(c:List c7),c.length=a.length->bindArgs (AI x x (wD s) (xJ s) (zF s) .none kV d pm an e ct) ⟨c,[]⟩=pure (a.zip c):=by first | exact λ_ _ _ _ _ _=>us0 rfl | exact λ_ _ _ _ _ _=>us1 λ_=>rfl | exact λ_ _ _ _ _ _=>us2 λ_ _=>rfl | exact λ_ _ _ _ _ _=>us3 λ_ _ _=>rfl | exact λ_ _ _ _ _ _=>us4 λ_ _ _ _=>rfl | exact λ_ _ _ _ _ _=>us6 λ_ _ _ _ _ _=>rfl):Has P w K mg base x n a g:=Vp P w base X G q (λF _ _ _=>o F) b
abbrev AtM(x q:i9)(s:Af)(f:c5):Prop:=∃(oc:c7)(od:Option c5)(sl:Array (Option c7))(kV dc pm:c7)(an:Option c5)(cd ct:c7),Al f KC=Js ⟨oc,od,.func (AI x q (wD s) (xJ s) (zF s) .none kV dc pm an cd ct),sl⟩/\C4 KC cd q=Ju/\AT KC (.ref f)=Ju
def atm_mk(h:Al f KC=Js ⟨oc,od,.func (AI x q (wD s) (xJ s) (zF s) .none kV dc pm an cd ct),sl⟩/\C4 KC cd q=Ju/\AT KC (.ref f)=Ju):AtM x q s f:=⟨_,_,_,_,_,_,_,_,_,h⟩
def Ql(P:o7)(w:w9)(base:Ae)(X:AS (KK Pm) h)(G:h.Ns mainGlobals mg){x:i9}{s:Af}(q:AtE Pm x s){a:List i9}{n:Nat}{g:Sp}(o:∀ {f:c5} {fd:AW},Fun K x x s f fd->yI P w K mg base (CX1 P w) n f fd a g)
  (b:∀(kV d pm:c7)(an:Option c5)(e ct:c7)(c:List c7),c.length=a.length->bindArgs (AI x x (wD s) (xJ s) (zF s) .none kV d pm an e ct) ⟨c,[]⟩=pure (a.zip c):=by first | exact λ_ _ _ _ _ _=>us0 rfl | exact λ_ _ _ _ _ _=>us1 λ_=>rfl | exact λ_ _ _ _ _ _=>us2 λ_ _=>rfl | exact λ_ _ _ _ _ _=>us3 λ_ _ _=>rfl | exact λ_ _ _ _ _ _=>us4 λ_ _ _ _=>rfl | exact λ_ _ _ _ _ _=>us6 λ_ _ _ _ _ _=>rfl):Ye P w K mg base x n a g:=by
 obtain⟨f,oc,od,sl,kV,dc,pm,an,cd,ct,q⟩:=q;have F:=Yg q;rwa[_,_,o F,F.binds b,F.kp,AO X G q.1]
def ox(P:o7)(w:w9)(mg:i9->Option c7)(base:Ae)(a:AtM x q s f){n:Nat}{i:Sp}(o:∀ {fd:AW},Fun K x q s f fd->yI P w K mg base CX0 n f fd c i)
  (b:∀(kV e pm:c7)(an:Option c5)(g ct:c7)(d:List c7),d.length=c.length->bindArgs (AI x q (wD s) (xJ s) (zF s) .none kV e pm an g ct) ⟨d,[]⟩=pure (c.zip d)):Vf P w K mg base f n c i:=by
 obtain⟨oc,od,sl,kV,dc,pm,an,cd,ct,a1,a2,j⟩:=a;rwa[_,o (Sj (st:=s) (by rw[SH]; exact a1) (by rw[SH]; exact a2) (by rw[SH]; exact j)),b _ _ _ _ _ _]
def K_in{Pm:B4}{h:Ae}(X:AS (KK Pm) h):AS K h:=by
 rw[SH];rwa[TY (F:=KF Pm) (by symm) X]
end
def OV{kV d b a ct:c7}(t:a=.ref c):(AI x x (wD s) (xJ s) (zF s) .none kV d b e a ct).code=.ref c:=by subst t; rfl
def all_mk{l:FJ}{w:w9}{mg:i9->Option c7}(X:AS (KK w.params) h)(G:h.Ns mainGlobals mg)(hfa:mg "law" = Js (.ref fa))
  
  
  
  
  (q1:AtE w.params "common_factor" wI)
  (q2:AtE w.params "lowest" vm)
  (q3:AtE w.params "upright" zo)
  (q4:AtE w.params "part" mE)
  (q5:AtE w.params "plus" nX)
  (q6:AtE w.params "spot" mq)
  (q7:AtE w.params "ahead" qj)
  (q8:AtE w.params "merged" vn)
  (q9:AtE w.params "in_order" tN)
  (q10:AtE w.params "turn" rj)
  (q11:AtE w.params "along" rn)
  (q12:AtE w.params "plain" qp)
  (q13:AtE w.params "plain_side" vN)
  (q14:AtE w.params "beyond" vo)
  (q15:AtE w.params "holds" qg)
  (q16:AtE w.params "crossing" rQ)
  (q17:AtE w.params "pushed" vy)
  (q18:AtE w.params "bearing_sides" wJ)
  (q19:AtE w.params "range_side" vQ)
  (q20:AtE w.params "in_water" qA)
  (q21:AtE w.params "foot" mm)
  (q22:AtE w.params "edge_end" rT)
  (q23:AtE w.params "edge_ends" tW)
  (q24:AtE w.params "spot_on_edge" wS)
  (q25:AtE w.params "sought" va)
  (q26:AtE w.params "some_spot" tT)
  (q27:AtE w.params "corners" yx)
  (q28:AtE w.params "way_to" vv)
  (E:AtK w.params "ring" pR f29 oc29 od29 sl29 kV29 dc29 pm29 an29 N ct29)
  (q30:AtE w.params "is_way" vg)
  (q31:AtE w.params "ways" mn)
  (q32:AtE w.params "has_no_way" vT)
  (q33:AtE w.params "triangle" rW)
  (q34:AtE w.params "area" mh)
  (q35:AtE w.params "span" mf)
  (q36:AtE w.params "weighed" zp)
  (q37:AtE w.params "clash_of_three" xT)
  (q38:AtE w.params "clash" pP)
  (q39:AtE w.params "way_onward" vM)
  (q40:AtE w.params "far_by_one" vO)
  (q41:AtE w.params "weights_of_two" xU)
  (q42:AtE w.params "far_by_two" vW)
  (q43:AtE w.params "reach" pJ)
  (q44:AtE w.params "nothing_yet" uR)
  (q45:AtE w.params "changed" ze)
  (q46:AtE w.params "within" we)
  (q47:AtE w.params "check_name" vZ)
  (q48:AtE w.params "check_free" vU)
  (q49:AtE w.params "check_place" uK)
  (q50:AtE w.params "check_run" sQ)
  (q51:AtE w.params "check_room" vR)
  (q52:AtE w.params "check_mark" vX)
  (q53:AtE w.params "check_moment" wU)
  (q54:AtE w.params "check_way" tX)
  (q55:AtE w.params "check_apart" uY)
  (q56:AtE w.params "after_mark" vL)
  (q57:AtE w.params "after_sail" vV)
  (q58:AtE w.params "after_note" vK)
  (q59:AtE w.params "after_bearing" wE)
  (q60:AtE w.params "after_range" uN)
  (q61:AtE w.params "after" qe)
  (q62:AtE w.params "way_between" uZ)
  (q63:AtE w.params "mark_places" uT)
  (q64:AtE w.params "sides_of" qB)
  (q65:AtE w.params "note_groups" uU)
  (q66:AtE w.params "note_sides" vJ)
  (q67:AtE w.params "book_corners" wX)
  (q68:AtE w.params "book_area" sS)
  (q69:AtE w.params "book_ways" sO)
  (q70:AtE w.params "book_reach" vS)
  (q71:AtE w.params "_law_power" pH)
  (q72:AtE w.params "_law_draws" qu)
  (q73:AtE w.params "_law_new" fe)
  (q74:AtE w.params "_law_lead" nY)
  (q75:AtE w.params "_law_way" fF)
  (q76:AtE w.params "_law_turned" vq)
  (q77:AtE w.params "_law_left_pair" sI)
  (q78:AtE w.params "_law_true_bearing" wT)
  (q79:AtE w.params "_law_some_deeds" vP)
  (q80:AtE w.params "_law_names" ql)
  (q81:AtE w.params "_law_after" pD)
  (q82:AtE w.params "_law_raised" vj)
  (q83:AtE w.params "_law_low" gR)
  (q84:AtE w.params "_law_spot_of" zf)
  (q85:AtK w.params "law" bg f85 oc85 od85 sl85 I J H O M L)
  (q86:AtM "__init__" "Book.__init__" mD ap)
  (q87:AtM "deed" "Book.deed" mz aj)
  (q88:AtM "marks" "Book.marks" pW fE)
  (q89:AtM "runs" "Book.runs" mj fQ)
  (q90:AtM "notes" "Book.notes" rh fK)
  (q91:AtM "coming" "Book.coming" vf jj)
  (z_abs:Bv (KK w.params) mainGlobals "abs" = Js Jt)
  (Y:Bv (KK w.params) mainGlobals "all" = Js Jt)
  (y:Bv (KK w.params) mainGlobals "dict" = Js Jt)
  (T:Bv (KK w.params) mainGlobals "int" = Js Jt)
  (S:Bv (KK w.params) mainGlobals "len" = Js Jt)
  (x:Bv (KK w.params) mainGlobals "list" = Js Jt)
  (R:Bv (KK w.params) mainGlobals "max" = Js Jt)
  (Q:Bv (KK w.params) mainGlobals "min" = Js Jt)
  (r:Bv (KK w.params) mainGlobals "range" = Js Jt)
  (n:Bv (KK w.params) mainGlobals "sorted" = Js Jt)
  (P:Bv (KK w.params) mainGlobals "sum" = Js Jt)
  (q:Bv (KK w.params) mainGlobals "tuple" = Js Jt)
  (tt:N=.ref bn) :
  ∃ fd:AW,(∀(s:d7)(v:c7),Fp s fd ⟨[v],[]⟩ [("_law_script",v)])/\∀ base:Ae,AS (KK w.params) base->base.Ns mainGlobals mg->aM base mg bn Yo->yI l.prog w K mg base CX0 20 fa fd ["_law_script"] (sp_law K):=by
 have e:=hfa.symm.trans (AO X G q85.1);cases e;have Z:Zs mg:=⟨AB X G z_abs,AB X G Y,AB X G y,AB X G T,AB X G S,AB X G x,AB X G R,AB X G Q,AB X G r,AB X G n,AB X G P,AB X G q⟩;erw[AI "law" "law" (wD bg) (xJ bg) (zF bg) .none I J H O M L,λs v=>.of_eq rfl,λbase KB GB NB=>?_];have a:Cb l.prog w mg base:=cb_mk KB GB;have c:=@PD w.params h mg l.prog w base X G;have DX:=@Ql w.params h mg l.prog w base X G;have yAd:=c q1 λF=>pQ F Z ;have B:=c q2 λF=>af F Z a yAd;have yBu:=c q3 λF=>cM F Z a B;have u:=c q4 λF=>WT F Z a yBu;have yCy:=c q5 λF=>Wm F Z a u;have yCu:=c q6 λF=>We F Z a yBu;have yCp:=c q7 λF=>ZX F Z a ;have yCa:=c q8 λF=>aC F Z a yCp;have yBr:=Vp l.prog w base X G q9 (λF b k m=>gO F Z a yCa b k m) (λ_ _ _ _ _ _=>us1 λ_=>rfl);have yCe:=c q10 λF=>aO F Z a ;have d:=c q10 λF=>Vq F Z a ;have z:=c q11 λF=>Yx F Z a ;have yCn:=c q12 λF=>Xu F Z a B;have yAt:=c q13 λF=>ke F Z a B;have yBy:=c q14 λF=>aF F Z a ;have A:=c q15 λF=>Ys F Z a yBy;have yBn:=c q16 λF=>fg F Z a yBu d;have yBz:=c q17 λF=>aQ F Z a ;have yAe:=c q18 λF=>rq F Z a yAt d;have yBc:=c q19 λF=>lS F Z a yAt d;have yBo:=c q20 λF=>gB F Z a A;have yDd:=c q21 λF=>VZ F Z a yCu z;have yBs:=c q22 λF=>gY F Z a d A yBn;have yBm:=c q23 λF=>jL F Z a yBn yBs;have yAg:=c q24 λF=>ow F Z a yBm yDd yBo;have yCf:=c q25 λF=>ae F Z a A yAg yCu;have yBi:=c q26 λF=>jK F Z a yCf;have yBv:=c q27 λF=>dL F Z a yBr yBm yBo;have yCc:=c q28 λF=>bD F Z a ;have yDb:Has l.prog w K mg base "ring" 17 ["sides"] (jv K):=⟨_,_,Wo (Yg E) Z a yBv d yCc yCe (OV tt) NB,(Yg E).binds (λ_ _ _ _ _ _=>us1 λ_=>rfl),(Yg E).kp,AO X G E.1⟩;have yCg:=c q30 λF=>bH F Z a z;have yCz:=c q31 λF=>XW F Z a yCg yCn;have yBf:=c q32 λF=>lW F Z a yCz;have yBp:=c q33 λF=>fG F Z a u d yCc yCe;have yCx:=c q34 λF=>Xl F Z a yCy yBp u yDb yBf yBi;have yDa:=c q35 λF=>VQ F Z a ;have yBx:=c q36 λF=>cf F Z a B
 have yAb:=c q37 λF=>tz F Z a yBx d yBs;have yCm:=c q38 λF=>Yu F Z a yAb d A yDd yBx yDa yCf;have yAx:=c q39 λF=>lh F Z a yCz yCn z yCg;have yAw:=c q40 λF=>lE F Z a d z u yDa yAg;have yAa:=c q41 λF=>su F Z a u d;have yAz:=c q42 λF=>jl F Z a d yBo yAa yBn yBs;have yCl:=c q43 λF=>Ym F Z a yAw yAz yAx yCm;have yAl:=c q44 λF=>nO F Z a ;have yBw:=c q45 λF=>dX F Z a ;have yCi:=c q46 λF=>aI F Z a ;have yAr:=c q47 λF=>kD F Z a ;have yBd:=c q48 λF=>kE F Z a ;have yAp:=c q49 λF=>nV F Z a yCi;have yBj:=c q50 λF=>jV F Z a yCi;have yBa:=c q51 λF=>jo F Z a ;have yAs:=c q52 λF=>mK F Z a ;have D:=DX q53 λF=>ot F Z a ;have yBg:=c q54 λF=>jF F Z a yCi;have yAm:=c q55 λF=>nQ F Z a ;have yAu:=c q56 λF=>lX F Z a yBw yBa yAp yBd yAr;have yAq:=c q57 λF=>kL F Z a yBw yBa yBj;have yAy:=c q58 λF=>jp F Z a yBw yBa;have yAc:=c q59 λF=>qx F Z a yAy d yBg yAs D;have yAo:=c q60 λF=>nJ F Z a yAy yAm yAs D;have yCt:=c q61 λF=>Xw F Z a yAu yAq yAc yAo;have yBq:=c q64 λF=>fT F Z a yBc yAe;have yCq:=c q71 λF=>YS F Z ;have yCo:=c q72 λF=>Yq F Z a yCq;have yDe:=c q73 λF=>TU F Z a ;have yCw:=c q74 λF=>Uz F Z a ;have yDf:=c q75 λF=>UZ F Z a ;have yCb:=c q76 λF=>bf F Z a ;have yBh:=c q77 λF=>jU F Z a yCb yDf;have yAf:=c q78 λF=>pZ F Z a yBh yCw;have yAv:=c q79 λF=>lI F Z a yAf yDe;have yCr:=c q80 λF=>Xz F Z a ;have yCs:=c q81 λF=>Xy F Z a ;have yDg:=c q83 λF=>UN F Z ;have yBt:=c q84 λF=>dW F Z a yDg;have o:=ox l.prog w mg base q86 (λF=>VJ F Z a yAl) (λ_ _ _ _ _ _=>us1 λ_=>rfl);have j:=ox l.prog w mg base q88 (λF=>Xs F Z a ) (λ_ _ _ _ _ _=>us1 λ_=>rfl);have yAj:=c q63 λF=>nR F Z a j;have f:=ox l.prog w mg base q89 (λF=>XB F Z a ) (λ_ _ _ _ _ _=>us1 λ_=>rfl);have yAk:=DX q62 λF=>nS F Z a D f;have i:=ox l.prog w mg base q90 (λF=>Yb F Z a ) (λ_ _ _ _ _ _=>us1 λ_=>rfl)
 have yAn:=DX q65 λF=>nF F Z a i yBq yBz yAk yAj D f;have C:=DX q66 λF=>jm F Z a yAn;have yAi:=c q67 λF=>oI F Z a yBv C;have yBk:=c q68 λF=>jG F Z a yCx C;have yBl:=c q69 λF=>jT F Z a yCz C;have yBe:=c q70 λF=>jg F Z a yCl C;have g:=ox l.prog w mg base q91 (λF=>bo F Z a ) (λ_ _ _ _ _ _=>us1 λ_=>rfl);have p:=ox l.prog w mg base q87 (λF=>Vz F Z a g yCt) (λ_ _ _ _ _ _=>us2 λ_ _=>rfl);have yCh:=c q82 λF=>aq F Z a yAv yCr yCs p yDe;rwa[Nr (Yg q85) Z a yBe yBl yBk yAi yBt yCw yDf yCh o yCo]
def walk{l:FJ}{G:(i9->Option c7)->Ae->Prop}{r:w9->Ae->Prop}{d:DefRec}(A:l.most=Js 63)(i:d.params.defaults=[])
  (C:∀(w:w9)(h:Ae),r w h->AS (KK w.params) h) (g:((Jg q).find? (λe:DefRec=>e.name ==("ring" : i9))).isSome=Ju) (z:∀ p:B4,PySem.W.tabIn (KK p) "ring" = Js (bn,Yo)) (j:∀ p:B4,Al Yo (KK p)=Jt)
  (F:∀(w:w9)(mg:i9->Option c7)(m:c5)(h:Ae),AS (KK w.params) h->h.Ns mainGlobals mg->mg d.name=Js (.ref m) ->
   ∃ fd:AW,(∀(s:d7)(u:c7),Fp s fd ⟨[u],[]⟩ [("_law_script",u)])/\∀ base:Ae,AS (KK w.params) base->base.Ns mainGlobals mg->aM base mg bn Yo->yI l.prog w K mg base CX0 20 m fd ["_law_script"] (sp_law K)) :
  Ix q b G r l.row.toRowW d [] (λf v=>HH f v) :=
 L2.walk_ofT3 (n:=63) (k:=20) (x := "_law_script") (y := "ring") (KK:=KK) (K:=K) (sp:=sp_law K) A 'a' i ⟨rfl,by decide,by decide,rfl⟩ C (λ_ _ X=>K_in X) (λp a o h c=>by rw[SH]; rwa[WO (F:=KF p) (by symm) h c]) g z j F (λH a ns B D E=>⟨a,ns,rfl,E,B,D,λ_=>rfl⟩)

end Sea
open PySem PySem.W PyProof.Rows
set_option maxRecDepth 100000 in
set_option maxHeartbeats 0 in
theorem PySem.Challenge.cw_seamarks_k41_whole_moments_agree_holds : PySem.Challenge.rw_seamarks_k41_whole_moments_agree.Holds := by
 w_on
 refine holds_law Sea.said_ok λsaid=>?_;refine holds_open (q:=Sea.qv) (loose:=Sea.lse) (XP:=XL Sea.qv []) (YP:=InK Sea.KK) Sea.left_ok (InK.of Sea.kas_ok)
  InK.keeps (λs e=>xl_of s (F8.mp e).1) XL.keeps (by rfl) (by rfl) (by rfl)
  (λs e=>recFacts_of (F8.mp e).2) (by rfl) (by assumption) (by ac_nf)
  ⟨rfl,rfl,rfl,rfl,rfl,by ac_nf⟩ ?hw ?hc
 case hw=>w_witness2
 k_fill
 erw[Sea.walk (l:=PySem.Challenge.rw_seamarks_k41_whole_moments_agree) rfl rfl (λw h Y=>Y) (by symm) (λ_=>by symm) (λ_=>by symm) ?F]
 case F =>
  intro w mg fa h KX G hmg
  refine' Sea.all_mk KX G hmg ?q1 ?q2 ?q3 ?q4 ?q5 ?q6 ?q7 ?q8 ?q9 ?q10 ?q11 ?q12 ?q13 ?q14 ?q15 ?q16 ?q17 ?q18 ?q19 ?q20 ?q21 ?q22 ?q23 ?q24 ?q25 ?q26 ?q27 ?q28 ?q29 ?q30 ?q31 ?q32 ?q33 ?q34 ?q35 ?q36 ?q37 ?q38 ?q39 ?q40 ?q41 ?q42 ?q43 ?q44 ?q45 ?q46 ?q47 ?q48 ?q49 ?q50 ?q51 ?q52 ?q53 ?q54 ?q55 ?q56 ?q57 ?q58 ?q59 ?q60 ?q61 ?q62 ?q63 ?q64 ?q65 ?q66 ?q67 ?q68 ?q69 ?q70 ?q71 ?q72 ?q73 ?q74 ?q75 ?q76 ?q77 ?q78 ?q79 ?q80 ?q81 ?q82 ?q83 ?q84 ?q85 ?q86 ?q87 ?q88 ?q89 ?q90 ?q91 ?z_abs ?z_all ?z_dict ?z_int ?z_len ?z_list ?z_max ?z_min ?z_range ?z_sorted ?z_sum ?z_tuple ?tt
  (case q86 | q87 | q88 | q89 | q90 | q91=>refine' Sea.atm_mk ⟨?b,?c,?d⟩;(case b=>rwa[rfl]);(case c=>symm);(case d=>symm))
  (case q29 | q85=>refine'⟨?_,?_,?_,?_⟩; k_is; rwa[rfl]; symm; symm)
  (case q1 | q2 | q3 | q4 | q5 | q6 | q7 | q8 | q9 | q10 | q11 | q12 | q13 | q14 | q15 | q16 | q17 | q18 | q19 | q20 | q21 | q22 | q23 | q24 | q25 | q26 | q27 | q28 | q30 | q31 | q32 | q33 | q34 | q35 | q36 | q37 | q38 | q39 | q40 | q41 | q42 | q43 | q44 | q45 | q46 | q47 | q48 | q49 | q50 | q51 | q52 | q53 | q54 | q55 | q56 | q57 | q58 | q59 | q60 | q61 | q62 | q63 | q64 | q65 | q66 | q67 | q68 | q69 | q70 | q71 | q72 | q73 | q74 | q75 | q76 | q77 | q78 | q79 | q80 | q81 | q82 | q83 | q84=>refine' Sea.at_mk ⟨?a,?b,?c,?d⟩;(case a=>k_is);(case b=>rwa[rfl]);(case c=>symm);(case d=>symm))
  (case z_abs | z_all | z_dict | z_int | z_len | z_list | z_max | z_min | z_range | z_sorted | z_sum | z_tuple=>k_is)
  (case tt=>symm)
