import PyProof.Rows.All
import Wide.All
import OpenK.AllK
import Wide.FinOn
import PyProof.EqAt
import PyProof.EqKinds
import PyProof.TupleCall
import KE.BitLaws
import KE.KLam
import KE.KSortKeyAny
import KE.KSortKeySt
import KE.OsGo
import KE.OsHead
import Open.SpecLaws
import PyProof.CollectWalk
import PyProof.ExcArgsOwn
import PyProof.ExcInit
import PyProof.InstStoreFacts
import PyProof.ListRange
import PyProof.Rows.Range3
import PyProof.Rows.SetFrom
import PyProof.Rows.SortShellAny
import PyProof.RulesAs
import PyProof.StationsW
import PyProof.WalksMore
import PySem.Challenge.RW_crossings_s01_answers
set_option Elab.async false
set_option linter.all false
set_option maxRecDepth 100000
open Array renaming getElem?_eq_getElem->cM,getElem?_eq_some_iff->cY,getElem?_toList->dv,length_toList->dP,append_empty->vI,toList->F1,toArray_toList->IE,find?_toList->K8,toList_push->MK
open Bool renaming false_ne_true->bQ,eq_iff_iff->b7,and_eq_true->b_,noConfusion->dY,false_eq_true->eV,or_eq_true->g8,not_eq_true->i3,not_eq_true'->lB,not_true->mH,and_eq_true_iff->Ja,false_and->SW,or_false->Vl,not_not->WE,or_true->WG
open Classical renaming byContradiction->c7,propDecidable->du
open Except.ok renaming inj->i_
open False renaming elim->dJ
open ForInStep renaming yield->pF
open Function renaming comp->tV
open Iff renaming rfl->pG
open Int renaming toNat_natCast->aT,toNat->ig,natCast_add->kJ,le_refl->ux,mul_le_mul_of_nonneg_left->AS,mul_one->AT,neg_mul->AU,natCast_one->CG,mul_lt_mul_of_pos_left->DA,mul_add->Lb,le_antisymm->S_,add_assoc->WL
open List renaming length_map->aj,getElem?_map->ak,getElem?_eq_getElem->aq,mem_of_getElem?->ax,range->ay,mem_cons->aE,map_append->aJ,mem_append->aM,take_add_one->aN,getElem?_eq_some_iff->aP,length_cons->aQ,mem_cons_of_mem->aR,map_map->aS,length_append->aW,mem_cons_self->aZ,mem_map->a_,map_cons->bb,mem_singleton->bd,mem_filter->be,mem_append_left->bf,take_length->br,getD_eq_getElem?_getD->bz,size_toArray->bA,contains_iff_mem->bB,mem_append_right->bE,filter_cons->bJ,map_congr_left->bK,length_take->bN,length_filter_le->ca,mem_range->cb,length->ck,replicate->cp,ext_getElem?->cq,length_range->cr,length_drop->cw,getElem_mem->cx,foldl_cons->cy,take_of_length_le->cz,filter_append->cF,append_assoc->cJ,not_mem_nil->cN,append_nil->c8,length_nil->c9,range_succ->c_,drop_eq_getElem_cons->de,pairwise_iff_getElem->df,getElem?_eq_none->di,flatMap_cons->dw,pairwise_cons->dz,mem_filterMap->dS,flatMap_append->dX,filter_congr->d4,foldl_append->d5,getElem?_set->d6,getElem?_set_ne->d8,filter_map->eB,takeWhile_cons->eF,mem_of_mem_take->eW,all_eq_true->eZ,map_set->e_,zipIdx_cons->fb,getElem?_eq_none_iff->fh,getElem?_range->fj,mem_map_of_mem->fk,pairwise_map->fq,find?_cons->fJ,sum_cons->gc,getElem?_set_self->ge,pairwise_lt_range->gf,replicate_succ->gi,mem_or_eq_of_mem_set->gp,length_singleton->gw,lookup_cons->gD,eraseIdx_cons_succ->gZ,length_eq_zero_iff->g0,nodup_cons->g9,findIdx?_eq_some_iff_getElem->iw,exists_mem_of_ne_nil->iB,getElem?_append_left->iC,getElem?_of_mem->iH,range_eq_range'->iI,length_filterMap_le->iP,map_take->iQ,filterMap_cons->iX,length_pos_iff->iY,drop_drop->i4,mem_flatMap->i5,nodup_range->i6,contains_cons->jf,find?_eq_none->jg,map_nil->jh,dropLast_concat_getLast->js,find?_append->jF,lookup->jQ,range'_succ->j5,filter_eq_self->j_,getElem_of_mem->j',any_cons->kj,length_set->ku,zipIdx_append->kK,map_id->kN,range'->kO,filter_eq_nil_iff->lE,flatten_cons->lF,length_filter_eq_length_iff->lG,nodup_append->lH,set_set->lI,isEmpty_nil->mx,map_drop->mI,exists_mem_of_length_pos->mM,mem_of_mem_drop->mO,getElem?_append_right->oB,length_eraseIdx_of_lt->oC,ne_nil_of_mem->oE,mem_drop_iff_getElem->pf,mem_of_find?_eq_some->ph,mem_take_iff_getElem->pi,any_eq_true->qr,flatMap_map->qw,drop_eq_nil_of_le->rJ,nil_append->rW,sum_append->rX,filterMap_append->r_,length_replicate->sf,take_append_drop->sh,getElem?_zipIdx->uk,map_inj_right->vO,set_cons_succ->vP,set_cons_zero->vQ,findIdx_lt_length_of_exists->xY,cons_append->zJ,drop_length->zK,of_mem_zip->AW,find?_map->CQ,find?_nil->CU,getElem?_replicate->F4,dropWhile_sublist->Gg,getElem_cons_succ->Gh,mem_erase_of_ne->Jf,perm_cons_erase->Jg,findIdx?_cons->MO,foldl->MP,getElem?_drop->MQ,map_filterMap->MR,findIdx?_map->OL,flatMap_def->O',map_flatMap->Pa,mem_zipIdx->Sv,foldl_map->Ta,forIn_nil->Tb,map->Tc,nodup_nil->Td,all_cons->Vs
open List.Nodup renaming length_le_of_subset->eM
open List.Pairwise renaming filter->kM,filterMap->nJ,take->rg,and->Y7,drop->Y8,imp->Y9
open List.Perm renaming refl->fi,swap->yL,cons->Lc
open List.Sublist renaming refl->Z'
open Nat renaming le_refl->aI,lt_of_lt_of_le->bp,le_trans->bu,ne_of_lt->bT,zero_le->cP,lt_irrefl->dF,le_of_lt->fN,mul_le_mul_right->gS,lt_succ_of_lt->g_,min_eq_left->iJ,lt_succ_self->j8,max->j9,ne_of_gt->lQ,le_add_right->mJ,sub_self->ox,le_of_succ_le->pI,le_succ->pJ,min->pK,add_sub_cancel_left->rh,mul_le_mul->uz,pow_le_pow_right->uA,le_of_eq->yN,zero_add->yO,mul_lt_mul_of_pos_right->CW,lt_of_mul_lt_mul_right->DC,mul_div_cancel_left->Gk,add_comm->II,le_total->IJ,lt_trans->IK,pow_succ->IL,succ_mul->IM,toDigits->IN,mul_pos->Lf,add_sub_cancel->OM,lt_of_le_of_lt->ON,le_max_right->Sx,min_eq_right->Sy,le_antisymm->Tf,le_max_left->Tg,dvd_trans->WP,lt_or_ge->Y'
open Ne renaming symm->eG
open NeutralIO renaming bytes->mi
open Option renaming map_some->bD,toList_some->dj,bind_some->fQ,isSome_map->jw,isSome_iff_exists->pj,map_map->AY,map_eq_some_iff->EK,isSome_some->Jm,getD_none->MT,getD_some->MU,map_none->OO,none_or->Pc,none->Vy
open Option.some renaming inj->aO,injEq->gE
open Or renaming inl->lX,inr->mP
open Prod.mk renaming injEq->ul
open PyFlat renaming calls->jR,rows->Gn,played->SA,call->VB,told->VC
open PyProof renaming noPylong_small->DF
open PyProof.Rows renaming callWith_type1->gQ,firstMet->ke,envOfC->oS,IntsAre->rG,AllBare->xU,Subscript_->IQ,firstMet_succ->LC,subscriptTail->MD
open PyProof.Rows.F renaming plain_set_update_loop->jt,entry_set_update_loop->pL
open PySem renaming wpAny_bind->aA,Spec->aG,sizeLine_eq->aK,wpAny_pure->aU,Program->a7,starEach->bi,wpAny->bj,Shared->bq,World->bS,mem_of_lookup->cG,mainGlobals->cV,Around->dZ,compareOp->d7,bootBuiltins->eE,wpAny_mono->fg,cellsFrom->fu,Expr->fU,wpAny_loadPart_at->gs,wpAny_newObj_type->gt,backTo->gW,rawInt->gX,wpAny_Call_Name_kw->gY,wpAny_truthy_bool->hX,excClassObj->io,wpAny_setState_of->iZ,NameKind->jp,wpAny_call_entry->jr,wpAny_setField_rec->jH,wpAny_passesOwn->jO,attributeBase->jT,wpAny_holding->j0,compEnvC->kd,sysModules->kh,wpAny_typeLookup_exc->ki,codeAny_mono->kx,swapsWith->kG,wpAny_setEntries_of->kS,codeAny_builtin->lK,wpAny_execs_nil->lO,typeLookup->lU,keywordEach->l8,wpAny_callSpecial?_slot->mf,codeAny->mK,assignEach->nM,wpAny_askSetting->nS,behindInMarks->n9,FuncData->ow,sliceBounds->oA,pushCells->pW,pyNext->qj,tupleKind_room_in1->qk,fits_of_scanBound->rP,foldedSetIterable->rQ,wpAny_standAt->rZ,backToKw->tZ,getMethod->ub,call_meets->uG,wpAny_call->uY,letOwnedTupleGo->vo,pushCells_keeps->vD,Within->xL,binaryOp->xM,codeAny_call_builtin->xN,firstArgMember->xO,relayAll->xP,wpAny_field->xR,wpAny_fieldsOf->xS,wpAny_loadName_local->xT,standAt->yB,plainId_quiet->Am,wpAny_attempt->Aq,wpAny_Name->AN,bindArgs->CI,callWith->CJ,valueAt->CP,PyData->DE,checkBuiltinCall->DQ,noteFrame->D',tupleKind->EA,wpAny_execs_cons->EF,wpAny_isInstance->EG,subscripted->FX,BindsTo->F_,getItem->G0,notedBy->Hz,setAttr->Ii,GenState->IG,PlainAttrs->IP,atKey->IS,closureFor->IV,isSubtype_type->IY,setEntries->IZ,slotArgs->I0,wpAny_setField->I_,nums_intItems->LU,rangeSize_one->Me,DictEntry->ML,bindC->M5,bindL->M6,setFlight->Oh,storeName->Op,ElemsOf->OJ,Keyword->OK,callerA->OU,getAttr->OW,isTrue->OX,pyIter->OZ,seqIndex_neg->O0,getD_mem->SB,numAt_eq->SQ,seqIndex_of->SU,wpAny_of_eq->SV,Builtin->Tj,StoreFacts->VH,builtinsNs->VJ,intKind_is->V2,setsByText->Wg,typeIs_int->Wz,wpAny_rule->WA,setNext->YA,drawOrder->Zs,inplaceOp->ZN,pickOrder->ZP,raiseStmt->ZR
open PySem.Around renaming under_plainId->jI,under->EH
open PySem.Builtin renaming divisionGoesByPylong->yJ
open PySem.Builtin.Frozenset renaming addrOf->Sm,newClass->Sn,sizeOf->So,slot0->Sq,updateFrom->Sr
open PySem.Builtin.List renaming listTooLong->jJ,listLengthHint->lV,listExtendWith->vJ,listSameRef->xV,listTouch->Z0
open PySem.Builtin.Range renaming rangeSize->jP,small->lC,rangeFitsLong->Y2
open PySem.Calls renaming Name_function_global->CB,callWith_builtin->F2
open PySem.Challenge renaming pw_crossings_s01_answers->VD,rw_crossings_s01_answers->VE
open PySem.Code renaming isFrame->Gc,frames->Y4
open PySem.EntryCells renaming newEntry->Dz
open PySem.EqMixed renaming eq_bool_str->Zb,eq_int_str->Zc,eq_str_bool->Zd,eq_str_int->Ze,ne_bool_str->Zf,ne_int_str->Zg,ne_str_bool->Zh,ne_str_int->Zi
open PySem.F renaming plainAttrs_list->aX,slot_list_append->bU,type_list_append->bV,slot_list_extend->dm,type_list_extend->dn,called_set->gq,store_Exception->mh,attrBase_Exception->nH,plain_list_iadd->C0,slot_list_index->C1,plain_set_new->EL,slot_set_iter->EM,slot_int_rmul->WJ
open PySem.Heap renaming get?_push_of_some->aF,lt_size->a9,get?_push_size->bw,size_push->dh,get?_update_other->d9,get?_update_self->gu,get?_none_of_le->gP,SameBut->iG,get?_update_ne->La,ExtBut->Y6
open PySem.Heap.IsSliceOf renaming new->WK
open PySem.Heap.Ns renaming of_isNs->qo
open PySem.Heap.Ns1 renaming of_empty->IH
open PySem.Heap.SameBut renaming update->qp,refl->Z4
open PySem.IsRange renaming new->xX
open PySem.NameKind renaming free->lP,cell->AX
open PySem.Obj renaming mapFields->jA,mapSeq->kP,data_mapFields->oJ,isFreed_of_fields->tW
open PySem.Paired renaming length->CZ,snoc->VA
open PySem.PassesOwn renaming never->aY,leaving->eC
open PySem.PyData renaming int->iK,eqv->nV,eqvAll->pk,depth->vR,canLayAll0->Lh,depthAll->OP
open PySem.SeqAt renaming shaped->gL,EqAt->Zl
open PySem.SeqAt.EqAt renaming int_str->EO,str_int->EQ
open PySem.SetTable renaming below->d_,grown->iR,insertAt->u7,slot->OQ,has->Pe
open PySem.SetTable.below renaming go->j6
open PySem.SetTable.probe renaming go->rK
open PySem.Str renaming ofString->eK,empty->Gq
open PySem.Value renaming ref->cA,none->eU,type->gC,int->n6,builtin->pE,isInt->tY,str->ES,isStrOf->Tn,bytes->WU,float->WV,bool->Zn
open PySem.Value.type renaming inj->Jo
open PySem.W renaming Frag->ao,nsIn->cu,findIn->cK,keepIn->db,nsMap_none_of_in->ft,mg_of->fY,emptyDict->f7,fnOf->f8,makesIn->gU,instObj->im,CodeHd->iS,plainGet->iT,hasDictIn->ju,codeIn->jG,callWith_K->kb,plainOver->kQ,isFn->mT,WData->ni,isNs_of_in->nL,kla_obj->qx,methodCall_KW->ri,WellAll->rM,lookIn->rY,plainGet_of->tX,mg_none_of->uC,methodObj->vK,length_le_weightAllW->yP,takerIn->yQ,kla_fn->As,nsOkIn->At,tabObj->Au,cellsFrom_some->DI,callWith_K0->Go,handedIn->Li,ReadsAllW->Zk
open PySem.W.CodeHd renaming of->WR
open PySem.W.Looks renaming here->Zj
open PySem.pickOrder renaming go->CN
open PyVadiab renaming shape->hJ,whole->jB,answers->lJ,answers_asked->pM
open Sum renaming inl->gz,inr->yR
open True renaming intro->my
open UInt8 renaming ofNat->gO,toNat_ofNat'->oy
open VadiBase renaming word->bn,RESERVED->bI,index->bY,isDigit->cf,isLetter->dg,takeSign->fA,Bytes->fZ,PTok->gA,takeName->hG,token->jC,showNat->kF,next->lR,PName->lY,showNat->pr,isLetter->qf,Tok->u9,decimal->vT,Fault->zM,isBlank->CM,textAnswer->F8,numberOf->IR,taken->MX,Toks->OR
open Vadiaa renaming rankOf->bv,takeAll->dA,numberOf->dG,withoutSome->dQ,takeNum->ei,wishArcs->eA,takeEdge->eT,shown->eX,showEdge->fC,takeWish->fD,showBox->f_,takeBox->gb,read->gj,ranks->gG,wishArcs->iy,showWish->ji,downs->jS,twice->kU,leastSet->mL,empty->nh,Box->nZ,Edge->oK,arcs->oO,open_->qg,Diagram->so,rankCount->uf,packed->uD,boxNo->vU,badWish->AZ,greedySet->D0,line->Gr,FEW->Jn,namesIn->Pf,reached->Pg,PASSES->SC,selfIn->SD,exact->Tk
open Vadiab renaming rowAt->aL,step->bP,rankAt->bX,frameOf->bZ,segments->b',firstOrder->cE,posIn->cU,crossings->dk,withRank->dW,pairsAt->eR,Frame->fE,cross->fF,itemAt->gI,sweep->gJ,swapPass->kc,swapPass->lA,crossingsAt->l0,nats->oP,better->pw,insertBy->qe,channels->rm,itemRow->rS,around->uE,crossingsAt->u_,firstRank->ye,Call->yS,middleLess->AD,Obj->A0,settled->A1,swapRow->Iy,bestRank->IU,firstRank->MY,bestRank->OS,permuted->OT,isPerm->SE,rowAt->Tl,byMiddles->Zp
open VadiabNeutral renaming encode->cW,callOf->kR,bytesOf->oQ,asked1->pC,step->rn,natural->zN,whole60->zO,asked->Zm
section
local macro_rules | `(↑$x) => `(($x).length)
local macro_rules | `($a > $b) => `($a = some $b)
local macro_rules | `($a > $n:num) => `(GT.gt $a $n)
local macro_rules | `(#[$a,$xs,*]) => `(⟨$a,$xs,*⟩)
local macro_rules | `(#[$a]) => `(⟨$a⟩)
local macro_rules | `(~~~$a) => `(some $a)
local macro_rules | `(tactic| let $d:letDecl) => `(tactic| have $d:letDecl)
local macro_rules | `(tactic| exists $xs,*) => `(tactic| refine ⟨$xs,*, ?_⟩)
local macro_rules | `(tactic| delta $xs* $[$l]?) => `(tactic| unfold $xs* $[$l]?)
def aa:=@if_neg
def ac:=@if_pos
def ae:=@absurd
def af:=@congrArg
def ag:=@decide_eq_true
def ah:=@decide_eq_false
def ai:=@of_decide_eq_true
def oM{p:Prop}(h:p:=by omega):p:=h
def sP{p:Prop}(h:p:=by simp):p:=h
def dC{p:Prop}(h:p:=by decide):p:=h
def dK{p:Prop}(h:p:=by decide+kernel):p:=h
def gR{p:Prop}(h:p:=by grind):p:=h
def gm{a b:Type _}{f:a->b}{xs:List a}{i:Nat}{v:b}(h:(xs.map f)[i]?>v):∃y,xs[i]?>y/\f y=v:=by rw[ak]at h;exact EK.mp h
def gl{a:Type _}{xs:List a}{i:Nat}{v:a}(h:xs[i]?>v):i<↑xs:=(aP.mp h).1
namespace L2
open PySem PySem.Spec PyProof.Rows
abbrev Key:=Sum Int Str
def D7:Key->Value->Bool
 |.inl k,v=>tY k v
 |.inr x,v=>Tn x v
def aep(w:bS):Key->Int
 |.inl k=>hashInt k
 |.inr x=>hashStr w x
def iE:∀{k:Key}{v:Value},D7 k v=true->(∃i t,k=gz i/\v=n6 i t)\/(∃x t,k=yR x/\v=ES x t)
 |.inl i,v,h=>by let#[t,e]:=Value.isInt_shape (k:=i) (v:=v) h;exact .inl #[i,t,rfl,e]
 |.inr x,v,h=>by let#[t,e]:=Value.isStrOf_shape (x:=x) (v:=v) h;exact .inr #[x,t,rfl,e]
def NG(i)(t:Tok):D7 (.inl i) (.int i t)=true:=by simp[D7,tY]
def NH(x)(t:Tok):D7 (.inr x) (.str x t)=true:=by simp[D7,Tn]
def XG(a b):decide ((gz a:Key)=gz b)=(a==b):=by
 by_cases e:a=b
 .subst e;simp
 .let h:¬(gz a:Key)=gz b:=λq=>e<|Sum.inl.inj q;rw[ah h];exact(beq_eq_false_iff_ne.mpr e).symm
def XJ(a b):decide ((yR a:Key)=yR b)=decide (a=b):=by
 by_cases e:a=b
 .subst e;simp
 .let h:¬(yR a:Key)=yR b:=λq=>e<|Sum.inr.inj q;rw[ah h,ah e]
def XH(a)(b):decide ((gz a:Key)=yR b)=false:=ah (λq=>nomatch q)
def XI(a)(b):decide ((yR a:Key)=gz b)=false:=ah (λq=>nomatch q)
def jc(prog)(w):PySem.KeyKind prog w Key where
 is:=D7
 hash:=aep w
 inj:=λv a b ha hb=>by
  obtain⟨i,t,rfl,rfl⟩|⟨x,t,rfl,rfl⟩:=iE ha
  .obtain⟨j,u,rfl,e⟩|⟨y,u,rfl,e⟩:=iE hb
   .injection e with e1 _;rw[e1]
   .exact nomatch e
  .obtain⟨j,u,rfl,e⟩|⟨y,u,rfl,e⟩:=iE hb
   .exact nomatch e
   .injection e with e1 _;rw[e1]
 byValue:=λk v h=>by obtain⟨i,t,rfl,rfl⟩|⟨x,t,rfl,rfl⟩:=iE h<;>rfl
 pyHash:=λhv h=>by
  obtain⟨i,t,rfl,rfl⟩|⟨x,t,rfl,rfl⟩:=iE hv
  .exact wpAny_pyHash_int h
  .exact wpAny_pyHash_str h
 eqBool:=λhu hv h=>by
  obtain⟨i,t,rfl,rfl⟩|⟨x,t,rfl,rfl⟩:=iE hu
  .obtain⟨j,u,rfl,rfl⟩|⟨y,u,rfl,rfl⟩:=iE hv
   .rw[XG]at h;exact wpAny_eqBool_int h
   .rw[XH]at h;exact EO i t y u _ _ _ _ h
  .obtain⟨j,u,rfl,rfl⟩|⟨y,u,rfl,rfl⟩:=iE hv
   .rw[XI]at h;exact EQ x t j u _ _ _ _ h
   .rw[XJ]at h;exact wpAny_eqBool_str h
 «strs»:=λk x t v h=>by
  obtain⟨i,u,rfl,e⟩|⟨y,u,rfl,e⟩:=iE h
  .exact nomatch e
  .injection e with e1 _;subst e1;cases v<;>rfl
def Hs(prog)(w)(i)(t:Tok):(jc prog w).is (.inl i) (.int i t)=true:=NG i t
def Ht(prog)(w)(x)(t:Tok):(jc prog w).is (.inr x) (.str x t)=true:=NH x t
inductive V where
 |fP|bl(b:Bool)|int(i:Int)|str(x:Str)|GD(b:Array UInt8)|F9(b:UInt64)|ref(a:Addr)|ty(n:String)
 deriving DecidableEq
def RelV:V->Value->Prop
 |.fP,u=>u=eU
 |.bl b,u=>u=Zn b
 |.int i,u=>∃t,u=n6 i t
 |.str x,u=>∃t,u=ES x t
 |.GD b,u=>∃t,u=WU b t
 |.F9 b,u=>∃t,u=WV b t
 |.ref a,u=>u=cA a
 |.ty n,u=>u=gC n
abbrev Vals:List V->List Value->Prop:=Paired RelV
theorem Vals.length(r:Vals xs us):↑xs=↑us:=CZ r
def Vals.get:∀{xs:List V}{us:List Value}{i:Nat}{x:V},Vals xs us->xs[i]?>x->∃u,us[i]?>u/\RelV x u
 |_,_,_,_,.nil,e=>by simp at e
 |_,_,0,_,.cons r _,e=>by simp at e;subst e;exact#[_,rfl,r]
 |_,_,i+1,x,.cons _ t,e=>by let#[u,j,n]:=Vals.get (i:=i) (x:=x) t (by simpa using e);exact#[u,by simpa using j,n]
def Vals.set(r:RelV x u):∀{xs:List V}{us:List Value}(i:Nat),Vals xs us->Vals (xs.set i x) (us.set i u)
 |_,_,_,.nil=>.nil
 |_,_,0,.cons _ t=>.cons r t
 |_,_,i+1,.cons q t=>.cons q (Vals.set r i t)
def Vals.append:∀{xs ys:List V}{us ws:List Value},Vals xs us->Vals ys ws->Vals (xs++ys) (us++ws)
 |_,_,_,_,.nil,s=>s
 |_,_,_,_,.cons r t,s=>.cons r (Vals.append t s)
def Vals.take:∀{xs:List V}{us:List Value}(n:Nat),Vals xs us->Vals (xs.take n) (us.take n)
 |_,_,0,_=>.nil
 |_,_,_+1,.nil=>.nil
 |_,_,n+1,.cons r t=>.cons r (Vals.take n t)
def Vals.drop:∀{xs:List V}{us:List Value}(n:Nat),Vals xs us->Vals (xs.drop n) (us.drop n)
 |_,_,0,r=>r
 |_,_,_+1,.nil=>.nil
 |_,_,n+1,.cons _ t=>Vals.drop n t
def pq:Option V->Option Value->Prop
 |some v,some u=>RelV v u
 |none,none=>True
 |_,_=>False
def KV{κ:Type}:List (κ×V)->List (κ×Value)->Prop:=Paired λp q=>p.1=q.1/\RelV p.2 q.2
def kV:Key->V
 |.inl i=>.int i
 |.inr x=>.str x
inductive HO where
 |lst(xs:List V)
 |tup(xs:List V)
 |dK(nz:List (Key×V))|dT(nz:List (List Key×V))
 |set(S:Int->Bool)(n:Nat)
 |ins(C dx:Addr)(fs:List (Str×V))
 |own(x:Addr)
 |xd(fs:List (Str×V))
 |met(f x:Addr)
 |rng(lo hi:Int)
 |qc(o:Obj)(u:HO)
 |vL(ps:Array Value)
 |ext(j:Heap->Prop)
abbrev Hp:=Addr->Option HO
def upd(H:Hp)(a:Addr)(o:HO):Hp:=λb=>if b=a then some o else H b
def au:upd H a o a>o:=by delta upd;rw[ac rfl]
def aH(h:b≠a):upd H a o b=H b:=by delta upd;rw[aa h]
def hH:upd (upd H a o) a u=upd H a u:=by funext b;delta upd;split<;>rfl
def eI{H:Hp}(h:H a>o)(h':H b>u)(d:o≠u):a≠b:=by intro e;subst e;rw[h]at h';exact d (aO h')
def cQ{H:Hp}(h:H a>o)(h':H b=none):a≠b:=by intro e;subst e;rw[h]at h';cases h'
section
variable(P:a7)(w:bS)
def eQ(H:Hp)(h:Heap)(a:Addr):HO->Prop
 |.lst xs=>↑xs<=sizeLine/\∃lL n,Vals xs lL/\h.get? a>{cls:=.type "list",data:=.seq lL.toArray n}
 |.tup xs=>↑xs<=sizeLine/\∃lL,Vals xs lL/\IsTup h a lL.toArray
 |.dK nz=>↑nz<=sizeLine/\(a==kh)=false/\∃vs,KV nz vs/\h.DictOf (jc P w) a vs
 |.dT nz=>↑nz<=sizeLine/\(a==kh)=false/\∃xs,
   Paired (λp q=>p.1=q.1/\H q.2.1>(.tup<|p.1.map kV)/\RelV p.2 q.2.2) nz xs/\
   ∃o es ep,h.get? a>o/\o.ExactDict/\o.data=.dict es ep/\es.toList=xs.map (entryOfKey<|EA<|jc P w)/\(xs.map (·.1)).Nodup
 |.set S n=>h.SetOf (intKind P w) a S n
 |.ins C dx fs=>H dx>.own a/\↑fs<=1000/\dx≠a/\h.get? a>im C dx/\
   ∃mA,h.Ns1 dx mA/\(∀f,pq (fs.lookup f) (mA f))/\xL mA (fs.map (·.1))
 |.own _=>∃o,h.get? a>o
 |.xd fs=>∃mA,h.Ns1 a mA/\∀f,pq (fs.lookup f) (mA f)
 |.rng lo hi=>∃t u v,h.get? a>{cls:=.type "range",data:=.fields (List.toArray [.int lo t,.int hi u,.int 1 v])}
 |.qc o u=>h.get? a>o/\eQ H h a u
 |.vL ps=>h.get? a>{cls:=.none,data:=.fields ps}
 |.met f x=>h.get? a>vK (.ref f) (.ref x)
 |.ext j=>j h/\(∃o,h.get? a>o)/\∀h1 h2,j h1->(∀o,h1.get? a>o->h2.get? a>o)->j h2
def nI(H:Hp)(h:Heap):Prop:=∀a o,H a>o->eQ P w H h a o
end
section
variable{P:a7}{w:bS}{H H':Hp}{h h':Heap}{a:Addr}{o:HO}
def eQ.lt(x:eQ P w H h a o):a<h.objs.size:=by
 cases o with
 |lst xs=>have#[_,_,_,_,e]:=x;exact a9 e
 |tup xs=>have#[_,_,_,p]:=x;exact p.lt
 |dK nz=>have#[_,_,_,_,o,_,_,e,_]:=x;exact a9 e
 |dT nz=>have#[_,_,_,_,o,_,_,e,_]:=x;exact a9 e
 |set S n=>have#[o,_,_,_,e,_]:=x;exact a9 e
 |ins C dx fs=>have#[_,_,_,e,_]:=x;exact a9 e
 |own y=>have#[_,e]:=x;exact a9 e
 |xd fs=>have#[_,#[_,_,_,e,_],_]:=x;exact a9 e
 |rng lo hi=>have#[_,_,_,e]:=x;exact a9 e
 |qc ob u=>have#[e,_]:=x;exact a9 e
 |vL ps=>exact a9 (show h.get? a>_ from x)
 |met f y=>exact a9 (show h.get? a>_ from x)
 |ext j=>have#[_,#[_,e],_]:=x;exact a9 e
def Paired.XV:∀{j:List n}{l₂:List q},Paired F j l₂->(∀a b,F a b->G a b)->Paired G j l₂
 |_,_,.nil,_=>.nil
 |_,_,.cons r t,f=>.cons (f _ _ r) (Paired.XV t f)
def eQ.lM(x:eQ P w H h a o)(k:∀b u,(b=a\/H b>.own a)->h.get? b>u->h'.get? b>u)
  (ho:∀b,H b>.own a->H' b>.own a)(ht:∀b xs,H b>.tup xs->H' b>.tup xs):eQ P w H' h' a o:=by
 induction o with
 |lst xs=>have#[z,lL,n,r,e]:=x;exact#[z,lL,n,r,k _ _ (.inl rfl) e]
 |tup xs=>have#[z,lL,r,ob,e,c]:=x;exact#[z,lL,r,ob,k _ _ (.inl rfl) e,c]
 |dK nz=>have#[z,y,vs,r,ob,es,ep,e,c]:=x;exact#[z,y,vs,r,ob,es,ep,k _ _ (.inl rfl) e,c]
 |dT nz=>
  let#[z,y,xs,r,ob,es,ep,e,c]:=x;exact#[z,y,xs,Paired.XV r λp q z=>#[z.1,ht _ _ z.2.1,z.2.2],ob,es,ep,k _ _ (.inl rfl) e,c]
 |set S n=>have#[ob,es,ep,t,e,c]:=x;exact#[ob,es,ep,t,k _ _ (.inl rfl) e,c]
 |ins C dx fs=>
  let#[d,z,ne,e,mA,#[od,es,ep,e2,c],r]:=x;exact#[ho _ d,z,ne,k _ _ (.inl rfl) e,mA,#[od,es,ep,k _ _ (.inr d) e2,c],r]
 |own y=>have#[ob,e]:=x;exact#[ob,k _ _ (.inl rfl) e]
 |xd fs=>have#[mA,#[od,es,ep,e,c],r]:=x;exact#[mA,#[od,es,ep,k _ _ (.inl rfl) e,c],r]
 |rng lo hi=>have#[t,u,v,e]:=x;exact#[t,u,v,k _ _ (.inl rfl) e]
 |qc ob u ih=>have#[e,q]:=x;exact#[k _ _ (.inl rfl) e,ih q]
 |vL ps=>
  let e:h.get? a>{cls:=.none,data:=.fields ps}:=x;show h'.get? a>{cls:=.none,data:=.fields ps};exact k a _ (.inl rfl) e
 |met f y=>
  let e:h.get? a>vK (.ref f) (.ref y):=x;show h'.get? a>vK (.ref f) (.ref y);exact k a _ (.inl rfl) e
 |ext j=>have#[p,#[o,e],st]:=x;exact#[st _ _ p λo q=>k _ _ (.inl rfl) q,#[o,k _ _ (.inl rfl) e],st]
def nI.lt(x:nI P w H h)(e:H a>o):a<h.objs.size:=(x a o e).lt
def nI.fresh(x:nI P w H h)(e:h.objs.size<=a):H a=none:=by
 cases q:H a with
 |none=>rfl
 |some u=>exact ae (bp (x.lt q) e) (dF _)
def nI.kept(x:nI P w H h)(k:∀b u,h.get? b>u->h'.get? b>u):nI P w H h':=λa o e=>
 (x a o e).lM (λb u _ q=>k b u q) (λ_ q=>q) λ_ _ q=>q
def nI.laid(x:nI P w H h)(k:∀b u,h.get? b>u->h'.get? b>u)(z:h.objs.size<=a)(new:eQ P w (upd H a o) h' a o):nI P w (upd H a o) h':=λb u e=>by
 let j:=x.fresh z;by_cases n:b=a
 .subst n;rw[au]at e;cases e;exact new
 .rw[aH n]at e;exact(x b u e).lM (λc v _ q=>k c v q) (λc q=>by rw[aH (cQ q j)];exact q) λc xs q=>by rw[aH (cQ q j)];exact q
end
def Rd(H:Hp)(a:Addr)(u:HO):Prop:=H a>u\/∃o,H a>.qc o u
theorem Rd.ok(r:Rd H a u)(x:nI P w H h):eQ P w H h a u:=by
 obtain r|⟨o,r⟩:=r
 .exact x a u r
 .let#[_,q]:=x a _ r;exact q
def Vw:Option HO->Prop
 |some (.lst _)=>True
 |some (.dK _)=>True
 |some (.dT _)=>True
 |some (.set _ _)=>True
 |some (.ins _ _ _)=>True
 |some (.ext _)=>True
 |_=>False
section
variable{P:a7}{w:bS}{H:Hp}{h h':Heap}{x e:Addr}{o':HO}
def nI.write(ok:nI P w H h)(D:Vw (H x))(he:e=x\/H e>.own x)(k:∀b u,b≠e->h.get? b>u->h'.get? b>u)(I:∃u,h'.get? e>u)
  (new:eQ P w (upd H x J) h' x J):nI P w (upd H x J) h':=λb u q=>by
 let n:∀c y,H c>.own y->c≠x:=λc y r z=>by subst z;rw[r]at D;exact D
 let B:∀c xs,H c>.tup xs->c≠x:=λc xs r z=>by subst z;rw[r]at D;exact D
 by_cases F:b=x
 .subst F;rw[au]at q;cases q;exact new
 .rw[aH F]at q;by_cases j:b=e
  .let L:H b>.own x:=by
    obtain z|z:=he
    .exact ae (j.trans z) F
    .rw[j];exact z
   rw[q]at L;cases L;let#[v,M]:=I;exact#[v,by rw[j];exact M]
  .refine(ok b u q).lM (λc v G r=>k c v ?_ r) (λc r=>by rw[aH (n c b r)];exact r) λc xs r=>by rw[aH (B c xs r)];exact r
   obtain rfl|G:=G
   .exact j
   .rintro rfl;obtain z|z:=he
    .exact n c b G z
    .rw[G]at z;cases z;exact F rfl
end
structure Un(fs ex:List Addr)(H H':Hp)(h h':Heap):Prop where
 keep:∀b o,h.get? b>o->H b=none->b∉fs->b∉ex->h'.get? b>o
 slot:∀b o,h.get? b>o->H b=none->b∈fs->b∉ex->∃sl,h'.get? b>{o with slots:=sl}
 free:∀b o,h.get? b>o->H b=none->b∉ex->H' b=none
 there:∀b o,h.get? b>o->b∉ex->∃o',h'.get? b>o'
 Ao:∀b xs,H b>.tup xs->H' b>.tup xs
 wn:∀b o u,H b>.qc o u->H' b>.qc o u
 yD:∀b ps,H b>.vL ps->∃more,H' b>.vL (ps++more)
section
variable{fs Zy ex ex':List Addr}{H H1 H2:Hp}{h h1 h2 h':Heap}{a x e:Addr}{o:HO}
def Un.any(u:Un fs ex H H1 h D)(q:h.get? b>j)(n:H b=none)(z:b∉ex):∃F,D.get? b>{j with slots:=F}:=by
 by_cases B:b∈fs
 .exact u.slot b j q n B z
 .exact#[j.slots,u.keep b j q n B z]
def Un.kept(k:∀b u,h.get? b>u->h'.get? b>u):Un fs ex H H h h':=
 #[λb j q _ _ _=>k b j q,λb j q _ _ _=>#[j.slots,k b j q],λ_ _ _ n _=>n,λb j q _=>#[j,k b j q],λ_ _ q=>q,λ_ _ _ q=>q,λ_ ps q=>#[#[],by rw[q];simp]]
def Un.refl:Un fs ex H H h h:=Un.kept λ_ _ q=>q
def Un.laid(k:∀b u,h.get? b>u->h'.get? b>u)(hp:h.objs.size<=a)(hn:H a=none):Un fs ex H (upd H a o) h h' where
 keep:=λb u q _ _ _=>k b u q
 slot:=λb u q _ _ _=>#[u.slots,k b u q]
 free:=λb u q n _=>by rw[aH (bT<|bp (a9 q) hp)];exact n
 there:=λb u q _=>#[u,k b u q]
 Ao:=λb xs q=>by rw[aH (cQ q hn)];exact q
 wn:=λb u xs q=>by rw[aH (cQ q hn)];exact q
 yD:=λb ps q=>#[#[],by rw[aH (cQ q hn),q];simp]
def Un.write(B:Vw (H x))(he:e=x\/H e>.own x)(k:∀b u,b≠e->h.get? b>u->h'.get? b>u)(D:∃u,h'.get? e>u):Un fs ex H (upd H x o) h h':=by
 let F:∀b,H b=none->b≠x:=λb n z=>by subst z;rw[n]at B;exact B
 let G:∀b,H b=none->b≠e:=λb n z=>by
  subst z;obtain r|r:=he
  .exact F b n r
  .rw[n]at r;cases r
 let hm:∀b u,H b>u->¬Vw (some u)->b≠x:=λb u q nm z=>by subst z;rw[q]at B;exact nm B
 refine#[λb u q n _ _=>k b u (G b n) q,λb u q n _ _=>#[u.slots,k b u (G b n) q],λb u q n _=>by rw[aH (F b n)];exact n,λb u q _=>?_,
  λb xs q=>by rw[aH (hm b _ q λz=>z)];exact q,λb u xs q=>by rw[aH (hm b _ q λz=>z)];exact q,λb ps q=>#[#[],by rw[aH (hm b _ q λz=>z),q];simp]]
 by_cases j:b=e
 .subst j;exact D
 .exact#[u,k b u j q]
end
def ZX(h:Heap)(H:Hp):List Addr:=(ay h.objs.size).filter λa=>(H a).isSome
def Bu(h:Heap)(H:Hp):Heap:=PySem.W.hideAll h (ZX h H)
def Nz(h)(H):(Bu h H).objs.size=h.objs.size:=PySem.W.hideAll_size _ _
def Qb(e:h.get? b>o)(n:H b=none):(Bu h H).get? b>o:=
 PySem.W.hideAll_get _ e λhm=>by let q:(H b).isSome=true:=(be.mp hm).2;rw[n]at q;simp at q
def Ue(e:(Bu h H).get? b>o):h.get? b>o/\H b=none:=by
 let j:h.get? b>o:=PySem.W.of_hideAll (ZX h H) e;exists j;cases q:H b with
 |none=>rfl
 |some x=>
  let hm:b∈ZX h H:=be.mpr #[cb.mpr<|a9 j,by simp[q]];let z:(Bu h H).get? b=none:=PySem.W.hideAll_none (ZX h H) hm;rw[z]at e;cases e
def vW(g h:Heap)(L:Addr):List (Addr×Obj):=(ay h.objs.size).filterMap λa=>if a=L\/(g.get? a).isSome=true then none else(h.get? a).map λo=>(a,o)
def zd(n:a≠L)(q:g.get? a=none)(j:h.get? a>o):(a,o)∈vW g h L:=
 dS.mpr #[a,cb.mpr<|a9 j,by simp[n,q,j]]
def BN(n:p∈vW g h L):p.1≠L/\g.get? p.1=none/\h.get? p.1>p.2:=by
 let#[b,_,e]:=dS.mp n;split at e
 .cases e
 .rename_i j;cases q:h.get? b with
  |none=>rw[q]at e;simp at e
  |some u=>
   rw[q]at e;simp only[bD,gE]at e;subst e;refine#[λz=>j<|.inl z,?_,q];show g.get? b=none;cases r:g.get? b with
   |none=>rfl
   |some v=>exact(j<|.inr<|by simp[r]).elim
def QD:News g L h (vW g h L):=λp j=>let#[a,b,c]:=BN j;#[c,a,b]
structure Mod(K:ao)(mg:Str->Option Value)(aD:Heap):Prop where
 Aj:K.In aD
 glob:aD.Ns cV mg
 blt:∃mb,aD.Ns VJ mb/\∀x:Str,x≠"__name__"->mb x=eE x
 nolimit:aD.NoLimit
structure Cx where
 prog:a7
 w:bS
 K:ao
 mg:Str->Option Value
 aD:Heap
 A:dZ
 N:List Str
 xQ:bq
 SZ:Hp
 env:Env
 outer:List Env
 stack:List Env
 ex:List Addr
 fn:Str->Bool
 calm:Bool
 pn:List (Addr×Obj)
 xe:Value->bq->Prop
def CK(l:List Env):List Addr:=l.filterMap (·.frame)
abbrev Cx.fs(X:Cx):List Addr:=CK X.outer
def Zo(sc:Scope)(x:Str):Prop:=sc.names.lookup x>.local\/sc.names.lookup x>.cell\/sc.names.lookup x>.free
def Loc(sc:Scope)(x:Str):Prop:=sc.names.lookup x>.local\/sc.names.lookup x>.cell
def Look(env:Env)(h:Heap)(m:Str->Option Value)(x:Str)(u:Value):Prop:=
 (env.kindOf x>.local/\m x>u)\/((env.kindOf x>.cell\/env.kindOf x>.free)/\∃c,env.cells.lookup x>c/\h.IsCell c (some u))
structure Cx.Ok(X:Cx):Prop where
 mod:Mod X.K X.mg X.aD
 kind:X.env.scope.kind=.function
 glob:X.env.globals=cV
 blt:X.env.builtins=VJ
 above:X.xQ.heap.objs.size<=X.env.locals
 inj:∀x y c,X.env.cells.lookup x>c->X.env.cells.lookup y>c->x=y
 has:∀x,(X.env.kindOf x>.cell\/X.env.kindOf x>.free)->∃c,X.env.cells.lookup x>c
 Zq:∀x c,X.fn x=true->X.env.cells.lookup x>c->X.xQ.heap.objs.size<=c
 hd:X.calm=true->X.A.handled=none
 frames:X.A.frames>X.stack
 YH:X.stack=X.outer\/(X.stack=X.env::X.outer/\X.env.frame>X.env.locals)
 exf:∀b∈X.ex,b≠X.env.locals/\∀x c,X.env.cells.lookup x>c->c≠b
 bs:∀b o,X.aD.get? b>o->X.xQ.heap.get? b>o/\X.SZ b=none
 Lo:X.aD.objs.size<=X.xQ.heap.objs.size
 NV:∀b o,X.aD.get? b>o->b∉X.ex
 Nj:∀b∈X.ex,b∉X.fs
 yg:X.xQ.heap.FunFrames X.aD X.outer
 VN:∀b∈X.fs,X.SZ b=none
structure Inv(X:Cx)(aB:List (Addr×Obj))(σ:List (Option V))(H:Hp)(s:bq):Prop where
 ok:X.Ok
 os:s.os=X.xQ.os
 bare:xU s.gens
 aD:Un X.fs X.ex X.SZ H X.xQ.heap s.heap
 loc:∃m,s.heap.Ns X.env.locals m/\∀(i:Nat)(x:Str)(v:V),X.N[i]?>x->σ[i]?>some v->Zo X.env.scope x->∃u,RelV v u/\Look X.env s.heap m x u
 cell:∀x c,X.env.cells.lookup x>c->∃v,s.heap.IsCell c v
 free:H X.env.locals=none
 mU:∀x c,X.env.cells.lookup x>c->H c=none
 pin:∀p∈X.pn++aB,s.heap.get? p.1>p.2/\H p.1=none/\p.1≠X.env.locals/\p.1∉X.fs/\∀v,p.2.data≠.cell v
 fm:nI X.prog X.w H s.heap
 len:↑σ=↑X.N
section
variable{X:Cx}{aB:List (Addr×Obj)}{σ:List (Option V)}{H H':Hp}{s:bq}{h':Heap}
def Cx.Ok.aet(ok:X.Ok)(e:X.aD.get? b>o):b∉X.fs:=λj=>by let:=(ok.yg.mem j).1;rw[e]at this;cases this
def Inv.bs(I:Inv X aB σ H s):∀b o,X.aD.get? b>o->s.heap.get? b>o/\H b=none:=λb o e=>
 #[I.aD.keep b o (I.ok.bs b o e).1 (I.ok.bs b o e).2 (I.ok.aet e) (I.ok.NV b o e),I.aD.free b o (I.ok.bs b o e).1 (I.ok.bs b o e).2 (I.ok.NV b o e)]
def Inv.bk(I:Inv X aB σ H s):∀b o,X.aD.get? b>o->s.heap.get? b>o:=λb o e=>(I.bs b o e).1
def Inv.mod(I:Inv X aB σ H s):Mod X.K X.mg X.aD:=I.ok.mod
def Inv.Ai(I:Inv X aB σ H s):X.K.In s.heap:=I.ok.mod.Aj.keeps I.bk
def Inv.fr(I:Inv X aB σ H s):∃m,Fr X.aD X.env.locals s.heap m:=
 let#[m,j,_]:=I.loc
 #[m,j,I.bk,bu I.ok.Lo I.ok.above]
def Inv.lt(I:Inv X aB σ H s):X.env.locals<s.heap.objs.size:=let#[_,j,_]:=I.loc;j.lt
theorem Inv.sz(I:Inv X aB σ H s):X.xQ.heap.objs.size<=s.heap.objs.size:=bu I.ok.above (fN I.lt)
def Inv.aeu(I:Inv X aB σ H s)(h:s.heap.objs.size<=a):a∉X.fs:=λj=>by let#[_,o,n,_]:=I.ok.yg.mem j;exact ae (bp (a9 n) (bu I.sz h)) (dF _)
def Inv.Ts(I:Inv X aB σ H s):∀x c,X.env.cells.lookup x>c->c≠X.env.locals:=λx c e z=>by let#[v,o,q,hd]:=I.cell x c e;let#[m,#[B,es,D,j,n,_],_]:=I.loc;rw[z,j]at q;cases q;rw[n]at hd;cases hd
def Inv.yg(I:Inv X aB σ H s):s.heap.FunFrames X.aD X.outer:=by
 let all:∀l,(∀b∈CK l,b∈X.fs)->X.xQ.heap.FunFrames X.aD l->s.heap.FunFrames X.aD l:=by
  intro l;induction l with
  |nil=>intro _ _;trivial
  |cons env r B=>
   intro q D;let#[F,#[L,o,hf,G,J,hd],M]:=D;let j:L∈X.fs:=q L (by delta CK;rw[iX,hf];exact aZ);let#[N,e]:=I.aD.slot L o J (I.ok.VN L j) j λz=>I.ok.Nj L z j;exact#[F,#[L,_,hf,G,e,hd],B (λb n=>q b (by delta CK;rw[iX,hf];exact aR _ n)) M]
 exact all X.outer (λ_ n=>n) I.ok.yg
def Inv.stack(I:Inv X aB σ H s):s.heap.FunFrames X.aD X.stack:=by
 obtain e|⟨e,hf⟩:=I.ok.YH
 .rw[e];exact I.yg
 .rw[e];let#[m,j,_]:=I.loc;refine .cons (by rw[I.ok.kind];decide) hf j ?_ I.yg;exact gP (bu I.ok.Lo I.ok.above)
def Inv.KM(I:Inv X aB σ H s):∀b∈CK X.stack,b∈X.env.locals::X.fs:=λb j=>by
 obtain e|⟨e,hf⟩:=I.ok.YH
 .rw[e]at j;exact aR _ j
 .rw[e]at j;delta CK at j;rw[iX,hf]at j;exact j
def Inv.xD(I:Inv X aB σ H s):∀b∈CK X.stack,H b=none:=λb j=>by
 obtain e|j:=aE.mp (I.KM b j)
 .rw[e];exact I.free
 .let#[_,o,n,_]:=I.ok.yg.mem j;exact I.aD.free b o n (I.ok.VN b j) λz=>I.ok.Nj b z j
theorem Inv.step{g':Array IG}{t':Nat}{d':Drawn}{ch:List Addr}(I:Inv X aB σ H s)
  (B:∀b∈ch,(b∈X.ex\/X.xQ.heap.objs.size<=b)/\b≠X.env.locals/\(∀x c,X.env.cells.lookup x>c->c≠b)/\∀p∈X.pn++aB,p.1≠b)
  (keep:∀b o,b≠X.env.locals->b∉X.fs->b∉ch->s.heap.get? b>o->H b=none->h'.get? b>o)
  (slot:∀b o,b≠X.env.locals->b∈X.fs->b∉ch->s.heap.get? b>o->H b=none->∃U,h'.get? b>{o with slots:=U})(free:∀b o,b∉ch->s.heap.get? b>o->H b=none->M b=none)
  (there:∀b o,b∉ch->s.heap.get? b>o->∃N,h'.get? b>N)
  (Ao:∀b xs,H b>.tup xs->M b>.tup xs)(wn:∀b o u,H b>.qc o u->M b>.qc o u)(yD:∀b ps,H b>.vL ps->∃more,M b>(.vL<|ps++more))
  (ns:∀m,s.heap.Ns X.env.locals m->h'.Ns X.env.locals m)(Y:nI X.prog X.w M h')(hg:xU g'):
  Inv X aB σ M {s with heap:=h',gens:=g',drawn:=d',toks:=t'}:=by
 let O:∀b o,X.xQ.heap.get? b>o->b≠X.env.locals:=λb o e=>bT<|bp (a9 e) I.ok.above;let F:∀b o,X.xQ.heap.get? b>o->b∉X.ex->b∉ch:=λb o e j J=>by
  rcases(B b J).1 with z|z
  .exact j z
  .exact ae (bp (a9 e) z) (dF _)
 let cellK:∀x c,X.env.cells.lookup x>c->∀v,s.heap.IsCell c v->h'.IsCell c v:=λx c e v#[o,L,hd]=>by
  let D:c∉ch:=λz=>(B c z).2.2.1 x c e rfl;by_cases hc:c∈X.fs
  .let#[U,q]:=slot c o (I.Ts x c e) hc D L (I.mU x c e);exact#[_,q,hd]
  .exact#[o,keep c o (I.Ts x c e) hc D L (I.mU x c e),hd]
 refine#[I.ok,I.os,hg,#[λb o e n J j=>?_,λb o e n J j=>?_,λb o e n j=>?_,λb o e j=>?_,λb xs e=>Ao b xs<|I.aD.Ao b xs e,λb o xs e=>wn b o xs<|I.aD.wn b o xs e,λb ps e=>?_],?_,λx c e=>?_,?_,λx c e=>?_,λp hp=>?_,Y,I.len]
 .exact keep b o (O b o e) J (F b o e j) (I.aD.keep b o e n J j) (I.aD.free b o e n j)
 .let#[U,G]:=I.aD.slot b o e n J j;let#[Z,S]:=slot b _ (O b o e) J (F b o e j) G (I.aD.free b o e n j);exact#[Z,S]
 .let#[N,G]:=I.aD.there b o e j;exact free b N (F b o e j) G (I.aD.free b o e n j)
 .let#[N,G]:=I.aD.there b o e j;exact there b N (F b o e j) G
 .let#[m1,G]:=I.aD.yD b ps e;let#[m2,S]:=yD b _ G;exact#[m1++m2,by rw[S,Array.append_assoc]]
 .let#[m,hn,hl]:=I.loc;refine#[m,ns m hn,λi x v G S e3=>?_];let#[u,r,l]:=hl i x v G S e3;exists u,r;obtain l|⟨k,c,e,z⟩:=l
  .exact .inl l
  .exact .inr #[k,c,e,cellK x c e _ z]
 .let#[v,z]:=I.cell x c e;exact#[v,cellK x c e v z]
 .let#[m,#[o,_,_,L,_],_]:=I.loc;exact free _ o (λz=>(B _ z).2.1 rfl) L I.free
 .let#[v,o,L,hd]:=I.cell x c e;exact free c o (λz=>(B c z).2.2.1 x c e rfl) L (I.mU x c e)
 .let#[e,n,ne,nf,d]:=I.pin p hp;let D:p.1∉ch:=λz=>(B p.1 z).2.2.2 p hp rfl;exact#[keep p.1 p.2 ne nf D e n,free p.1 p.2 D e n,ne,nf,d]
def Inv.un(I:Inv X aB σ H s)(u:Un X.fs [] H G s.heap h')(q:nI X.prog X.w G h'):Inv X aB σ G {s with heap:=h',toks:=t'}:=by
 let#[m,#[o,es,N,J,r],_]:=id I.loc;let#[O,L]:=u.any J I.free sP;exact I.step (g':=s.gens) (d':=s.drawn) (ch:=[]) (λ_ z=>nomatch z) (λb o _ B _ e n=>u.keep b o e n B sP) (λb o _ B _ e n=>u.slot b o e n B sP) (λb o _ e n=>u.free b o e n sP) (λb o _ e=>u.there b o e sP) u.Ao u.wn u.yD (λS hm=>by let#[U,D,F,j,M]:=hm;rw[J]at j;cases j;exact#[_,D,F,L,M]) q I.bare
def Inv.call(I:Inv X aB σ H s)(u:Un (CK X.stack) ch H L s.heap h')(D:nI X.prog X.w L h')(N:xU g')
  (q:∀b∈ch,(b∈X.ex\/X.xQ.heap.objs.size<=b)/\b≠X.env.locals/\(∀x c,X.env.cells.lookup x>c->c≠b)/\∀p∈X.pn++aB,p.1≠b):
  Inv X aB σ L {s with heap:=h',gens:=g',drawn:=d',toks:=t'}:=by
 let#[m,#[o,es,U,M,r],_]:=id I.loc;let#[Y,F]:=u.any M I.free λz=>(q _ z).2.1 rfl;exact I.step (ch:=ch) q (λb o F O j e n=>u.keep b o e n (λz=>(aE.mp<|I.KM b z).elim F O) j) (λb o _ _ j e n=>u.any e n j) (λb o j e n=>u.free b o e n j) (λb o j e=>u.there b o e j) u.Ao u.wn u.yD (λZ hm=>by let#[o',G,J,B,S]:=hm;rw[M]at B;cases B;exact#[_,G,J,F,S]) D N
def Inv.turned(I:Inv X aB σ H s)(k:∀b o,b≠it->s.heap.get? b>o->h'.get? b>o)(F:H it=none)(D:it≠X.env.locals)
  (G:it∈X.ex\/X.xQ.heap.objs.size<=it)(J:∀x c,X.env.cells.lookup x>c->c≠it)(L:∀p∈X.pn++aB,p.1≠it):Inv X aB σ H {s with heap:=h',toks:=t'}:=by
 let B:∀b u,H b>u->b≠it:=λb u e z=>by rw[z,F]at e;cases e
 refine I.step (g':=s.gens) (d':=s.drawn) (ch:=[it]) (λb M=>?_) (λb o _ _ j e _=>k b o (λz=>j<|by simp[z]) e) (λb o _ _ j e _=>#[o.slots,k b o (λz=>j<|by simp[z]) e]) (λ_ _ _ _ n=>n)
  (λb o j e=>#[o,k b o (λz=>j<|by simp[z]) e]) (λ_ _ e=>e) (λ_ _ _ e=>e) (λb ps e=>#[#[],by rw[e];simp]) (λm hm=>?_) (λb u e=>?_) I.bare
 .let e:b=it:=by simpa using M
  subst e;exact#[G,D,J,L]
 .let#[o,es,N,O,r]:=hm;exact#[o,es,N,k _ o (eG D) O,r]
 .refine(I.fm b u e).lM (λc v j q=>k c v ?_ q) (λ_ q=>q) λ_ _ q=>q;obtain z|z:=j
  .rw[z];exact B b u e
  .exact B c _ z
def Inv.tok(I:Inv X aB σ H s)(t):Inv X aB σ H {s with toks:=t}:=I.un (h':=s.heap) (t':=t) Un.refl I.fm
def Inv.kept(I:Inv X aB σ H s)(k:∀b u,s.heap.get? b>u->h'.get? b>u):Inv X aB σ H {s with heap:=h',toks:=t'}:=I.un (Un.kept k) (I.fm.kept k)
def Inv.laid(I:Inv X aB σ H s)(k:∀b u,s.heap.get? b>u->h'.get? b>u)(j:s.heap.objs.size<=a)(new:eQ X.prog X.w (upd H a o) h' a o):
  Inv X aB σ (upd H a o) {s with heap:=h',toks:=t'}:=I.un (Un.laid k j<|I.fm.fresh j) (I.fm.laid k j new)
def Inv.write(I:Inv X aB σ H s)(n:Vw (H x))(he:e=x\/H e>.own x)(k:∀b u,b≠e->s.heap.get? b>u->h'.get? b>u)(j:∃u,h'.get? e>u)
  (new:eQ X.prog X.w (upd H x o) h' x o):Inv X aB σ (upd H x o) {s with heap:=h',toks:=t'}:=I.un (Un.write n he k j) (I.fm.write n he k j new)
def Inv.weak(I:Inv X aB σ H s)(n:↑σ'=↑σ)(w:∀(i:Nat) v,σ'[i]?>some v->σ[i]?>some v):Inv X aB σ' H s:=
 #[I.ok,I.os,I.bare,I.aD,let#[m,q,j]:=I.loc;#[m,q,λi x v z B D=>j i x v z (w i v B) D],I.cell,I.free,I.mU,I.pin,I.fm,n.trans I.len]
def Inv.L'(I:Inv X aB σ H s)(h:∀p∈j,s.heap.get? p.1>p.2/\H p.1=none/\p.1≠X.env.locals/\p.1∉X.fs/\∀v,p.2.data≠.cell v):Inv X j σ H s:=
 #[I.ok,I.os,I.bare,I.aD,I.loc,I.cell,I.free,I.mU,λp n=>(aM.mp n).elim (λz=>I.pin p<|bf _ z) (h p),I.fm,I.len]
def BK{N:List Str}(n:N.Nodup){i j:Nat}(a:N[i]?>x)(b:N[j]?>x):i=j:=by let#[B,q]:=aP.mp a;let#[D,z]:=aP.mp b;exact(List.getElem_inj n).mp (q.trans z.symm)
def Et(I:Inv X aB σ H s)(hN:X.N.Nodup)(Z:X.N[i]?>x)(G:Loc X.env.scope x)(r:RelV v u)
  (h:∀s',Inv X aB (σ.set i<|some v) H s'->(∃a,iG a s.heap s'.heap/\(a=X.env.locals\/X.env.cells.lookup x>a))->Q () s')(hf:X.fn x=true\/X.env.scope.names.lookup x>.local:=by first|exact .inl rfl|exact .inr rfl|assumption):bj M A (Op X.env x u) Q E s:=by
 let#[m,hn,hl]:=id I.loc;let adw:(X.env.scope.kind==.class||(X.env.scope.kind==.module&&X.env.locals !=X.env.globals))=false:=by rw[I.ok.kind];rfl
 let hiσ:i<↑σ:=by rw[I.len];exact(aP.mp Z).1
 let Ts:=I.Ts;let tracked:∀{a:Addr}{h':Heap},(∃o,s.heap.get? a>o/\H a=none)->iG a s.heap h'->nI X.prog X.w H h':=λ{a h'} ha B b ob e=>by
  let#[_,_,J]:=ha;refine(I.fm b ob e).lM (λc w' F q=>(B.2 c ?_).trans q) (λ_ q=>q) λ_ _ q=>q;rintro rfl;obtain rfl|F:=F
  .rw[J]at e;cases e
  .rw[J]at F;cases F
 obtain O|O:=G
 .refine wpAny_storeName_local O hn (λh' hn' B=>?_) adw;let#[oL,_,_,hoL,_]:=id hn;refine h _ #[I.ok,I.os,I.bare,#[λb o e n S G=>?_,λb o e n S G=>?_,I.aD.free,λb o e G=>?_,I.aD.Ao,I.aD.wn,I.aD.yD],#[_,hn',λj y v' D L e3=>?_],λy c e=>?_,I.free,I.mU,λp hp=>?_,tracked #[oL,hoL,I.free] B,by simpa using I.len] #[_,B,.inl rfl]
  .exact(B.2 b<|bT<|bp (a9 e) I.ok.above).trans (I.aD.keep b o e n S G)
  .let#[sl,D]:=I.aD.slot b o e n S G;exact#[sl,(B.2 b<|bT<|bp (a9 e) I.ok.above).trans D]
  .let#[o',D]:=I.aD.there b o e G;exact#[o',(B.2 b<|bT<|bp (a9 e) I.ok.above).trans D]
  .by_cases U:j=i
   .subst U;rw[Z]at D;cases D;rw[ge hiσ]at L;cases L;exact#[u,r,.inl #[O,sP]]
   .rw[d8 (eG U)]at L;let#[u',r',q]:=hl j y v' D L e3;exists u',r';obtain⟨k,e⟩|⟨k,c,e,z⟩:=q
    .refine .inl #[k,?_];let:y≠x:=λe=>U<|BK hN D<|e▸Z;simp[this,e]
    .exact .inr #[k,c,e,z.sameBut B<|Ts y c e]
  .let#[w',z]:=I.cell y c e;exact#[w',z.sameBut B<|Ts y c e]
  .let#[e,n,ne,nf,d]:=I.pin p hp;exact#[(B.2 p.1 ne).trans e,n,ne,nf,d]
 .let Y:X.fn x=true:=by
   obtain z|z:=hf
   .exact z
   .rw[z]at O;cases O
  let#[c,F]:=I.ok.has x<|.inl O;let#[w',z]:=I.cell x c F;refine wpAny_storeName_cell I.ok.kind O F z<|λh' VT B=>?_;let#[oc,hoc,ad6]:=id z;refine h {s with heap:=h'} #[I.ok,I.os,I.bare,#[λb o e n S G=>?_,λb o e n S G=>?_,I.aD.free,λb o e G=>?_,I.aD.Ao,I.aD.wn,I.aD.yD],#[m,hn.sameBut B<|eG<|Ts x c F,λj y v' D L e3=>?_],λy c' e=>?_,I.free,I.mU,λp hp=>?_,tracked #[oc,hoc,I.mU x c F] B,by simpa using I.len] #[c,B,.inr F]
  .exact(B.2 b<|bT<|bp (a9 e) (I.ok.Zq x c Y F)).trans (I.aD.keep b o e n S G)
  .let#[sl,D]:=I.aD.slot b o e n S G;exact#[sl,(B.2 b<|bT<|bp (a9 e) (I.ok.Zq x c Y F)).trans D]
  .let#[o',D]:=I.aD.there b o e G;exact#[o',(B.2 b<|bT<|bp (a9 e) (I.ok.Zq x c Y F)).trans D]
  .by_cases U:j=i
   .subst U;rw[Z]at D;cases D;rw[ge hiσ]at L;cases L;exact#[u,r,.inr #[.inl O,c,F,VT]]
   .rw[d8 (eG U)]at L;let#[u',r',q]:=hl j y v' D L e3;exists u',r';obtain q|⟨k,c',e,z'⟩:=q
    .exact .inl q
    .refine .inr #[k,c',e,z'.sameBut B ?_];rintro rfl;exact U (BK hN D<|I.ok.inj _ _ _ e F▸Z)
  .by_cases hcc:c'=c
   .subst hcc;exact#[_,VT]
   .let#[w2,z2]:=I.cell y c' e;exact#[w2,z2.sameBut B hcc]
  .let#[e,n,ne,nf,d]:=I.pin p hp;refine#[(B.2 p.1 ?_).trans e,n,ne,nf,d];intro q;rw[q,hoc]at e;let q':oc=p.2:=aO e;exact d w' (by rw[<-q'];exact ad6)
def tK(I:Inv X aB σ H s)(n:X.N.Nodup)(q:X.N[i]?>x)(z:Loc X.env.scope x)(r:RelV v u)
  (h:∀j,Inv X aB (σ.set i<|some v) H j->Q () j)(hf:X.fn x=true\/X.env.scope.names.lookup x>.local:=by first|exact .inl rfl|exact .inr rfl|assumption):bj M A (Op X.env x u) Q E s:=
 Et I n q z r (λj B _=>h j B) hf
def Inv.Pt(I:Inv X aB σ H s)(B:j.os=s.os)(u:Un (CK X.stack) ch H z s.heap j.heap)(n:nI X.prog X.w z j.heap)(D:xU j.gens)
  (q:∀b∈ch,(b∈X.ex\/X.xQ.heap.objs.size<=b)/\b≠X.env.locals/\(∀x c,X.env.cells.lookup x>c->c≠b)/\∀p∈X.pn++aB,p.1≠b):Inv X aB σ z j:=by
 let#[h',g',d',t',F]:=j;let e:F=s.os:=B;subst e;exact I.call (g':=g') (t':=t') (d':=d') u n D q
end
abbrev XK:=Value->Option Addr->Hp->Prop
abbrev St:=List (Option V)
abbrev VK:=V->Hp->Prop
abbrev TE:=St->Hp->VK->Prop
abbrev TT:=St->Hp->(Bool->Hp->Prop)->Prop
abbrev TA:=St->Hp->(List V->Hp->Prop)->Prop
structure Ends where
 nx:St->Hp->Prop
 rt:VK
 bk:St->Hp->Prop:=λ_ _=>False
 ct:St->Hp->Prop:=λ_ _=>False
abbrev TS:=Ends->St->Hp->Prop
def EP(X:Cx)(aB:List (Addr×Obj))(σ:St)(Q:VK)(u:Value)(s':bq):Prop:=∃v H',Inv X aB σ H' s'/\RelV v u/\Q v H'
def TP(X:Cx)(aB:List (Addr×Obj))(σ:St)(Q:Bool->Hp->Prop)(b:Bool)(s':bq):Prop:=∃H',Inv X aB σ H' s'/\Q b H'
def AP(X:Cx)(aB:List (Addr×Obj))(σ:St)(Q:List V->Hp->Prop)(us:List Value)(s':bq):Prop:=∃vs H',Inv X aB σ H' s'/\Vals vs us/\Q vs H'
def SP(X:Cx)(aB:List (Addr×Obj))(D:Ends)(f:Flow)(s':bq):Prop:=
 match f with
 |.next=>∃σ' H',Inv X aB σ' H' s'/\D.nx σ' H'
 |.brk=>∃σ' H',Inv X aB σ' H' s'/\D.bk σ' H'
 |.cont=>∃σ' H',Inv X aB σ' H' s'/\D.ct σ' H'
 |.ret u=>∃v σ' H',Inv X aB σ' H' s'/\RelV v u/\D.rt v H'
def PE(X:Cx)(e:fU)(t:TE):Prop:=
 ∀aB s σ H Q,Inv X aB σ H s->t σ H Q->bj (model X.prog X.w) X.A (eval e X.env) (EP X aB σ Q) X.xe s
def PT(X:Cx)(e:fU)(t:TT):Prop:=
 ∀aB s σ H Q,Inv X aB σ H s->t σ H Q->bj (model X.prog X.w) X.A (OX e X.env<|eval e X.env) (TP X aB σ Q) X.xe s
def PW(X:Cx)(e:fU)(t:TT):Prop:=
 ∀whole aB s σ H Q,Inv X aB σ H s->t σ H Q->bj (model X.prog X.w) X.A (OX e X.env whole) (TP X aB σ Q) X.xe s
def PW.pt(h:PW X e t):PT X e t:=h _
def PA(X:Cx)(es:List fU)(t:TA):Prop:=
 ∀pos aB s σ H Q,Inv X aB σ H s->t σ H Q->bj (model X.prog X.w) X.A (spliced<|gW pos<|bi es X.env) (AP X aB σ Q) X.xe s
def PS(X:Cx)(st:Stmt)(t:TS):Prop:=
 ∀aB s σ H D,Inv X aB σ H s->t D σ H->bj (model X.prog X.w) X.A (exec st X.env) (SP X aB D) X.xe s
def DD(X:Cx)(st:List Stmt)(t:TS):Prop:=
 ∀aB s σ H D,Inv X aB σ H s->t D σ H->bj (model X.prog X.w) X.A (execs st X.env) (SP X aB D) X.xe s
def gN(h:bj M A t Q E s)(j:∀a s,Q a s->n a s):bj M A t n E s:=fg h j λ_ _ x=>x
section
variable{X:Cx}
def bin(n:PE X a q)(z:PE X b B){R:V->V->Hp->Prop}(I:Inv X aB σ H s)(h:q σ H λx H1=>B σ H1 λy j=>R x y j)
  {Q:S->bq->Prop}{f:Value->Value->Sem S}
  (hf:∀v u s2 x y j,Inv X aB σ j s2->RelV x v->RelV y u->R x y j->bj (model X.prog X.w) X.A (f v u) Q X.xe s2):
  bj (model X.prog X.w) X.A (eval a X.env) (λv D=>bj (model X.prog X.w) X.A (eval b X.env) (λu F=>bj (model X.prog X.w) X.A (f v u) Q X.xe F) X.xe D) X.xe s:=by
 refine gN (n aB s σ H _ I h) λv s1#[x,H1,G,J,L]=>?_;refine gN (z aB s1 σ H1 _ G L) λu s2#[y,j,M,N,O]=>?_;exact hf v u s2 x y j M J N O
def lN(i:Nat):TE:=λσ H Q=>∃v,σ[i]?>some v/\Q v H
def tC(v:V):TE:=λ_ H Q=>Q v H
def X'(B:X.N[i]?>x)(D:Zo X.env.scope x)(hd:(x==("__debug__":Str))=false:=by decide)(q:(x==("__classdict__":Str))=false:=by decide):PE X (.Name x pos) (lN i):=by
 intro aB s σ H Q I h;let#[v,e,h]:=h;let#[m,F,G]:=I.loc;let#[u,r,l]:=G i x v B e D;let fin:EP X aB σ Q u s:=#[v,H,I,r,h];obtain⟨n,hm⟩|⟨n,c,z,j⟩:=l
 .exact AN (xT I.ok.kind n F hm fin) hd
 .obtain n|n:=n
  .exact AN (wpAny_loadName_cell I.ok.kind n z j fin) hd
  .exact AN (wpAny_loadName_free I.ok.kind n z j fin q) hd
def aV:PE X (.Constant (.int i) j pos) (tC<|.int i):=λ_ _ _ H _ I h=>wpAny_Constant_int #[.int i,H,I.tok _,#[_,rfl],h]
def uL:PE X (.Constant (.bool b) j pos) (tC<|.bl b):=λ_ _ _ H _ I h=>Constant_bool #[.bl b,H,I,rfl,h]
def sX:PE X (.Constant .none j pos) (tC .fP):=λ_ _ _ H _ I h=>Constant_none #[.fP,H,I,rfl,h]
def fM:PE X (.Constant (.str x) j pos) (tC<|.str x):=λ_ _ _ H _ I h=>Calls.Constant_str #[.str x,H,I.tok _,#[_,rfl],h]
def Gl(X:Cx)(x:Str):Prop:=X.env.kindOf x>.globalImplicit
def qL(I:Inv X aB σ H s)(j:Gl X x)(hm:X.mg x>u)(h:Q u s)
  (hd:(x==("__debug__":Str))=false:=by decide):bj (model X.prog X.w) X.A (eval (.Name x pos) X.env) Q E s:=
 CB I.ok.kind j (Calls.loadGlobal_global (by rw[I.ok.glob];exact I.mod.glob.keeps I.bk) hm h) hd
def vn(I:Inv X aB σ H s)(j:Gl X x)(hm:X.mg x=none)(n:eE x>u)(h:Q u s)
  (q:x≠"__name__":=by decide)(hd:(x==("__debug__":Str))=false:=by decide):bj (model X.prog X.w) X.A (eval (.Name x pos) X.env) Q E s:=by
 let#[D,z,B]:=I.mod.blt;exact CB I.ok.kind j (Calls.loadGlobal_builtin (by rw[I.ok.glob];exact I.mod.glob.keeps I.bk) hm (by rw[I.ok.blt];exact z.keeps I.bk) ((B x q).trans n) h) hd
def LZ(j:Gl X x)(hm:X.mg x>u)(r:RelV v u)(hd:(x==("__debug__":Str))=false:=by decide):PE X (.Name x pos) (tC v):=
 λ_ _ _ H _ I h=>qL I j hm #[v,H,I,r,h] hd
variable{a b:fU}{ta tb:TE}{pos:Pos}
def PC(X:Cx)(op:CmpOp)(a b:fU)(t:TE):Prop:=
 ∀aB s σ H Q,Inv X aB σ H s->t σ H Q->
  bj (model X.prog X.w) X.A (eval a X.env) (λv s₁=>bj (model X.prog X.w) X.A (eval b X.env) (λu s₂=>bj (model X.prog X.w) X.A (d7 op v u) (EP X aB σ Q) X.xe s₂) X.xe s₁) X.xe s
def tB(t:TE):TT:=λσ H Q=>t σ H λx H1=>∃c,x=.bl c/\Q c H1
def X9{op:CmpOp}{t:TE}(h:PC X op a b t)(j:n9 op b=false:=by first|exact QF _ dC dC|rfl):PE X (.Compare a [op] [b] pos) t:=λaB s σ H Q I hw=>wpAny_Compare1 (h aB s σ H Q I hw) j
def FE{op:CmpOp}{t:TE}(h:PC X op a b t)(j:n9 op b=false:=by first|exact QF _ dC dC|rfl):PT X (.Compare a [op] [b] pos) (tB t):=by intro aB s σ H Q I hw;refine wpAny_isTrue_Compare1 (gN (h aB s σ H _ I hw) λv s1 j=>gN j λu s2 n=>gN n λc s3#[x,H1,z,B,D]=>?_) j;obtain⟨d,rfl,q⟩:=D;cases B;exact hX #[H1,z,q]
def Yh(h:PE X e t)(he:∀whole,OX e X.env whole=(do let v<-whole;yB e.pos;holding [v] (truthy v)):=by intro _;rfl):PT X e (tB t):=by intro aB s σ H Q I hw;refine isTrue_plain (gN (h aB s σ H _ I hw) λv s1#[x,H1,j,n,z]=>?_) (he _);obtain⟨d,rfl,q⟩:=z;cases n;exact hX #[H1,j,q]
variable{tA tB':TT}{rest:List fU}
def ace(t u:TT):TT:=λσ H Q=>t σ H λc H1=>if c=true then u σ H1 Q else Q false H1
def tOr(t u:TT):TT:=λσ H Q=>t σ H λc H1=>if c=true then Q true H1 else u σ H1 Q
def ack(t:TT):TT:=λσ H Q=>t σ H λc H1=>Q (!c) H1
def ue(j:PT X a n):PW X (.BoolOp .And [a] pos) n:=by
 intro q aB s σ H Q I h;refine isTrue_and<|gN (j aB s σ H Q I h) λc s1 e=>?_;cases c with
 |true=>exact isTrue_and_nil e
 |false=>exact e
def s_(j:PT X a n):PW X (.BoolOp .Or [a] pos) n:=by
 intro q aB s σ H Q I h;refine isTrue_or<|gN (j aB s σ H Q I h) λc s1 e=>?_;cases c with
 |false=>exact isTrue_or_nil e
 |true=>exact e
def yu(z:PT X a B)(D:PW X (.BoolOp .And (b::rest) pos) j):PW X (.BoolOp .And (a::b::rest) pos) (ace B j):=by
 intro F aB s σ H Q I h;refine isTrue_and<|gN (z aB s σ H _ I h) λc s1#[H1,n,q]=>?_;cases c with
 |true=>exact D F aB s1 σ H1 Q n q
 |false=>exact#[H1,n,q]
def zm(z:PT X a B)(D:PW X (.BoolOp .Or (b::rest) pos) j):PW X (.BoolOp .Or (a::b::rest) pos) (tOr B j):=by
 intro F aB s σ H Q I h;refine isTrue_or<|gN (z aB s σ H _ I h) λc s1#[H1,n,q]=>?_;cases c with
 |true=>exact#[H1,n,q]
 |false=>exact D F aB s1 σ H1 Q n q
def Yg(j:PT X a n):PT X (.UnaryOp .Not a pos) (ack n):=by intro aB s σ H Q I h;exact isTrue_not (j aB s σ H (λc H1=>Q (!c) H1) I h)
def Ws(ta tb:TE):TE:=λσ H Q=>ta σ H λx H1=>∃c,x=.bl c/\if c=true then tb σ H1 Q else Q (.bl false) H1
def acl(ta tb:TE):TE:=λσ H Q=>ta σ H λx H1=>∃c,x=.bl c/\if c=true then Q (.bl true) H1 else tb σ H1 Q
def Kc(h:PE X a t):PE X (.BoolOp op [a] pos) t:=λaB s σ H Q I hw=>BoolOp_one (h aB s σ H Q I hw)
def X7(q:PE X a z)(B:PE X (.BoolOp .And (b::rest) pos) D):PE X (.BoolOp .And (a::b::rest) pos) (Ws z D):=by
 intro aB s σ H Q I h;refine BoolOp_and<|gN (q aB s σ H _ I h) λv s1#[x,H1,n,F,j]=>?_;obtain⟨c,rfl,j⟩:=j;cases F;refine hX ?_;cases c with
 |true=>exact B aB s1 σ H1 Q n j
 |false=>exact#[.bl false,H1,n,rfl,j]
def V6(q:PE X a z)(B:PE X (.BoolOp .Or (b::rest) pos) D):PE X (.BoolOp .Or (a::b::rest) pos) (acl z D):=by
 intro aB s σ H Q I h;refine BoolOp_or<|gN (q aB s σ H _ I h) λv s1#[x,H1,n,F,j]=>?_;obtain⟨c,rfl,j⟩:=j;cases F;refine hX ?_;cases c with
 |false=>exact B aB s1 σ H1 Q n j
 |true=>exact#[.bl true,H1,n,rfl,j]
def tIf(t:TT)(ta tb:TE):TE:=λσ H Q=>t σ H λc H1=>if c=true then ta σ H1 Q else tb σ H1 Q
def QL(q:PT X c z)(B:PE X a D)(F:PE X b G):PE X (.IfExp c a b pos) (tIf z D G):=by
 intro aB s σ H Q I h;refine wpAny_IfExp<|gN (q aB s σ H _ I h) λd s1#[H1,j,n]=>?_;cases d with
 |true=>exact B aB s1 σ H1 Q j n
 |false=>exact F aB s1 σ H1 Q j n
end
def bW(K:ao)(H:Hp)(a:Addr)(xs:List V):Prop:=
 Rd H a (.lst xs)\/
  ∃o lL n,K.lookup a>o/\o.cls=.type "list"/\o.dict=none/\o.data=.seq lL n/\lL.size<=sizeLine/\Vals xs lL.toList
def f9(K:ao)(H:Hp)(a:Addr)(xs:List V):Prop:=
 Rd H a (.tup xs)\/
  ∃o lL n,K.lookup a>o/\o.cls=.type "tuple"/\o.data=.seq lL n/\lL.size<=sizeLine/\Vals xs lL.toList
def ac5:Value->Option V
 |.none=>some .fP
 |.bool b=>some (.bl b)
 |.int i _=>some (.int i)
 |.str x _=>some (.str x)
 |.bytes b _=>some (.GD b)
 |.float b _=>some (.F9 b)
 |.ref a=>some (.ref a)
 |.type n=>some (.ty n)
 |_=>none
def RelV.abs(r:RelV x u):ac5 u>x:=by
 cases x with
 |fP=>cases r;rfl
 |bl _=>cases r;rfl
 |int _=>obtain⟨t,rfl⟩:=r;rfl
 |str _=>obtain⟨t,rfl⟩:=r;rfl
 |GD _=>obtain⟨t,rfl⟩:=r;rfl
 |F9 _=>obtain⟨t,rfl⟩:=r;rfl
 |ref _=>cases r;rfl
 |ty _=>cases r;rfl
def RelV.inj(r:RelV x u)(q:RelV y u):x=y:=aO (r.abs.symm.trans q.abs)
def Vals.inj:∀{xs ys:List V}{us:List Value},Vals xs us->Vals ys us->xs=ys
 |_,_,_,.nil,.nil=>rfl
 |_,_,_,.cons r t,.cons j t'=>by rw[r.inj j,Vals.inj t t']
section
variable{X:Cx}{aB:List (Addr×Obj)}{σ:St}{H:Hp}{s:bq}{a:Addr}{xs ys:List V}
def bW.of{K:ao}(h:H a>.lst xs):bW K H a xs:=.inl (.inl h)
def f9.of{K:ao}(h:H a>.tup xs):f9 K H a xs:=.inl (.inl h)
def Inv.list(I:Inv X aB σ H s)(h:bW X.K H a xs):∃j,Vals xs j/\PlainL s.heap a j.toArray/\↑xs<=sizeLine:=by
 obtain h|⟨o,j,n,q,B,hd,D,hz,r⟩:=h
 .let#[z,j,n,r,e]:=h.ok I.fm;exact#[j,r,#[_,n,e,rfl,rfl,rfl],z]
 .exists j.toList,r,#[o,n,I.Ai a o q,B,hd,by simpa using D];let e:=↑r;simp only[dP]at e;omega
def Inv.tuple(I:Inv X aB σ H s)(h:f9 X.K H a xs):∃j,Vals xs j/\IsTup s.heap a j.toArray/\↑xs<=sizeLine:=by
 obtain h|⟨o,j,n,q,B,D,hz,r⟩:=h
 .let#[z,j,r,p]:=h.ok I.fm;exact#[j,r,p,z]
 .exists j.toList,r,#[o,I.Ai a o q,B,n,by simpa using D];let e:=↑r;simp only[dP]at e;omega
def Inv.wH(I:Inv X aB σ H s)(h:bW X.K H a xs)(h':bW X.K H a ys):xs=ys:=by
 let#[j,r,#[o,n,e,_,_,d],_]:=I.list h;let#[its',z,#[D,n',q,_,_,d'],_]:=I.list h';rw[e]at q;cases q;rw[d]at d';injection d' with B _;let:j=its':=by simpa using af F1 B
 subst this;exact r.inj z
def Inv.OC(I:Inv X aB σ H s)(h:f9 X.K H a xs)(h':f9 X.K H a ys):xs=ys:=by
 let#[j,r,#[o,e,_,n,d],_]:=I.tuple h;let#[its',z,#[D,q,_,n',d'],_]:=I.tuple h';rw[e]at q;cases q;rw[d]at d';injection d' with B _;let:j=its':=by simpa using af F1 B
 subst this;exact r.inj z
end
abbrev Cx.CA(X:Cx)(E:Value->bq->Prop):Cx:={X with xe:=E}
abbrev Cx.Ub(X:Cx):Cx:=X.CA λ_ _=>False
def Cx.Ok.CA{X:Cx}(ok:X.Ok)(E:Value->bq->Prop):(X.CA E).Ok:=
 #[ok.mod,ok.kind,ok.glob,ok.blt,ok.above,ok.inj,ok.has,ok.Zq,ok.hd,ok.frames,ok.YH,ok.exf,ok.bs,ok.Lo,ok.NV,ok.Nj,ok.yg,ok.VN]
def Cx.Ok.re{X:Cx}(ok:(X.CA E).Ok):X.Ok:=
 #[ok.mod,ok.kind,ok.glob,ok.blt,ok.above,ok.inj,ok.has,ok.Zq,ok.hd,ok.frames,ok.YH,ok.exf,ok.bs,ok.Lo,ok.NV,ok.Nj,ok.yg,ok.VN]
section
variable{X:Cx}{aB:List (Addr×Obj)}{σ:St}{H:Hp}{s:bq}{E:Value->bq->Prop}
def Inv.CA(I:Inv X aB σ H s)(E:Value->bq->Prop):Inv (X.CA E) aB σ H s:=#[I.ok.CA E,I.os,I.bare,I.aD,I.loc,I.cell,I.free,I.mU,I.pin,I.fm,I.len]
def Inv.re(I:Inv (X.CA E) aB σ H s):Inv X aB σ H s:=#[I.ok.re,I.os,I.bare,I.aD,I.loc,I.cell,I.free,I.mU,I.pin,I.fm,I.len]
def SP.re(h:SP (X.CA E) aB D f n):SP X aB D f n:=by
 cases f with
 |next=>have#[σ',j,I,q]:=h;exact#[σ',j,I.re,q]
 |brk=>have#[σ',j,I,q]:=h;exact#[σ',j,I.re,q]
 |cont=>have#[σ',j,I,q]:=h;exact#[σ',j,I.re,q]
 |ret u=>have#[v,σ',j,I,r,q]:=h;exact#[v,σ',j,I.re,r,q]
def DD.Ub{st:List Stmt}(h:DD X.Ub st t):DD X st t:=λaB s σ H D I hw=>
 fg (h aB s σ H D (I.CA _) hw) (λ_ _ q=>q.re) λ_ _ z=>dJ z
end
section
variable{X:Cx}{st:Stmt}{rest:List Stmt}{t u:TS}{e:fU}{te:TE}{pos:Pos}
def RY:TS:=λD σ H=>D.nx σ H
def KU(t u:TS):TS:=λD σ H=>t {D with nx:=u D} σ H
def cg:DD X [] RY:=λ_ _ σ H _ I h=>lO #[σ,H,I,h]
def aw(j:PS X st t)(n:DD X rest u):DD X (st::rest) (KU t u):=by
 intro aB s σ H D I h;refine EF (gN (j aB s σ H {D with nx:=u D} I h) λf s1 q=>?_);cases f with
 |next=>
  let#[σ',z,B,q]:=q;exact n aB s1 σ' z D B q
 |ret v=>exact q
 |brk=>exact q
 |cont=>exact q
def aC(j:PS X st t):DD X [st] t:=by
 intro aB s σ H D I h;refine EF<|gN (j aB s σ H D I h) λf s1 q=>?_;cases f with
 |next=>exact lO q
 |ret v=>exact q
 |brk=>exact q
 |cont=>exact q
def Inv.quiet(I:Inv X aB σ H s):interactive X.env=false:=by simp[interactive,I.ok.kind]
def Cn(te:TE):TS:=λD σ H=>te σ H λ_ H1=>D.nx σ H1
def cO(he:PE X e j)(n:kG e none pos.line X.env=pure false:=by rfl):PS X (.Expr e pos) (Cn j):=by intro aB s σ H D I h;exact wpAny_Expr_any (gN (he aB s σ H _ I h) λv s1#[x,H1,q,B,z]=>#[σ,H1,q,z]) I.quiet n
def acm(te:TE):TS:=λD σ H=>te σ H D.rt
def bC(he:PE X e j):PS X (.Return (some e) pos) (acm j):=by intro aB s σ H D I h;exact wpAny_Return_some (gN (he aB s σ H _ I h) λv s1#[x,H1,n,q,z]=>#[x,σ,H1,n,q,z])
def RW(c:TT)(t u:TS):TS:=λD σ H=>c σ H λb H1=>if b=true then t D σ H1 else u D σ H1
def dI(q:PT X c z)(B:DD X a t)(F:DD X b u):PS X (.If c a b pos) (RW z t u):=by
 intro aB s σ H D I h;refine wpAny_If<|gN (q aB s σ H _ I h) λd s1#[H1,j,n]=>?_;cases d with
 |true=>exact B aB s1 σ H1 D j n
 |false=>exact F aB s1 σ H1 D j n
end
abbrev TG:=V->St->Hp->(St->Hp->Prop)->Prop
abbrev VI:=List V->St->Hp->(St->Hp->Prop)->Prop
def PG(X:Cx)(target:fU)(t:TG):Prop:=
 ∀aB s σ H v u Q,Inv X aB σ H s->RelV v u->t v σ H Q->
  bj (model X.prog X.w) X.A (assign target X.env u) (λ_ s'=>∃σ' H',Inv X aB σ' H' s'/\Q σ' H') X.xe s
def PGs(X:Cx)(ts:List fU)(t:VI):Prop:=
 ∀aB s σ H vs us Q,Inv X aB σ H s->Vals vs us->t vs σ H Q->
  bj (model X.prog X.w) X.A (assignInOrder ((nM ts X.env).map (·.2)) us) (λ_ s'=>∃σ' H',Inv X aB σ' H' s'/\Q σ' H') X.xe s
abbrev aag:=V->V->V->Hp->(Hp->Prop)->Prop
def aab(X:Cx)(t:aag):Prop:=
 ∀aB s σ H o i v ov iv u Q,Inv X aB σ H s->RelV o ov->RelV i iv->RelV v u->t o i v H Q->
  bj (model X.prog X.w) X.A (setItem ov iv u) (λ_ s'=>∃H',Inv X aB σ H' s'/\Q H') X.xe s
abbrev TIp:=V->V->Hp->VK->Prop
def PIp(X:Cx)(op:Operator)(t:TIp):Prop:=
 ∀aB s σ H x y v u Q,Inv X aB σ H s->RelV x v->RelV y u->t x y H Q->
  bj (model X.prog X.w) X.A (ZN op v u) (EP X aB σ Q) X.xe s
section
variable{X:Cx}{pos:Pos}
def pR(i:Nat):TG:=λv σ H Q=>Q (σ.set i<|some v) H
def Up(j:X.N.Nodup)(n:X.N[i]?>x)(q:Loc X.env.scope x)(hf:X.fn x=true\/X.env.scope.names.lookup x>.local:=by first|exact .inl rfl|exact .inr rfl|assumption):PG X (.Name x pos) (pR i):=by intro aB s σ H v u Q I r h;exact wpAny_assign_Name (tK I j n q r (λB z=>#[_,H,z,h]) hf)
def aax:VI:=λvs σ H Q=>vs=[]/\Q σ H
def VO(t:TG)(u:VI):VI:=λvs σ H Q=>∃v r,vs=v::r/\t v σ H λσ' H'=>u r σ' H' Q
def kf:PGs X [] aax:=by intro aB s σ H vs us Q I r h;obtain⟨e,h⟩:=h;subst e;cases r;exact assignInOrder_nil #[σ,H,I,h]
def eJ(j:PG X e t)(n:PGs X es u)
  (q:(nM (e::es) X.env).map (·.2)=assign e X.env::(nM es X.env).map (·.2):=by rfl):PGs X (e::es) (VO t u):=by
 intro aB s σ H vs us Q I r h;obtain⟨v,G,z,h⟩:=h;subst z;cases r with
 |cons r B=>
  rw[q];refine assignInOrder_cons<|gN (j aB s σ H _ _ _ I r h) λ_ s1#[σ1,H1,D,F]=>?_;exact n aB s1 σ1 H1 _ _ Q D B F
def Xf(K:ao)(n:Nat)(t:VI):TG:=λv σ H Q=>∃a xs,v=.ref a/\f9 K H a xs/\↑xs=n/\t xs σ H Q
def Ya(z:X.calm=true)(h:PGs X es t)
  (B:↑(nM es X.env)=n:=by rfl)(j:(nM es X.env).findIdx? (·.1)=none:=by rfl):PG X (.Tuple es k pos) (Xf X.K n t):=by
 intro aB s σ H v u Q I r hw;obtain⟨a,xs,D,F,G,hw⟩:=hw;subst D;cases r;obtain⟨J,q,L,hz⟩:=I.tuple F;refine assign_Tuple_tuple (I.ok.hd z) L (by simp[B,<-G,q.length]) j λh' M=>?_;let N:Inv X aB σ H {s with heap:=h'}:=I.kept (t':=s.toks) λb o e=>M b o (bT<|a9 e) e;exact h aB _ σ H xs _ Q N (by simpa using q) hw
def aay(to ti:TE)(t:aag):TG:=λv σ H Q=>to σ H λo H1=>ti σ H1 λi H2=>t o i v H2 λH3=>Q σ H3
def vB(q:PE X o to)(z:PE X i B)(D:aab X t)
  (F:∀v,assign (.Subscript o i pos) X.env v=(do
   let j<-holding [v] (eval o X.env)
   let n<-holding [v,j] (eval i X.env)
   yB pos
   holding [v,j,n] (setItem j n v)
   release [v,j,n] []):=by intro _;rfl):PG X (.Subscript o i pos) (aay to B t):=by
 intro aB s σ H v u Q I r h;rw[F];refine aA<|j0<|gN (q aB s σ H _ I h) λj s1#[x,H1,G,J,L]=>?_;refine aA<|j0<|gN (z aB s1 σ H1 _ G L) λn s2#[y,M,N,O,S]=>?_;refine aA<|rZ<|aA<|j0<|gN (D aB s2 σ M x y v j n u _ N J O r S) λ_ s3#[U,Y,Z]=>?_;exact wpAny_release #[σ,U,Y,Z]
def RN(te:TE)(g:TG):TS:=λD σ H=>te σ H λx H1=>g x σ H1 D.nx
def vC(he:PE X e n)(z:PG X j g)(B:swapsWithSole [j] e pos.line X.env=pure false:=by rfl)(hw:swappedStores [j] e X.env=pure none:=by rfl)
  (F:(nM [j] X.env).map (·.2)=[assign j X.env]:=by rfl):PS X (.Assign [j] e pos) (RN n g):=by
 intro aB s σ H D I h;refine wpAny_Assign_stores (gN (he aB s σ H _ I h) λv s1#[x,H1,G,J,L]=>?_) B hw;rw[F];exact gN (z aB s1 σ H1 x v _ G J L) λ_ s2 q=>q
def Yf(j:X.N.Nodup)(n:X.N[i]?>x)(q:Loc X.env.scope x)(he:PE X e z)(B:kG e (some<|.Name x pos') pos.line X.env=pure false:=by rfl)(hf:X.fn x=true\/X.env.scope.names.lookup x>.local:=by first|exact .inl rfl|exact .inr rfl|assumption):
  PS X (.Assign [.Name x pos'] e pos) (RN z<|pR i):=by
 intro aB s σ H D I h;refine wpAny_Assign_Name (gN (he aB s σ H _ I h) λv s1#[y,H1,F,G,J]=>?_) B;exact tK F j n q G (λs2 L=>#[_,H1,L,J]) hf
def acf(i:Nat)(te:TE)(ti:TIp):TS:=λD σ H=>∃x,σ[i]?>some x/\te σ H λy H1=>ti x y H1 λz H2=>D.nx (σ.set i<|some z) H2
def qT(G:X.N.Nodup)(F:X.N[i]?>x)(q:Loc X.env.scope x)(he:PE X e J)(L:PIp X op M)(hf:X.fn x=true\/X.env.scope.names.lookup x>.local:=by first|exact .inl rfl|exact .inr rfl|assumption):
  PS X (.AugAssign (.Name x pos') op e pos) (acf i J M):=by
 intro aB s σ H D I h;let#[v,O,h]:=h;let#[m,S,U]:=I.loc;let B:Zo X.env.scope x:=by obtain k|k:=q;exact .inl k;exact .inr (.inl k)
 let#[u,r,l]:=U i x v F O B;refine wpAny_AugAssign_Name ?_;let go:bj (model X.prog X.w) X.A (eval e X.env) (λw Y=>bj (model X.prog X.w) X.A (ZN op u w) (λr Z=>bj (model X.prog X.w) X.A (Op X.env x r) (λ_=>SP X aB D .next) X.xe Z) X.xe Y) X.xe s:=by refine gN (he aB s σ H _ I h) λw s1#[y,H1,I1,r1,q1]=>?_;refine gN (L aB s1 σ H1 v y u w _ I1 r r1 q1) λz s2#[zv,H2,I2,r2,q2]=>?_;exact tK I2 G F q r2 (λs3 I3=>#[_,H2,I3,q2]) hf
 obtain⟨j,hm⟩|⟨j,c,hc,n⟩:=l
 .exact xT I.ok.kind j S hm go
 .obtain j|j:=j
  .exact wpAny_loadName_cell I.ok.kind j hc n go
  .obtain k|k:=q
   .let:X.env.scope.names.lookup x>.free:=j;rw[k]at this;cases this
   .let:X.env.scope.names.lookup x>.free:=j;rw[k]at this;cases this
def ipI(f:Int->Int->Int):TIp:=λx y H Q=>∃i j,x=.int i/\y=.int j/\Q (.int<|f i j) H
def sK:PIp X .Add (ipI λi j=>i+j):=by intro aB s σ H x y v u Q I n z h;let#[i,j,B,D,q]:=h;subst B;subst D;obtain⟨t,rfl⟩:=n;obtain⟨t',rfl⟩:=z;exact iadd_int #[.int _,H,I.tok _,#[_,rfl],q]
def YX(c:TT)(tb:TS):TS:=λD σ H=>∃W:Nat->St->Hp->Prop,(∃m,W m σ H)/\∀m σ H,W m σ H->
 c σ H λb H1=>if b=true then∃N:St->Hp->Prop,(∀σ' H',N σ' H'->∃m',m'<m/\W m' σ' H')/\tb {D with nx:=N,ct:=N,bk:=D.nx} σ H1 else D.nx σ H1
def jm(L:PassesOwn (model X.prog X.w) X.A X.env X.xe)(Y:PT X c Z)(hb:DD X body tb):PS X (.While c body [] pos) (YX Z tb):=by
 intro aB s σ H D I h;let#[W,#[m0,w0],turn]:=h;refine wpAny_While<|codeAny_whileLoop (λn s'=>∃σ' M,Inv X aB σ' M s'/\W n σ' M) ?_ m0 #[σ,H,I,w0];rintro n s1 ⟨σ1,H1,I1,w1⟩;refine jO L<|gN (Y aB s1 σ1 H1 _ I1<|turn n σ1 H1 w1) λb s2#[O,S,q]=>?_;cases b with
 |true=>
  let#[N,U,q]:=q;rw[ac rfl];refine jO L<|gN (hb aB s2 σ1 O _ S q) λf s3 z=>?_;cases f with
  |next=>
   let#[σ3,j,B,F]:=z;let#[G,hm,J]:=U σ3 j F;exact#[G,hm,σ3,j,B,J]
  |cont=>
   let#[σ3,j,B,F]:=z;let#[G,hm,J]:=U σ3 j F;exact#[G,hm,σ3,j,B,J]
  |brk=>exact z
  |ret v=>exact z
 |false=>
  rw[aa bQ];exact lO #[σ1,O,S,q]
end
structure It where
 go:Nat->Hp->Prop
 MJ:Nat->Hp->V->Hp->Prop
 stop:Nat->Hp->Prop
def zG(X:Cx)(aB:List (Addr×Obj))(H:Hp)(b:Addr):Prop:=
 H b=none/\b≠X.env.locals/\b∉X.fs/\(b∈X.ex\/X.xQ.heap.objs.size<=b)/\(∀x c,X.env.cells.lookup x>c->c≠b)/\∀p∈X.pn++aB,p.1≠b
def Inv.JC(I:Inv X aB σ H s)(j:s.heap.objs.size<=b)(n:B b=none):zG X aB B b:=by
 refine#[n,lQ<|bp I.lt j,I.aeu j,.inr<|bu I.sz j,λx c e z=>?_,λp D z=>?_]
 .let#[v,q]:=I.cell x c e;exact ae (bp q.lt<|by rw[z];exact j) (dF _)
 .exact ae (bp (a9 (I.pin p D).1) (by rw[z];exact j)) (dF _)
structure Turn(P:a7)(w:bS)(K:ao)(tg:fU)(J:It)(fp:List Addr)(it:Addr)(tn:Nat->Heap->Prop):Prop where
 mem:it∈fp
 obj:∀i h,tn i h->∀b∈fp,∃o,h.get? b>o/\∀v,o.data≠.cell v
 keep:∀i h h',tn i h->(∀b∈fp,∀o,h.get? b>o->h'.get? b>o)->tn i h'
 item:∀(X:Cx),X.prog=P->X.w=w->X.K=K->X.calm=true->∀(i:Nat)(aB:List (Addr×Obj))(s:bq)(σ:St)(H:Hp)(E:Value->bq->Prop),Inv X aB σ H s->(∀b∈fp,zG X aB H b)->tn i s.heap->J.go i H->
  bj (model P w) X.A (qj (.ref it)) (λr s1=>∃u,r>u/\
   bj (model P w) X.A (vo tg (.ref it) u) (λ_ s2=>∃x H',Inv X aB σ H' s2/\RelV x u/\J.MJ i H x H'/\tn (i+1) s2.heap/\∀b∈fp,H' b=none) E s1) E s
 done:∀(X:Cx),X.prog=P->X.w=w->X.K=K->X.calm=true->∀(i:Nat)(aB:List (Addr×Obj))(s:bq)(σ:St)(H:Hp)(E:Value->bq->Prop),Inv X aB σ H s->(∀b∈fp,zG X aB H b)->tn i s.heap->J.stop i H->
  bj (model P w) X.A (qj (.ref it)) (λr s1=>r=none/\Inv X aB σ H s1) E s
 self:∀(A:dZ)(i:Nat)(s:bq)(Q:Value->bq->Prop)(E:Value->bq->Prop),tn i s.heap->Q (.ref it) s->bj (model P w) A (OZ (.ref it)) Q E s
abbrev TI:=St->Hp->(It->Hp->Prop)->Prop
def PIE(X:Cx)(aB:List (Addr×Obj))(σ:St)(tg:fU)(R:It->Hp->Prop)(itv:Value)(s2:bq):Prop:=
 ∃it fp tn J H',itv=.ref it/\Inv X aB σ H' s2/\Turn X.prog X.w X.K tg J fp it tn/\tn 0 s2.heap/\(∀b∈fp,zG X aB H' b)/\R J H'
def PI(X:Cx)(tg iter:fU)(wi:TI):Prop:=
 ∀aB s σ H R,Inv X aB σ H s->wi σ H R->
  bj (model X.prog X.w) X.A (eval iter X.env) (λv s1=>bj (model X.prog X.w) X.A (OZ v) (PIE X aB σ tg R) X.xe s1) X.xe s
def LH            (q : s.heap.get? it = some o) (z : o.cls = .type n) (hd : o.data = .fields vs)
    (B : ["enumerate", "zip", "dict_itemiterator", "dict_reverseitemiterator", "odict_iterator", "itertools.zip_longest", "itertools.pairwise"].contains n = false) (j : Q () s) : bj M A (vo D (.ref it) u) Q E s := by
  delta vo
  cases D <;> first
    | exact aU j
    | (cases u <;> first
        | exact aU j
        | (refine aA (wpAny_load q ?_)
           rw [z, hd]
           show bj M A (if (["enumerate", "zip", "dict_itemiterator", "dict_reverseitemiterator", "odict_iterator", "itertools.zip_longest", "itertools.pairwise"].contains n && vs[0]? == some (gX _)) = true then _ else _) Q E s
           rw [aa (by intro h; rw [B, SW]at h; cases h)]
           exact aU j))
def O9(K:ao)(a:Addr):It:=
 #[λi H=>∃xs x,bW K H a xs/\xs[i]?>x,λi H x H'=>H'=H/\∀xs,bW K H a xs->xs[i]?>x,λi H=>∃xs,bW K H a xs/\↑xs<=i]
def Z8(K:ao)(a:Addr):It:=
 #[λi H=>∃xs x,f9 K H a xs/\xs[i]?>x,λi H x H'=>H'=H/\∀xs,f9 K H a xs->xs[i]?>x,λi H=>∃xs,f9 K H a xs/\↑xs<=i]
def Gf(lo:Int)(n:Nat):It:=#[λi _=>i<n,λi H x H'=>H'=H/\x=.int (lo+i),λi _=>n<=i]
def OE{K:ao}(a it):Turn P w K tg (O9 K a) [it] it (λi h=>h.IsListIter it a i) where
 mem:=sP
 obj:=λi h st b j=>by
  let e:b=it:=by simpa using j
  subst e;let#[o,e,c,d]:=st;exact#[o,e,λv z=>by rw[d]at z;cases z]
 keep:=λi h h' st k=>st.at λo e=>k it sP o e;item:=by intro X B hw D O i aB s σ H E I hf st F;subst B hw D;let#[xs,x,q,G]:=F;let#[J,L,p,hz]:=I.list q;let#[u,S,U]:=L.get G;let#[f0,f1,f2,M,f4,N]:=hf it sP;refine wpAny_pyNext_list_item st p.isList (x:=u) (by simpa using S) λh' n Y=>?_;let Z:Inv X aB σ H {s with heap:=h'}:=I.turned (t':=s.toks) (λb o j e=>(Y.2 b j).trans e) f0 f1 M f4 N;let#[o,e,c,d]:=id n;exact#[u,rfl,LH (s:={s with heap:=h'}) e c d dC #[x,H,Z,U,#[rfl,λys hy=>by rw[I.wH hy q];exact G],n,λb j=>(hf b j).1]]
 done:=by intro X B hw D O i aB s σ H E I hf st F;subst B hw D;let#[xs,q,G]:=F;let#[J,L,p,hz]:=I.list q;let#[f0,f1,f2,M,f4,N]:=hf it sP;let hl:=↑L;exact wpAny_pyNext_list_end (I.ok.hd O) st p.isList (by simp;omega) λh' eb=>#[rfl,I.turned (t':=s.toks) (λb o j e=>eb b o j e) f0 f1 M f4 N]
 self:=λ_ _ _ _ _ st h=>wpAny_pyIter_listiter st h
def K1{K:ao}(a it):Turn P w K tg (Z8 K a) [it] it (λi h=>h.IsTupleIter it a i) where
 mem:=sP
 obj:=λi h st b j=>by
  let e:b=it:=by simpa using j
  subst e;let#[o,e,c,d]:=st;exact#[o,e,λv z=>by rw[d]at z;cases z]
 keep:=λi h h' st k=>st.at λo e=>k it sP o e;item:=by intro X D hw F O i aB s σ H E I hf st G;subst D hw F;let#[xs,x,B,J]:=G;let#[n,L,p,hz]:=I.tuple B;let#[u,S,U]:=L.get J;let#[f0,f1,f2,M,f4,N]:=hf it sP;refine wpAny_pyNext_tuple_item st (show s.heap.IsTuple a n.toArray from p) (x:=u) (by simpa using S) λh' q Y=>?_;let Z:Inv X aB σ H {s with heap:=h'}:=I.turned (t':=s.toks) (λb o j e=>(Y.2 b j).trans e) f0 f1 M f4 N;let#[o,e,c,d]:=id q;exact#[u,rfl,LH (s:={s with heap:=h'}) e c d dC #[x,H,Z,U,#[rfl,λys hy=>by rw[I.OC hy B];exact J],q,λb j=>(hf b j).1]]
 done:=by intro X D hw F O i aB s σ H E I hf st G;subst D hw F;let#[xs,B,J]:=G;let#[n,L,p,hz]:=I.tuple B;let#[f0,f1,f2,M,f4,N]:=hf it sP;let hl:=↑L;exact wpAny_pyNext_tuple_end (I.ok.hd O) st (show s.heap.IsTuple a n.toArray from p) (by simp;omega) λh' eb=>#[rfl,I.turned (t':=s.toks) (λb o j e=>eb b o j e) f0 f1 M f4 N]
 self:=λ_ _ _ _ _ st h=>wpAny_pyIter_tupleiter st h
def K0{K:ao}(it)(lo)(n):Turn P w K Y (Gf lo n) [it] it (λi h=>IsRangeIter h it (lo+(i:Nat)*1) ((n:Int)-(i:Nat)) 1) where
 mem:=sP
 obj:=λi h st b j=>by
  let e:b=it:=by simpa using j
  subst e;exact#[_,st,λv z=>by let M:Data.fields _=Data.cell v:=z;cases M]
 keep:=λi h h' st k=>k it sP _ st;item:=by intro X B hw D F i aB s σ H E I hf st G;subst B hw D;let#[f0,f1,f2,J,f4,L]:=hf it sP;let W:=Walks.range (prog:=X.prog) (w:=X.w) (I.ok.hd F) it lo 1 n;refine W.item i s _ _ G st λv h' tk N q O=>?_;obtain⟨t,rfl⟩:=N;let S:Inv X aB σ H {s with heap:=h',toks:=tk}:=I.turned (λb o j e=>O b o (by simpa using j) e) f0 f1 J f4 L;refine#[_,rfl,LH (s:={s with heap:=h',toks:=tk}) (n:="range_iterator") q rfl rfl dC #[.int<|lo+i,H,S,#[t,?_],#[rfl,rfl],q,λb j=>(hf b j).1]];rw[AT]
 done:=by intro X B hw D F i aB s σ H E I hf st G;subst B hw D;let#[f0,f1,f2,J,f4,L]:=hf it sP;exact wpAny_pyNext_range_end (I.ok.hd F) st (by let:n<=i:=G;omega) λh' U=>#[rfl,I.turned (t':=s.toks) (λb o j e=>U b o j e) f0 f1 J f4 L]
 self:=λ_ _ _ _ _ st h=>wpAny_pyIter_rangeiter st h
section
variable{X:Cx}{tg:fU}
def D3(K:ao)(tl:TE):TI:=λσ H R=>tl σ H λx H1=>∃a,x=.ref a/\(∃xs,bW K H1 a xs)/\R (O9 K a) H1
def aa9(K:ao)(tl:TE):TI:=λσ H R=>tl σ H λx H1=>∃a,x=.ref a/\(∃xs,f9 K H1 a xs)/\R (Z8 K a) H1
def Ur(n:PE X l tl):PI X J l (D3 X.K tl):=by
 intro aB s σ H R I h;refine gN (n aB s σ H _ I h) λv s1#[x,H1,j,z,B]=>?_;let#[a,e,#[xs,D],q]:=B;subst e;cases z;let#[F,L,p,hz]:=j.list D;refine wpAny_pyIter_list p.isList ?_;refine#[s1.heap.objs.size,[s1.heap.objs.size],_,_,H1,rfl,j.kept (t':=s1.toks) λb o e=>aF _ e,OE a _,#[_,bw _ rfl,rfl,rfl],λb G=>?_,q];let e:b=s1.heap.objs.size:=by simpa using G
 subst e;exact j.JC (aI _) (j.fm.fresh<|aI _)
def Yc(z:PE X l tl):PI X J l (aa9 X.K tl):=by
 intro aB s σ H R I h;refine gN (z aB s σ H _ I h) λv s1#[x,H1,j,B,D]=>?_;let#[a,e,#[xs,F],q]:=D;subst e;cases B;let#[n,L,p,hz]:=j.tuple F;refine wpAny_pyIter_tuple (show s1.heap.IsTuple a n.toArray from p) ?_;refine#[s1.heap.objs.size,[s1.heap.objs.size],_,_,H1,rfl,j.kept (t':=s1.toks) λb o e=>aF _ e,K1 a _,#[_,bw _ rfl,rfl,rfl],λb G=>?_,q];let e:b=s1.heap.objs.size:=by simpa using G
 subst e;exact j.JC (aI _) (j.fm.fresh<|aI _)
def HZ{lo j:Int}(I:Inv X aB σ H s)(z:-(2^62)<=lo)(B:lo<2^62)(D:-(2^62)<=j)(F:j<2^62)
  (q:R (Gf lo (j-lo).toNat) H):bj (model X.prog X.w) X.A (OZ<|.ref s.heap.objs.size) (PIE X aB σ M R) E {s with heap:=s.heap.push {cls:=.type "range",data:=.fields (List.toArray [.int lo t,.int j u,.int 1 v])},toks:=tk}:=by
 refine wpAny_pyIter_range (xX ..) (small_one z B D F) ?_;let n:Inv X aB σ H {s with heap:=s.heap.push {cls:=.type "range",data:=.fields (List.toArray [.int lo t,.int j u,.int 1 v])},toks:=tk}:=I.kept λb o e=>aF _ e;refine#[(s.heap.push {cls:=.type "range",data:=.fields (List.toArray [.int lo t,.int j u,.int 1 v])}).objs.size,[(s.heap.push {cls:=.type "range",data:=.fields (List.toArray [.int lo t,.int j u,.int 1 v])}).objs.size],_,_,H,rfl,
  n.kept (t':=tk) λb o e=>aF _ e,K0 _ lo (j-lo).toNat,?_,λb G=>?_,q]
 .let J:lo+((0:Nat):Int)*1=lo:=sP;let L:(((j-lo).toNat:Nat):Int)-((0:Nat):Int)=jP lo j 1:=by rw[Me];split<;>omega
  show IsRangeIter _ _ (lo+((0:Nat):Int)*1) ((((j-lo).toNat:Nat):Int)-((0:Nat):Int)) 1;rw[J,L];exact bw _ rfl
 .let e:b=(s.heap.push {cls:=.type "range",data:=.fields (List.toArray [.int lo t,.int j u,.int 1 v])}).objs.size:=by simpa using G
  subst e;exact n.JC (aI _) (n.fm.fresh<|aI _)
def VZ(ta:TA):TI:=λσ H R=>ta σ H λvs H1=>∃j,vs=[.int j]/\-(2^62)<=j/\j<2^62/\R (Gf 0 j.toNat) H1
def V0(ta:TA):TI:=λσ H R=>ta σ H λvs H1=>∃i j,vs=[.int i,.int j]/\(-(2^62)<=i/\i<2^62/\-(2^62)<=j/\j<2^62)/\R (Gf i (j-i).toNat) H1
def jq(z:Gl X "range")(hm:X.mg "range"=none)(B:PA X [a] D)(F:bi [a] X.env=[(false,eval a X.env)]:=by rfl):PI X N (.Call (.Name "range" p) [a] [] pos) (VZ D):=by
 intro aB s σ H R I h;refine Call_<|vn I z hm boot_range<|gQ (gN (B pos aB s σ H _ I h) λus s1#[vs,H1,G,J,n]=>?_) F rfl;obtain⟨j,e,n,L,q⟩:=n;subst e;cases J with
 |cons r M=>
  cases M
  obtain⟨t,rfl⟩:=r;exact call_range_1 (HZ G oM oM n L<|by simpa using q)
def N4(D:Gl X "range")(hm:X.mg "range"=none)(F:PA X [a,b] G)(J:bi [a,b] X.env=[(false,eval a X.env),(false,eval b X.env)]:=by rfl)(n:bi [b] X.env=[(false,eval b X.env)]:=by rfl):
  PI X Y (.Call (.Name "range" p) [a,b] [] pos) (V0 G):=by
 intro aB s σ H R I h;refine Call_<|vn I D hm boot_range<|gQ (gN (F pos aB s σ H _ I h) λus s1#[vs,H1,L,M,z]=>?_) (by rw[J,n]) (by rw[n];rfl);obtain⟨i,j,e,⟨z,N,O,S⟩,q⟩:=z;subst e;cases M with
 |cons r B=>
  cases B with
  |cons U B=>
   cases B
   obtain⟨t,rfl⟩:=r;obtain⟨t',rfl⟩:=U;exact call_range_2 (HZ L z N O S q)
def YN(wi:TI)(g:TG)(tb:TS):TS:=λD σ H=>wi σ H λJ H1=>∃W:Nat->Nat->St->Hp->Prop,(∃m,W 0 m σ H1)/\∀i m σ H,W i m σ H->
 (J.stop i H/\D.nx σ H)\/(J.go i H/\∃N:St->Hp->Prop,(∀σ' H',N σ' H'->∃m',m'<m/\W (i+1) m' σ' H')/\∀x H',J.MJ i H x H'->g x σ H' λσ2 H2=>tb {D with nx:=N,ct:=N,bk:=D.nx} σ2 H2)
def BZ(fp:List Addr)(h:Heap):List (Addr×Obj):=fp.filterMap λb=>(h.get? b).map λo=>(b,o)
def vr(j:b∈n)(e:h.get? b>o):(b,o)∈BZ n h:=dS.mpr #[b,j,by rw[e];rfl]
def NY(j:p∈BZ n h):p.1∈n/\h.get? p.1>p.2:=by
 let#[b,z,e]:=dS.mp j;cases q:h.get? b with
 |none=>rw[q]at e;cases e
 |some o=>
  rw[q]at e;let B:(b,o)=p:=aO e;subst B;exact#[z,q]
def Inv.pinned(I:Inv X aB σ H s)(hf:∀b∈j,zG X aB H b)(B:∀b∈j,∃o,s.heap.get? b>o/\∀v,o.data≠.cell v):Inv X (aB++BZ j s.heap) σ H s:=
 I.L' λp D=>(aM.mp D).elim (λz=>I.pin p<|bE _ z) λz=>by let#[n,e]:=NY z;let#[f0,f1,f2,_]:=hf p.1 n;let#[o,q,d]:=B p.1 n;rw[e]at q;cases q;exact#[e,f0,f1,f2,d]
def Inv.xK(I:Inv X (aB++pl) σ H s):Inv X aB σ H s:=I.L' λp j=>I.pin p (bE _<|bf _ j)
def dM(M:PassesOwn (model X.prog X.w) X.A X.env X.xe)(hc:X.calm=true)(hi:PI X tg iter wi)(hg:PG X tg g)(j:DD X body tb)
  (hs:∀x,rQ iter X.env x=pure x:=by intro _;rfl):PS X (.For tg iter body [] pos) (YN wi g tb):=by
 intro aB s σ H D I h;refine wpAny_For (gN (hi aB s σ H _ I h) λv s1 h1=>gN h1 λitv s2 h2=>?_) hs;let#[it,O,tn,J,H2,e,I2,T,st2,f2,W,#[m0,w0],turn]:=h2;subst e;let q:∀{F:Hp},(∀b∈O,F b=none)->∀b∈O,zG X aB F b:=λhn b j=>#[hn b j,(f2 b j).2];refine codeAny_forLoop_any (λn s'=>∃i σ' F,Inv X aB σ' F s'/\tn i s'.heap/\(∀b∈O,F b=none)/\W i n σ' F) ?_ m0 #[0,σ,H2,I2,st2,λb j=>(f2 b j).1,w0];rintro n s3 ⟨i,σ3,Z,I3,S,U,w3⟩;obtain⟨stop,qn⟩|⟨go,N,hN,step⟩:=turn i n σ3 Z w3
 .refine jO M<|gN (T.done X rfl rfl rfl hc i aB s3 σ3 Z X.xe I3 (q U) S stop) λr s4#[hr,I4]=>?_;subst hr;exact lO #[σ3,Z,I4,qn]
 .refine jO M<|gN (T.item X rfl rfl rfl hc i aB s3 σ3 Z X.xe I3 (q U) S go) λr s4#[u,hr,h4]=>?_;subst hr;refine jO M<|gN h4 λ_ s5#[x,H5,I5,r5,y5,L,fr5]=>?_;let I5':=I5.pinned (q fr5) (T.obj _ _ L);refine jO M<|gN (hg _ s5 σ3 H5 x u _ I5' r5<|step x H5 y5) λ_ s6#[σ6,H6,I6,q6]=>?_;refine jO M<|gN (j _ s6 σ6 H6 _ I6 q6) λf s7 G=>?_;let again:∀{σ7:St}{z:Hp},Inv X (aB++BZ O s5.heap) σ7 z s7->N σ7 z->∃m,m<n/\∃i σ' F,Inv X aB σ' F s7/\tn i s7.heap/\(∀b∈O,F b=none)/\W i m σ' F:=λ{σ7 z} B Y=>by let#[m',hm,w7]:=hN σ7 z Y;refine#[m',hm,i+1,σ7,z,B.xK,T.keep _ _ _ L λb j o e=>(B.pin (b,o) (bE _<|bE _<|vr j e)).1,λb j=>?_,w7];let#[o,e,d]:=T.obj _ _ L b j;exact(B.pin (b,o) (bE _<|bE _<|vr j e)).2.1
  cases f with
  |next=>have#[σ7,z,B,Y]:=G;exact again B Y
  |cont=>have#[σ7,z,B,Y]:=G;exact again B Y
  |brk=>have#[σ7,z,B,G]:=G;exact#[σ7,z,B.xK,G]
  |ret v=>have#[x7,σ7,z,B,r7,G]:=G;exact#[x7,σ7,z,B.xK,r7,G]
end
def eH{K:ao}{g:TG}{B:TS}{D:Ends}(Pv:Nat->St->Hp->Prop)(h0:Pv 0 σ H)(G:∀i σ H,i<=↑xs->Pv i σ H->bW K H a xs)
  (I:∀i x σ H,xs[i]?>x->Pv i σ H->g x σ H λσ2 z=>B {D with nx:=Pv<|i+1,ct:=Pv<|i+1,bk:=D.nx} σ2 z)(hd:∀σ H,Pv ↑xs σ H->D.nx σ H):
  ∃W:Nat->Nat->St->Hp->Prop,(∃m,W 0 m σ H)/\∀i m σ H,W i m σ H->
   ((O9 K a).stop i H/\D.nx σ H)\/((O9 K a).go i H/\∃N,(∀σ' j,N σ' j->∃F,F<m/\W (i+1) F σ' j)/\∀x j,(O9 K a).MJ i H x j->g x σ j λσ2 z=>B {D with nx:=N,ct:=N,bk:=D.nx} σ2 z):=by
 exists λi m σ H=>m=↑xs-i/\i<=↑xs/\Pv i σ H,#[↑xs,sP,cP _,h0];rintro i m σ H ⟨rfl,J,p⟩;let q:=G i σ H J p;by_cases n:i<↑xs
 .refine .inr #[#[xs,xs[i],q,by simp[n]],Pv<|i+1,λσ' j L=>#[↑xs-(i+1),oM,rfl,n,L],λx j y=>?_];let#[e,y]:=y;subst e;exact I i x σ _ (y xs q) p
 .let e:i=↑xs:=oM;subst e;exact .inl #[#[xs,q,aI _],hd σ H p]
def wm{K:ao}{g:TG}{B:TS}{D:Ends}(Pv:Nat->St->Hp->Prop)(h0:Pv 0 σ H)(G:∀i σ H,i<=↑xs->Pv i σ H->f9 K H a xs)
  (I:∀i x σ H,xs[i]?>x->Pv i σ H->g x σ H λσ2 z=>B {D with nx:=Pv<|i+1,ct:=Pv<|i+1,bk:=D.nx} σ2 z)(hd:∀σ H,Pv ↑xs σ H->D.nx σ H):
  ∃W:Nat->Nat->St->Hp->Prop,(∃m,W 0 m σ H)/\∀i m σ H,W i m σ H->
   ((Z8 K a).stop i H/\D.nx σ H)\/((Z8 K a).go i H/\∃N,(∀σ' j,N σ' j->∃F,F<m/\W (i+1) F σ' j)/\∀x j,(Z8 K a).MJ i H x j->g x σ j λσ2 z=>B {D with nx:=N,ct:=N,bk:=D.nx} σ2 z):=by
 exists λi m σ H=>m=↑xs-i/\i<=↑xs/\Pv i σ H,#[↑xs,sP,cP _,h0];rintro i m σ H ⟨rfl,J,p⟩;let q:=G i σ H J p;by_cases n:i<↑xs
 .refine .inr #[#[xs,xs[i],q,by simp[n]],Pv<|i+1,λσ' j L=>#[↑xs-(i+1),oM,rfl,n,L],λx j y=>?_];let#[e,y]:=y;subst e;exact I i x σ _ (y xs q) p
 .let e:i=↑xs:=oM;subst e;exact .inl #[#[xs,q,aI _],hd σ H p]
def l5{lo:Int}{g:TG}{B:TS}{D:Ends}(Pv:Nat->St->Hp->Prop)(h0:Pv 0 σ H)
  (G:∀i σ H,i<n->Pv i σ H->g (.int<|lo+i) σ H λσ2 z=>B {D with nx:=Pv<|i+1,ct:=Pv<|i+1,bk:=D.nx} σ2 z)(hd:∀σ H,Pv n σ H->D.nx σ H):
  ∃W:Nat->Nat->St->Hp->Prop,(∃m,W 0 m σ H)/\∀i m σ H,W i m σ H->
   ((Gf lo n).stop i H/\D.nx σ H)\/((Gf lo n).go i H/\∃N,(∀σ' j,N σ' j->∃F,F<m/\W (i+1) F σ' j)/\∀x j,(Gf lo n).MJ i H x j->g x σ j λσ2 z=>B {D with nx:=N,ct:=N,bk:=D.nx} σ2 z):=by
 exists λi m σ H=>m=n-i/\i<=n/\Pv i σ H,#[n,sP,cP _,h0];rintro i m σ H ⟨rfl,J,p⟩;by_cases q:i<n
 .refine .inr #[q,Pv<|i+1,λσ' j I=>#[n-(i+1),oM,rfl,q,I],λx j y=>?_];obtain⟨e,y⟩:=y;subst e y;exact G i σ _ q p
 .let e:i=n:=oM;subst e;exact .inl #[aI _,hd σ H p]
abbrev R2:=V->V->Hp->VK->Prop
def uB(X:Cx)(f:Value->Value->Sem Value)(r:R2):Prop:=
 ∀aB s σ H x y v u Q,Inv X aB σ H s->RelV x v->RelV y u->r x y H Q->
  bj (model X.prog X.w) X.A (f v u) (EP X aB σ Q) X.xe s
def UnR(X:Cx)(f:Value->Sem Value)(r:V->Hp->VK->Prop):Prop:=
 ∀aB s σ H x v Q,Inv X aB σ H s->RelV x v->r x H Q->
  bj (model X.prog X.w) X.A (f v) (EP X aB σ Q) X.xe s
def iN(X:Cx)(f:Value)(r:List V->Hp->VK->Prop):Prop:=
 ∀aB s σ H xs us Q,Inv X aB σ H s->Vals xs us->r xs H Q->
  bj (model X.prog X.w) X.A (call f us) (EP X aB σ Q) X.xe s
def Ox(r:R2)(ta tb:TE):TE:=λσ H Q=>ta σ H λx H1=>tb σ H1 λy H2=>r x y H2 Q
def tUn(r:V->Hp->VK->Prop)(ta:TE):TE:=λσ H Q=>ta σ H λx H1=>r x H1 Q
def rI(C:Int->Int->Prop)(g:Int->Int->V):R2:=λx y H Q=>∃i j,x=.int i/\y=.int j/\C i j/\Q (g i j) H
def SS(g:Int->Int->V):R2:=λx y H Q=>∃i j,x=.int i/\y=.int j/\Q (g i j) H
def rU(g:Int->V):V->Hp->VK->Prop:=λx H Q=>∃i,x=.int i/\Q (g i) H
section
variable{X:Cx}{a b c:fU}{ta tb tc:TE}{pos:Pos}
def WZ(n:PE X a q)(z:PE X b B){R:V->V->Hp->Prop}(I:Inv X aB σ H s)
  (h:q σ H λx H1=>B σ H1 λy j=>R x y j){f:Value->Value->Sem Value}
  (hf:∀v u s2 x y j,Inv X aB σ j s2->RelV x v->RelV y u->R x y j->bj (model X.prog X.w) X.A (f v u) Q X.xe s2):
  bj (model X.prog X.w) X.A (eval a X.env) (λv D=>bj (model X.prog X.w) X.A (eval b X.env) (λu F=>bj (model X.prog X.w) X.A (f v u) Q X.xe F) X.xe D) X.xe s:=by
 refine gN (n aB s σ H _ I h) λv s1#[x,H1,G,J,L]=>?_;refine gN (z aB s1 σ H1 _ G L) λu s2#[y,j,M,N,O]=>?_;exact hf v u s2 x y j M J N O
def fV(j:uB X (xM op) r)(n:PE X a z)(B:PE X b D):PE X (.BinOp a op b pos) (Ox r z D):=by intro aB s σ H Q I h;exact wpAny_BinOp (WZ n B I h λv u s2 x y F G J L q=>j aB s2 σ F x y v u Q G J L q)
def oX(j:UnR X (unaryOp op) r)(n:PE X a q):PE X (.UnaryOp op a pos) (tUn r q):=by intro aB s σ H Q I h;exact UnaryOp_ (gN (n aB s σ H _ I h) λv s1#[x,H1,z,B,D]=>j aB s1 σ H1 x v Q z B D)
def opI{g:Int->Int->Int}
  (rule:∀i j t u s Q E,C i j->Q (.int (g i j) s.toks) {s with toks:=s.toks+1}->bj (model X.prog X.w) X.A (f (.int i t) (.int j u)) Q E s):
  uB X f (rI C λi j=>.int<|g i j):=by
 intro aB s σ H x y v u Q I n z h;obtain⟨i,j,rfl,rfl,B,q⟩:=h;obtain⟨t,rfl⟩:=n;obtain⟨t',rfl⟩:=z;exact rule i j t t' s _ _ B #[.int<|g i j,H,I.tok _,#[_,rfl],q]
def abp{g:Int->Int->Int}
  (rule:∀i j t u s Q E,Q (.int (g i j) s.toks) {s with toks:=s.toks+1}->bj (model X.prog X.w) X.A (f (.int i t) (.int j u)) Q E s):
  uB X f (SS λi j=>.int<|g i j):=by
 intro aB s σ H x y v u Q I n z h;obtain⟨i,j,rfl,rfl,q⟩:=h;obtain⟨t,rfl⟩:=n;obtain⟨t',rfl⟩:=z;exact rule i j t t' s _ _ #[.int<|g i j,H,I.tok _,#[_,rfl],q]
def Ug{g:Int->Int->Bool}
  (rule:∀i j t u s Q E,Q (.bool<|g i j) s->bj (model X.prog X.w) X.A (f (.int i t) (.int j u)) Q E s):
  uB X f (SS λi j=>.bl<|g i j):=by
 intro aB s σ H x y v u Q I n z h;obtain⟨i,j,rfl,rfl,q⟩:=h;obtain⟨t,rfl⟩:=n;obtain⟨t',rfl⟩:=z;exact rule i j t t' s _ _ #[.bl<|g i j,H,I,rfl,q]
def ac1(i j:Int):Prop:=0<j/\j<1073741824
def O4(i j:Int):Prop:=(-(2^64)<i/\i<2^64)\/(-(2^64)<j/\j<2^64)
theorem O4.ok(h:O4 i j):IntMulOk i j:=by
 obtain⟨n,q⟩|⟨n,q⟩:=h
 .exact .of_left (intBits_le_64 n q)
 .exact .of_right (intBits_le_64 n q)
def jL:uB X (xM .Add) (SS λi j=>.int<|i+j):=abp λ_ _ _ _ _ _ _ q=>add_int q
def qN:uB X (xM .Sub) (SS λi j=>.int<|i-j):=abp λ_ _ _ _ _ _ _ q=>sub_int q
def QI:uB X (xM .Mult) (rI O4 λi j=>.int<|i*j):=opI λ_ _ _ _ _ _ _ n q=>mul_int q n.ok
def Uh:uB X (xM .FloorDiv) (rI ac1 λi j=>.int<|i/j):=opI λi j _ _ _ _ _ n q=>by let z:(0:Int)<j:=n.1;let B:j<1073741824:=n.2;exact floordiv_int oM (by rw[Int.fdiv_eq_ediv_of_nonneg i oM];exact q) (.inl<|DF oM)
def unI{g:Int->Int}
  (rule:∀i t s Q E,Q (.int (g i) s.toks) {s with toks:=s.toks+1}->bj (model X.prog X.w) X.A (f<|.int i t) Q E s):
  UnR X f (rU λi=>.int<|g i):=by
 intro aB s σ H x v Q I j h;obtain⟨i,rfl,q⟩:=h;obtain⟨t,rfl⟩:=j;exact rule i t s _ _ #[.int<|g i,H,I.tok _,#[_,rfl],q]
def ls:UnR X (unaryOp .USub) (rU λi=>.int<|-i):=unI λ_ _ _ _ _ q=>neg_int q
end
def UU:V->V->Bool
 |.fP,.fP=>true|.fP,.int _=>true|.int _,.fP=>true|.fP,.bl _=>true|.bl _,.fP=>true|.fP,.str _=>true|.str _,.fP=>true
 |.int _,.int _=>true|.bl _,.bl _=>true|.str _,.str _=>true|.GD _,.GD _=>true
 |.int _,.str _=>true|.str _,.int _=>true|.bl _,.str _=>true|.str _,.bl _=>true
 |_,_=>false
def rEq:R2:=λx y H Q=>UU x y=true/\Q (.bl<|decide<|x=y) H
def rNe:R2:=λx y H Q=>UU x y=true/\Q (.bl<|!decide (x=y)) H
def Ls:decide (V.int i=V.int j)=(i==j):=by rw[b7];simp
def PK:decide (V.bl i=V.bl j)=(i==j):=by rw[b7];simp
def Lu:decide (V.str i=V.str j)=(i==j):=by rw[b7];simp
def Lr:decide (V.GD i=V.GD j)=(i.toList==j.toList):=by rw[b7];cases i;cases j;simp
section
variable{X:Cx}{a b c:fU}{ta tb tc:TE}{pos:Pos}
def fv(I:Inv X aB σ H s)(q:Q (.bl k) H)(e:k=j):EP X aB σ Q (.bool j) s:=by subst e;exact#[.bl k,H,I,rfl,q]
def il:uB X (d7 .Eq) rEq:=by
 intro aB s σ H x y v u Q I rx ry h;let#[hs,q]:=h;cases x with
 |fP=>
  cases rx
  cases y with
  |fP=>cases ry;exact PySem.EqNone.eq_none_none (fv I q sP)
  |bl j=>cases ry;exact PySem.EqNone.eq_none_bool (fv I q sP)
  |int j=>obtain⟨t',rfl⟩:=ry;exact PySem.EqNone.eq_none_int (fv I q sP)
  |str j=>obtain⟨t',rfl⟩:=ry;exact PySem.EqNone.eq_none_str (fv I q sP)
  |_=>exact ae (show false=true from hs) bQ
 |bl i=>
  cases rx
  cases y with
  |fP=>cases ry;exact PySem.EqNone.eq_bool_none (fv I q sP)
  |bl j=>cases ry;exact eq_bool (fv I q PK)
  |str j=>obtain⟨t',rfl⟩:=ry;exact Zb (fv I q sP)
  |_=>exact ae (show false=true from hs) bQ
 |int i=>
  obtain⟨t,rfl⟩:=rx;cases y with
  |fP=>cases ry;exact PySem.EqNone.eq_int_none (fv I q sP)
  |int j=>obtain⟨t',rfl⟩:=ry;exact eq_int (fv I q Ls)
  |str j=>obtain⟨t',rfl⟩:=ry;exact Zc (fv I q sP)
  |_=>exact ae (show false=true from hs) bQ
 |str i=>
  obtain⟨t,rfl⟩:=rx;cases y with
  |fP=>cases ry;exact PySem.EqNone.eq_str_none (fv I q sP)
  |bl j=>cases ry;exact Zd (fv I q sP)
  |int j=>obtain⟨t',rfl⟩:=ry;exact Ze (fv I q sP)
  |str j=>obtain⟨t',rfl⟩:=ry;exact eq_str (fv I q Lu)
  |_=>exact ae (show false=true from hs) bQ
 |GD i=>
  obtain⟨t,rfl⟩:=rx;cases y with
  |GD j=>obtain⟨t',rfl⟩:=ry;exact PySem.W.eq_bytes (fv I q Lr)
  |_=>exact ae (show false=true from hs) bQ
 |_=>cases y<;>exact ae (show false=true from hs) bQ
def LY:uB X (d7 .NotEq) rNe:=by
 intro aB s σ H x y v u Q I rx ry h;let#[hs,q]:=h;cases x with
 |fP=>
  cases rx
  cases y with
  |fP=>cases ry;exact PySem.EqNone.ne_none_none (fv I q sP)
  |bl j=>cases ry;exact PySem.EqNone.ne_none_bool (fv I q sP)
  |int j=>obtain⟨t',rfl⟩:=ry;exact PySem.EqNone.ne_none_int (fv I q sP)
  |str j=>obtain⟨t',rfl⟩:=ry;exact PySem.EqNone.ne_none_str (fv I q sP)
  |_=>exact ae (show false=true from hs) bQ
 |bl i=>
  cases rx
  cases y with
  |fP=>cases ry;exact PySem.EqNone.ne_bool_none (fv I q sP)
  |bl j=>cases ry;exact ne_bool (fv I q<|af not PK)
  |str j=>obtain⟨t',rfl⟩:=ry;exact Zf (fv I q sP)
  |_=>exact ae (show false=true from hs) bQ
 |int i=>
  obtain⟨t,rfl⟩:=rx;cases y with
  |fP=>cases ry;exact PySem.EqNone.ne_int_none (fv I q sP)
  |int j=>obtain⟨t',rfl⟩:=ry;exact ne_int (fv I q<|af not Ls)
  |str j=>obtain⟨t',rfl⟩:=ry;exact Zg (fv I q sP)
  |_=>exact ae (show false=true from hs) bQ
 |str i=>
  obtain⟨t,rfl⟩:=rx;cases y with
  |fP=>cases ry;exact PySem.EqNone.ne_str_none (fv I q sP)
  |bl j=>cases ry;exact Zh (fv I q sP)
  |int j=>obtain⟨t',rfl⟩:=ry;exact Zi (fv I q sP)
  |str j=>obtain⟨t',rfl⟩:=ry;exact ne_str (fv I q<|af not Lu)
  |_=>exact ae (show false=true from hs) bQ
 |GD i=>
  obtain⟨t,rfl⟩:=rx;cases y with
  |GD j=>obtain⟨t',rfl⟩:=ry;exact PySem.W.ne_bytes (fv I q<|af not Lr)
  |_=>exact ae (show false=true from hs) bQ
 |_=>cases y<;>exact ae (show false=true from hs) bQ
def kz:uB X (d7 .Lt) (SS λi j=>.bl<|decide<|i<j):=Ug λ_ _ _ _ _ _ _ q=>lt_int q
def zf:uB X (d7 .LtE) (SS λi j=>.bl<|decide<|i<=j):=Ug λ_ _ _ _ _ _ _ q=>le_int q
def om:uB X (d7 .Gt) (SS λi j=>.bl<|decide<|j<i):=Ug λ_ _ _ _ _ _ _ q=>gt_int q
def LX:uB X (d7 .GtE) (SS λi j=>.bl<|decide<|j<=i):=Ug λ_ _ _ _ _ _ _ q=>ge_int q
def X4:uB X (d7 .Is) (λx y H Q=>y=.fP/\Q (.bl<|decide<|x=.fP) H):=by
 intro aB s σ H x y v u Q I j n h;obtain⟨rfl,q⟩:=h;cases n;refine is_none_gen<|fv I q ?_;cases x<;>first
  |(cases j;rfl)
  |(obtain⟨t,rfl⟩:=j;rfl)
def Ui:uB X (d7 .IsNot) (λx y H Q=>y=.fP/\Q (.bl<|!decide (x=.fP)) H):=by
 intro aB s σ H x y v u Q I j n h;obtain⟨rfl,q⟩:=h;cases n;refine isnot_none_gen<|fv I q ?_;cases x<;>first
  |(cases j;rfl)
  |(obtain⟨t,rfl⟩:=j;rfl)
def b9(b)(h:op≠.In:=by decide)(j:op≠.NotIn:=by decide):n9 op b=false:=by
 let n:(op==CmpOp.In)=false:=by cases op<;>first|rfl|exact ae rfl h
 let q:(op==CmpOp.NotIn)=false:=by cases op<;>first|rfl|exact ae rfl j
 cases b<;>simp[n9,n,q]
def qS(j:uB X (d7 op) r)(n:PE X a z)(B:PE X b D)(hm:n9 op b=false):PE X (.Compare a [op] [b] pos) (Ox r z D):=by intro aB s σ H Q I h;exact wpAny_Compare1 (WZ n B I h λv u s2 x y F G J L q=>j aB s2 σ F x y v u Q G J L q) hm
def Cq(t:TE):TT:=λσ H Q=>t σ H λx H'=>∃k,x=.bl k/\Q k H'
def bG(j:uB X (d7 op) r)(n:PE X a q)(B:PE X b D)(hm:n9 op b=false):PT X (.Compare a [op] [b] pos) (Cq<|Ox r q D):=by
 intro aB s σ H Q I h;refine wpAny_isTrue_Compare1 (gN (n aB s σ H _ I h) λv s1#[x,H1,F,G,J]=>gN (B aB s1 σ H1 _ F J) λu s2#[y,L,M,N,O]=>
  gN (j aB s2 σ L x y v u _ M G N O) λc s3#[z,S,U,Y,k,e,Z]=>?_) hm
 subst e;cases Y;exact hX #[S,U,Z]
def KP(r r':R2)(ta tb tc:TE):TE:=λσ H Q=>ta σ H λx H1=>tb σ H1 λy H2=>r x y H2 λz H3=>∃k,z=.bl k/\
 (if k=true then tc σ H3 λw' H4=>r' y w' H4 Q else Q (.bl false) H3)
def BY(G:uB X (d7 op) r)(n:uB X (d7 j) J)(L:PE X a M)(N:PE X b O)(S:PE X c U)
  (hm:lastMarks [op,j] [b,c]=false:=by with_unfolding_all rfl):PE X (.Compare a [op,j] [b,c] pos) (KP r J M O U):=by
 intro aB s σ H Q I h;refine Compare_chain (gN (L aB s σ H _ I h) λv s1#[x,H1,Y,Z,q1]=>chain_link<|gN (N aB s1 σ H1 _ Y q1) λu s2#[y,H2,I2,q,q2]=>
  gN (G aB s2 σ H2 x y v u _ I2 Z q q2) λd s3#[z,B,D,r3,k,e,F]=>?_) hm
 subst e;cases r3;refine hX ?_;cases k with
 |false=>exact ite_ff #[.bl false,B,D,rfl,F]
 |true=>exact ite_tt (chain_last<|gN (S aB s3 σ B _ D F) λw' s4#[z',H4,I4,r4,q4]=>n aB s4 σ H4 y z' u w' Q I4 q r4 q4)
def QU(G:uB X (d7 op) r)(n:uB X (d7 j) J)(L:PE X a M)(N:PE X b O)(S:PE X c U)
  (hm:lastMarks [op,j] [b,c]=false:=by with_unfolding_all rfl):PT X (.Compare a [op,j] [b,c] pos) (Cq<|KP r J M O U):=by
 intro aB s σ H Q I h;refine isTrue_chain (gN (L aB s σ H _ I h) λv s1#[x,H1,Y,Z,q1]=>test_link<|gN (N aB s1 σ H1 _ Y q1) λu s2#[y,H2,I2,q,q2]=>
  gN (G aB s2 σ H2 x y v u _ I2 Z q q2) λd s3#[z,B,D,r3,k,e,F]=>?_) hm
 subst e;cases r3;refine hX ?_;cases k with
 |false=>
  let#[k',e',q']:=F;cases e';exact ite_ff #[B,D,q']
 |true=>
  refine ite_tt<|test_last<|gN (S aB s3 σ B _ D F) λw' s4#[z',H4,I4,r4,q4]=>gN (n aB s4 σ H4 y z' u w' _ I4 q r4 q4) λd' s5#[z2,H5,I5,r5,k2,e2,q5]=>?_;subst e2;cases r5;exact hX #[H5,I5,q5]
def BD:(sizeLine:Nat)<2^63:=by rw[aK];decide
def vals1(r:Vals [x] us):∃u,us=[u]/\RelV x u:=by
 cases r with
 |cons j n=>cases n;exact#[_,rfl,j]
def vals2(r:Vals [x,y] us):∃u j,us=[u,j]/\RelV x u/\RelV y j:=by
 cases r with
 |cons n q=>
  cases q with
  |cons z B=>cases B;exact#[_,_,rfl,n,z]
def x'(z:X.calm=true):iN X (.builtin "max") (λxs H Q=>∃i j,xs=[.int i,.int j]/\Q (.int (if GT.gt (j) (i)then j else i)) H):=by
 intro aB s σ H xs us Q I r h;obtain⟨i,j,rfl,q⟩:=h;obtain⟨u,B,rfl,⟨t,rfl⟩,⟨t',rfl⟩⟩:=vals2 r;refine max_two_ints (I.ok.hd z) λh' tk k=>#[_,H,I.kept k,?_,q];by_cases n:GT.gt (j) (i)
 .rw[ac n,ac n];exact#[_,rfl]
 .rw[aa n,aa n];exact#[_,rfl]
def wa:iN X (.type "str") (λxs H Q=>∃i,xs=[.int i]/\i.natAbs.log2<1920/\Q (.str<|toString i) H):=by intro aB s σ H xs us Q I r h;obtain⟨i,rfl,hz,q⟩:=h;obtain⟨u,rfl,t,rfl⟩:=vals1 r;exact PySem.P.str_of_int hz #[.str _,H,I.tok _,#[_,rfl],q]
def Py:iN X (.builtin "ord") (λxs H Q=>∃x,xs=[.str x]/\↑x=1/\Q (.int (x.cps.getD 0 0:Nat)) H):=by intro aB s σ H xs us Q I r h;obtain⟨x,rfl,hz,q⟩:=h;obtain⟨u,rfl,t,rfl⟩:=vals1 r;exact ord_of_one hz #[.int _,H,I.tok _,#[_,rfl],q]
end
structure Jl(h:Heap)(x dx C:Addr)(mA:Str->Option Value):Prop where
 obj:h.get? x>im C dx
 ns:h.Ns1 dx mA
 ne:dx≠x
def NM{h:Heap}(n:h.Ns1 B D):∃od,h.get? B>od/\∀name,rY name od>D name:=by
 let#[o,es,L,F,hd,G,_,hm]:=n;refine#[o,F,λname=>?_];let e:=hm name;delta nsFind findBy at e;rw[<-K8]at e;delta rY;rw[hd];dsimp only;split
 .rename_i y q;rw[q]at e;exact af some e
 .rename_i q;rw[q]at e;let a:es.toList.any (·.refKey)=false:=by rw[List.any_eq_false];intro y I;let#[z,t,j]:=G y<|Array.mem_toList_iff.mp I;simp[DictEntry.refKey,j]
  let J:¬es.toList.any (·.refKey)=true:=by rw[a];exact bQ
  rw[aa J];exact af some e
def Jl.look(I:Jl h x j C n):∃od,PySem.W.InstAt h x (im C j) C (some od)/\∀name,rY name od>n name:=
 let#[od,q,z]:=NM I.ns
 #[od,#[I.obj,rfl,rfl,q],z]
section
variable{prog:a7}{w:bS}{A:dZ}{E:Value->bq->Prop}{s:bq}{K:ao}{x dx C f:Addr}{mA:Str->Option Value}{name:Str}{v:Value}
def get_map(X:K.In s.heap)(I:Jl s.heap x G C n)(q:iT K C name=true)(z:ju K C=true)
  (B:cK K (.ref C) name>none)(D:n name>v)(j:Li v=true)(h:Q v {s with toks:=s.toks+1}):
  bj (model prog w) A (OW (.ref x) name expr) Q E s:=by
 let#[od,J,F]:=I.look;exact PySem.W.get_value X J (tX q).1 (PySem.W.findObj_own z B rfl<|by rw[F,D]) j h
def P7(X:K.In s.heap)(I:Jl s.heap x D C n)(j:iT K C name=true)
  (hf:cK K (.ref C) name>(some<|.ref f))(q:mT K (.ref f)=true)(z:n name=none)(h:Q (.ref f,[.ref x]) s):
  bj (model prog w) A (ub (.ref x) name pl) Q E s:=by
 let#[od,J,B]:=I.look;exact PySem.W.method_fn X J (tX j).1 (tX j).2 hf (beq_iff_eq.mp q) (by show(rY name od).map (·.isSome)>false;rw[B,z];rfl) h
def UX(X:K.In s.heap)(I:Jl s.heap x q C G)
  (L:cK K (.ref C) "__setattr__">(some<|.builtin "object.__setattr__"))(M:kQ K C=true)(N:yQ K C name>none)(O:ju K C=true)
  (hw:xL G ns)(hsz:↑ns<=sizeLine)
  (h:∀h',Jl h' x q C (λy=>if y=name then some v else G y)->iG q s.heap h'->Q () {s with heap:=h',toks:=s.toks+2}):
  bj (model prog w) A (Ii (.ref x) name v) Q E s:=by
 let#[od,J,hl]:=I.look;refine PySem.W.set_plain X J L (PySem.W.osa_open (s:={s with toks:=s.toks+1}) (r:=none) X J M N λb=>?_);let#[cd,S,z]:=PySem.W.any_some O;let U:s.heap.get? x>#[.ref C,some q,.plain,#[]]:=I.obj;refine aA (aU (aA (aA (wpAny_loadPart U (aA (Zj (s:={s with toks:=s.toks+1}) (PySem.W.looks_clsIn X S) ?_))))));rw[z];refine aU (a:=some q) (aA<|aU<|aA ?_);refine wpAny_nsSet1 (s:={s with toks:=s.toks+1}) I.ns λh' j n=>?_;let#[oD,Y,Z,B,D,F]:=j.count<|PySem.Within.cons name v hw;refine aA<|wpAny_lookBehind B (by rw[D];exact pastItsLine_dict<|bu F<|by rw[aQ];omega) ?_;exact aU (h _ #[(n.2 _<|eG I.ne).trans I.obj,j,I.ne] n)
def Qw(X:K.In s.heap)(hm:gU K C=true)
  (j:cK K (.ref C) "__init__">(some<|.ref f))(hf:PySem.W.typeIn K (.ref f)>.type "function")
  (h:mK (model prog w) (A.under (.builtin "type.__call__" #[.ref C::vs,kw])) (.call (.ref f) #[.ref (s.heap.objs.size+1)::vs,kw]) (PySem.W.InitBack (s.heap.objs.size+1) R)
   {s with heap:=(s.heap.push f7).push (im C s.heap.objs.size)}):
  mK (model prog w) A (.call (.ref C) #[vs,kw]) R s:=by
 let#[n,g,d,t,os]:=s;exact PySem.W.make_core (PySem.W.makes_of X hm) (PySem.W.looks_findIn X j) (λself=>PySem.W.bind_fn X self hf) (.inl rfl) h
end
def iu(f:Str)(v:V):List (Str×V)->List (Str×V)
 |[]=>[(f,v)]
 |(g,x)::r=>if g=f then(g,v)::r else(g,x)::iu f v r
def sU(f g)(v):∀fs,(iu f v fs).lookup g=if g=f then some v else fs.lookup g
 |[]=>by
  show jQ g [(f,v)]=_;by_cases h:g=f
  .let j:(g==f)=true:=beq_iff_eq.mpr h;simp only[jQ,j,ac h]
  .let j:(g==f)=false:=beq_eq_false_iff_ne.mpr h;simp only[jQ,j,aa h]
 |(k,x)::r=>by
  let q:=sU f g v r;rw[show iu f v ((k,x)::r)=(if k=f then(k,v)::r else(k,x)::iu f v r)from rfl];by_cases n:k=f
  .rw[ac n];by_cases h:g=k
   .let j:(g==k)=true:=beq_iff_eq.mpr h;simp only[jQ,j,ac (h.trans n)]
   .let j:(g==k)=false:=beq_eq_false_iff_ne.mpr h;simp only[jQ,j,aa (λe:g=f=>h<|e.trans n.symm)]
  .rw[aa n];by_cases h:g=k
   .let j:(g==k)=true:=beq_iff_eq.mpr h;simp only[jQ,j,aa (λe:g=f=>n<|h.symm.trans e)]
   .let j:(g==k)=false:=beq_eq_false_iff_ne.mpr h;simp only[jQ,j];exact q
def ym(f)(v):∀fs,f∈(iu f v fs).map (·.1)/\∀g,g∈fs.map (·.1)->g∈(iu f v fs).map (·.1)
 |[]=>#[by simp[iu],λg h=>by simp at h]
 |(k,x)::r=>by
  let#[n,q]:=ym f v r;rw[show iu f v ((k,x)::r)=(if k=f then(k,v)::r else(k,x)::iu f v r)from rfl];by_cases j:k=f
  .rw[ac j];subst j;exact#[sP,λg h=>by simpa using h]
  .rw[aa j];refine#[?_,λg h=>?_]
   .rw[bb];exact aR _ n
   .rw[bb]at h|-;obtain e|e:=aE.mp h
    .exact aE.mpr (.inl e)
    .exact aR _ (q g e)
def zb(f)(v):∀fs,↑(iu f v fs)<=↑fs+1
 |[]=>by simp[iu]
 |(k,x)::r=>by
  let n:=zb f v r;rw[show iu f v ((k,x)::r)=(if k=f then(k,v)::r else(k,x)::iu f v r)from rfl];by_cases j:k=f
  .rw[ac j,aQ,aQ];omega
  .rw[aa j,aQ,aQ];omega
def pq.some_of(r:pq (some v) o):∃u,o>u/\RelV v u:=by
 cases o with
 |none=>exact(show False from r).elim
 |some u=>exact#[u,rfl,r]
def pq.none_of(r:pq none o):o=none:=by
 cases o with
 |none=>rfl
 |some u=>exact(show False from r).elim
def Nw(r:RelV v u):Li u=true:=by
 cases v with
 |fP=>cases(show u=eU from r);rfl
 |bl b=>cases(show u=Zn b from r);rfl
 |int i=>have#[t,e]:=(show∃t,u=n6 i t from r);cases e;rfl
 |str x=>have#[t,e]:=(show∃t,u=ES x t from r);cases e;rfl
 |GD b=>have#[t,e]:=(show∃t,u=WU b t from r);cases e;rfl
 |F9 b=>have#[t,e]:=(show∃t,u=WV b t from r);cases e;rfl
 |ref a=>cases(show u=cA a from r);rfl
 |ty n=>cases(show u=gC n from r);rfl
section
variable{P:a7}{w:bS}{H H':Hp}{h h':Heap}{a C dx:Addr}{fs Zy:List (Str×V)}
def Fl(B:nI P w H h)(e:H a>.ins C D fs):∃j,Jl h a D C j/\(∀f,pq (fs.lookup f) (j f))/\xL j (fs.map (·.1))/\↑fs<=1000/\H D>.own a:=by let#[d,z,ne,F,j,n,r,q]:=(show eQ P w H h a (.ins C D fs)from B a _ e);exact#[j,#[F,n,ne],r,q,z,d]
end
structure IF(K:ao)(C:Addr):Prop where
 pg:iT K C Gq=true
 hd:ju K C=true
 po:kQ K C=true
 sa:cK K (.ref C) "__setattr__">some (.builtin "object.__setattr__")
def IF.get{K:ao}(c:IF K C)(f):iT K C f=true:=c.pg
def nU(K:ao)(C:Addr)(f:Str):Prop:=cK K (.ref C) f>none
def nU.aco{K:ao}(n:nU K C f):yQ K C f>none:=by delta yQ;rw[show cK K (.ref C) f>none from n];rfl
structure Meth(K:ao)(C:Addr)(m:Str)(f:Addr):Prop where
 at_:cK K (.ref C) m>some (.ref f)
 fn:mT K (.ref f)=true
 kp:db K (.ref f)=true
section
variable{X:Cx}{aB:List (Addr×Obj)}{σ:St}{H:Hp}{s:bq}{a C dx:Addr}{fs:List (Str×V)}{f:Str}{v:V}{A:dZ}{E:Value->bq->Prop}
def Bl(I:Inv X aB σ H s)(e:H a>.ins C D fs)(c:IF X.K C)(n:nU X.K C f)(l:fs.lookup f>v)
  (h:∀u j,Inv X aB σ H j->RelV v u->Q u j):bj (model X.prog X.w) A (OW (.ref a) f b) Q E s:=by
 let#[z,O,r,_,_,_]:=Fl I.fm e;let#[u,B,q]:=pq.some_of (v:=v) (o:=z f) (by rw[<-l];exact r f);exact get_map I.Ai O (c.get f) c.hd n B (Nw q) (h u _ (I.tok _) q)
def ve(I:Inv X aB σ H s)(e:H a>.ins C q fs)(c:IF X.K C)(k:Meth X.K C m g)(l:fs.lookup m=none)
  (h:Q (.ref g,[.ref a]) s):bj (model X.prog X.w) A (ub (.ref a) m pl) Q E s:=by
 let#[j,O,r,_,_,_]:=Fl I.fm e;let n:j m=none:=pq.none_of (by rw[<-l];exact r m);exact P7 I.Ai O (c.get m) k.at_ k.fn n h
def Ca(I:Inv X aB σ H s)(e:H a>.ins C j fs)(c:IF X.K C)(n:nU X.K C f)(Y:↑fs<1000)(L:RelV y u)
  (h:∀D,Inv X aB σ (upd H a<|.ins C j<|iu f y fs) D->Q () D):bj (model X.prog X.w) A (Ii (.ref a) f u) Q E s:=by
 let#[F,O,r,G,_,J]:=Fl I.fm e;let hz:(fs.map (·.1)).length<=sizeLine:=by rw[aj,aK];omega
 refine UX I.Ai O c.sa c.po n.aco c.hd G hz λh' B M=>h _ ?_;let hd:∃o,h'.get? j>o:=let#[o,_,_,N,_]:=B.ns;#[o,N];refine I.write (x:=a) (e:=j) (by rw[e];exact my) (.inr J) (λb q S z=>(M.2 b S).trans z) hd ?_;refine#[by rw[aH O.ne];exact J,?_,O.ne,B.obj,_,B.ns,λg=>?_,λg U=>?_]
 .let:=zb f y fs;omega
 .show pq ((iu f y fs).lookup g) (if g=f then some u else F g);rw[sU];by_cases q:g=f
  .rw[ac q,ac q];exact L
  .rw[aa q,aa q];exact r g
 .by_cases q:g=f
  .rw[q];exact(ym f y fs).1
  .refine(ym f y fs).2 g (G g λz=>U ?_);show(if g=f then some u else F g)=none;rw[aa q];exact z
def Inv.made(I:Inv X aB σ H s):Inv X aB σ (upd (upd H s.heap.objs.size<|.own<|s.heap.objs.size+1) (s.heap.objs.size+1) (.ins C s.heap.objs.size []))
  {s with heap:=(s.heap.push f7).push (im C s.heap.objs.size)}:=by
 let j:(s.heap.push f7).get? s.heap.objs.size>f7:=bw s.heap rfl;let n:((s.heap.push f7).push (im C s.heap.objs.size)).get? (s.heap.objs.size+1)>im C s.heap.objs.size:=by let:=bw (s.heap.push f7) (o:=im C s.heap.objs.size) rfl;rwa[dh]at this
 let z:(s.heap.push f7).Ns s.heap.objs.size (λ_=>none):=#[f7,#[],_,j,rfl,(λe he=>ae he sP),λ_=>rfl];let B:=I.laid (a:=s.heap.objs.size) (o:=.own<|s.heap.objs.size+1) (h':=s.heap.push f7) (t':=s.toks) (λb u q=>aF _ q) (aI _) #[_,j];refine B.laid (a:=s.heap.objs.size+1) (o:=.ins C s.heap.objs.size []) (t':=s.toks) (λb u q=>aF _ q) (yN<|dh _ _) ?_;let ne:s.heap.objs.size≠s.heap.objs.size+1:=bT<|j8 _;refine#[by rw[aH ne,au],cP _,ne,n,λ_=>none,(IH z).at λo q=>aF _ q,λ_=>my,λy D=>ae rfl D]
def Lm(j:jT e f env (eval e env)=eval e env)
  (h:bj (model prog w) A (eval e env) (λo n=>bj (model prog w) A (OW o f true) Q E n) E s):bj (model prog w) A (eval (.Attribute e f pos) env) Q E s:=
 Attribute_any_ h (by rw[arm_eval_Attribute,j])
end
def RV(K:ao)(ta:TE)(f:Str):TE:=λσ H Q=>ta σ H λx H1=>∃a C dx fs v,x=.ref a/\H1 a>.ins C dx fs/\IF K C/\nU K C f/\fs.lookup f>v/\Q v H1
def Yy(K:ao)(ta tv:TE)(f:Str):TS:=λD σ H=>tv σ H λy H1=>ta σ H1 λx H2=>∃a C dx fs,x=.ref a/\H2 a>.ins C dx fs/\IF K C/\nU K C f/\↑fs<1000/\
 D.nx σ (upd H2 a<|.ins C dx<|iu f y fs)
def Z5(X:Cx)(op:Operator)(rd:V->V->Hp->VK->Prop):Prop:=
 ∀aB s σ H x y u v Q,Inv X aB σ H s->RelV x u->RelV y v->rd x y H Q->bj (model X.prog X.w) X.A (ZN op u v) (EP X aB σ Q) X.xe s
def Mg(K:ao)(ta tv:TE)(rd:V->V->Hp->VK->Prop)(f:Str):TS:=λD σ H=>ta σ H λx H1=>∃a C dx fs v,x=.ref a/\H1 a>.ins C dx fs/\IF K C/\nU K C f/\fs.lookup f>v/\
 tv σ H1 λy H2=>rd v y H2 λz H3=>∃dx' Zy,H3 a>.ins C dx' Zy/\↑Zy<1000/\D.nx σ (upd H3 a<|.ins C dx'<|iu f z Zy)
section
variable{X:Cx}{o e value:fU}{f:Str}{pos pos' Y0:Pos}{ta tv:TE}
def X_(he:PE X e j)(z:jT e f X.env (eval e X.env)=eval e X.env):PE X (.Attribute e f pos) (RV X.K j f):=by intro aB s σ H Q I h;refine Lm z<|gN (he aB s σ H _ I h) λu s1#[x,H1,B,D,a,C,L,fs,v,ex,F,c,n,l,q]=>?_;subst ex;obtain rfl:u=cA a:=D;exact Bl B F c n l λM s2 G J=>#[v,H1,G,J,q]
def Ye(j:PE X o z)(B:PE X value F)(G:kG value (some<|.Attribute o f pos') pos.line X.env=pure false):PS X (.Assign [.Attribute o f pos'] value pos) (Yy X.K z F f):=by intro aB s σ H D I h;refine plainObj_wpAny_Assign_Attribute (gN (B aB s σ H _ I h) λu s1#[y,H1,J,L,q]=>gN (j aB s1 σ H1 _ J q) λM s2#[x,Z,N,O,a,C,dx,fs,ex,S,c,n,l,U]=>?_) G;subst ex;obtain rfl:M=cA a:=O;exact Ca N S c n l L λs3 Y=>#[σ,_,Y,U]
def N6(G:PE X o J)(L:PE X value M)(j:Z5 X op rd):PS X (.AugAssign (.Attribute o f F) op value pos) (Mg X.K J M rd f):=by intro aB s σ H D I h;refine wpAny_AugAssign_AttributeAny<|gN (G aB s σ H _ I h) λN s1#[x,H1,O,S,a,C,dx,fs,v,ex,U,c,n,l,q]=>?_;subst ex;obtain rfl:N=cA a:=S;refine Bl O U c n l λu s2 Y Z=>gN (L aB s2 σ H1 _ Y q) λw3 s3#[y,H2,I3,ry,q3]=>gN (j aB s3 σ H2 v y u w3 _ I3 Z ry q3) λw4 s4#[z,H3,I4,rz,dx',Zy,B,l',q4]=>?_;exact Ca I4 B c n l' rz λs5 I5=>#[σ,_,I5,q4]
def abt:V->V->Hp->VK->Prop:=λx y H Q=>∃i j,x=.int i/\y=.int j/\Q (.int<|i+j) H
def Xz:Z5 X .Add abt:=by rintro aB s σ H x y u v Q I n z ⟨i,j,rfl,rfl,q⟩;obtain⟨t,rfl⟩:=(show∃t,u=n6 i t from n);obtain⟨t',rfl⟩:=(show∃t',v=n6 j t' from z);exact PyProof.Rows.iadd_int #[.int<|i+j,H,I.tok _,#[_,rfl],q]
def V3           (he : PE X e B) (I : Inv X aB σ H s)
    (h : B σ H fun x H1 => ∃ a C j fs g, x = .ref a ∧ H1 a = some (.ins C j fs) ∧ IF X.K C ∧ Meth X.K C m g ∧ fs.lookup m = none ∧
      ∀ s1, Inv X aB σ H1 s1 → bj (model X.prog X.w) X.A (CJ pos (.ref g) [.ref a] (gW pos (bi args X.env)) (tZ pos (l8 [] X.env))) Q X.xe s1)
    (D : eval (.Call (.Attribute e m apos) args [] pos) X.env = (do
      let n ← eval e X.env
      yB apos.atName
      let (f, first) ← holding [n] (ub n m pl)
      CJ pos f first (gW pos (bi args X.env)) (tZ pos (l8 [] X.env)))) :
    bj (model X.prog X.w) X.A (eval (.Call (.Attribute e m apos) args [] pos) X.env) Q X.xe s := by
  refine ri (pl := pl) (gN (he aB s σ H _ I h) fun u s1 #[x, H1, z, F, a, C, j, fs, g, ex, G, c, k, l, q] => ?_) D
  subst ex
  obtain rfl : u = cA a := F
  exact ve z G c k l (q s1 z)
end
structure i7(k:Nat)(A:dZ):Prop where
 hd:A.handled=none
 dp:A.depth+3*k+5<recursionLimit
 un:A.units+16*k+200<cLine
def i7.mono(r:i7 k A)(h:j<=k):i7 j A:=#[r.hd,by let:=r.dp;omega,by let:=r.un;omega]
def i7.deeper(r:i7 (k+1) A)(env):i7 k (A.deeper env):=
 #[r.hd,by let:=r.dp;show A.depth+1+3*k+5<_;omega,by let:=r.un;show A.units+3+16*k+200<_;omega]
def JX{A:dZ}:(A.under (.builtin "type.__call__" #[.ref C::us,kw])).depth=A.depth+1:=by first|rfl|simp[EH,Code.weight,Code.isCreation,Code.isGuard,Code.isCaller,Y4,Gc,guardIds]
def JY{A:dZ}:(A.under (.builtin "type.__call__" #[.ref C::us,kw])).units=A.units+1:=by first|rfl|simp[EH,Code.cUnits,Y4,Gc]
def i7.make(r:i7 (k+1) A)(C)(us)(kw):i7 k (A.under (.builtin "type.__call__" #[.ref C::us,kw])):=
 #[r.hd,by let:=r.dp;rw[JX];omega,by let:=r.un;rw[JY];omega]
theorem i7.depth(r:i7 k A):A.depth<recursionLimit:=by let:=r.dp;omega
def i7.units(r:i7 k A):A.units+64<cLine:=by let:=r.un;omega
def oG:TA:=λ_ H Q=>Q [] H
def jo(ta:TE)(tr:TA):TA:=λσ H Q=>ta σ H λx H1=>tr σ H1 λxs H2=>Q (x::xs) H2
section
variable{X:Cx}{e:fU}{es:List fU}{te:TE}{t:TA}{pos:Pos}
def ib:PA X [] oG:=λ_ _ _ _ H Q I h=>Calls.spliced_nil #[[],H,I,.nil,h]
def k9(j:PE X e n)(q:PA X es t)(z:bi (e::es) X.env=(false,eval e X.env)::bi es X.env:=by rfl):PA X (e::es) (jo n t):=by intro pos aB s σ H Q I h;rw[z];show bj _ _ (spliced ((false,eval e X.env)::gW pos (bi es X.env))) _ _ s;refine Calls.spliced_cons<|gN (j aB s σ H _ I h) λu s1#[x,H1,B,D,F]=>?_;exact gN (q pos aB s1 σ H1 _ B F) λus s2#[xs,G,J,L,M]=>#[x::xs,G,J,.cons D L,M]
def da{e:fU}{a:TE}(h:PE X e a)(s:bi [e] X.env=(false,eval e X.env)::bi [] X.env:=by rfl):PA X [e] (jo a oG):=k9 h ib s
def ir{e f:fU}{a b:TE}(h:PE X e a)(i:PE X f b)(s:bi [f] X.env=(false,eval f X.env)::bi [] X.env:=by rfl)(u:bi [e,f] X.env=(false,eval e X.env)::bi [f] X.env:=by rfl):PA X [e,f] (jo a (jo b oG)):=k9 h (k9 i ib s) u
def AF{e f g:fU}{a b c:TE}(h:PE X e a)(i:PE X f b)(j:PE X g c)(s:bi [g] X.env=(false,eval g X.env)::bi [] X.env:=by rfl)(u:bi [f,g] X.env=(false,eval f X.env)::bi [g] X.env:=by rfl)(r:bi [e,f,g] X.env=(false,eval e X.env)::bi [f,g] X.env:=by rfl):PA X [e,f,g] (jo a (jo b (jo c oG))):=k9 h (k9 i (k9 j ib s) u) r
def J5{e f g k:fU}{a b c d:TE}(h:PE X e a)(i:PE X f b)(j:PE X g c)(l:PE X k d)(v:bi [k] X.env=(false,eval k X.env)::bi [] X.env:=by rfl)(s:bi [g,k] X.env=(false,eval g X.env)::bi [k] X.env:=by rfl)(u:bi [f,g,k] X.env=(false,eval f X.env)::bi [g,k] X.env:=by rfl)(r:bi [e,f,g,k] X.env=(false,eval e X.env)::bi [f,g,k] X.env:=by rfl):PA X [e,f,g,k] (jo a (jo b (jo c (jo d oG)))):=k9 h (k9 i (k9 j (k9 l ib v) s) u) r
def acn(t:TA):TE:=λσ H Q=>t σ H λxs H1=>↑xs<=sizeLine/\∀p,H1 p=none->Q (.ref p) (upd H1 p<|.tup xs)
def YR(t:TA):TE:=λσ H Q=>t σ H λxs H1=>↑xs<=sizeLine/\∀p,H1 p=none->Q (.ref p) (upd H1 p<|.lst xs)
def jM(h:PA X es t):PE X (.Tuple es B pos) (acn t):=by intro aB s σ H Q I n;refine wpAny_Tuple_spliced<|gN (h pos aB s σ H _ I n) λus s1#[xs,H1,j,r,z,q]=>#[by rw[<-↑r];exact z,?_];let hf:H1 s1.heap.objs.size=none:=j.fm.fresh<|aI _;refine#[.ref s1.heap.objs.size,upd H1 s1.heap.objs.size<|.tup xs,j.laid (t':=s1.toks) (λb u e=>aF _ e) (aI _) ?_,rfl,q _ hf];exact#[z,us,r,#[_,bw _ rfl,rfl,_,rfl]]
def dr(h:PA X es t):PE X (.List es pos) (YR t):=by intro aB s σ H Q I n;refine wpAny_List_spliced<|gN (h pos aB s σ H _ I n) λus s1#[xs,H1,j,r,z,q]=>#[by rw[<-↑r];exact z,?_];let hf:H1 s1.heap.objs.size=none:=j.fm.fresh<|aI _;refine#[.ref s1.heap.objs.size,upd H1 s1.heap.objs.size<|.lst xs,j.laid (t':=s1.toks) (λb u e=>aF _ e) (aI _) ?_,rfl,q _ hf];exact#[z,us,0,r,bw _ rfl]
end
abbrev Sp:=List V->Hp->VK->XK->Prop
abbrev OI:=List Env->Hp->bq->XK->Value->bq->Prop
structure Jc(P:a7)(w:bS)(K:ao)(mg:Str->Option Value)(aD:Heap)(A:dZ)(outer:List Env)(s:bq)(H:Hp):Prop where
 frames:A.frames>outer
 mod:Mod K mg aD
 bs:∀b o,aD.get? b>o->s.heap.get? b>o/\H b=none
 Lo:aD.objs.size<=s.heap.objs.size
 yg:s.heap.FunFrames aD outer
 VN:∀b∈CK outer,H b=none
 fm:nI P w H s.heap
 bare:xU s.gens
def CE(outer:List Env)(P:a7)(w:bS)(H:Hp)(s:bq)(Q:VK)(u:Value)(s':bq):Prop:=
 ∃v H',s'.os=s.os/\xU s'.gens/\Un (CK outer) [] H H' s.heap s'.heap/\nI P w H' s'.heap/\RelV v u/\Q v H'
def CR(CX:OI)(outer:List Env)(P:a7)(w:bS)(H:Hp)(s:bq)(Q:VK)(E:XK)(r:Result)(s':bq):Prop:=
 match r with
 |.ok (.ret u)=>CE outer P w H s Q u s'
 |.ok _=>False
 |.error e=>CX outer H s E e s'
structure j4(P:a7)(w:bS)(K:ao)(mg:Str->Option Value)(aD:Heap)(CX:OI)(k:Nat)(f:Addr)(fd:ow)(ps:List Str)(sp:Sp):Prop where
 len:∀vs H Q E,sp vs H Q E->↑vs=↑ps
 run:∀(A:dZ)(outer:List Env)(s:bq)(H:Hp)(args:Args)(us:List Value)(vs:List V)(Q:VK)(E:XK),i7 k A->Jc P w K mg aD A outer s H->F_ s fd args (ps.zip us)->Vals vs us->sp vs H Q E->
  mK (model P w) A (.call (.ref f) args) (CR CX outer P w H s Q E) s
def Jc.make{K:ao}(e:Jc P w K mg aD A outer s H)(C)(us)(kw):
  Jc P w K mg aD (A.under (.builtin "type.__call__" #[.ref C::us,kw])) outer s H:=#[by first|exact e.frames|(simpa[EH,Code.envs,Gc,pushEnvs]using e.frames),e.mod,e.bs,e.Lo,e.yg,e.VN,e.fm,e.bare]
section
variable{X:Cx}{aB:List (Addr×Obj)}{σ:St}{H:Hp}{s s':bq}
def Inv.Tu(I:Inv X aB σ H s):Jc X.prog X.w X.K X.mg X.aD X.A X.stack s H:=
 #[I.ok.frames,I.ok.mod,I.bs,bu I.ok.Lo I.sz,I.stack,I.xD,I.fm,I.bare]
def Inv.after(I:Inv X aB σ H s)(h:CE X.stack X.prog X.w H s Q u B):EP X aB σ Q u B:=by let#[v,D,os,bare,un,j,r,q]:=h;let#[F,g,d,t,n]:=B;obtain rfl:n=s.os:=os;exact#[v,D,I.call (h':=F) (g':=g) (d':=d) (t':=t) (ch:=[]) un j bare (λb z=>ae z sP),r,q]
end
def Wt(sp:Sp)(Zu:List V)(E:XK)(t:TA):TE:=λσ H Q=>t σ H λvs H1=>sp (vs++Zu) H1 Q E
def MF(C:Addr)(m:Str)(sp:Sp)(Zu:List V)(E:XK)(ta:TE)(t:TA):TE:=λσ H Q=>ta σ H λx H1=>∃a dx fs,x=.ref a/\H1 a>.ins C dx fs/\fs.lookup m=none/\
 t σ H1 λvs H2=>sp (x::(vs++Zu)) H2 Q E
def zC(C:Addr)(sp:Sp)(Zu:List V)(E:XK)(t:TA):TE:=λσ H Q=>t σ H λvs H1=>∀x dx,H1 x=none->H1 dx=none->dx≠x->
 sp (.ref x::(vs++Zu)) (upd (upd H1 dx<|.own x) x (.ins C dx [])) (λv H2=>v=.fP/\Q (.ref x) H2) E
def Binds(K:ao)(fd:ow)(ps:List Str)(ds:List Value):Prop:=
 ∀s us,K.In s.heap->↑(us++ds)=↑ps->F_ s fd #[us,[]] (ps.zip<|us++ds)
def Binds.all{K:ao}(h:∀us,↑us=↑ps->CI fd #[us,[]]=pure (ps.zip us)):Binds K fd ps []:=λs us _ j=>by rw[c8]at j|-;exact .of_eq (h us j)
def mQ(CX:OI)(X:Cx)(E:XK):Prop:=∀aB σ H s e s',Inv X aB σ H s->CX X.stack H s E e s'->X.xe e s'
section
variable{X:Cx}{CX:OI}{k:Nat}{f C:Addr}{fd:ow}{ps:List Str}{sp:Sp}{Zu:List V}{ds:List Value}{E:XK}{x m:Str}{p pos apos:Pos}{e o:fU}{es:List fU}{ta:TE}{t:TA}
def Kr(F:j4 X.prog X.w X.K X.mg X.aD CX k f fd ps sp)(z:i7 k X.A)(B:Binds X.K fd ps ds)(hd:Vals j ds)(D:mQ CX X E)
  (I:Inv X aB σ H s)(r:Vals vs us)(h:sp (vs++j) H Q E):bj (model X.prog X.w) X.A (call (.ref f) us) (EP X aB σ Q) X.xe s:=by
 let q:Vals (vs++j) (us++ds):=r.append hd;let G:↑(us++ds)=↑ps:=by rw[<-↑q];exact F.len _ _ _ _ h
 refine uY (kx (F.run X.A X.stack s H #[us,[]] (us++ds) (vs++j) Q E z I.Tu (B s us I.Ai G) q h) λr J n=>?_);cases r with
 |error e=>exact D aB σ H s e J I n
 |ok L=>
  cases L with
  |ret u=>exact I.after n
  |next=>exact dJ n
  |brk=>exact dJ n
  |cont=>exact dJ n
def Uj(F:j4 X.prog X.w X.K X.mg X.aD CX k f fd ps sp)(D:i7 k X.A)(G:Gl X x)(hm:X.mg x>.ref f)(J:db X.K (.ref f)=true)(L:Binds X.K fd ps ds)(hd:Vals j ds)(M:mQ CX X E)
  (N:PA X (e::es) t)(n:(x==("__debug__":Str))=false:=by decide)(he:bi (e::es) X.env=(false,eval e X.env)::bi es X.env:=by rfl)(z:(gW pos<|bi es X.env).any (·.1)=false:=by rfl):
  PE X (.Call (.Name x p) (e::es) [] pos) (Wt sp j E t):=by
 intro aB s σ H Q I h;refine gY<|qL I G hm ?_ n;refine kb (h₀:=X.aD) I.ok.mod.Aj J (gN (N pos aB s σ H _ I h) λus s1#[vs,H1,B,r,q]=>#[B.Ai,?_]) he z;exact Kr F D L hd M B r q
def Uo  (he : PE X o J) (c : IF X.K C) (hm : Meth X.K C m f) (F : j4 X.prog X.w X.K X.mg X.aD CX k f fd ps sp) (L : i7 k X.A) (M : Binds X.K fd ps ds) (hd : Vals j ds) (N : mQ CX X E) (O : PA X (e :: es) t)
    (n : bi (e :: es) X.env = (false, eval e X.env) :: bi es X.env := by rfl) (z : (gW pos (bi es X.env)).any (·.1) = false := by rfl)
    (S : eval (.Call (.Attribute o m apos) (e :: es) [] pos) X.env = (do
      let B ← eval o X.env
      yB apos.atName
      let (f, first) ← holding [B] (ub B m pl)
      CJ pos f first (gW pos (bi (e :: es) X.env)) (tZ pos (l8 [] X.env))) := by rfl) :
    PE X (.Call (.Attribute o m apos) (e :: es) [] pos) (MF C m sp j E J t) := by
  intro aB s σ H Q I h
  refine ri (pl := pl) (gN (he aB s σ H _ I h) fun u s1 #[x, H1, D, U, a, dx, fs, ex, Y, l, q] => ?_) S
  subst ex
  obtain rfl : u = cA a := U
  refine ve D Y c hm l ?_
  refine kb (first := [.ref a]) (h₀ := X.aD) I.ok.mod.Aj hm.kp (gN (O pos aB s1 σ H1 _ D q) fun us s2 #[vs, H2, G, r, Z] => #[G.Ai, ?_]) n z
  exact Kr (us := .ref a :: us) (vs := .ref a :: vs) F L M hd N G (.cons rfl r) Z
def QN  (he : PE X o B) (c : IF X.K C) (hm : Meth X.K C m f) (F : j4 X.prog X.w X.K X.mg X.aD CX k f fd ps sp) (D : i7 k X.A) (G : Binds X.K fd ps ds) (hd : Vals j ds) (J : mQ CX X E)
    (L : eval (.Call (.Attribute o m apos) [] [] pos) X.env = (do
      let z ← eval o X.env
      yB apos.atName
      let (f, first) ← holding [z] (ub z m pl)
      CJ pos f first (gW pos (bi [] X.env)) (tZ pos (l8 [] X.env))) := by rfl) :
    PE X (.Call (.Attribute o m apos) [] [] pos) (MF C m sp j E B oG) := by
  intro aB s σ H Q I h
  refine ri (pl := pl) (gN (he aB s σ H _ I h) fun u s1 #[x, H1, n, M, a, O, fs, ex, N, l, q] => ?_) L
  subst ex
  obtain rfl : u = cA a := M
  refine ve n N c hm l ?_
  exact Go (first := [.ref a]) n.Ai hm.kp (Kr (us := [.ref a]) (vs := [.ref a]) F D G hd J n (.cons rfl .nil) q)
structure Mk(K:ao)(C f:Addr):Prop where
 makes:gU K C=true
 init:cK K (.ref C) "__init__">some (.ref f)
 fn:mT K (.ref f)=true
 kp:db K (.ref C)=true
def Ia(M:Mk X.K C f)(F:j4 X.prog X.w X.K X.mg X.aD CX k f fd ps sp)(G:i7 (k+1) X.A)(J:Binds X.K fd ps ds)(hd:Vals n ds)
  (L:mQ CX X E)(I:Inv X aB σ H s)(r:Vals vs us)
  (h:∀x q,H x=none->H q=none->q≠x->sp (.ref x::(vs++n)) (upd (upd H q<|.own x) x (.ins C q [])) (λv N=>v=.fP/\Q (.ref x) N) E):
  bj (model X.prog X.w) X.A (call (.ref C) us) (EP X aB σ Q) X.xe s:=by
 let B:=h (s.heap.objs.size+1) s.heap.objs.size (I.fm.fresh<|pJ _) (I.fm.fresh<|aI _) (bT<|j8 _);let z:=Inv.made (C:=C) I;let D:Vals (V.ref (s.heap.objs.size+1)::(vs++n)) (cA (s.heap.objs.size+1)::(us++ds)):=.cons rfl<|r.append hd;let O:↑(cA (s.heap.objs.size+1)::us++ds)=↑ps:=by let e:=↑D;rw[F.len _ _ _ _ B]at e;exact e.symm
 refine uY (Qw (f:=f) I.Ai M.makes M.init (beq_iff_eq.mp M.fn) (kx (F.run _ X.stack _ _ #[cA (s.heap.objs.size+1)::us,[]] (cA (s.heap.objs.size+1)::(us++ds)) _ _ E (G.make C us [])
  (z.Tu.make C us []) (J _ (cA (s.heap.objs.size+1)::us) z.Ai O) D B) λr S j=>?_))
 cases r with
 |error e=>exact L aB σ _ _ e S z j
 |ok U=>
  cases U with
  |ret u=>
   let#[v,Y,Z,rv,ev,q3]:=z.after j;subst ev;exact#[rv,#[V.ref<|s.heap.objs.size+1,Y,Z,rfl,q3]]
  |next=>exact dJ j
  |brk=>exact dJ j
  |cont=>exact dJ j
def Um(M:Mk X.K C f)(F:j4 X.prog X.w X.K X.mg X.aD CX k f fd ps sp)(D:i7 (k+1) X.A)(G:Gl X x)(hm:X.mg x>.ref C)(J:Binds X.K fd ps ds)(hd:Vals j ds)(L:mQ CX X E)
  (N:PA X (e::es) t)(n:(x==("__debug__":Str))=false:=by decide)(he:bi (e::es) X.env=(false,eval e X.env)::bi es X.env:=by rfl)(z:(gW pos<|bi es X.env).any (·.1)=false:=by rfl):
  PE X (.Call (.Name x p) (e::es) [] pos) (zC C sp j E t):=by
 intro aB s σ H Q I h;refine gY<|qL I G hm ?_ n;refine kb (h₀:=X.aD) I.ok.mod.Aj M.kp (gN (N pos aB s σ H _ I h) λus s1#[vs,H1,B,r,q]=>#[B.Ai,?_]) he z;exact Ia M F D J hd L B r q
def QM(M:Mk X.K C f)(F:j4 X.prog X.w X.K X.mg X.aD CX k f fd ps sp)(q:i7 (k+1) X.A)(z:Gl X x)(hm:X.mg x>.ref C)(B:Binds X.K fd ps ds)(hd:Vals j ds)(D:mQ CX X E)
  (n:(x==("__debug__":Str))=false:=by decide):PE X (.Call (.Name x p) [] [] pos) (zC C sp j E oG):=by
 intro aB s σ H Q I h;refine gY<|qL I z hm ?_ n;exact Go I.Ai M.kp (Ia (us:=[]) M F q B hd D I .nil h)
end
structure m_(N P:List Str)(sc:Scope):Prop where
 kind:sc.kind=.function
 co:sc.isCoroutine=false
 gen:sc.isGenerator=false
 nd:N.Nodup
 pre:N.take ↑P=P
 par:∀x∈P,sc.names.lookup x>.local\/sc.names.lookup x>.cell
 X2:∀y∈sc.names,y.2≠.free
def DN{kindOf:Str->Option jp}:∀{binds:List (Str×Value)}{m:Str->Option Value},(∀v,(x,v)∉binds)->M6 kindOf binds m x=m x
 |[],_,_=>rfl
 |(n,v)::r,m,h=>by
  delta M6;rw[DN λw hw=>h w (aR _ hw)];split
  .let:x≠n:=by rintro rfl;exact h v aZ
   simp[this]
  .rfl
def DL{kindOf:Str->Option jp}:∀{binds:List (Str×Value)}{m:Str->Option Value},(∀v,(x,v)∉binds)->M5 kindOf binds m x=m x
 |[],_,_=>rfl
 |(n,v)::r,m,h=>by
  delta M5;rw[DL λw hw=>h w (aR _ hw)];split
  .rfl
  .let:x≠n:=by rintro rfl;exact h v aZ
   simp[this]
def DM{kindOf:Str->Option jp}:∀{P:List Str}{vs:List Value}{i:Nat}{m:Str->Option Value},P.Nodup->P[i]?>x->vs[i]?>v->kindOf x>.local->
  M6 kindOf (P.zip vs) m x>v
 |[],_,_,_,_,h,_,_=>by simp at h
 |_::_,[],_,_,_,_,h,_=>by simp at h
 |p::P,w::vs,0,m,q,j,n,z=>by simp at j n;subst j;subst n;show M6 kindOf ((p,w)::P.zip vs) m p=_;delta M6;rw[DN λv B=>(g9.mp q).1 (AW B).1,ac z];simp
 |p::P,w::vs,i+1,m,q,j,n,z=>by show M6 kindOf ((p,w)::P.zip vs) m x=_;delta M6;exact DM (i:=i) (g9.mp q).2 (by simpa using j) (by simpa using n) z
def DK{kindOf:Str->Option jp}:∀{P:List Str}{vs:List Value}{i:Nat}{m:Str->Option Value},P.Nodup->P[i]?>x->vs[i]?>v->kindOf x≠some .local->
  M5 kindOf (P.zip vs) m x>v
 |[],_,_,_,_,h,_,_=>by simp at h
 |_::_,[],_,_,_,_,h,_=>by simp at h
 |p::P,w::vs,0,m,q,j,n,z=>by simp at j n;subst j;subst n;show M5 kindOf ((p,w)::P.zip vs) m p=_;delta M5;rw[DL λv B=>(g9.mp q).1 (AW B).1,aa z];simp
 |p::P,w::vs,i+1,m,q,j,n,z=>by show M5 kindOf ((p,w)::P.zip vs) m x=_;delta M5;exact DK (i:=i) (g9.mp q).2 (by simpa using j) (by simpa using n) z
def start(N:List Str)(vs:List V):St:=vs.map some++cp (↑N-↑vs) none
def C7(CX:OI)(P:a7)(w:bS)(K:ao)(mg:Str->Option Value)(aD:Heap)(N:List Str)(qual:Str)(scope:Scope)(f:Addr)(cd:Value)(A:dZ)(outer:List Env)(s:bq)(H:Hp)(E:XK):Cx where
 prog:=P
 w:=w
 K:=K
 mg:=mg
 aD:=aD
 A:=A.deeper (oS qual scope s.heap.objs.size f cd)
 N:=N
 xQ:=s
 SZ:=H
 env:=oS qual scope s.heap.objs.size f cd
 outer:=outer
 stack:=oS qual scope s.heap.objs.size f cd::outer
 ex:=[]
 calm:=true
 fn:=λ_=>true
 pn:=[]
 xe:=λe s'=>bj (model P w) (A.deeper<|oS qual scope s.heap.objs.size f cd) (leaving (oS qual scope s.heap.objs.size f cd) e) (λ_ s''=>CX outer H s E e s'') (λe' s''=>CX outer H s E e' s'') s'
def GE{sc:Scope}(h:sc.names.lookup x>.cell):∃c,(fu n sc.names []).lookup x>c:=by let q:=DI sc.names n [] (.inl h);exact pj.mp q
def ND{K:ao}
  (S:m_ N ps scope)(hd:A.handled=none)(B:Jc P w K mg aD A outer s H)(hl:↑vs=↑ps)(r:Vals vs us)
  (x:InCallC s s.heap.objs.size (M6 (oS qual scope s.heap.objs.size f cd).kindOf (ps.zip us) λ_=>none) (fu (s.heap.objs.size+1) scope.names []) (M5 (oS qual scope s.heap.objs.size f cd).kindOf (ps.zip us) λ_=>none) s1):
  Inv (C7 CX P w K mg aD N qual scope f cd A outer s H E) [] (start N vs) H s1:=by
 let U:↑ps<=↑N:=by let:=af ck S.pre;rw[bN]at this;omega
 obtain⟨J,tk,rfl,M⟩:=x.done;let D:∀b,b∉(C7 CX P w K mg aD N qual scope f cd A outer s H E).ex:=λb z=>ae (show b∈([]:List Addr)from z) sP;exists #[B.mod,S.kind,rfl,rfl,aI _,λy z c J j=>?_,λy F=>?_,λy c _ h=>?_,λ_=>hd,Around.frames_deeper B.frames,.inr #[rfl,rfl],λb z=>ae z<|D b,B.bs,B.Lo,λb _ _=>D b,λb z=>ae z<|D b,B.yg,B.VN],
  rfl,B.bare,Un.kept M,#[_,x.toInCall.ns,λi y v J j h3=>?_],λy c h=>#[_,x.cell y c h],B.fm.fresh<|aI _,λy c h=>?_,λp G=>ae (show p∈([]:List (Addr×Obj))from G) sP,B.fm.kept M
 .exact name_of_addr x.apart (cG J) (cG j)
 .let F:scope.names.lookup y>.cell\/scope.names.lookup y>.free:=F;obtain F|F:=F
  .exact GE F
  .exact ae rfl (S.X2 _<|cG F)
 .exact fN (x.above y c<|cG h)
 .let L:i<↑vs:=by
   delta start at j;by_cases L:i<↑vs
   .exact L
   .rw[oB (by simpa using L)]at j;rw[F4]at j;split at j<;>cases j
  let Y:vs[i]?>v:=by
   delta start at j;rw[iC (by simpa using L),ak]at j;cases e:vs[i]? with
   |none=>rw[e]at j;cases j
   |some a=>rw[e]at j;cases j;rfl
  let#[u,O,Z]:=r.get Y;let G:ps[i]?>y:=by rw[<-S.pre,List.getElem?_take_of_lt oM];exact J
  let I:ps.Nodup:=by rw[<-S.pre];exact S.nd.sublist (List.take_sublist _ _)
  exists u,Z;obtain k|k:=S.par y (ax G)
  .exact .inl #[k,DM I G O k]
  .let#[c,e]:=GE (n:=s.heap.objs.size+1) k;refine .inr #[.inl k,c,e,?_];let q:=x.cell y c e;rw[DK I G O (by show scope.names.lookup y≠_;rw[k];decide)]at q;exact q
 .exact B.fm.fresh (fN<|x.above y c<|cG h)
 .delta start;show _=↑N;rw[aW,aj,sf];omega
def P1{K:ao}{Z kV doc pm j ct oc:Value}
   (lk:K.lookup f>#[oc,od,.func<|f8 name qual params body scope Z kV doc pm an j ct,osl])(M:jG K j qual=true)(S:m_ N ps scope)
  (len:∀vs H Q E,sp vs H Q E->↑vs=↑ps)
  (B:∀A outer s H vs Q E,i7 k (A.deeper<|oS qual scope s.heap.objs.size f j)->sp vs H Q E->
   ∃t,DD (C7 CX P w K mg aD N qual scope f j A outer s H E) body t/\t {nx:=λ_ z=>Q .fP z,rt:=Q} (start N vs) H):
  j4 P w K mg aD CX (k+1) f (f8 name qual params body scope Z kV doc pm an j ct) ps sp:=by
 refine#[len,λA outer s H args us vs Q E O G hb r L=>?_];let hl:=len _ _ _ _ L;let KX:K.In s.heap:=G.mod.Aj.keeps λb o e=>(G.bs b o e).1;let lim:s.heap.NoLimit:=G.mod.nolimit.keeps λb o e=>(G.bs b o e).1;let D:∀y∈ps.zip us,scope.names.lookup y.1>.local\/(scope.names.lookup y.1>.cell/\((fu (s.heap.objs.size+1) scope.names []).lookup y.1).isSome=true):=λ#[n,v] hy=>by
  obtain q|q:=S.par n (AW hy).1
  .exact .inl q
  .exact .inr #[q,DI _ _ _<|.inl q]
 refine codeAny_call_function O.depth (KX _ _ lk) rfl S.co S.gen rfl (PySem.W.codeRec_of KX M) (hb _ _ _ _ ?_);refine wpAny_newFunctionEnv_cells S.kind D λenv he s1 x=>?_;subst he;refine#[lim.keeps x.toInCall.keep,codeAny_func ?_];let#[t,ht,hq]:=B A outer s H vs Q E (O.deeper _) L;let I:Inv (C7 CX P w K mg aD N qual scope f j A outer s H E) [] (start N vs) H s1:=ND S O.hd G hl r x;refine fg (ht [] s1 (start N vs) H _ I hq) (λfl U F=>?_) λe U F=>F;let fin:∀{σ':St}{z:Hp}{v:V}{u:Value},Inv (C7 CX P w K mg aD N qual scope f j A outer s H E) [] σ' z U->RelV v u->Q v z->CE outer P w H s Q u U:=
  λ{σ' z v u} J Y q=>#[v,z,J.os,J.bare,J.aD,J.fm,Y,q]
 cases fl with
 |ret u=>
  let#[v,σ',z,J,Y,q]:=F;exact fin J Y q
 |next=>
  let#[σ',z,J,q]:=F;exact fin (v:=V.fP) (u:=eU) J rfl q
 |brk=>
  let#[_,_,_,q]:=F;exact dJ q
 |cont=>
  let#[_,_,_,q]:=F;exact dJ q
section
variable{X:Cx}{x:Str}{p pos:Pos}{e:fU}{es:List fU}{t:TA}{id T:String}{r:List V->Hp->VK->Prop}
def tCB(r:List V->Hp->VK->Prop)(t:TA):TE:=λσ H Q=>t σ H λvs H1=>r vs H1 Q
def bO(q:iN X (.builtin id) r)(z:Gl X x)(hm:X.mg x=none)(B:eE x>.builtin id)(D:PA X (e::es) t)(F:x≠"__name__":=by decide)(j:(x==("__debug__":Str))=false:=by decide)
  (he:bi (e::es) X.env=(false,eval e X.env)::bi es X.env:=by rfl)(n:(gW pos<|bi es X.env).any (·.1)=false:=by rfl):PE X (.Call (.Name x p) (e::es) [] pos) (tCB r t):=by
 intro aB s σ H Q I h;refine gY<|vn I z hm B ?_ F j;exact PyProof.Rows.callWith_builtin1 (gN (D pos aB s σ H _ I h) λus s1#[vs,H1,G,J,L]=>q aB s1 σ H1 vs us Q G J L) he n
def dL(q:iN X (.type T) r)(z:Gl X x)(hm:X.mg x=none)(B:eE x>.type T)(D:PA X (e::es) t)(F:x≠"__name__":=by decide)(j:(x==("__debug__":Str))=false:=by decide)
  (he:bi (e::es) X.env=(false,eval e X.env)::bi es X.env:=by rfl)(n:(gW pos<|bi es X.env).any (·.1)=false:=by rfl):PE X (.Call (.Name x p) (e::es) [] pos) (tCB r t):=by
 intro aB s σ H Q I h;refine gY<|vn I z hm B ?_ F j;exact gQ (gN (D pos aB s σ H _ I h) λus s1#[vs,H1,G,J,L]=>q aB s1 σ H1 vs us Q G J L) he n
end
end L2
namespace HT
open PySem PyProof.Rows
section
variable{prog:a7}{w:bS}{A:dZ}{E:Value->bq->Prop}{s:bq}
def Ib(n d:Nat):Option Int->Nat
 |none=>d
 |some v=>if v<0 then(v+(n:Int)).toNat else min v.toNat n
def Ic(n d):Ib n d none=d:=rfl
def uh(n d k:Nat):Ib n d (some (k:Int))=min k n:=by show(if(k:Int)<0 then((k:Int)+(n:Int)).toNat else min (k:Int).toNat n)=min k n;rw[aa oM,aT]
end
end HT
namespace L2
open PySem PySem.Spec PyProof.Rows
abbrev TO:=St->Hp->(Option Int->Hp->Prop)->Prop
def PO(X:Cx)(e:Option fU)(t:TO):Prop:=
 ∀aB s σ H Q,Inv X aB σ H s->t σ H Q->
  bj (model X.prog X.w) X.A (evalPart e X.env) (λu s'=>∃o H',Inv X aB σ H' s'/\IsPart u o/\Q o H') X.xe s
def MG:TO:=λ_ H Q=>Q none H
def Wx(t:TE):TO:=λσ H Q=>t σ H λx H1=>∃i,x=.int i/\Q (some i) H1
section
variable{X:Cx}{e:fU}{te:TE}{lo hi:Option fU}{tl th:TO}{pos p2:Pos}
def FD:PO X none MG:=by intro aB s σ H Q I h;rw[evalPart_none];exact aU #[none,H,I,.none,h]
def lh(h:PE X e j):PO X (some e) (Wx j):=by intro aB s σ H Q I hw;rw[evalPart_some];refine gN (h aB s σ H _ I hw) λu s1#[x,H1,n,z,B]=>?_;obtain⟨i,rfl,q⟩:=B;obtain⟨t,rfl⟩:=z;exact#[some i,H1,n,.int i t,q]
def SlR(X:Cx)(r:V->Option Int->Option Int->Hp->VK->Prop):Prop:=
 ∀aB s σ H x v vl vu lo hi sl Q,Inv X aB σ H s->RelV x v->s.heap.IsSliceOf sl vl vu .none->IsPart vl lo->IsPart vu hi->r x lo hi H Q->
  ∃T id,lU (.type T) "__getitem__"=pure (some<|.builtin id)/\s.TypeIs v T/\bj (model X.prog X.w) X.A (G0 v<|.ref sl) (EP X aB σ Q) X.xe s
def tSl(r:V->Option Int->Option Int->Hp->VK->Prop)(te:TE)(tl th:TO):TE:=λσ H Q=>te σ H λx H1=>tl σ H1 λl H2=>th σ H2 λu H3=>r x l u H3 Q
def oo(D:SlR X r)(he:PE X e F)(G:PO X lo tl)(J:PO X z L):PE X (.Subscript e (.Slice lo z none M) pos) (tSl r F tl L):=by intro aB s σ H Q I h;refine IQ<|gN (he aB s σ H _ I h) λv s1#[x,H1,N,O,S]=>?_;refine wpAny_Slice<|gN (G aB s1 σ H1 _ N S) λj s2#[l,U,Y,pl,Z]=>gN (J aB s2 σ U _ Y Z) λn s3#[u,B,I3,pu,q3]=>?_;rw[evalPart_none];refine aU ?_;let I4:Inv X aB σ B {s3 with heap:=s3.heap.push {cls:=.type "slice",data:=.fields (List.toArray [j,n,.none])}}:=I3.kept (t':=s3.toks) λb ob q=>aF _ q;let#[T,id,hT,ht,hg]:=D aB {s3 with heap:=s3.heap.push {cls:=.type "slice",data:=.fields (List.toArray [j,n,.none])}} σ B x v j n l u s3.heap.objs.size Q I4 O (WK ..) pl pu q3;show bj (model X.prog X.w) X.A (MD e (.Slice lo z none M) v (.ref s3.heap.objs.size)) (EP X aB σ Q) X.xe {s3 with heap:=s3.heap.push {cls:=.type "slice",data:=.fields (List.toArray [j,n,.none])}};exact tail_any (ops:=[.ref s3.heap.objs.size,v]) ht hT hg (by with_unfolding_all rfl)
def rN(xs:List V)(lo hi:Option Int):List V:=(xs.drop<|HT.Ib ↑xs 0 lo).take (HT.Ib ↑xs ↑xs hi-HT.Ib ↑xs 0 lo)
def GJ(xs)(lo j):↑(rN xs lo j)<=↑xs:=by delta rN;rw[bN,cw];omega
end
def Fm(n:Nat)(i:Int):Option Nat:=if 0<=i then(if i<n then some i.toNat else none)else if-(n:Int)<=i then some (i+n).toNat else none
def nj{n:Type}(xs:List n)(i:Int):Option n:=(Fm ↑xs i).bind λj=>xs[j]?
def LK(h:Fm n i>j):seqIndex? i n>j/\j<n/\-(n:Int)<=i/\i<n:=by
 delta Fm at h;by_cases h0:0<=i
 .rw[ac h0]at h;by_cases q:i<n
  .rw[ac q]at h;let e:i.toNat=j:=aO h;exact#[by rw[SU h0 q,e],oM,oM,q]
  .rw[aa q]at h;cases h
 .rw[aa h0]at h;by_cases q:-(n:Int)<=i
  .rw[ac q]at h;let e:(i+n).toNat=j:=aO h;exact#[by rw[O0 oM q,e],oM,q,oM]
  .rw[aa q]at h;cases h
def Ll(h:nj xs i>v):∃j,seqIndex? i ↑xs>j/\xs[j]?>v/\j<↑xs/\-(↑xs:Int)<=i/\i<↑xs:=by
 delta nj at h;cases e:Fm ↑xs i with
 |none=>rw[e]at h;cases h
 |some j=>
  rw[e]at h;let#[n,q,z,B]:=LK e;exact#[j,n,h,q,z,B]
def EV{xs:List q}{j:Nat}{v:q}(h:xs[j]?>v):nj xs (j:Int)>v:=by
 let n:j<↑xs:=(aP.mp h).1;let e:Fm ↑xs (j:Int)>j:=by delta Fm;rw[ac oM,ac oM];simp
 delta nj;rw[e];exact h
def Ti(b:fU):Prop:=∀o i,FX b false o i=operate [o,i] (G0 o i)
def Z_(X:Cx)(r:R2):Prop:=
 ∀value slice aB s σ H x y v u Q,Inv X aB σ H s->RelV x v->RelV y u->r x y H Q->
  FX slice false v u=operate [v,u] (G0 v u)->bj (model X.prog X.w) X.A (MD value slice v u) (EP X aB σ Q) X.xe s
def Y_(X:Cx)(id:String)(r:V->List V->Hp->VK->Prop):Prop:=
 ∀aB s σ H x xs v us Q,Inv X aB σ H s->RelV x v->Vals xs us->r x xs H Q->
  bj (model X.prog X.w) X.A (call (.builtin id) (v::us)) (EP X aB σ Q) X.xe s
section
variable{X:Cx}{a b:fU}{ta tb:TE}{pos:Pos}
def bM(j:Z_ X r)(n:PE X a z)(B:PE X b D)(F:Ti b):PE X (.Subscript a b pos) (Ox r z D):=by intro aB s σ H Q I h;exact IQ (WZ n B I h λv u s2 x y G J L M q=>j a b aB s2 σ G x y v u Q J L M q<|F _ _)
def QW(K:ao):R2:=λx y H Q=>∃p xs i v,x=.ref p/\y=.int i/\bW K H p xs/\nj xs i>v/\Q v H
def N8(K:ao):R2:=λx y H Q=>∃p xs i v,x=.ref p/\y=.int i/\f9 K H p xs/\nj xs i>v/\Q v H
def TV:Z_ X (QW X.K):=by
 intro value slice aB s σ H x y v u Q I L M h G;obtain⟨p,xs,i,z,rfl,rfl,N,he,q⟩:=h;cases L;obtain⟨t,rfl⟩:=M;let#[B,r,pl,hz]:=I.list N;let#[j,n,O,h3,S,U]:=Ll he;let#[w,J,D]:=r.get O;let Y:=↑r;let hn:=BD;let fin:EP X aB σ Q w s:=#[z,H,I,D,q];by_cases h0:0<=i
 .let F:i.toNat=j:=by rw[SU h0 U]at n;exact aO n
  exact item_listR pl.isList h0 oM (by rw[F];simpa using J) fin G
 .let F:(i+(B.toArray.size:Int)).toNat=j:=by rw[O0 oM S]at n;rw[bA,<-Y];exact aO n
  exact subscriptTail_builtinR (x:=w) pl.isList.typeIs slot_list_getitem.lookup
   (wpAny_getItem_list_neg (Q:=λr Z=>r=w/\EP X aB σ Q r Z) pl.isList oM (by rw[bA]<;>omega) oM (by rw[F];simpa using J) #[rfl,fin]) G
def XD:Z_ X (N8 X.K):=by
 intro value slice aB s σ H x y v u Q I B D h F;obtain⟨p,xs,i,z,rfl,rfl,G,he,q⟩:=h;cases B;obtain⟨t,rfl⟩:=D;let#[J,r,pl,hz]:=I.tuple G;let#[j,L,M,U,Y,Z]:=Ll he;let#[w,N,n]:=r.get M;let O:=↑r;let hn:=BD;let fin:EP X aB σ Q w s:=#[z,H,I,n,q];exact subscriptTail_builtinR (x:=w) pl.typeIs slot_tuple_getitem.lookup
  (getItem_tuple (j:=j) (Q:=λr S=>r=w/\EP X aB σ Q r S) pl oM oM (by rw[bA,<-O];exact L) (by simpa using N) #[rfl,fin]) F
def JZ(q:List Value)(n j)(u):kP (·.setIfInBounds j u) {cls:=.type "list",data:=.seq q.toArray n}={cls:=.type "list",data:=.seq (q.set j u).toArray n}:=by simp[kP]
def Inv.lst{aB:List (Addr×Obj)}{σ:St}{H:Hp}{s:bq}{p:Addr}{xs:List V}(I:Inv X aB σ H s)(h:H p>.lst xs):
  ∃(j:List Value)(n:Nat),Vals xs j/\s.heap.get? p>{cls:=.type "list",data:=.seq j.toArray n}/\↑xs<=sizeLine:=by
 let#[z,j,n,r,e]:=I.fm p _ h;exact#[j,n,r,e,z]
def Inv.XT{j its':List Value}(I:Inv X aB σ H s)(h:H p>.lst xs)
  (z:s.heap.get? p>{cls:=.type "list",data:=.seq j.toArray n})(hf:f {cls:=.type "list",data:=.seq j.toArray n}={cls:=.type "list",data:=.seq its'.toArray n'})(r:Vals ys its')(hz:↑ys<=sizeLine)(t):
  Inv X aB σ (upd H p<|.lst ys) {s with heap:=s.heap.update p f,toks:=t}:=by
 let e:(s.heap.update p f).get? p>{cls:=.type "list",data:=.seq its'.toArray n'}:=by rw[gu f z (by rw[hf]<;>rfl),hf]
 refine I.write (x:=p) (e:=p) (by rw[h];trivial) (.inl rfl) (λb u B q=>(d9 _ _<|eG B).trans q) #[_,e] ?_;exact#[hz,its',n',r,e]
def V_:V->V->V->Hp->(Hp->Prop)->Prop:=λo i v H Q=>∃p xs k j,o=.ref p/\i=.int k/\H p>.lst xs/\Fm ↑xs k>j/\Q (upd H p<|.lst<|xs.set j v)
def set_list:aab X V_:=by
 intro aB s σ H o i v Z iv u Q I O S U h;obtain⟨p,xs,k,j,rfl,rfl,J,Y,q⟩:=h;cases O;obtain⟨t,rfl⟩:=S;let#[z,n,r,D,hz]:=I.lst J;let#[B,h2,L,M]:=LK Y;let F:=↑r;let hn:=BD;let N:Inv X aB σ (upd H p<|.lst<|xs.set j v) {s with heap:=s.heap.update p (kP (·.setIfInBounds j u))}:=
  I.XT J D (JZ z n j u) (r.set U j) (by rw[ku];exact hz) s.toks
 by_cases h0:0<=k
 .let G:k.toNat=j:=by rw[SU h0 M]at B;exact aO B
  exact PySem.W.ki_setAt D h0 oM (by rw[bA,<-F];exact M) (by rw[G];exact#[_,N,q])
 .let G:(k+(z.toArray.size:Int)).toNat=j:=by rw[O0 oM L]at B;rw[bA,<-F];exact aO B
  exact PySem.W.ki_setBack D oM (by rw[bA,<-F];exact L) oM (by rw[G];exact#[_,N,q])
def FK(lo hi)(n):(oA lo hi none n).1=((HT.Ib n 0 lo:Nat):Int)/\(oA lo hi none n).2.1=((HT.Ib n n hi:Nat):Int)/\(oA lo hi none n).2.2=1:=by
 refine#[?_,?_,rfl]
 .cases lo with
  |none=>simp[oA,HT.Ib]
  |some i=>
   simp only[oA,HT.Ib,MT,show(1:Int)>0 by decide,if_true];by_cases h:i<0
   .simp only[h,if_true]<;>omega
   .simp only[h,if_false]<;>omega
 .cases hi with
  |none=>simp[oA,HT.Ib]
  |some i=>
   simp only[oA,HT.Ib,MT,show(1:Int)>0 by decide,if_true];by_cases h:i<0
   .simp only[h,if_true]<;>omega
   .simp only[h,if_false]<;>omega
def Dq(lL:List Value)(lo hi):slicePick lL.toArray lo hi none=((lL.drop<|HT.Ib ↑lL 0 lo).take (HT.Ib ↑lL ↑lL hi-HT.Ib ↑lL 0 lo)).toArray:=by let#[h1,h2,h3]:=FK lo hi lL.toArray.size;delta slicePick;rw[h1,h2,h3];simp only[sliceRange_one,pick_run,bA]<;>rfl
def Yq(K:ao):V->Option Int->Option Int->Hp->VK->Prop:=λx lo hi H Q=>∃a xs,x=.ref a/\bW K H a xs/\∀p,H p=none->Q (.ref p) (upd H p<|.lst<|rN xs lo hi)
def UY:SlR X (Yq X.K):=by intro aB s σ H x v vl vu lo hi sl Q I rx hs pl pu h;obtain⟨a,xs,rfl,hx,q⟩:=h;cases rx;obtain⟨lL,r,ht,hz⟩:=I.list hx;let hlen:=↑r;exists "list",_,slot_list_getitem.lookup,ht.isList.typeIs;refine wpAny_getItem_list_slice ht.isList hs pl pu .none sP ?_ (by rw[bA]<;>omega);rw[Dq,<-hlen];refine#[.ref s.heap.objs.size,_,I.laid (t':=s.toks) (o:=.lst (rN xs lo hi)) (λb ob q=>aF _ q) (aI _) ?_,rfl,q _ (I.fm.fresh (aI _))];exact#[bu (GJ xs lo hi) hz,_,0,(r.drop (HT.Ib ↑xs 0 lo)).take (HT.Ib ↑xs ↑xs hi-HT.Ib ↑xs 0 lo),bw _ rfl]
def lS:V->Bool
 |.fP=>true
 |.bl _=>true
 |.int _=>true
 |.str _=>true
 |_=>false
def GQ:V->V->Bool
 |.fP,.fP=>true
 |.bl a,.bl b=>a==b
 |.bl a,.int b=>(if a then 1 else 0)==b
 |.int a,.bl b=>a==(if b then 1 else 0)
 |.int a,.int b=>a==b
 |.str a,.str b=>a==b
 |_,_=>false
def Xa(ry:RelV y u)(rx:RelV x v)(fy:lS y=true)(fx:lS x=true):Zl A s u v (GQ y x):=by
 cases y with
 |fP=>
  cases ry
  cases x with
  |fP=>cases rx;exact SeqAt.EqAt.same _
  |bl b=>cases rx;exact SeqAt.EqAt.none_bool b
  |int b=>obtain⟨t,rfl⟩:=rx;exact SeqAt.EqAt.none_int b t
  |str b=>obtain⟨t,rfl⟩:=rx;exact SeqAt.EqAt.none_str b t
  |_=>exact ae (show false=true from fx) bQ
 |bl a=>
  cases ry
  cases x with
  |fP=>cases rx;exact SeqAt.EqAt.bool_none a
  |bl b=>cases rx;exact SeqAt.EqAt.bool_bool a b
  |int b=>obtain⟨t,rfl⟩:=rx;exact SeqAt.EqAt.bool_int a b t
  |str b=>obtain⟨t,rfl⟩:=rx;exact SeqAt.EqAt.bool_str a b t
  |_=>exact ae (show false=true from fx) bQ
 |int a=>
  obtain⟨t',rfl⟩:=ry;cases x with
  |fP=>cases rx;exact SeqAt.EqAt.int_none a t'
  |bl b=>cases rx;exact SeqAt.EqAt.int_bool a t' b
  |int b=>obtain⟨t,rfl⟩:=rx;exact SeqAt.EqAt.int_int a t' b t
  |str b=>obtain⟨t,rfl⟩:=rx;exact EO a t' b t
  |_=>exact ae (show false=true from fx) bQ
 |str a=>
  obtain⟨t',rfl⟩:=ry;cases x with
  |fP=>cases rx;exact SeqAt.EqAt.str_none a t'
  |bl b=>cases rx;exact SeqAt.EqAt.str_bool a t' b
  |int b=>obtain⟨t,rfl⟩:=rx;exact EQ a t' b t
  |str b=>obtain⟨t,rfl⟩:=rx;exact SeqAt.EqAt.str_str a t' b t
  |_=>exact ae (show false=true from fx) bQ
 |_=>exact ae (show false=true from fy) bQ
def IW(x:V)(u:Value):Bool:=match u with
 |.none=>GQ .fP x
 |.bool b=>GQ (.bl b) x
 |.int i _=>GQ (.int i) x
 |.str z _=>GQ (.str z) x
 |_=>false
def E9(r:RelV y u)(f:lS y=true):IW x u=GQ y x:=by
 cases y with
 |fP=>cases r;rfl
 |bl b=>cases r;rfl
 |int i=>obtain⟨t,rfl⟩:=r;rfl
 |str z=>obtain⟨t,rfl⟩:=r;rfl
 |_=>exact ae (show false=true from f) bQ
def vX:∀{xs:List V}{us:List Value},Vals xs us->xs.all lS=true->us.any (IW x)=xs.any λy=>GQ y x
 |_,_,.nil,_=>rfl
 |y::xs,u::us,.cons r t,f=>by rw[Vs,b_]at f;rw[kj,kj,E9 r f.1,vX t f.2]
def pV(n:RelV x v)(q:lS x=true):∀{xs:List V}{us:List Value},Vals xs us->xs.all lS=true->∀u∈us,Zl A s u v (IW x u)
 |_,_,.nil,_=>λu j=>by cases j
 |y::xs,u::us,.cons r t,f=>λz j=>by
  rw[Vs,b_]at f;obtain rfl|j:=aE.mp j
  .rw[E9 r f.1];exact Xa r n f.1 q
  .exact pV n q t f.2 z j
def SM(x:V)(xs:List V):Bool:=xs.any λy=>GQ y x
def rIn(K:ao)(neg:Bool):R2:=λx y H Q=>∃p xs,y=.ref p/\(bW K H p xs\/f9 K H p xs)/\lS x=true/\xs.all lS=true/\Q (.bl (if neg then !SM x xs else SM x xs)) H
def NZ:uB X (d7 .In) (rIn X.K false):=by
 intro aB s σ H x y v u Q I z D h;obtain⟨p,xs,rfl,n,B,fs,q⟩:=h;cases D;obtain n|n:=n
 .let#[j,r,pl,hz]:=I.list n;refine SeqAt.in_listAt (IW x) pl.isList (λw hw=>pV z B r fs w<|by simpa using hw) #[.bl _,H,I,rfl,?_];rw[show j.toArray.any (IW x)=j.any (IW x) by simp,vX r fs];exact q
 .let#[j,r,pl,hz]:=I.tuple n;refine SeqAt.in_tupleAt (IW x) pl (λw hw=>pV z B r fs w<|by simpa using hw) #[.bl _,H,I,rfl,?_];rw[show j.toArray.any (IW x)=j.any (IW x) by simp,vX r fs];exact q
def FA:uB X (d7 .NotIn) (rIn X.K true):=by
 intro aB s σ H x y v u Q I z D h;obtain⟨p,xs,rfl,n,B,fs,q⟩:=h;cases D;obtain n|n:=n
 .let#[j,r,pl,hz]:=I.list n;refine SeqAt.notIn_listAt (IW x) pl.isList (λw hw=>pV z B r fs w<|by simpa using hw) #[.bl _,H,I,rfl,?_];rw[show j.toArray.any (IW x)=j.any (IW x) by simp,vX r fs];exact q
 .let#[j,r,pl,hz]:=I.tuple n;refine SeqAt.notIn_tupleAt (IW x) pl (λw hw=>pV z B r fs w<|by simpa using hw) #[.bl _,H,I,rfl,?_];rw[show j.toArray.any (IW x)=j.any (IW x) by simp,vX r fs];exact q
def E2:iN X (.builtin "len") (λxs H Q=>∃p ys,xs=[.ref p]/\(bW X.K H p ys\/f9 X.K H p ys)/\Q (.int ↑ys) H):=by
 intro aB s σ H xs us Q I r h;obtain⟨p,ys,rfl,j,q⟩:=h;obtain⟨u,rfl,B⟩:=vals1 r;cases B;let D:=BD;obtain j|j:=j
 .let#[n,z,pl,hz]:=I.list j;let hlen:=↑z;exact Calls.call_len_list pl.isList (by simp only[bA]<;>omega) #[.int ↑ys,H,I.tok _,#[s.toks+1,by rw[bA,hlen]],q]
 .let#[n,z,pl,hz]:=I.tuple j;let hlen:=↑z;exact len_tuple pl (by simp only[bA]<;>omega) #[.int ↑ys,H,I.tok _,#[s.toks+1,by rw[bA,hlen]],q]
def E3:iN X (.builtin "len") (λxs H Q=>∃z,xs=[.str z]/\↑z<=sizeLine/\Q (.int ↑z) H):=by intro aB s σ H xs us Q I r h;obtain⟨z,rfl,hz,q⟩:=h;obtain⟨u,rfl,t,rfl⟩:=vals1 r;let j:=BD;exact len_str oM #[.int ↑z,H,I.tok _,#[_,rfl],q]
def E4:iN X (.type "list") (λxs H Q=>∃p ys,xs=[.ref p]/\(bW X.K H p ys\/f9 X.K H p ys)/\∀l,H l=none->Q (.ref l) (upd H l<|.lst ys)):=by
 intro aB s σ H xs us Q I r h;obtain⟨p,ys,rfl,D,q⟩:=h;obtain⟨u,rfl,M⟩:=vals1 r;cases M;let fin:∀j,Vals ys j->↑ys<=sizeLine->∀h' z,(∀b L,s.heap.get? b>L->h'.get? b>L)->
   h'.get? s.heap.objs.size>{cls:=.type "list",dict:=none,data:=.seq j.toArray z,slots:=#[]}->EP X aB σ Q (.ref s.heap.objs.size) {s with heap:=h'}:=λj B hz h' z F e=>
  #[.ref s.heap.objs.size,_,I.laid (t':=s.toks) F (aI _) (show eQ X.prog X.w _ h' _ (.lst ys)from#[hz,j,z,B,e]),rfl,q _<|I.fm.fresh<|aI _]
 obtain D|D:=D
 .let#[j,B,pl,hz]:=I.list D;let hlen:=↑B;let#[o,G,J,n,hd]:=pl.isList;exact call_list_seq p (.inl rfl) G J hd (λh' z F e=>fin j B hz h' z F e) (by simp only[bA]<;>omega)
 .let#[j,B,pl,hz]:=I.tuple D;let hlen:=↑B;let#[o,G,J,n,hd]:=pl;exact call_list_seq p (.inr rfl) G J hd (λh' z F e=>fin j B hz h' z F e) (by simp only[bA]<;>omega)
def C5:iN X (.type "tuple") (λxs H Q=>∃p ys,xs=[.ref p]/\((bW X.K H p ys/\∀l,H l=none->Q (.ref l) (upd H l<|.tup ys))\/(f9 X.K H p ys/\Q (.ref p) H))):=by
 intro aB s σ H xs us Q I r h;obtain⟨p,ys,rfl,h⟩:=h;obtain⟨u,rfl,D⟩:=vals1 r;cases D;obtain⟨n,q⟩|⟨n,q⟩:=h
 .let#[j,z,pl,hz]:=I.list n;let hlen:=↑z;refine call_tuple_list pl.isList (λh' F=>?_) (by simp only[bA]<;>omega);let B:Inv X aB σ H {s with heap:=h'}:=I.kept (t':=s.toks) F;let G:Inv X aB σ (upd H h'.objs.size<|.tup ys) {s with heap:=h'.push {cls:=.type "tuple",data:=.seq j.toArray}}:=
   B.laid (t':=s.toks) (λb o e=>aF _ e) (aI _) (show eQ X.prog X.w _ _ _ (.tup ys)from#[hz,j,z,IsTup.new _ _])
  exact#[.ref h'.objs.size,_,G,rfl,q _<|B.fm.fresh<|aI _]
 .let#[j,z,pl,hz]:=I.tuple n;exact call_tuple_same pl #[.ref p,H,I,rfl,q]
def tyV(K:ao)(T:String)(x:V)(H:Hp):Prop:=match x with
 |.str _=>T="str"
 |.int _=>T="int"
 |.ref p=>(T="list"/\∃xs,bW K H p xs)\/(T="tuple"/\∃o,K.lookup p>o/\o.cls=.type "tuple"/\o.dict=none)\/
   (T="dict"/\((∃nz,H p>.dK nz)\/∃nz,H p>.dT nz))\/(T="set"/\∃S n,H p>.set S n)
 |_=>False
def Sf(I:Inv X aB σ H s)(r:RelV x v)(ty:tyV X.K T x H):
  s.TypeIs v T/\∀a,v=.ref a->∃D,s.heap.get? a>D/\D.dict=none:=by
 cases x with
 |str z=>
  obtain⟨t,rfl⟩:=r;cases(show T="str" from ty);exact#[typeIs_str s z t,λ_ e=>nomatch e]
 |int i=>
  obtain⟨t,rfl⟩:=r;cases(show T="int" from ty);exact#[Wz s i t,λ_ e=>nomatch e]
 |ref p=>
  cases r
  obtain⟨rfl,xs,F⟩|⟨rfl,o,j,G,hd⟩|⟨rfl,j⟩|⟨rfl,S,n,j⟩:=ty
  .let#[J,_,pl,_]:=I.list F;refine#[pl.isList.typeIs,λa e=>?_];cases e;let#[o,n,e,c,hd,_]:=pl;exact#[o,e,hd]
  .refine#[#[o,I.Ai p o j,G],λa e=>?_];cases e;exact#[o,I.Ai _ o j,hd]
  .let z:∃o,s.heap.get? p>o/\o.ExactDict:=by
    obtain⟨q,j⟩|⟨q,j⟩:=j
    .let#[_,_,_,_,o,_,_,e,ex,_]:=I.fm p _ j;exact#[o,e,ex]
    .let#[_,_,_,_,o,_,_,e,ex,_]:=I.fm p _ j;exact#[o,e,ex]
   let#[o,e,ex]:=z;refine#[#[o,e,ex.1],λa B=>?_];cases B;exact#[o,e,ex.2.1]
  .let#[o,_,_,_,e,ex,_]:=I.fm p _ j;refine#[#[o,e,ex.1],λa B=>?_];cases B;exact#[o,e,ex.2.1]
 |_=>exact dJ ty
def YI(K:ao)(T:String)(r:V->List V->Hp->VK->Prop)(to:TE):TE:=λσ H Q=>to σ H λx H1=>tyV K T x H1/\r x [] H1 Q
def tBM(K:ao)(T:String)(r:V->List V->Hp->VK->Prop)(to:TE)(t:TA):TE:=λσ H Q=>to σ H λx H1=>tyV K T x H1/\t σ H1 λxs H2=>r x xs H2 Q
variable{o e:fU}{es:List fU}{to:TE}{t:TA}{name:Str}{apos aak:Pos}{T id:String}{r:V->List V->Hp->VK->Prop}
def X8(F:IP T)(slot:Slot T name id)(z:typeOf (.builtin id)=pure (.type "method_descriptor"))(hm:Y_ X id r)(G:PE X o to)
  (j:jT o name X.env (eval o X.env)=eval o X.env:=by rfl)(n:(apos.endLine==q.line)=true:=by rfl):PE X (.Call (.Attribute o name apos) [] [] q) (YI X.K T r to):=by
 intro aB s σ H Q I h;refine wpAny_Call_method0_late j n<|gN (G aB s σ H _ I h) λv s1#[x,H1,B,D,ty,J]=>?_;let#[L,M]:=Sf B D ty;exact#[T,id,F,slot,z,L,M,F2 rfl<|PySem.evalArgs_none<|hm aB s1 σ H1 x [] v [] Q B D .nil J]
def abq(L:IP T)(slot:Slot T name id)(D:typeOf (.builtin id)=pure (.type "method_descriptor"))(hm:Y_ X id r)(M:PE X o to)(N:PA X (e::es) t)
  (q:jT o name X.env (eval o X.env)=eval o X.env:=by rfl)
  (B:((gW j<|bi (e::es) X.env).all (λx=>!x.1)&&(tZ j<|l8 [] X.env).all (λx=>x.1.isSome)
   &&decide (↑(e::es)+↑([]:List OK)+(if([]:List OK).isEmpty then 0 else 1)<30))=true:=by rfl)
  (z:(apos.endLine==j.line)=true:=by rfl)(O:bi (e::es) X.env=(false,eval e X.env)::bi es X.env:=by rfl)(n:(gW j<|bi es X.env).any (·.1)=false:=by rfl):
  PE X (.Call (.Attribute o name apos) (e::es) [] j) (tBM X.K T r to t):=by
 intro aB s σ H Q I h;refine wpAny_Call_method_late q B z rfl<|gN (M aB s σ H _ I h) λv s1#[x,H1,F,G,ty,S]=>?_;let#[U,Y]:=Sf F G ty;exists T,id,L,slot,D,U,Y;let J:=N j aB s1 σ H1 _ F S;rw[O]at J|-;refine F2 (by show(false||(gW j<|bi es X.env).any (·.1))=false;rw[n]<;>rfl) (Calls.evalArgs_plain ?_);exact gN J λus s2#[vs,Z,I2,r2,q2]=>hm aB s2 σ Z x vs v us Q I2 G r2 q2
end
def MtM(X:Cx)(id:String)(r:V->List V->Hp->VK->Prop):Prop:=
 ∀aB s σ H x xs v us Q,Inv X aB σ H s->RelV x v->Vals xs us->r x xs H Q->
  bj (model X.prog X.w) X.A (call (.builtin id) (v::us)) (EP X aB σ Q) X.xe s
def Vals.one:∀{x:V}{us:List Value},Vals [x] us->∃u,us=[u]/\RelV x u
 |_,_,.cons r .nil=>#[_,rfl,r]
def Vals.zero:∀{us:List Value},Vals [] us->us=[]
 |_,.nil=>rfl
def Vals.dropLast(h:Vals xs us):Vals xs.dropLast us.dropLast:=by
 induction h with
 |nil=>exact .nil
 |cons r t j=>
  cases t with
  |nil=>exact .nil
  |cons q t'=>exact .cons r j
def Vals.rep(h:Vals xs us):∀k,Vals (cp k xs).flatten (cp k us).flatten
 |0=>.nil
 |k+1=>by rw[gi,gi,lF,lF];exact Vals.append h (Vals.rep h k)
def Jx{z:Type}(l:List z):l.eraseIdx (↑l-1)=l.dropLast:=by
 induction l with
 |nil=>rfl
 |cons a r j=>
  cases r with
  |nil=>rfl
  |cons b r=>
   let e:↑(a::b::r)-1=(↑(b::r)-1)+1:=by let n:↑(a::b::r)=↑r+2:=rfl;let q:↑(b::r)=↑r+1:=rfl;omega
   rw[e,gZ,j];all_goals rfl
def foldl_rep(j:List Value):∀k acc,
  MP (λn q=>n++q) acc.toArray (cp k j.toArray)=(acc++(cp k j).flatten).toArray
 |0,acc=>sP
 |k+1,acc=>by
  let e:acc.toArray++j.toArray=(acc++j).toArray:=sP;let z:(acc++j)++(cp k j).flatten=acc++(cp (k+1) j).flatten:=by rw[gi,lF,cJ]
  rw[<-z,<-foldl_rep j k (acc++j),<-e,gi,cy]
section
variable{X:Cx}{aB:List (Addr×Obj)}{σ:St}{H:Hp}{s:bq}{l b:Addr}{xs ys zs:List V}
def Inv.XS{j its':List Value}(I:Inv X aB σ H s)(z:H l>.lst xs)
  (e:s.heap.get? l>{cls:=.type "list",data:=.seq j.toArray n})(hf:f j.toArray=its'.toArray)(B:Vals ys its')(hz:↑ys<=sizeLine):
  Inv X aB σ (upd H l<|.lst ys) {s with heap:=s.heap.update l<|kP f,toks:=t'}:=by
 let q:=PySem.IsL.update e f;rw[hf]at q;refine I.write (x:=l) (e:=l) (by rw[z];exact trivial) (.inl rfl) (λG u D F=>(d9 s.heap (kP f) (eG D)).trans F) #[_,q] ?_;exact#[hz,its',_,B,q]
def Inv.abf(I:Inv X aB σ H s)(n:Vals ys j)(hz:↑ys<=sizeLine):
  Inv X aB σ (upd H s.heap.objs.size<|.lst ys) {s with heap:=s.heap.push {cls:=.type "list",data:=.seq j.toArray},toks:=t'}:=
 I.laid (λ_ _ q=>aF _ q) (aI _) #[hz,j,0,n,bw _ rfl]
def Inv.fresh(I:Inv X aB σ H s):H s.heap.objs.size=none:=I.fm.fresh (aI _)
def Inv.JW(I:Inv X aB σ H s)(q:H l>.lst xs):↑xs<=sizeLine/\∃j n,Vals xs j/\↑xs=↑j/\s.heap.get? l>{cls:=.type "list",data:=.seq j.toArray n}:=by let#[z,j,n,r,e]:=I.fm l _ q;exact#[z,j,n,r,↑r,e]
def Hy(h:n<=sizeLine):jJ n=false:=by delta jJ;exact ah oM
end
section
variable{X:Cx}
def Mc:V->List V->Hp->VK->Prop:=λx vs H Q=>∃l xs y,x=.ref l/\vs=[y]/\H l>.lst xs/\↑xs<sizeLine/\Q .fP (upd H l<|.lst<|xs++[y])
def fT:MtM X "list.append" Mc:=by intro aB s σ H x vs v us Q I D G h;obtain⟨l,xs,y,rfl,rfl,B,hz,q⟩:=h;cases D;obtain⟨u,rfl,J⟩:=G.one;let#[z,j,n,r,L,e]:=I.JW B;refine uG F.slot_list_append #[_,e,rfl] F.entry_list_append (F.args_list_append_2 _ _) (PySem.list_append l j.toArray n u<|by rw[bA];omega) #[e,?_];refine#[.fP,_,I.XS (its':=j++[u]) B e sP (r.append<|.cons J .nil) ?_,rfl,q];rw[aW,gw];omega
def FG:V->List V->Hp->VK->Prop:=λx vs H Q=>∃l b xs zs,x=.ref l/\vs=[.ref b]/\H l>.lst xs/\H b>.lst zs/\↑xs+↑zs<=sizeLine/\Q .fP (upd H l<|.lst<|xs++zs)
def iV:MtM X "list.extend" FG:=by
 intro aB s σ H x vs v us Q I J L h;obtain⟨l,b,xs,zs,rfl,rfl,G,M,hz,q⟩:=h;cases J;obtain⟨u,rfl,N⟩:=L.one;cases N;let#[z,B,n,r,Z,e]:=I.JW G;let#[z2,j,O,S,U,Y]:=I.JW M;let hsz:B.toArray.size+j.toArray.size<=sizeLine:=by rw[bA,bA];omega
 let D:¬(!B.toArray.isEmpty&&jJ (B.toArray.size+j.toArray.size))=true:=by rw[Hy hsz,Bool.and_false];exact bQ
 refine uG F.slot_list_extend #[_,e,rfl] F.entry_list_extend (F.args_list_extend_2 _ _)
  (AutoSeq1.list_extend_list_list_0 l B.toArray n b j.toArray O D (by rw[bA];omega) oM) #[e,Y,?_]
 refine#[.fP,_,I.XS (its':=B++j) G e sP (r.append S) ?_,rfl,q];rw[aW];omega
def abx:V->List V->Hp->VK->Prop:=λx vs H Q=>∃l xs y,x=.ref l/\vs=[]/\H l>.lst xs/\xs[↑xs-1]?>y/\Q y (upd H l<|.lst xs.dropLast)
def XX:MtM X "list.pop" abx:=by
 intro aB s σ H x vs v us Q I J L h;obtain⟨l,xs,y,rfl,rfl,G,M,q⟩:=h;cases J;let B:=L.zero;subst B;let#[z,j,n,r,N,e]:=I.JW G;let#[u,O,S]:=r.get M;let D:j.toArray[j.toArray.size-1]?>u:=by show j.toArray[↑j-1]?>u;rw[<-dv,<-N];exact O
 refine uG F.slot_list_pop #[_,e,rfl] F.entry_list_pop (F.args_list_pop_1 _) (MeetsSeq.list_pop_last l j.toArray n u D<|by rw[bA];omega) #[e,?_];refine#[y,_,I.XS (its':=j.dropLast) G e ?_ r.dropLast ?_,S,q]
 .show j.toArray.eraseIdxIfInBounds (j.toArray.size-1)=j.dropLast.toArray;rw[bA,List.eraseIdxIfInBounds_toArray,Jx]
 .rw[List.length_dropLast];omega
def abu:R2:=λx y H Q=>∃l b xs zs,x=.ref l/\y=.ref b/\H l>.lst xs/\H b>.lst zs/\↑xs+↑zs<=sizeLine/\∀p,H p=none->Q (.ref p) (upd H p<|.lst<|xs++zs)
def qM:uB X (xM .Add) abu:=by intro aB s σ H x y v u Q I D F h;obtain⟨l,b,xs,zs,rfl,rfl,G,J,hz,q⟩:=h;cases D;cases F;let#[z,B,n,r,S,e]:=I.JW G;let#[U,j,Y,L,M,N]:=I.JW J;refine PySem.P.add_list e N ?_ (by rw[bA,bA];omega);let O:B.toArray++j.toArray=(B++j).toArray:=sP;rw[O];exact#[.ref _,_,I.abf (t':=s.toks) (r.append L) (by rw[aW];omega),rfl,q _ I.fresh]
def aby:R2:=λx y H Q=>∃l k xs,x=.ref l/\y=.int k/\H l>.lst xs/\-(2^63)<=k/\k<2^63/\↑xs*k.toNat<=sizeLine/\
 ∀p,H p=none->Q (.ref p) (upd H p<|.lst (cp k.toNat xs).flatten)
def len_rep{n:Type}(xs:List n)(k):↑(cp k xs).flatten=k*↑xs:=by
 induction k with
 |zero=>simp
 |succ k j=>rw[gi,lF,aW,j,IM,II]
def QJ:uB X (xM .Mult) aby:=by
 intro aB s σ H x y v u Q I N O h;obtain⟨l,k,xs,rfl,rfl,S,Y,Z,hz,q⟩:=h;cases N;obtain⟨t,rfl⟩:=O;let#[z,j,n,r,hl,e]:=I.JW S;let hlen:j.toArray.size*k.toNat<=sizeLine:=by rw[bA,<-hl];exact hz
 let D:¬GT.gt (j.toArray.size*k.toNat) ((2^63-1)/8):=by let:(sizeLine:Nat)<=(2^63-1)/8:=dC;omega
 let G:¬(!Builtin.List.listFitsIndex k)=true:=by rw[fitsIndex_both Y Z];exact bQ
 let B:¬jJ (j.toArray.size*k.toNat)=true:=by rw[Hy hlen];exact bQ
 let J:MP (λL M=>L++M) #[] (cp (if j.toArray.isEmpty=true then 0 else k.toNat) j.toArray)=(cp k.toNat j).flatten.toArray:=by
  let f0:∀m,MP (λL M=>L++M) #[] (cp m j.toArray)=(cp m j).flatten.toArray:=λm=>by let:=foldl_rep j m [];rw[rW]at this;exact this
  rw[f0];cases j with
  |nil=>simp
  |cons a r'=>rw[aa sP]
 refine wpAny_binaryOp_repeat_ref (T:="list") (U:="int") dC #[_,e,rfl] (λs'=>Wz s' k t) noFill_list_mul F.fills_int_mul WJ repeat_list F.slot_int_index.lookup
  (uG WJ (Wz s k t) F.entry_int_rmul (F.args_int_rmul_2 _ _) (int___rmul___int_list k t l j.toArray n)
   #[e,rfl,#[_,e,rfl],uG F.slot_list_mul #[_,e,rfl] F.entry_list_mul (F.args_list_mul_2 _ _) (AutoListH.list___mul___list_int_3 l j.toArray n k t G D B) #[e,?_]])
 rw[J];exact#[.ref _,_,I.abf (t':=s.toks) (r.rep k.toNat) (by rw[len_rep,Nat.mul_comm];exact hz),rfl,q _ I.fresh]
end
def Vals.ints:∀{ns:List Int}{us:List Value},Vals (ns.map V.int) us->rG us ns
 |[],us,h=>by rw[jh]at h;cases h;exact IntsAre.nil
 |n::ns,us,h=>by
  rw[bb]at h;cases h with
  |cons r t=>
   obtain⟨k,rfl⟩:=r;exact IntsAre.cons n k (Vals.ints t)
def nF:∀{us:List Value}{ns:List Int},rG us ns->Vals (ns.map V.int) us
 |_,_,.nil=>by rw[jh];exact Paired.nil
 |_,_,.cons n t h=>by rw[bb];exact Paired.cons (show RelV (V.int n) (n6 n t)from#[t,rfl]) (nF h)
def Vals.Oc(r:Vals [V.ref a] us):us=[cA a]:=by
 cases r with
 |cons r t=>
  cases t
  cases r
  rfl
section
variable{prog:a7}{w:bS}{A:dZ}{E:Value->bq->Prop}{s:bq}{l:Addr}{lL:List Value}{ns:List Int}{Q:Value->bq->Prop}
def U2(B:A.handled=none)(n:s.heap.IsList l j.toArray)(q:rG j ns)
  (h:∀h' tk t',(∀b o,s.heap.get? b>o->h'.get? b>o)->Q (.int ns.sum t') {s with heap:=h',toks:=tk}):bj (model prog w) A (call (.builtin "sum") [.ref l]) Q E s:=by
 let#[xs,e]:=q.allInts.items;let z:numsOf (intItems xs).toList=ns:=by rw[<-e];exact q.numsOf
 rw[LU]at z;rw[e]at n;refine PySem.sum_intListG B n λh' tk t' D=>?_;let:=h h' tk t' D;rw[preSum_eq,cz sP,z];exact this
def T6(F:A.handled=none)(z:s.heap.IsList l n.toArray)(B:rG n ns)(q:0<↑ns)
  (h:∀h' tk M t',(∀b o,s.heap.get? b>o->h'.get? b>o)->M∈ns->(∀a,a∈ns->a<=M)->Q (.int M t') {s with heap:=h',toks:=tk}):bj (model prog w) A (call (.builtin "max") [.ref l]) Q E s:=by
 let#[xs,e]:=B.allInts.items;let D:numsOf (intItems xs).toList=ns:=by rw[<-e];exact B.numsOf
 rw[LU]at D;subst D;rw[e]at z;let hsz:0<xs.size:=by simpa using q
 refine PySem.max_intList F z hsz λv h' tk G I=>?_;obtain⟨t,rfl⟩:=intItems_at G;let#[O,J]:=argBest_gt (numAt xs) (xs.size-1);refine h h' tk _ t I ?_ λa L=>?_
 .rw[SQ];exact SB (by rw[aj,dP];omega)
 .obtain⟨j,N,rfl⟩:=mem_getD L;rw[aj,dP]at N;rw[<-SQ];exact J j oM
def T8(F:A.handled=none)(z:s.heap.IsList l n.toArray)(B:rG n ns)(q:0<↑ns)
  (h:∀h' tk M t',(∀b o,s.heap.get? b>o->h'.get? b>o)->M∈ns->(∀a,a∈ns->M<=a)->Q (.int M t') {s with heap:=h',toks:=tk}):bj (model prog w) A (call (.builtin "min") [.ref l]) Q E s:=by
 let#[xs,e]:=B.allInts.items;let D:numsOf (intItems xs).toList=ns:=by rw[<-e];exact B.numsOf
 rw[LU]at D;subst D;rw[e]at z;let hsz:0<xs.size:=by simpa using q
 refine PySem.min_intList F z hsz λv h' tk G I=>?_;obtain⟨t,rfl⟩:=intItems_at G;let#[O,J]:=argBest_lt (numAt xs) (xs.size-1);refine h h' tk _ t I ?_ λa L=>?_
 .rw[SQ];exact SB (by rw[aj,dP];omega)
 .obtain⟨j,N,rfl⟩:=mem_getD L;rw[aj,dP]at N;rw[<-SQ];exact J j oM
end
section
variable{X:Cx}
def Yr(K:ao):List V->Hp->VK->Prop:=λvs H Q=>∃(a:Addr)(ns:List Int),vs=[V.ref a]/\bW K H a (ns.map V.int)/\Q (.int ns.sum) H
def Ym(K:ao):List V->Hp->VK->Prop:=λvs H Q=>∃(a:Addr)(ns:List Int),vs=[V.ref a]/\bW K H a (ns.map V.int)/\0<↑ns/\∀m,m∈ns->(∀y,y∈ns->y<=m)->Q (.int m) H
def Yn(K:ao):List V->Hp->VK->Prop:=λvs H Q=>∃(a:Addr)(ns:List Int),vs=[V.ref a]/\bW K H a (ns.map V.int)/\0<↑ns/\∀m,m∈ns->(∀y,y∈ns->m<=y)->Q (.int m) H
def W9(j:X.calm=true):iN X (.builtin "sum") (Yr X.K):=by intro aB s σ H vs us Q I r h;obtain⟨a,ns,rfl,n,q⟩:=h;let#[z,B,D,_]:=I.list n;rw[Vals.Oc r];exact U2 (I.ok.hd j) D.isList B.ints λh' tk t' F=>#[.int _,H,I.kept F,#[_,rfl],q]
def W4(n:X.calm=true):iN X (.builtin "max") (Ym X.K):=by intro aB s σ H vs us Q I r h;obtain⟨a,ns,rfl,z,j,q⟩:=h;let#[B,D,F,_]:=I.list z;rw[Vals.Oc r];exact T6 (I.ok.hd n) F.isList D.ints j λh' tk m t' G J L=>#[.int _,H,I.kept G,#[_,rfl],q m J L]
def W6(n:X.calm=true):iN X (.builtin "min") (Yn X.K):=by intro aB s σ H vs us Q I r h;obtain⟨a,ns,rfl,z,j,q⟩:=h;let#[B,D,F,_]:=I.list z;rw[Vals.Oc r];exact T8 (I.ok.hd n) F.isList D.ints j λh' tk m t' G J L=>#[.int _,H,I.kept G,#[_,rfl],q m J L]
def Kh(K:ao):V->List V->Hp->VK->Prop:=λx xs H Q=>∃a ys y j z,x=V.ref a/\xs=[y]/\bW K H a ys/\lS y=true/\ys.all lS=true/\ys[j]?>z/\GQ z y=true/\
 (∀m z',m<j->ys[m]?>z'->GQ z' y=false)/\Q (.int (j:Nat)) H
def LD{ys:List V}(f:ys.all lS=true){j:Nat}(h:ys[j]?>z):lS z=true:=eZ.mp f z (ax h)
def QA:Y_ X "list.index" (Kh X.K):=by
 intro aB s σ H x xs v us Q I rx L h;obtain⟨a,ys,y,j,z,rfl,rfl,hs,fy,D,hz,M,N,q⟩:=h;cases rx;cases L with
 |cons ry rt=>
  rename_i uy ut;cases rt;obtain⟨B,J,⟨⟨cls,dd,data,sl⟩,n,ho,hc,hdn,hd⟩,hlen⟩:=I.list hs;simp only at hc hd;subst hc hd;let#[u,hu,ru]:=J.get hz;let#[O,S]:=aP.mp hu;let hvl:=↑J;let hj:j<B.toArray.size:=by simpa using O
  let ZK:=aK;refine uG C1 #[_,ho,rfl] PySem.F.entry_list_index (PySem.F.args_list_index_2 _ _)
   (SeqAt.list_indexAt a B.toArray n dd sl uy (IW y) j hj oM ?_ ?_) #[ho,λu' U=>pV ry fy J D u'<|by simpa using U,?_]
  .let Y:B.toArray[j]=u:=by simpa using S
   rw[Y,E9 ru (LD D hz)];exact M
  .intro m hm Z;let hml:m<↑B:=by simpa using hm
   let hmy:m<↑ys:=oM;let G:ys[m]?>ys[m]:=aq hmy;let#[u2,hu2,ru2]:=J.get G;let#[_,hme]:=aP.mp hu2;let Y:B.toArray[m]=u2:=by simpa using hme
   rw[Y,E9 ru2 (LD D G)];exact N m _ Z G
  .exact#[.int (j:Nat),H,I.tok _,#[_,rfl],q]
end
mutual
inductive Dp (K : ao) (H : Hp) : V → DE → Prop
  | fP : Dp K H .fP .none
  | bl (b : Bool) : Dp K H (.bl b) (.bool b)
  | int (i : Int) : Dp K H (.int i) (.int i)
  | str (x : Str) : Dp K H (.str x) (.str x)
  | lst {a : Addr} {xs : List V} {ds : List DE} : bW K H a xs → Dy K H xs ds → Dp K H (.ref a) (.list ds)
  | tup {a : Addr} {xs : List V} {ds : List DE} : f9 K H a xs → Dy K H xs ds → Dp K H (.ref a) (.tuple ds)
inductive Dy (K : ao) (H : Hp) : List V → List DE → Prop
  | nil : Dy K H [] []
  | cons {v : V} {vs : List V} {d : DE} {ds : List DE} : Dp K H v d → Dy K H vs ds → Dy K H (v :: vs) (d :: ds)
end
section
variable{X:Cx}{aB:List (Addr×Obj)}{σ:St}{H:Hp}{s:bq}
mutual
theorem Dp.reads (I : Inv X aB σ H s) : ∀ (d : DE) (v : V) (u : Value), Dp X.K H v d → RelV v u → ∃ as, Reads s.heap u d as
  | .none, _, _, h, r => by
    cases h
    cases r
    exact #[_, Reads.none]
  | .bool b, _, _, h, r => by
    cases h
    cases r
    exact #[_, Reads.bool b]
  | .int i, _, _, h, r => by
    cases h
    obtain ⟨t, rfl⟩ := r
    exact #[_, Reads.int i t]
  | .str x, _, _, h, r => by
    cases h
    obtain ⟨t, rfl⟩ := r
    exact #[_, Reads.str x t]
  | .list ds, _, _, h, r => by
    cases h with
    | lst hs ha =>
      cases r
      obtain ⟨lL, rv, ⟨o, n, ho, hc, _, hd⟩, _⟩ := I.list hs
      obtain ⟨as, hr⟩ := Dp.readsAll I ds _ lL ha rv
      exact #[_, Reads.list ho hc hd hr]
  | .tuple ds, _, _, h, r => by
    cases h with
    | tup hs ha =>
      cases r
      obtain ⟨lL, rv, ⟨o, ho, hc, n, hd⟩, _⟩ := I.tuple hs
      obtain ⟨as, hr⟩ := Dp.readsAll I ds _ lL ha rv
      exact #[_, Reads.tuple ho hc hd hr]
  | .dict _, _, _, h, _ => by cases h
theorem Dp.readsAll (I : Inv X aB σ H s) : ∀ (ds : List DE) (vs : List V) (us : List Value), Dy X.K H vs ds → Vals vs us → ∃ as, ReadsAll s.heap us ds as
  | [], _, _, h, r => by
    cases h
    cases r
    exact #[_, ReadsAll.nil]
  | d :: ds, _, _, h, r => by
    cases h with
    | cons h1 h2 =>
      cases r with
      | cons r1 r2 =>
        obtain ⟨as, q1⟩ := Dp.reads I d _ _ h1 r1
        obtain ⟨bs, q2⟩ := Dp.readsAll I ds _ _ h2 r2
        exact #[_, ReadsAll.cons q1 q2]
end
end
section
variable{X:Cx}
def Yi(K:ao):R2:=λx y H Q=>∃d e,Dp K H x d/\Dp K H y e/\gL d=true/\gL e=true/\Q (.bl<|nV d e) H
def Yo(K:ao):R2:=λx y H Q=>∃d e,Dp K H x d/\Dp K H y e/\gL d=true/\gL e=true/\Q (.bl<|!PyData.eqv d e) H
def X3(hu:X.A.units+64<cLine):uB X (d7 .Eq) (Yi X.K):=by intro aB s σ H x y v u Q I rx ry h;let#[d,e,hd,he,sd,se,q]:=h;let#[as,r1]:=Dp.reads I d x v hd rx;let#[bs,r2]:=Dp.reads I e y u he ry;exact SeqAt.compareEq_shaped r1 r2 sd se hu #[.bl _,H,I,rfl,q]
def X5(hu:X.A.units+64<cLine):uB X (d7 .NotEq) (Yo X.K):=by intro aB s σ H x y v u Q I rx ry h;let#[d,e,hd,he,sd,se,q]:=h;let#[as,r1]:=Dp.reads I d x v hd rx;let#[bs,r2]:=Dp.reads I e y u he ry;exact SeqAt.compareNe_shaped r1 r2 sd se hu #[.bl _,H,I,rfl,q]
end
abbrev O5(h:Heap)(c:Addr)(v:Option Value):Prop:=h.IsCell c v
def aex(scope sc:Scope):Scope:=
 {scope with names:=scope.names.map λ(n,k)=>if(k==.free&&sc.kind==.function&&sc.names.lookup n==some .cell)then(n,.cell)else(n,k)}
def gK(cells:List (Str×Addr)):List (Str×jp)->List (Str×Addr)->List (Str×Addr)
 |[],acc=>acc
 |(n,k)::r,acc=>if k==.free then gK cells r ((n,(cells.lookup n).getD 0)::acc)else gK cells r acc
def wb(env)(f:Str×jp->List (Str×Addr)->Sem (ForInStep<|List<|Str×Addr))
  (hf:∀n k c,f (n,k) c=if k==.free then(do let a<-cellOf env n;pure (.yield ((n,a)::c)))else pure (.yield c)):
  ∀names acc,(∀y∈names,y.2=.free->∃c,env.cells.lookup y.1>c)->forIn names acc f=pure (gK env.cells names acc)
 |[],acc,_=>by rw[Tb];rfl
 |(n,k)::r,acc,h=>by
  rw[List.forIn_cons,hf];let q:=λacc=>wb env f hf r acc λy B=>h y<|aR _ B;delta gK;by_cases j:(k==lP)=true
  .rw[ac j,ac j];let#[c,z]:=h (n,k) aZ (by simpa using j);let e:cellOf env n=pure c:=by delta cellOf;rw[z]
   rw[e];let D:(env.cells.lookup n).getD 0=c:=by rw[z];rfl
   rw[D];exact q _
  .rw[aa j,aa j];exact q _
def Jt(h:∀y∈scope.names,y.2=.free->∃c,env.cells.lookup y.1>c):IV scope env=pure (gK env.cells scope.names []):=by simp only[IV];rw[wb env _ (λn k c=>rfl) scope.names [] h];rfl
def mem_lookup{z:Type}:∀{l:List (Str×z)}{n:Str}{c:z},(n,c)∈l->∃j,l.lookup n>j
 |(k,v)::r,n,c,h=>by
  rw[gD];cases q:n==k with
  |true=>exact#[_,rfl]
  |false=>
   obtain e|h:=aE.mp h
   .cases e;simp at q
   .exact mem_lookup h
def oR:∀{names:List (Str×jp)}{acc:List (Str×Addr)}{n:Str}{c:Addr},(n,c)∈gK cells names acc->(n,c)∈acc\/((n,.free)∈names/\c=(cells.lookup n).getD 0)
 |[],_,_,_,h=>.inl h
 |(m,k)::r,acc,n,c,h=>by
  delta gK at h;split at h
  .rename_i j;let j:k=.free:=by simpa using j
   obtain h|⟨q,z⟩:=oR h
   .obtain e|h:=aE.mp h
    .cases e;exact .inr #[j▸aZ,rfl]
    .exact .inl h
   .exact .inr #[aR _ q,z]
  .obtain h|⟨q,z⟩:=oR h
   .exact .inl h
   .exact .inr #[aR _ q,z]
def sv:∀{names:List (Str×jp)}{acc:List (Str×Addr)}{p:Str×Addr},p∈acc->p∈gK cells names acc
 |[],_,_,h=>h
 |(m,k)::r,acc,p,h=>by
  delta gK;split
  .exact sv (aR _ h)
  .exact sv h
def sw:∀{names:List (Str×jp)}{acc:List (Str×Addr)}{n:Str},(n,.free)∈names->(n,(cells.lookup n).getD 0)∈gK cells names acc
 |(m,k)::r,acc,n,h=>by
  delta gK;obtain e|h:=aE.mp h
  .cases e
   exact sv aZ
  .split
   .exact sw h
   .exact sw h
def pP:∀{names:List (Str×jp)}{h:Heap}{acc:List (Str×Addr)}{x:Str}{c:Addr},(x,c)∈fu h.objs.size names acc->
  (x,c)∈acc\/((x,.cell)∈names/\h.objs.size<=c/\O5 (pW h names) c none)
 |[],_,_,_,_,h=>.inl h
 |(n,k)::r,h,acc,x,c,hm=>by
  delta fu at hm;delta pW;split at hm
  .rename_i j;rw[ac j];let j:k=.cell:=by simpa using j
   rw[<-dh h {cls:=.type "cell",data:=.cell none}]at hm;obtain hm|⟨z,q,B⟩:=pP hm
   .obtain e|hm:=aE.mp hm
    .cases e
     exact .inr #[j▸aZ,aI _,_,vD r _ _ _<|bw _ rfl,rfl]
    .exact .inl hm
   .rw[dh]at q;exact .inr #[aR _ z,pI q,B]
  .rename_i j;rw[aa j];obtain hm|⟨z,q,B⟩:=pP hm
   .exact .inl hm
   .exact .inr #[aR _ z,q,B]
def t9:∀{names:List (Str×jp)}{n:Nat}{acc:List (Str×Addr)}{p:Str×Addr},p∈acc->p∈fu n names acc
 |[],_,_,_,h=>h
 |(m,k)::r,n,acc,p,h=>by
  delta fu;split
  .exact t9 (aR _ h)
  .exact t9 h
def ya:∀{names:List (Str×jp)}{n:Nat}{acc:List (Str×Addr)}{x:Str},(x,.cell)∈names->∃c,(x,c)∈fu n names acc
 |(m,k)::r,n,acc,x,h=>by
  delta fu;obtain e|h:=aE.mp h
  .cases e
   exact#[n,t9 aZ]
  .split
   .exact ya h
   .exact ya h
def yb:∀{names:List (Str×jp)}{h:Heap}{acc:List (Str×Addr)}{x y:Str}{c:Addr},(∀p∈acc,p.2<h.objs.size)->(∀x y c,(x,c)∈acc->(y,c)∈acc->x=y)->
  (x,c)∈fu h.objs.size names acc->(y,c)∈fu h.objs.size names acc->x=y
 |[],_,_,_,_,_,_,z,q,j=>z _ _ _ q j
 |(n,k)::r,h,acc,x,y,c,B,z,q,j=>by
  delta fu at q j;split at q
  .rename_i D;rw[ac D]at j;rw[<-dh h {cls:=.type "cell",data:=.cell none}]at q j;refine yb (h:=h.push _) (λp F=>?_) (λx y c a b=>?_) q j
   .rw[dh];obtain rfl|F:=aE.mp F
    .exact j8 _
    .exact g_ (B p F)
   .obtain e|a:=aE.mp a<;>rcases aE.mp b with G|b
    .cases e;cases G;rfl
    .cases e;exact ae (B _ b) (dF _)
    .cases G;exact ae (B _ a) (dF _)
    .exact z _ _ _ a b
  .rename_i D;rw[aa D]at j;exact yb B z q j
def Hw{code:Value}
  (h:Q (newEnv scope s.heap.objs.size globals (fu (s.heap.objs.size+1) scope.names closure) qual func code (some around) builtins)
   {s with heap:=pW (s.heap.push {cls:=.type "dict",data:=.dict #[]}) scope.names}):
  bj M A (newFunctionEnv scope globals closure [] qual func code (some around) builtins) Q E s:=by
 simp only[newFunctionEnv,Jm,if_true];refine aA<|wpAny_alloc ?_;refine aA<|wpAny_layCells _ (λn k c=>rfl) scope.names closure _ _ ?_;rw[show({s with heap:=s.heap.push {cls:=.type "dict",data:=.dict #[]}}:bq).heap.objs.size=s.heap.objs.size+1 from dh ..];rw[Tb];exact aA (aU<|aU h)
def sV{sc:Scope}:∀{names:List (Str×jp)}{x:Str}{k:jp},
  (names.map λ(n,k)=>if(k==lP&&sc.kind==.function&&sc.names.lookup n==some .cell)then(n,AX)else(n,k)).lookup x>k->
  ∃B,names.lookup x>B/\(k=B\/(B=.free/\k=.cell))
 |[],_,_,h=>by simp at h
 |(n,z)::r,x,k,h=>by
  let D:=@sV sc r x k;let h':jQ x ((if(z==lP&&sc.kind==.function&&sc.names.lookup n==some .cell)=true then(n,AX)else(n,z))::(r.map _))>k:=h;cases q:x==n with
  |true=>
   simp only[gD,q];by_cases j:(z==lP&&sc.kind==.function&&sc.names.lookup n==some .cell)=true
   .rw[ac j]at h';simp only[gD,q]at h';cases h'
    simp only[b_,beq_iff_eq]at j;exact#[z,rfl,.inr #[j.1.1,rfl]]
   .rw[aa j]at h';simp only[gD,q]at h';cases h'
    exact#[_,rfl,.inl rfl]
  |false=>
   simp only[gD,q];by_cases j:(z==lP&&sc.kind==.function&&sc.names.lookup n==some .cell)=true
   .rw[ac j]at h';simp only[gD,q]at h';exact D h'
   .rw[aa j]at h';simp only[gD,q]at h';exact D h'
structure Ga(N:List Str)(sc scope:Scope)(own:List (Str×Nat)):Prop where
 kind:scope.kind=.function
 Y1:∀y∈scope.names,scope.names.lookup y.1>y.2
 ix:∀p∈own,N[p.2]?>p.1
 free:∀y∈scope.names,y.2=.free->sc.names.lookup y.1>.cell\/sc.names.lookup y.1>.free
 own:∀y∈scope.names,y.2=.local\/y.2=.cell->y.1∈own.map (·.1)\/y.1∉N
def wipe(σ:St):List Nat->St
 |[]=>σ
 |v::vs=>(wipe σ vs).set v none
def kI(σ):∀vs,↑(wipe σ vs)=↑σ
 |[]=>rfl
 |v::vs=>by delta wipe;rw[ku,kI σ vs]
def yG:∀{vs:List Nat},(wipe σ vs)[i]?>some x->σ[i]?>some x/\i∉vs
 |[],h=>#[h,sP]
 |v::vs,h=>by
  delta wipe at h;by_cases j:v=i
  .subst j;by_cases n:v<↑(wipe σ vs)
   .rw[ge n]at h;cases h
   .rw[di (by simpa using n)]at h;cases h
  .rw[d8 j]at h;let#[q,z]:=yG h;exact#[q,by simp only[aE,not_or];exact#[λe=>j e.symm,z]]
abbrev Cx.pz(X:Cx)(s:bq)(H:Hp)(scope:Scope)(adb:Env)(fp:List Addr):Cx:={X with xQ:=s,SZ:=H,env:=adb,outer:=X.stack,ex:=fp,fn:=λx=>scope.names.lookup x==some .cell,pn:=[],xe:=λ_ _=>False}
section
variable{X:Cx}{aB:List (Addr×Obj)}{σ:St}{H:Hp}{s:bq}
def GB(I:Inv X aB σ H s)(ok:Ga X.N X.env.scope scope own)(hN:X.N.Nodup)(G:∀b∈fp,zG X aB H b/\b<s.heap.objs.size):
  Inv (X.pz s H scope (kd scope (fu (s.heap.objs.size+1) scope.names (gK X.env.cells scope.names [])) s.heap.objs.size X.env) fp) [] (wipe σ (own.map (·.2))) H {s with heap:=pW (s.heap.push {cls:=.type "dict",data:=.dict #[]}) scope.names}:=by
 let aa3:∀y∈scope.names,y.2=.free->∃c,X.env.cells.lookup y.1>c:=λy M e=>by
  obtain k|k:=ok.free y M e
  .exact I.ok.has _ (.inl k)
  .exact I.ok.has _ (.inr k)
 generalize B:kd scope (fu (s.heap.objs.size+1) scope.names (gK X.env.cells scope.names [])) s.heap.objs.size X.env=j;let kp:∀b o,s.heap.get? b>o->(pW (s.heap.push {cls:=.type "dict",data:=.dict #[]}) scope.names).get? b>o:=λb o e=>vD _ _ _ _<|aF _ e;let hL:j.locals=s.heap.objs.size:=by rw[<-B];rfl
 let F:j.cells=fu (s.heap.objs.size+1) scope.names (gK X.env.cells scope.names []):=by rw[<-B];rfl
 let hsc:j.scope=aex scope X.env.scope:=by rw[<-B];rfl
 rw[<-dh s.heap {cls:=.type "dict",data:=.dict #[]}]at F;let cm:∀{y c},(y,c)∈gK X.env.cells scope.names []->X.env.cells.lookup y>c/\c<s.heap.objs.size:=λ{y c} hm=>by
  obtain hm|⟨D,rfl⟩:=oR hm
  .cases hm
  .let#[c,hc]:=aa3 _ D rfl;rw[hc];let#[w,z]:=I.cell _ _ hc;exact#[rfl,z.lt]
 let mem:∀{y c},j.cells.lookup y>c->(X.env.cells.lookup y>c/\c<s.heap.objs.size)\/(s.heap.objs.size+1<=c/\O5 (pW (s.heap.push {cls:=.type "dict",data:=.dict #[]}) scope.names) c none):=λ{y c} e=>by
  rw[F]at e;obtain hm|⟨_,O,h3⟩:=pP (cG e)
  .exact .inl (cm hm)
  .rw[dh]at O;exact .inr #[O,h3]
 let look:∀{y},scope.names.lookup y>.free->∃c,j.cells.lookup y>c/\X.env.cells.lookup y>c:=λ{y} hl=>by
  let M:(y,lP)∈scope.names:=cG hl;let#[c',J]:=mem_lookup (t9 (names:=scope.names) (n:=(s.heap.push {cls:=.type "dict",data:=.dict #[]}).objs.size) (sw (cells:=X.env.cells) (acc:=[]) M));rw[<-F]at J;exists c',J;rw[F]at J;obtain hm|⟨D,_,_⟩:=pP (cG J)
  .exact(cm hm).1
  .let:=ok.Y1 _ D;rw[hl]at this;cases this
 let okB:(X.pz s H scope j fp).Ok:=by
  refine#[I.ok.mod,by show j.scope.kind=_;rw[hsc];exact ok.kind,by show j.globals=_;rw[<-B];exact I.ok.glob,by show j.builtins=_;rw[<-B];exact I.ok.blt,by show s.heap.objs.size<=j.locals;rw[hL];exact aI _,
   λy z c U Y=>?_,λy M=>?_,λy c z e=>?_,I.ok.hd,I.ok.frames,.inl rfl,λb Z=>#[?_,λy c e z=>?_],I.bs,bu I.ok.Lo I.sz,λb o e Z=>?_,λb Z z=>?_,I.stack,I.xD]
  .let U:j.cells.lookup y>c:=U;let Y:j.cells.lookup z>c:=Y;rw[F]at U Y;refine yb (λp hp=>?_) (λy z c a b=>I.ok.inj y z c (cm a).1 (cm b).1) (cG U) (cG Y);rw[dh];exact g_ (cm (y:=p.1) (c:=p.2) hp).2
  .show∃c,j.cells.lookup y>c;let key:∀k,j.kindOf y>k->(k=.cell\/k=.free)->∃c,j.cells.lookup y>c:=λk hk hk'=>by
    delta Env.kindOf at hk;rw[hsc]at hk;let#[k',e,r]:=sV hk;let:k'=.cell\/k'=.free:=by
     obtain rfl|⟨rfl,_⟩:=r
     .exact hk'
     .exact .inr rfl
    obtain rfl|rfl:=this
    .let#[c,hm]:=ya (n:=(s.heap.push {cls:=.type "dict",data:=.dict #[]}).objs.size) (acc:=gK X.env.cells scope.names []) (cG e);let#[c',J]:=mem_lookup hm;exact#[c',by rw[F];exact J]
    .let#[c,D,_]:=look e;exact#[c,D]
   obtain M|M:=M
   .exact key _ M (.inl rfl)
   .exact key _ M (.inr rfl)
  .let z:(scope.names.lookup y==some AX)=true:=z;let z:scope.names.lookup y>.cell:=by simpa using z
   let e:j.cells.lookup y>c:=e;rw[F]at e;obtain hm|⟨_,O,_⟩:=pP (cG e)
   .obtain hm|⟨D,_⟩:=oR hm
    .cases hm
    .let q:=ok.Y1 _ D;rw[z]at q;cases q
   .rw[dh]at O;exact pI O
  .show b≠j.locals;rw[hL];exact bT (G b Z).2
  .let e:j.cells.lookup y>c:=e;obtain⟨D,_⟩|⟨D,_⟩:=mem e
   .exact(G b Z).1.2.2.2.2.1 y c D z
   .let O:s.heap.objs.size+1<=b:=by rw[<-z];exact D
    exact ae (bp (G b Z).2 (pI O)) (dF _)
  .rcases(G b Z).1.2.2.2.1 with z|z
   .exact I.ok.NV b o e z
   .exact ae (bp (a9 e) (bu I.ok.Lo z)) (dF _)
  .obtain z|z:=aE.mp (I.KM b z)
   .exact(G b Z).1.2.1 z
   .exact(G b Z).1.2.2.1 z
 refine#[okB,rfl,I.bare,Un.kept kp,#[λ_=>none,?_,λi y av U Y L=>?_],λy c e=>?_,?_,λy c e=>?_,λp hp=>?_,I.fm.kept kp,by rw[kI];exact I.len]
 .show Heap.Ns _ j.locals _;rw[hL];exact Heap.Ns.keeps (Heap.Ns.new ..) λb o e=>vD _ _ _ _ e
 .let#[Y,hne]:=yG Y;let S:scope.names.lookup y>.free/\(j.kindOf y>.cell\/j.kindOf y>.free):=by
   let key:∀k,j.scope.names.lookup y>k->k=.local\/k=.cell\/k=.free->scope.names.lookup y>.free/\(j.kindOf y>.cell\/j.kindOf y>.free):=λk hk hk'=>by
    let hk0:=hk;rw[hsc]at hk;let#[k',e,r]:=sV hk;let no:¬(k'=.local\/k'=.cell):=λhh=>by
     obtain J|J:=ok.own _ (cG e) hh
     .let#[p,hp,hpy]:=a_.mp J;let L:=ok.ix p hp;let:p.1=y:=hpy;rw[this]at L;exact hne (a_.mpr #[p,hp,BK hN L U])
     .exact J (ax U)
    obtain rfl|⟨rfl,rfl⟩:=r
    .obtain rfl|rfl|rfl:=hk'
     .exact ae (.inl rfl) no
     .exact ae (.inr rfl) no
     .exact#[e,.inr hk0]
    .exact#[e,.inl hk0]
   let L:Zo j.scope y:=L;obtain L|L|L:=L
   .exact key _ L (.inl rfl)
   .exact key _ L (.inr<|.inl rfl)
   .exact key _ L (.inr<|.inr rfl)
  let#[m,hn,hl]:=I.loc;let aej:Zo X.env.scope y:=(ok.free _ (cG S.1) rfl).elim (λk=>.inr<|.inl k) (λk=>.inr<|.inr k);let#[w,r,q]:=hl i y av U Y aej;refine#[w,r,.inr #[S.2,?_]];let#[c,D,O]:=look S.1;obtain⟨k,_⟩|⟨_,c',J,z⟩:=q
  .let k:X.env.scope.names.lookup y>.local:=k;obtain k'|k':=ok.free _ (cG S.1) rfl<;>rw[show X.env.scope.names.lookup y=_ from k']at k<;>cases k
  .rw[O]at J;cases J;exact#[c,D,z.keeps kp]
 .let e:j.cells.lookup y>c:=e;obtain⟨D,_⟩|⟨_,z⟩:=mem e
  .let#[w,z]:=I.cell y c D;exact#[w,z.keeps kp]
  .exact#[_,z]
 .show H j.locals=none;rw[hL];exact I.fm.fresh (aI _)
 .let e:j.cells.lookup y>c:=e;obtain⟨D,_⟩|⟨D,_⟩:=mem e
  .exact I.mU y c D
  .exact I.fm.fresh (pI D)
 .exact ae (show p∈([]:List (Addr×Obj))++[]from hp) sP
def WX(I:Inv X aB σ H s)(B:H D>.lst xs)(hz:↑xs<sizeLine)(r:RelV y v)
  (h:∀F,Inv X aB σ (upd H D<|.lst<|xs++[y]) F->Q .none F):bj (model X.prog X.w) X.A (call (.builtin "list.append") [.ref D,v]) Q E s:=by
 let#[J,z,n,G,e]:=I.fm D _ B;let N:=↑G;refine append_at (hsz:=by rw[bA];omega) e λh' L j=>?_;refine h {s with heap:=h'} (I.write (t':=s.toks) (by rw[B];trivial) (.inl rfl) (λb u M q=>(L.2 b M).trans q) #[_,j] #[by rw[aW];exact hz,z++[v],n+1,G.append<|.cons r .nil,?_]);rw[j];simp
def PTs(X:Cx)(ifs:List fU)(t:TT):Prop:=
 ∀aB s σ H Q,Inv X aB σ H s->t σ H Q->
  bj (model X.prog X.w) X.A (forIn ifs true λc r=>if r=true then do let ok<-OX c X.env (eval c X.env);pure (pF ok)else pure (pF r)) (TP X aB σ Q) X.xe s
def YY:TT:=λ_ H Q=>Q true H
def jX:PTs X [] YY:=λ_ _ _ H _ I h=>wpAny_tests_nil #[H,I,h]
def mq(h:PT X c t):PTs X [c] t:=λaB s σ H Q I hw=>wpAny_tests_one (h aB s σ H Q I hw)
end
def Oz(h:bj M A t Q (λ_ _=>False) s)(j:∀a s,Q a s->n a s):bj M A t n E s:=fg h j λ_ _ z=>dJ z
def E6(I:Nat->bq->Prop)
  (turn:∀n s,I n s->bj (model prog w) A (qj it) (λr z=>match r with
   |none=>R (.ok .next) z
   |some v=>bj (model prog w) A (vo target it v) (λ_ q=>bj (model prog w) A (assign target env v) (λ_ F=>
     bj (model prog w) A (forIn ifs true λc r=>if r=true then do let ok<-OX c env (eval c env);pure (pF ok)else pure (pF r)) (λok B=>
      if ok=true then bj (model prog w) A (eval elt env) (λx G=>
       bj (model prog w) A (call (.builtin "list.append") [acc,x]) (λ_ J=>∃m,m<n/\I m J) (Hz (model prog w) A env λe j=>R (.error e) j) G) (Hz (model prog w) A env λe j=>R (.error e) j) B
      else∃m,m<n/\I m B) (Hz (model prog w) A env λe j=>R (.error e) j) F) (Hz (model prog w) A env λe j=>R (.error e) j) q) (Hz (model prog w) A env λe j=>R (.error e) j) z) (Hz (model prog w) A env λe j=>R (.error e) j) s)
  (n)(h:I n s):
  mK (model prog w) A (.compLoop (.ListComp elt [#[target,iter,ifs,0]] scope pos) 0 it acc env) R s:=by
 refine codeAny_loop rfl I (λn s N=>?_) n h;show bj _ A ((compTurn (.ListComp elt [#[target,iter,ifs,0]] scope pos) 0 it acc env).onRaise (λx=>do D' x env;theTreesLotGoes x)) _ _ s;refine wpAny_noted ?_;rw[compTurn_list];refine aA<|rZ<|aA<|fg (turn n s N) (λr z L=>?_) λ_ _ h'=>h';cases r with
 |none=>exact aU L
 |some v=>
  refine aA<|fg L (λ_ q D=>?_) λ_ _ h'=>h';refine aA<|fg D (λ_ F O=>aA<|fg O (λok B M=>?_) λ_ _ h'=>h') λ_ _ h'=>h';cases ok with
  |false=>exact aU #[rfl,M]
  |true=>
   exact aA (aA<|fg M (λx G S=>aA<|fg S (λ_ J U=>aU (aU #[rfl,U])) λ_ _ h'=>h') λ_ _ h'=>h')
section
variable{X:Cx}
def RX(wi:TI)(g:TG)(tt:TT)(te:TE)(vs:List Nat):TE:=λσ H Q=>wi σ H λJ H1=>∀D,H1 D=none->∃W:Nat->Nat->Hp->Prop,(∃m,W 0 m<|upd H1 D<|.lst [])/\∀i m H,W i m H->
 (J.stop i H/\Q (.ref D) H)\/(J.go i H/\∃Nx:Hp->Prop,(∀H',Nx H'->∃m',m'<m/\W (i+1) m' H')/\∀x H',J.MJ i H x H'->g x (wipe σ vs) H' λσ2 H2=>wipe σ2 vs=wipe σ vs/\tt σ2 H2 λb H3=>
  if b=true then te σ2 H3 λy H4=>∃acc,H4 D>.lst acc/\↑acc<sizeLine/\Nx (upd H4 D<|.lst<|acc++[y])else Nx H3)
def LO
  (hc:X.calm=true)(hN:X.N.Nodup)(I:Inv X aB σ H s)(hi:PI X tg iter wi)(ok:Ga X.N X.env.scope scope own)
  (hg:∀s H C cl B,PG (X.pz s H scope (kd scope cl C X.env) B) tg g)(ht:∀s H C cl B,PTs (X.pz s H scope (kd scope cl C X.env) B) ifs tt)
  (he:∀s H C cl B,PE (X.pz s H scope (kd scope cl C X.env) B) elt te)(hs:∀x,rQ iter X.env x=pure x)
  (h:RX wi g tt te (own.map (·.2)) σ H Q)
  (hRR:∀D C L m G,Inv X aB σ G L->Q (.ref D) G->L.heap.Ns C m->zG X aB G C->compPost (model X.prog X.w) X.A X.xe use Qf (.ref D) C (.ok .next) L):
  bj (model X.prog X.w) X.A (comprehension (.ListComp elt [#[tg,iter,ifs,0]] scope pos) scope X.env pos' (newList []) false (eval iter X.env) use) Qf X.xe s:=by
 let Y:∀y∈scope.names,y.2=.free->∃c,X.env.cells.lookup y.1>c:=λy hy e=>by
  obtain k|k:=ok.free y hy e
  .exact I.ok.has _ (.inl k)
  .exact I.ok.has _ (.inr k)
 refine wpAny_comprehension_free (use:=use) rfl hs (Jt Y) ok.kind (λy hy e=>by rw[ok.Y1 y hy,e])
  (gN (hi aB s σ H _ I h) λxv s1 hx=>gN hx λitv s2 h2=>?_)
 let#[it,B,tn,J,S,e,I2,T,st2,f2,q]:=h2;subst e;refine gt (Hw ?_) (by show 0<=sizeLine;decide);generalize hD:s2.heap.objs.size=D;let hDn:S D=none:=I2.fm.fresh<|yN hD;let#[W,#[m0,w0],turn]:=q D hDn;generalize hs3:({s2 with heap:=s2.heap.push {cls:=.type "list",data:=.seq ([]:List Value).toArray}}:bq)=s3;let I3:Inv X aB σ (upd S D<|.lst []) s3:=by rw[<-hs3];refine I2.laid (t':=s2.toks) (λb o e=>aF _ e) (yN hD) #[cP _,[],0,.nil,?_];rw[<-hD];exact bw _ rfl
 let h3:s3.heap=s2.heap.push {cls:=.type "list",data:=.seq ([]:List Value).toArray}:=by rw[<-hs3]
 let sz:∀b∈B,b<s2.heap.objs.size:=λb F=>by let#[o,e,_]:=T.obj _ _ st2 b F;exact a9 e
 let Z:∀b∈B,zG X aB (upd S D<|.lst []) b/\b<s3.heap.objs.size:=λb F=>by let SK:=sz b F;refine#[#[?_,(f2 b F).2],by rw[h3,dh];exact g_ SK];rw[aH (by rw[<-hD];exact bT SK)];exact(f2 b F).1
 let st3:tn 0 s3.heap:=T.keep _ _ _ st2 λb _ o e=>by rw[h3];exact aF _ e
 let I4:=GB I3 ok hN Z;let pg:=hg s3 (upd S D<|.lst []) s3.heap.objs.size (fu (s3.heap.objs.size+1) scope.names (gK X.env.cells scope.names [])) B;let pt:=ht s3 (upd S D<|.lst []) s3.heap.objs.size (fu (s3.heap.objs.size+1) scope.names (gK X.env.cells scope.names [])) B;let pe:=he s3 (upd S D<|.lst []) s3.heap.objs.size (fu (s3.heap.objs.size+1) scope.names (gK X.env.cells scope.names [])) B;show mK _ _ (.compStart (.ListComp elt [#[tg,iter,ifs,0]] scope pos) 0 (.ref it) (.ref D) (kd scope (fu (s3.heap.objs.size+1) scope.names (gK X.env.cells scope.names [])) s3.heap.objs.size X.env)) (compPost (model X.prog X.w) X.A X.xe use Qf (.ref D) s3.heap.objs.size) {s3 with heap:=pW (s3.heap.push {cls:=.type "dict",data:=.dict #[]}) scope.names};let nfp:∀b∈B,(upd S D<|.lst []) b=none:=λb F=>(Z b F).1.1;generalize hce:kd scope (fu (s3.heap.objs.size+1) scope.names (gK X.env.cells scope.names [])) s3.heap.objs.size X.env=ce at I4 pg pt pe|-;let cL:ce.locals=s3.heap.objs.size:=by subst hce;rfl
 generalize hH3:upd S D (.lst [])=O at I3 I4 pg pt pe w0 nfp Z;generalize hs4:({s3 with heap:=pW (s3.heap.push {cls:=.type "dict",data:=.dict #[]}) scope.names}:bq)=s4 at I4|-;let st4:tn 0 s4.heap:=T.keep _ _ _ st3 λb _ o e=>by rw[<-hs4];exact vD _ _ _ _ (aF _ e)
 let M:∀{σ':St}{G:Hp}{L:bq},Inv (X.pz s3 O scope ce B) [] σ' G L->(∀b∈B,G b=none)->∀b∈B,zG (X.pz s3 O scope ce B) [] G b:=λ{σ' G L} I' hn b F=>
  #[hn b F,(I'.ok.exf b F).1,I'.ok.Nj b F,.inl F,λx c e=>(I'.ok.exf b F).2 x c e,λp hp=>ae (show p∈([]:List (Addr×Obj))++[]from hp) sP]
 let loop:mK (model X.prog X.w) X.A (.compLoop (.ListComp elt [#[tg,iter,ifs,0]] scope pos) 0 (.ref it) (.ref D) ce) (compPost (model X.prog X.w) X.A X.xe use Qf (.ref D) s3.heap.objs.size) s4:=by
  refine E6 (λn L=>∃i G,Inv (X.pz s3 O scope ce B) [] (wipe σ (own.map (·.2))) G L/\tn i L.heap/\(∀b∈B,G b=none)/\W i n G) ?_ m0 #[0,O,I4,st4,nfp,w0];rintro n s5 ⟨i,H5,I5,st5,n5,w5⟩;obtain⟨stop,qq⟩|⟨go,Nx,hNx,step⟩:=turn i n H5 w5
  .let td:=T.done (X.pz s3 O scope ce B) rfl rfl rfl hc i [] s5 _ H5 (λ_ _=>False) I5 (M I5 n5) st5 stop;refine Oz td λr s6#[hr,I6]=>?_;subst hr;let I7:Inv X aB σ H5 s6:=I3.Pt (ch:=B) I6.os I6.aD I6.fm I6.bare λb F=>#[(Z b F).1.2.2.2.1,(Z b F).1.2.1,(Z b F).1.2.2.2.2.1,(Z b F).1.2.2.2.2.2];let nC:H5 s3.heap.objs.size=none:=by let z:H5 ce.locals=none:=I6.free;rw[cL]at z;exact z
   let#[m,hn,_]:=I6.loc;let hn:s6.heap.Ns ce.locals m:=hn;rw[cL]at hn;exact hRR D s3.heap.objs.size s6 m H5 I7 qq hn (I3.JC (aI _) nC)
  .let ti:=T.item (X.pz s3 O scope ce B) rfl rfl rfl hc i [] s5 _ H5 (λ_ _=>False) I5 (M I5 n5) st5 go;refine Oz ti λr s6#[u,hr,h6]=>?_;subst hr;refine Oz h6 λ_ s7#[x,H7,I7,r7,y7,st7,n7]=>?_;let I7':=I7.pinned (M I7 n7) (T.obj _ _ st7);refine Oz (pg _ s7 _ H7 x u _ I7' r7<|step x H7 y7) λ_ s8#[σ8,H8,I8,hw8,q8]=>?_;refine Oz (pt _ s8 σ8 H8 _ I8 q8) λb s9#[H9,I9,q9]=>?_;let fin:∀{L:bq}{G:Hp},Inv (X.pz s3 O scope ce B) ([]++BZ B s7.heap) σ8 G L->Nx G->∃m,m<n/\∃i G,Inv (X.pz s3 O scope ce B) [] (wipe σ (own.map (·.2))) G L/\tn i L.heap/\(∀b∈B,G b=none)/\W i m G:=λ{L G} I' nx=>by
    let#[m',hm,w']:=hNx G nx;let U:∀b∈B,∀o,s7.heap.get? b>o->L.heap.get? b>o/\G b=none:=λb F o e=>
     let z:=I'.pin (b,o) (bE _<|bE _<|vr F e)
     #[z.1,z.2.1]
    let hl:(wipe σ (own.map (·.2))).length=↑σ8:=by rw[<-hw8,kI]
    refine#[m',hm,i+1,G,(I'.xK (aB:=[])).weak hl (λj v e=>?_),T.keep _ _ _ st7 λb F o e=>(U b F o e).1,λb F=>?_,w']
    .rw[<-hw8]at e;exact(yG e).1
    .let#[o,e,_]:=T.obj _ _ st7 b F;exact(U b F o e).2
   cases b with
   |false=>
    simp only[eV,if_false]at q9|-;exact fin I9 q9
   |true=>
    simp only[if_true]at q9|-;refine Oz (pe _ s9 σ8 H9 _ I9 q9) λz s10#[yv,H10,I10,r10,acc,adp,aen,nx]=>?_;exact WX (X:=X.pz s3 O scope ce B) I10 adp aen r10 λYw I11=>fin I11 nx
 exact codeAny_compStart_list loop (T.self X.A 0 _ _ _ st4 loop)
def oW(z:X.calm=true)(B:X.N.Nodup)(F:PI X n iter G)(ok:Ga X.N X.env.scope scope own)
  (J:∀s H C cl j,PG (X.pz s H scope (kd scope cl C X.env) j) n g)(L:∀s H C cl j,PTs (X.pz s H scope (kd scope cl C X.env) j) ifs tt)
  (he:∀s H C cl j,PE (X.pz s H scope (kd scope cl C X.env) j) elt M)(O:∀x,rQ iter X.env x=pure x:=by intro _;rfl):
  PE X (.ListComp elt [#[n,iter,ifs,0]] scope pos) (RX G g tt M (own.map (·.2))):=by
 intro aB s σ H Q I h;rw[eval_ListComp];refine LO z B I F ok J L he O h λD C S m U Y q Z f=>#[m,Z,λh'' sb=>?_];let#[f0,f1,f2,f3,f4,f5]:=f;exact#[.ref D,U,Y.turned (t':=S.toks) (λb o hb e=>(sb.2 b hb).trans e) f0 f1 f3 f4 f5,rfl,q]
def li(Z:X.calm=true)(S:X.N.Nodup)(hy:X.N[i]?>y)(j:X.env.scope.names.lookup y>.local)
  (G:kG (.ListComp elt [#[n,iter,ifs,0]] scope pos) (some<|.Name y py) B.line X.env=pure true)(hi:PI X n iter U)(ok:Ga X.N X.env.scope scope own)
  (hg:∀s H C cl F,PG (X.pz s H scope (kd scope cl C X.env) F) n g)(ht:∀s H C cl F,PTs (X.pz s H scope (kd scope cl C X.env) F) ifs tt)
  (he:∀s H C cl F,PE (X.pz s H scope (kd scope cl C X.env) F) elt Y)(hs:∀x,rQ iter X.env x=pure x:=by intro _;rfl):
  PS X (.Assign [.Name y py] (.ListComp elt [#[n,iter,ifs,0]] scope pos) B) (RN (RX U g tt Y (own.map (·.2))) (pR i)):=by
 intro aB s σ H D I h;rw[exec_Assign_Name_used _ _ _ _ G];refine aA<|rZ<|aA ?_;show bj _ X.A (do let _<-comprehension (.ListComp elt [#[n,iter,ifs,0]] scope pos) scope X.env (firstIterPos [#[n,iter,ifs,0]] pos) (newList []) false (eval iter X.env) (some<|assign (.Name y py) X.env)) _ _ s;let h:RX U g tt Y (own.map (·.2)) σ H (λx H1=>pR i x σ H1 D.nx):=h;refine aA (gN (LO (Qf:=λ_ J=>SP X aB D .next J) Z S I hi ok hg ht he hs h λL C J m H' I' q hn f=>?_) λ_ J hq=>aU<|aU hq);show bj _ _ (assign (.Name y py) X.env (.ref L)) _ _ _;refine wpAny_assign_Name (Et (v:=V.ref L) I' S hy (.inl j) rfl (λs2 I2#[a,sb,ha]=>?_) (.inr j));let#[f0,f1,f2,f3,f4,f5]:=f;let M:C≠a:=by
  obtain z|z:=ha
  .rw[z];exact f1
  .exact λe=>f4 y a z e.symm
 refine#[m,hn.sameBut sb M,λh3 O=>?_];exact#[_,H',I2.turned (t':=s2.toks) (λb o hb e=>(O.2 b hb).trans e) f0 f1 f3 f4 f5,q]
def nE(j:env.scope.kind=.function)(q:env.scope.names.lookup y>.local)(z:(py.line==pos.line)=true)
  (B:(scope.names.any λ(n,k)=>n==y&&(k==.local||k==.cell))=false):kG (.ListComp elt G scope pos) (some<|.Name y py) l env=pure true:=by
 let D:env.kindOf y>.local:=q;let F:env.blockKind=.function:=by delta Env.blockKind;rw[j];rfl
 delta kG;simp only[F,D,B,Expr.pos,z];rfl
end
def wE{lo:Int}{g:TG}{tt:TT}{I:TE}{J:Hp->Prop}(Pv:Nat->Hp->Prop)(h0:Pv 0 (upd H1 D<|.lst []))
  (M:∀i H,i<n->Pv i H->g (.int<|lo+i) (wipe σ vs) H λσ2 F=>wipe σ2 vs=wipe σ vs/\tt σ2 F λb z=>
   if b=true then I σ2 z λy B=>∃acc,B D>.lst acc/\↑acc<sizeLine/\Pv (i+1) (upd B D<|.lst<|acc++[y])else Pv (i+1) z)(hd:∀H,Pv n H->J H):
  ∃W:Nat->Nat->Hp->Prop,(∃m,W 0 m<|upd H1 D<|.lst [])/\∀i m H,W i m H->
   ((Gf lo n).stop i H/\J H)\/((Gf lo n).go i H/\∃G:Hp->Prop,(∀j,G j->∃L,L<m/\W (i+1) L j)/\∀x j,(Gf lo n).MJ i H x j->g x (wipe σ vs) j λσ2 F=>wipe σ2 vs=wipe σ vs/\tt σ2 F λb z=>
    if b=true then I σ2 z λy B=>∃acc,B D>.lst acc/\↑acc<sizeLine/\G (upd B D<|.lst<|acc++[y])else G z):=by
 exists λi m H=>m=n-i/\i<=n/\Pv i H,#[n,sP,cP _,h0];rintro i m H ⟨rfl,O,p⟩;by_cases q:i<n
 .refine .inr #[q,Pv<|i+1,λj N=>#[n-(i+1),oM,rfl,q,N],λx j y=>?_];obtain⟨e,y⟩:=y;subst e y;exact M i _ q p
 .let e:i=n:=oM;subst e;exact .inl #[aI _,hd H p]
def jy{K:ao}{g:TG}{tt:TT}{I:TE}{J:Hp->Prop}(Pv:Nat->Hp->Prop)(h0:Pv 0 (upd H1 D<|.lst []))(M:∀i H,i<=↑xs->Pv i H->bW K H a xs)
  (N:∀i x H,xs[i]?>x->Pv i H->g x (wipe σ vs) H λσ2 F=>wipe σ2 vs=wipe σ vs/\tt σ2 F λb n=>
   if b=true then I σ2 n λy z=>∃acc,z D>.lst acc/\↑acc<sizeLine/\Pv (i+1) (upd z D<|.lst<|acc++[y])else Pv (i+1) n)(hd:∀H,Pv ↑xs H->J H):
  ∃W:Nat->Nat->Hp->Prop,(∃m,W 0 m<|upd H1 D<|.lst [])/\∀i m H,W i m H->
   ((O9 K a).stop i H/\J H)\/((O9 K a).go i H/\∃G:Hp->Prop,(∀j,G j->∃L,L<m/\W (i+1) L j)/\∀x j,(O9 K a).MJ i H x j->g x (wipe σ vs) j λσ2 F=>wipe σ2 vs=wipe σ vs/\tt σ2 F λb n=>
    if b=true then I σ2 n λy z=>∃acc,z D>.lst acc/\↑acc<sizeLine/\G (upd z D<|.lst<|acc++[y])else G n):=by
 exists λi m H=>m=↑xs-i/\i<=↑xs/\Pv i H,#[↑xs,sP,cP _,h0];rintro i m H ⟨rfl,O,p⟩;let q:=M i H O p;by_cases B:i<↑xs
 .refine .inr #[#[xs,xs[i],q,by simp[B]],Pv<|i+1,λj S=>#[↑xs-(i+1),oM,rfl,B,S],λx j y=>?_];let#[e,y]:=y;subst e;exact N i x _ (y xs q) p
 .let e:i=↑xs:=oM;subst e;exact .inl #[#[xs,q,aI _],hd H p]
section
variable{κ:Type} [DecidableEq κ]
def oH(nz:List (κ×V))(k:κ):Option V:=(nz.find? λkv=>decide<|kv.1=k).map (·.2)
def putK(nz:List (κ×V))(k:κ)(v:V):List (κ×V):=
 if(nz.any λkv=>decide<|kv.1=k)=true then nz.map (λkv=>if kv.1=k then(kv.1,v)else kv)else nz++[(k,v)]
theorem tU{p:κ×V}(e:p.1=k):oH (p::r) k>p.2:=by simp[oH,fJ,e]
def tT{p:κ×V}(e:¬p.1=k):oH (p::r) k=oH r k:=by simp[oH,fJ,e]
def tS(k:κ):∀j,(j.any λn=>decide<|n.1=k)=(oH j k).isSome
 |[]=>rfl
 |p::r=>by
  rw[kj];by_cases e:p.1=k
  .simp only[tU e,ag e,Bool.true_or,Jm]
  .rw[tT e,ah e,Bool.false_or];exact tS k r
def sQ(j)(k:κ)(v):↑(putK j k v)<=↑j+1:=by
 delta putK;split
 .rw[aj];omega
 .rw[aW,aQ,c9];omega
def B0{k:κ}(v:V)(h:oH j k=none):putK j k v=j++[(k,v)]:=by delta putK;rw[tS,h];exact aa dC
def pq.pS(r:pq o u):o.isSome=u.isSome:=by
 cases o with
 |none=>cases u with
  |none=>rfl
  |some _=>exact(show False from r).elim
 |some _=>cases u with
  |none=>exact(show False from r).elim
  |some _=>rfl
def KV.val(r:KV j vs)(k:κ):pq (oH j k) (CP vs k):=by
 delta KV at r;induction r with
 |nil=>exact my
 |@cons p q ps n h t F=>
  let#[D,G]:=h;by_cases e:p.1=k
  .let B:q.1=k:=D.symm.trans e;let b:CP (q::n) k>q.2:=by simp[CP,fJ,B]
   rw[tU e,b];exact G
  .let B:¬q.1=k:=λz=>e<|D.trans z;let b:CP (q::n) k=CP n k:=by simp[CP,fJ,B]
   rw[tT e,b];exact F
def KV.any(r:KV j vs)(k:κ):(j.any λn=>decide<|n.1=k)=vs.any λn=>decide (n.1=k):=by
 delta KV at r;induction r with
 |nil=>rfl
 |cons h t q=>rw[kj,kj,q,h.1]
def KV.Yv(r:KV B vs)(k:κ)(D:RelV y u):
  KV (B.map λj=>if j.1=k then(j.1,y)else j) (vs.map λj=>if j.1=k then(j.1,u)else j):=by
 delta KV at r|-;induction r with
 |nil=>exact .nil
 |@cons p q ps I h t F=>
  rw[bb,bb];refine .cons ?_ F;let#[n,G]:=h;by_cases e:p.1=k
  .rw[ac e,ac (n.symm.trans e)];exact#[n,D]
  .rw[aa e,aa (λz=>e<|n.trans z)];exact#[n,G]
def KV.put(r:KV j vs)(k:κ)(n:RelV y u):KV (putK j k y) (stored vs k u):=by
 delta putK stored;rw[r.any k];by_cases e:(vs.any λq=>decide<|q.1=k)=true
 .rw[ac e,ac e];exact r.Yv k n
 .rw[aa e,aa e];exact VA r #[rfl,n]
theorem KV.length{j:List (κ×V)}(r:KV j vs):↑j=↑vs:=CZ r
end
def D6(r:RelV (kV k) u):(jc P w).is k u=true:=by
 cases k with
 |inl i=>have#[t,e]:=(show∃t,u=n6 i t from r);subst e;exact Hs P w i t
 |inr x=>have#[t,e]:=(show∃t,u=ES x t from r);subst e;exact Ht P w x t
def D4:∀{j:List Key}{us:List Value},Vals (j.map kV) us->ItemsAre (jc P w) j us
 |[],_,r=>by rw[jh]at r;cases r;exact .nil
 |k::j,_,r=>by
  rw[bb]at r;cases r with
  |cons h t=>exact .cons (D6 h) (D4 t)
abbrev KT(H:Hp):List (List Key×V)->List (List Key×Addr×Value)->Prop:=Paired λp q=>p.1=q.1/\H q.2.1>(.tup<|p.1.map kV)/\RelV p.2 q.2.2
def KT.val(r:KT H j xs)(k):pq (oH j k) ((IS xs k).map (·.2)):=by
 induction r with
 |nil=>exact my
 |@cons p q ps n h t F=>
  let#[D,_,G]:=h;by_cases e:p.1=k
  .let B:q.1=k:=D.symm.trans e;let b:IS (q::n) k>q.2:=by simp[IS,fJ,B]
   rw[tU e,b];exact G
  .let B:¬q.1=k:=λz=>e<|D.trans z;let b:IS (q::n) k=IS n k:=by simp[IS,fJ,B]
   rw[tT e,b];exact F
def KT.Yv(r:KT H n xs)(k)(F:RelV y u):
  KT H (n.map λB=>if B.1=k then(B.1,y)else B) (xs.map<|putAt k u):=by
 induction r with
 |nil=>exact .nil
 |@cons p q ps J h t G=>
  rw[bb,bb];refine .cons ?_ G;let#[j,D,I]:=h;delta putAt;by_cases e:p.1=k
  .rw[ac e,ac (j.symm.trans e)];exact#[j,D,F]
  .rw[aa e,aa (λz=>e<|j.trans z)];exact#[j,D,I]
def KT.put(r:KT H j xs)(k)(z:H b>(.tup<|k.map kV))(n:RelV y u):
  KT H (putK j k y) (storedH xs k b u):=by
 let e:(j.any λB=>decide<|B.1=k)=(IS xs k).isSome:=by rw[tS,(r.val k).pS,jw]
 delta putK storedH;rw[e];by_cases q:(IS xs k).isSome=true
 .rw[ac q,ac q];exact r.Yv k n
 .rw[aa q,aa q];exact VA r #[rfl,z,n]
def KT.keeps(r:KT H j xs)(n:∀b ys,H b>.tup ys->q b>.tup ys):KT q j xs:=
 Paired.XV r λ_ _ z=>#[z.1,n _ _ z.2.1,z.2.2]
section
variable{P:a7}{w:bS}{H:Hp}{h:Heap}{a:Addr}
def Wa(ok:nI P w H h)(e:Rd H a u):eQ P w H h a u:=e.ok ok
def GN(ok:nI P w H h)(e:Rd H a (.dK j)):↑j<=sizeLine/\(a==kh)=false/\∃vs,KV j vs/\h.DictOf (jc P w) a vs:=
 show eQ P w H h a (.dK j)from Wa ok e
def VL(ok:nI P w H h)(e:H a>.dK j):↑j<=sizeLine/\(a==kh)=false/\∃vs,KV j vs/\h.DictOf (jc P w) a vs:=GN ok (.inl e)
def Bx(ok:nI P w H h)(e:H a>(.tup<|q.map kV)):(EA<|jc P w).is h q a:=by let#[_,j,r,o,z,B,n,D]:=(show eQ P w H h a (.tup<|q.map kV)from ok a _ e);exact#[o,j.toArray,n,z,B,D,by simpa using D4 r]
def GO(ok:nI P w H h)(e:Rd H a (.dT j)):↑j<=sizeLine/\(a==kh)=false/\
  ∃xs,KT H j xs/\h.DictOfH (EA<|jc P w) a xs:=by
 let#[z,y,xs,r,o,es,D,F,G,I,J,L]:=(show eQ P w H h a (.dT j)from Wa ok e);refine#[z,y,xs,r,o,es,D,F,G,I,J,λx n=>?_,L];let all:∀{l:List (List Key×V)}{m:List (List Key×Addr×Value)},KT H l m->∀x∈m,(EA<|jc P w).is h x.1 x.2.1:=by
  intro l m q;induction q with
  |nil=>intro x n;exact nomatch n
  |@cons p q ps N B t M=>
   intro x n;obtain e|n:=aE.mp n
   .subst e;exact Bx ok (by rw[<-B.1];exact B.2.1)
   .exact M x n
 exact all r x n
def aan(ok:nI P w H h)(e:H a>.dT j):↑j<=sizeLine/\(a==kh)=false/\
  ∃xs,KT H j xs/\h.DictOfH (EA<|jc P w) a xs:=GO ok (.inl e)
end
def lW(H:Hp)(a:Addr)(y:V)(r:Option V):Prop:=
 (∃nz k,Rd H a (.dK nz)/\y=kV k/\r=oH nz k)\/∃nz k b,Rd H a (.dT nz)/\y=.ref b/\H b>(.tup<|k.map kV)/\r=oH nz k
def AQ(H:Hp)(a:Addr)(y v:V)(H':Hp):Prop:=
 (∃nz k,H a>.dK nz/\y=kV k/\↑nz<sizeLine/\H'=upd H a (.dK<|putK nz k v))\/
 ∃nz k b,H a>.dT nz/\y=.ref b/\H b>(.tup<|k.map kV)/\↑nz<sizeLine/\H'=upd H a (.dT<|putK nz k v)
def lW.k{k:Key}(e:H a>.dK j):lW H a (kV k) (oH j k):=.inl #[j,k,.inl e,rfl,rfl]
def lW.t{k:List Key}(e:H a>.dT j)(n:H b>(.tup<|k.map kV)):lW H a (.ref b) (oH j k):=.inr #[j,k,b,.inl e,rfl,n,rfl]
def AQ.k{k:Key}(e:H a>.dK j)(n:↑j<sizeLine):AQ H a (kV k) v (upd H a<|.dK<|putK j k v):=.inl #[j,k,e,rfl,n,rfl]
def AQ.t{k:List Key}(e:H a>.dT j)(n:H b>(.tup<|k.map kV))(q:↑j<sizeLine):
  AQ H a (.ref b) v (upd H a<|.dT<|putK j k v):=.inr #[j,k,b,e,rfl,n,q,rfl]
section
variable{X:Cx}{aB:List (Addr×Obj)}{σ:St}{H:Hp}{s:bq}{a:Addr}{y v:V}{u r:Value}{o:Option V}{A:dZ}{E:Value->bq->Prop}
def Inv.big(I:Inv X aB σ H s):kh<s.heap.objs.size:=by let h:cV<s.heap.objs.size:=(I.mod.glob.keeps I.bk).lt;exact IK dC h
def Nd(L:A.units+1<cLine)(I:Inv X aB σ H s)(g:lW H a y (some v))(G:RelV y u)(h:∀n J,Inv X aB σ H J->RelV v n->Q n J):
  bj (model X.prog X.w) A (G0 (.ref a) u) Q E s:=by
 obtain⟨q,k,e,B,l⟩|⟨q,k,b,e,B,M,l⟩:=g
 .subst B;let#[z,hd,vs,rel,D]:=GN I.fm e;let#[n,hw,j]:=pq.some_of (v:=v) (o:=CP vs k) (by rw[l];exact rel.val k);exact wpAny_getItem_of (D6 G) D.mapOf hw (h n _ (I.tok _) j)
 .subst B;cases(show u=cA b from G);let#[z,hd,xs,rel,D]:=GO I.fm e;let#[n,hw,j]:=pq.some_of (v:=v) (o:=(IS xs k).map (·.2)) (by rw[l];exact rel.val k);let#[p,N,F]:=EK.mp hw;refine wpAny_getItem_heap (qk L) (Bx I.fm M) D N ?_;rw[F];exact h n _ (I.tok _) j
def adc(G:A.units+1<cLine)(I:Inv X aB σ H s)(g:lW H a y o)(D:RelV y u)(h:∀F,Inv X aB σ H F->Q (.bool o.isSome) F):
  bj (model X.prog X.w) A (d7 .In u<|.ref a) Q E s:=by
 obtain⟨j,k,e,n,l⟩|⟨j,k,b,e,n,J,l⟩:=g
 .subst n;let#[z,hd,vs,rel,B]:=GN I.fm e;refine wpAny_in_of (D6 D) hd B.mapOf ?_;rw[<-(rel.val k).pS,<-l];exact h _ (I.tok _)
 .subst n;cases(show u=cA b from D);let#[z,hd,xs,rel,B]:=GO I.fm e;refine wpAny_in_heap (qk G) (Bx I.fm J) hd B ?_;let q:=(rel.val k).pS;rw[jw]at q;rw[<-q,<-l];exact h _ (I.tok _)
def Tt(G:A.units+1<cLine)(I:Inv X aB σ H s)(g:lW H a y o)(D:RelV y u)(h:∀F,Inv X aB σ H F->Q (.bool<|!o.isSome) F):
  bj (model X.prog X.w) A (d7 .NotIn u<|.ref a) Q E s:=by
 obtain⟨j,k,e,n,l⟩|⟨j,k,b,e,n,J,l⟩:=g
 .subst n;let#[z,hd,vs,rel,B]:=GN I.fm e;refine wpAny_notIn_of (D6 D) hd B.mapOf ?_;rw[<-(rel.val k).pS,<-l];exact h _ (I.tok _)
 .subst n;cases(show u=cA b from D);let#[z,hd,xs,rel,B]:=GO I.fm e;refine wpAny_notIn_heap (qk G) (Bx I.fm J) hd B ?_;let q:=(rel.val k).pS;rw[jw]at q;rw[<-q,<-l];exact h _ (I.tok _)
def E7(I:Inv X aB σ H s)(n:Vw (H a))(B:iG a s.heap h')(he:∃q,h'.get? a>q)(new:eQ X.prog X.w (upd H a j) h' a j):
  Inv X aB σ (upd H a j) {s with heap:=h',toks:=t'}:=
 I.write (x:=a) (e:=a) n (.inl rfl) (λb q D z=>(B.2 b D).trans z) he new
def PM(z:↑j<=sizeLine)(hd:(a==kh)=false)(rel:KV j vs)(n:h'.DictOf (jc P w) a vs):
  eQ P w q h' a (.dK j):=#[z,hd,vs,rel,n]
def Nf(Y:A.units+1<cLine)(I:Inv X aB σ H s)(g:AQ H a y v Z)(M:RelV y u)(N:RelV v r)(h:∀O,Inv X aB σ Z O->Q () O):
  bj (model X.prog X.w) A (setItem (.ref a) u r) Q E s:=by
 obtain⟨j,k,e,D,l,F⟩|⟨j,k,b,e,D,S,l,F⟩:=g
 .subst D F;let#[z,hd,vs,rel,G]:=VL I.fm e;let hz:↑vs<=sizeLine:=by rw[<-↑rel];exact z
  let J:↑(putK j k v)<=sizeLine:=by let:=sQ j k v;omega
  refine wpAny_setItem_pairs (hsz:=hz) (D6 M) G λh' n L=>h _ ?_;let he:∃q,h'.get? a>q:=let#[q,_,_,B,_]:=n;#[q,B];exact E7 I (by rw[e];exact my) L he (PM J hd (rel.put k N) n)
 .subst D F;cases(show u=cA b from M);let#[z,hd,xs,rel,G]:=aan I.fm e;let hz:↑xs<=sizeLine:=by rw[<-CZ rel];exact z
  let J:↑(putK j k v)<=sizeLine:=by let:=sQ j k v;omega
  refine wpAny_setItem_heap (hsz:=hz) (qk Y) (Bx I.fm S) G λh' n L=>h _ ?_;let#[q,es,ep,B,h2,h3,h4,_,h5]:=n;refine E7 I (by rw[e];exact my) L #[q,B] #[J,hd,_,(rel.put k S N).keeps λc ys U=>?_,q,es,ep,B,h2,h3,h4,h5];rw[aH (eI U e<|λz=>nomatch z)];exact U
end
def aaa(i:fU):Prop:=∀ov iv,FX i false ov iv=operate [ov,iv] (G0 ov iv)
def U0{T id:String}
  (D:lU (.type T) "__getitem__"=pure (some<|.builtin id))(F:aaa slice)
  (h:bj (model prog w) A (eval value env) (λo q=>bj (model prog w) A (eval slice env) (λi j=>j.TypeIs o T/\bj (model prog w) A (G0 o i) Q E j) E q) E s):
  bj (model prog w) A (eval (.Subscript value slice pos) env) Q E s:=by
 refine IQ<|fg h (λo q G=>fg G (λi j n=>?_) λ_ _ x=>x) λ_ _ x=>x;let#[z,n]:=n;delta MD;refine aA ?_;rw[getitemInPython_of_ne z.not_modules];refine aA<|wpAny_specialOf z D ?_;let fin:bj (model prog w) A (FX slice false o i) (λr B=>bj (model prog w) A (letTemporaryGo value o r>>=λ_=>pure r) Q E B) E j:=by rw[F o i];exact wpAny_operating (fg n (λr B I=>aA<|wpAny_letTemporaryGo<|aU I) λ_ _ x=>x)
 first
  |exact aU (aA fin)
  |exact aA (aU<|aA fin)
  |exact aA fin
def GL(I:Inv X aB σ H s)(g:lW H a y o):s.TypeIs (.ref a) "dict":=by
 obtain⟨j,k,e,_,_⟩|⟨j,k,b,e,_,_,_⟩:=g
 .let#[_,_,vs,_,n]:=GN I.fm e;exact n.typeIs
 .let#[_,_,xs,_,n]:=GO I.fm e;exact n.typeIs
def Wu(td ty:TE):TE:=λσ H Q=>td σ H λx H1=>ty σ H1 λy H2=>∃a v,x=.ref a/\lW H2 a y (some v)/\Q v H2
def aci(ty td:TE):TE:=λσ H Q=>ty σ H λy H1=>td σ H1 λx H2=>∃a o,x=.ref a/\lW H2 a y o/\Q (.bl o.isSome) H2
def FY(ty td:TE):TE:=λσ H Q=>ty σ H λy H1=>td σ H1 λx H2=>∃a o,x=.ref a/\lW H2 a y o/\Q (.bl<|!o.isSome) H2
def Wc(td ty tv:TE):TS:=λD σ H=>tv σ H λv H1=>td σ H1 λx H2=>ty σ H2 λy H3=>∃a H4,x=.ref a/\AQ H3 a y v H4/\D.nx σ H4
section
variable{X:Cx}{o i e value:fU}{pos pos' Y0:Pos}{td ty tv:TE}
def AI(q:X.A.units+1<cLine)(z:PE X o B)(D:PE X i ty)(G:aaa i):PE X (.Subscript o i pos) (Wu B ty):=by intro aB s σ H Q I h;refine U0 PySem.F.slot_dict_getitem.lookup G<|gN (z aB s σ H _ I h) λu s1#[x,H1,J,L,M]=>gN (D aB s1 σ H1 _ J M) λY s2#[y,N,n,O,a,v,ex,g,S]=>?_;subst ex;obtain rfl:u=cA a:=L;exact#[GL n g,Nd q n g O λZ s3 U j=>#[v,N,U,j,S]]
def Kb(j:X.A.units+1<cLine)(n:PE X i ty)(q:PE X o z):PC X .In i o (aci ty z):=by intro aB s σ H Q I h;refine gN (n aB s σ H _ I h) λS s1#[y,H1,B,D,F]=>gN (q aB s1 σ H1 _ B F) λu s2#[x,G,J,L,a,M,ex,g,N]=>?_;subst ex;obtain rfl:u=cA a:=L;exact adc j J g D λs3 O=>#[.bl M.isSome,G,O,rfl,N]
def Eb(j:X.A.units+1<cLine)(n:PE X i ty)(q:PE X o z):PC X .NotIn i o (FY ty z):=by intro aB s σ H Q I h;refine gN (n aB s σ H _ I h) λS s1#[y,H1,B,D,F]=>gN (q aB s1 σ H1 _ B F) λu s2#[x,G,J,L,a,M,ex,g,N]=>?_;subst ex;obtain rfl:u=cA a:=L;exact Tt j J g D λs3 O=>#[.bl<|!M.isSome,G,O,rfl,N]
def AJ(j:X.A.units+1<cLine)(n:PE X o q)(z:PE X i ty)(B:PE X value F)(G:kG value (some<|.Subscript o i pos') pos.line X.env=pure false):
  PS X (.Assign [.Subscript o i pos'] value pos) (Wc q ty F):=by
 intro aB s σ H D I h;refine wpAny_Assign_Subscript (gN (B aB s σ H _ I h) λr s1#[v,H1,J,L,M]=>gN (n aB s1 σ H1 _ J M) λu s2#[x,N,O,S,U]=>gN (z aB s2 σ N _ O U) λiv s3#[y,H3,Y,Z,a,H4,ex,g,q3]=>?_) G;subst ex;obtain rfl:u=cA a:=S;exact Nf j Y g Z L λs4 I4=>#[σ,H4,I4,q3]
end
def GM(h:Heap)(j:kh<h.objs.size):eQ P w H (h.push {cls:=.type "dict",data:=.dict #[]}) h.objs.size (.dK []):=
 #[cP _,beq_eq_false_iff_ne.mpr<|eG<|bT j,[],.nil,Heap.DictOf.new h]
def PP(h:Heap)(j:kh<h.objs.size):eQ P w H (h.push {cls:=.type "dict",data:=.dict #[]}) h.objs.size (.dT []):=
 #[cP _,beq_eq_false_iff_ne.mpr<|eG<|bT j,[],.nil,_,#[],0,bw _ rfl,#[rfl,rfl,rfl],rfl,rfl,Td]
def RR:TE:=λ_ H Q=>∀p,H p=none->Q (.ref p) (upd H p<|.dK [])
def RS:TE:=λ_ H Q=>∀p,H p=none->Q (.ref p) (upd H p<|.dT [])
section
variable{X:Cx}{pos:Pos}
def QK:PE X (.Dict [] [] pos) RR:=λaB s σ H Q I h=>
 wpAny_Dict_empty #[.ref s.heap.objs.size,_,I.laid (a:=s.heap.objs.size) (o:=.dK []) (t':=s.toks) (λ_ _ q=>aF _ q) (aI _) (GM s.heap I.big),rfl,h _<|I.fm.fresh<|aI _]
def HL:PE X (.Dict [] [] pos) RS:=λaB s σ H Q I h=>
 wpAny_Dict_empty #[.ref s.heap.objs.size,_,I.laid (a:=s.heap.objs.size) (o:=.dT []) (t':=s.toks) (λ_ _ q=>aF _ q) (aI _) (PP s.heap I.big),rfl,h _<|I.fm.fresh<|aI _]
end
def Co:List (TE×TE)->St->Hp->(List (V×V)->Hp->Prop)->Prop
 |[],_,H,Q=>Q [] H
 |(tk,tv)::r,σ,H,Q=>tk σ H λx H1=>tv σ H1 λy H2=>Co r σ H2 λps H3=>Q ((x,y)::ps) H3
abbrev VV:List (V×V)->List (Value×Value)->Prop:=Paired λp q=>RelV p.1 q.1/\RelV p.2 q.2
def PPs(X:Cx)(pos:Pos)(keys:List (Option fU))(values:List fU)(trs:List (TE×TE)):Prop:=
 ∀aB s σ H Q,Inv X aB σ H s->Co trs σ H Q->
  bj (model X.prog X.w) X.A (evalPairs<|pairTrees keys values X.env pos) (λvs s'=>∃ps H',Inv X aB σ H' s'/\VV ps vs/\Q ps H') X.xe s
def Ut:PPs X pos [] [] []:=λaB s σ H Q I h=>pairTrees_nil_walk #[[],H,I,.nil,h]
def QT(n:PE X k tk)(q:PE X v z)(B:PPs X pos D vs j):
  PPs X pos (some k::D) (v::vs) ((tk,z)::j):=λaB s σ H Q I h=>
 pairTrees_cons_walk (gN (n aB s σ H _ I h) λu s1#[x,H1,F,G,J]=>gN (q aB s1 σ H1 _ F J) λZ s2#[y,L,M,N,O]=>
  gN (B aB s2 σ L _ M O) λws s3#[ps,S,U,rel,Y]=>#[(x,y)::ps,S,U,.cons #[G,N] rel,Y])
def vt(nz more:List (Key×V)):List (Key×V):=more.foldl (λacc kv=>putK acc kv.1 kv.2) nz
def KV.merge:∀{more:List (Key×V)}{rs:List (Key×Value)}{j:List (Key×V)}{vs:List (Key×Value)},KV more rs->KV j vs->KV (vt j more) (merged vs rs):=by
 intro more rs j vs r;delta KV at r;induction r generalizing j vs with
 |nil=>intro q;exact q
 |@cons p q ps B h t n=>
  intro z;let e:KV (putK j p.1 p.2) (stored vs q.1 q.2):=by let:=z.put p.1 h.2;rw[<-h.1];exact this
  exact n e
def uJ:∀more j,↑(vt j more)<=↑j+↑more
 |[],j=>by show ↑j<=↑j+0;omega
 |p::r,j=>by let n:=uJ r<|putK j p.1 p.2;let q:=sQ j p.1 p.2;show(vt (putK j p.1 p.2) r).length<=_;rw[aQ];omega
def A7:∀{j:List (Key×V)}{ws:List (Value×Value)},VV (j.map λn=>(kV n.1,n.2)) ws->∃rs,Carries (jc P w) ws rs/\KV j rs
 |[],_,r=>by rw[jh]at r;cases r;exact#[[],my,.nil]
 |p::j,_,r=>by
  rw[bb]at r;cases r with
  |@cons a b B bs h t=>
   let#[rs,c,q]:=A7 (P:=P) (w:=w) t;let#[D,z]:=b;exact#[(p.1,z)::rs,#[D6 h.1,rfl,c],.cons #[rfl,h.2] q]
def Wv(trs:List (TE×TE)):TE:=λσ H Q=>∀p,H p=none->Co trs σ (upd H p<|.dK []) λps H2=>H2 p>.dK []/\∃nz,ps=nz.map (λkv=>(kV kv.1,kv.2))/\↑nz<=15/\Q (.ref p) (upd H2 p<|.dK<|vt [] nz)
def Uk(h:PPs X pos keys values D)(j:keys.all (·.isSome)=true)(J:↑keys=↑values)(h0:keys≠[])
  (F:↑keys<=15):PE X (.Dict keys values pos) (Wv D):=by
 intro aB s σ H Q I q;let L:=I.fm.fresh<|aI s.heap.objs.size;let M:=I.laid (a:=s.heap.objs.size) (o:=.dK []) (h':=s.heap.push {cls:=.type "dict",data:=.dict #[]}) (t':=s.toks) (λ_ _ q=>aF _ q) (aI _) (GM s.heap I.big);refine wpAny_Dict_walk (knd:=jc X.prog X.w) j J h0 F (gN (h aB _ σ _ _ M<|q _ L) λws s2#[ps,H2,G,rel,e,n,N,lk,O]=>?_);subst N;let#[rs,c,S]:=A7 (P:=X.prog) (w:=X.w) rel;let#[z,hd,U,Y,Z]:=VL G.fm e;cases Y;refine#[rs,c,Z,λh' B hs=>#[.ref s.heap.objs.size,_,?_,rfl,O]];let hz:↑(vt [] n)<=sizeLine:=by let h1:=uJ n [];rw[c9]at h1;rw[aK];omega
 let he:∃q,h'.get? s.heap.objs.size>q:=let#[q,_,_,hq,_]:=B;#[q,hq];exact E7 G (by rw[e];exact my) hs he (PM hz hd (S.merge .nil) B)
section
variable{X:Cx}{aB:List (Addr×Obj)}{σ:St}{H:Hp}{s:bq}{h':Heap}
def Inv.Vk{ch:List Addr}(I:Inv X aB σ H s)(k:∀b o,b∉ch->s.heap.get? b>o->h'.get? b>o)(hf:∀b∈ch,zG X aB H b):Inv X aB σ H {s with heap:=h',toks:=t'}:=by
 let B:∀b u,H b>u->b∉ch:=λb u e z=>by let q:=(hf b z).1;rw[q]at e;cases e
 refine I.step (g':=s.gens) (d':=s.drawn) (ch:=ch) (λb D=>#[(hf b D).2.2.2.1,(hf b D).2.1,(hf b D).2.2.2.2.1,(hf b D).2.2.2.2.2]) (λb o _ _ j e _=>k b o j e) (λb o _ _ j e _=>#[o.slots,k b o j e])
  (λ_ _ _ _ n=>n) (λb o j e=>#[o,k b o j e]) (λ_ _ e=>e) (λ_ _ _ e=>e) (λb ps e=>#[#[],by rw[e];simp]) (λm hm=>?_) (λb u e=>?_) I.bare
 .let#[o,es,F,G,r]:=hm;exact#[o,es,F,k _ o (λz=>(hf _ z).2.1 rfl) G,r]
 .refine(I.fm b u e).lM (λc v j q=>k c v ?_ q) (λ_ q=>q) λ_ _ q=>q;obtain z|z:=j
  .rw[z];exact B b u e
  .exact B c _ z
def Inv.EB{ch:List Addr}(I:Inv X aB σ H s)(k:∀b o,b∉ch->s.heap.get? b>o->h'.get? b>o)(hf:∀b∈ch,zG X aB H b)(G:s.heap.objs.size<=T)
  (new:eQ X.prog X.w (upd H T J) h' T J):Inv X aB σ (upd H T J) {s with heap:=h',toks:=t'}:=by
 let D:H T=none:=I.fm.fresh G;let F:∀b u,H b>u->b∉ch:=λb u e z=>by let q:=(hf b z).1;rw[q]at e;cases e
 refine I.step (g':=s.gens) (d':=s.drawn) (ch:=ch) (λb j=>#[(hf b j).2.2.2.1,(hf b j).2.1,(hf b j).2.2.2.2.1,(hf b j).2.2.2.2.2]) (λb o _ _ B e _=>k b o B e) (λb o _ _ B e _=>#[o.slots,k b o B e])
  (λb o _ e n=>?_) (λb o B e=>#[o,k b o B e]) (λb xs e=>?_) (λb o u e=>?_) (λb ps e=>#[#[],?_]) (λm hm=>?_) (λb u e=>?_) I.bare
 .rw[aH (bT<|bp (a9 e) G)];exact n
 .rw[aH (cQ e D)];exact e
 .rw[aH (cQ e D)];exact e
 .rw[aH (cQ e D),e];simp
 .let#[o,es,L,M,r]:=hm;exact#[o,es,L,k _ o (λz=>(hf _ z).2.1 rfl) M,r]
 .by_cases j:b=T
  .subst j;rw[au]at e;cases e;exact new
  .rw[aH j]at e;refine(I.fm b u e).lM (λc v B q=>k c v ?_ q) (λc q=>by rw[aH (cQ q D)];exact q) λc xs q=>by rw[aH (cQ q D)];exact q
   obtain z|z:=B
   .rw[z];exact F b u e
   .exact F c _ z
def Inv.lock(I:Inv X aB σ H s)(h:H d>u)(mu:Vw (some u)):∃od,Inv X aB σ (upd H d<|.qc od u) s:=by
 let x:=I.fm d u h;let ex:∃od,s.heap.get? d>od:=by
  cases u with
  |lst xs=>have#[_,_,_,_,e]:=x;exact#[_,e]
  |dK nz=>have#[_,_,_,_,o,_,_,e,_]:=x;exact#[o,e]
  |dT nz=>have#[_,_,_,_,o,_,_,e,_]:=x;exact#[o,e]
  |set S n=>have#[o,_,_,_,e,_]:=x;exact#[o,e]
  |ins C dx fs=>have#[_,_,_,e,_]:=x;exact#[_,e]
  |ext j=>have#[_,#[_,e],_]:=x;exact#[_,e]
  |_=>exact dJ mu
 let#[od,e]:=ex;let new:eQ X.prog X.w (upd H d<|.qc od u) s.heap d (.qc od u):=by
  refine#[e,x.lM (λb v _ q=>q) (λb q=>?_) λb xs q=>?_]
  .rw[aH (λz=>by rw[z,h]at q;cases q;exact mu)];exact q
  .rw[aH (λz=>by rw[z,h]at q;cases q;exact mu)];exact q
 exact#[od,I.write (x:=d) (e:=d) (t':=s.toks) (h':=s.heap) (by rw[h];exact mu) (.inl rfl) (λb v _ q=>q) #[od,e] new]
def Inv.abj(I:Inv X aB σ H s)(h:H d>u)(z:Vw (some u)):∀j n,X.SZ d≠some (.qc j n):=λj n e=>by let q:=I.aD.wn d j n e;rw[h]at q;cases q;exact z
def Inv.unlock(I:Inv X aB σ H s)(h:H d>.qc od u)(L:∀B D,X.SZ d≠some (.qc B D)):Inv X aB σ (upd H d u) s:=by
 let j:∀b o,H b>o->(∀B D,o≠.qc B D)->b≠d:=λb o e F z=>by rw[z,h]at e;cases e;exact F _ _ rfl
 let neN:∀b,H b=none->b≠d:=λb e z=>by rw[z,h]at e;cases e
 refine#[I.ok,I.os,I.bare,#[I.aD.keep,I.aD.slot,λb o e n J=>?_,I.aD.there,λb xs e=>?_,λb o x e=>?_,λb ps e=>?_],I.loc,I.cell,?_,λx c e=>?_,λp M=>?_,λb o e=>?_,I.len]
 .rw[aH (neN b<|I.aD.free b o e n J)];exact I.aD.free b o e n J
 .let q:=I.aD.Ao b xs e;rw[aH (j b _ q<|λ_ _ z=>nomatch z)];exact q
 .let q:=I.aD.wn b o x e;rw[aH (λz=>by rw[z]at e;exact L _ _ e)];exact q
 .let#[m,q]:=I.aD.yD b ps e;exact#[m,by rw[aH (j b _ q<|λ_ _ z=>nomatch z)];exact q]
 .rw[aH (neN _ I.free)];exact I.free
 .rw[aH (neN c<|I.mU x c e)];exact I.mU x c e
 .let#[e,n,r]:=I.pin p M;exact#[e,by rw[aH (neN _ n)];exact n,r]
 .by_cases G:b=d
  .rw[G,au]at e;cases e;rw[G];let#[_,x]:=I.fm d _ h;exact x.lM (λc v _ q=>q) (λc q=>by rw[aH (j c _ q<|λ_ _ z=>nomatch z)];exact q) λc xs q=>by rw[aH (j c _ q<|λ_ _ z=>nomatch z)];exact q
  .rw[aH G]at e;exact(I.fm b o e).lM (λc v _ q=>q) (λc q=>by rw[aH (j c _ q<|λ_ _ z=>nomatch z)];exact q) λc xs q=>by rw[aH (j c _ q<|λ_ _ z=>nomatch z)];exact q
end
def YQ(t:TE):TE:=λσ H Q=>∃d u,H d>u/\Vw (some u)/\∀od,t σ (upd H d<|.qc od u) λv H'=>H' d>.qc od u/\Q v (upd H' d u)
section
variable{X:Cx}
def Ul(h:PE X e t):PE X e (YQ t):=by intro aB s σ H Q I hw;let#[d,u,hd,j,hw]:=hw;let#[od,n]:=I.lock hd j;refine gN (h aB s σ _ _ n<|hw od) λv s1#[x,H1,z,r,B,q]=>?_;exact#[x,_,z.unlock B<|I.abj hd j,r,q]
def QP(I:Inv X aB σ H s)(o)
  (T:Turn X.prog X.w X.K n J [s.heap.objs.size] s.heap.objs.size j)(st:j 0 (s.heap.push o))(q:R J H):PIE X aB σ n R (.ref s.heap.objs.size) {s with heap:=s.heap.push o,toks:=tk}:=by
 refine#[s.heap.objs.size,[s.heap.objs.size],j,J,H,rfl,I.kept λb B e=>aF _ e,T,st,λb z=>?_,q];let e:b=s.heap.objs.size:=by simpa using z
 subst e;exact I.JC (aI _) (I.fm.fresh<|aI _)
end
def Z7(x:Str):It:=#[λi _=>i<x.cps.size,λi H v H'=>H'=H/\∃c,x.cps[i]?>c/\v=.str #[(List.toArray [c])],λi _=>x.cps.size<=i]
def ID{K:ao}(it)(x)(t:Tok)(ty)(j:ty="str_ascii_iterator"\/ty="str_iterator"):
  Turn P w K tg (Z7 x) [it] it (λi h=>h.IsStrIter it ty x t i) where
 mem:=sP
 obj:=λi h st b n=>by
  let e:b=it:=by simpa using n
  subst e;let#[o,e,c,d]:=st;exact#[o,e,λv z=>by rw[d]at z;cases z]
 keep:=λi h h' st k=>let#[o,U,r]:=st;#[o,k it sP o U,r];item:=by
  intro X G hw J q i aB s σ H E I hf st L;subst G hw J;let#[f0,f1,f2,D,f4,F]:=hf it sP;let W:Walks X.prog X.w X.A it [it] [it] x.cps.size (SignAt x) (λi h=>h.IsStrIter it ty x t i):=by
   obtain e|e:=j
   .rw[e];exact Walks.strAscii (I.ok.hd q) it x t
   .rw[e];exact Walks.strWide (I.ok.hd q) it x t
  let M:["enumerate","zip","dict_itemiterator","dict_reverseitemiterator","odict_iterator","itertools.zip_longest","itertools.pairwise"].contains ty=false:=by
   obtain e|e:=j
   .rw[e];decide
   .rw[e];decide
  refine W.item i s _ _ L st λv h' tk Y B Z=>?_;obtain⟨c,u,N,rfl⟩:=Y;let I1:Inv X aB σ H {s with heap:=h',toks:=tk}:=I.turned (λb o n e=>Z b o (by simpa using n) e) f0 f1 D f4 F;let#[oi,e,cc,dd]:=id B;exact#[_,rfl,LH (s:={s with heap:=h',toks:=tk}) e cc dd M #[.str #[(List.toArray [c])],H,I1,#[u,rfl],#[rfl,c,N,rfl],B,λb n=>(hf b n).1]]
 done:=by
  intro X G hw J q i aB s σ H E I hf st L;subst G hw J;let#[f0,f1,f2,D,f4,F]:=hf it sP;let S:x.cps[i]?=none:=Array.getElem?_eq_none L;obtain e|e:=j
  .rw[e]at st;exact wpAny_pyNext_ascii_end (I.ok.hd q) st S λh' O=>#[rfl,I.turned (t':=s.toks) (λb o n e=>O b o n e) f0 f1 D f4 F]
  .rw[e]at st;exact wpAny_pyNext_wide_end (I.ok.hd q) st S λh' O=>#[rfl,I.turned (t':=s.toks) (λb o n e=>O b o n e) f0 f1 D f4 F]
 self:=λA i s Q E st h=>by
  obtain e|e:=j
  .rw[e]at st;exact wpAny_pyIter_striter_ascii st h
  .rw[e]at st;exact wpAny_pyIter_striter_wide st h
def aeo(te:TE):TI:=λσ H R=>te σ H λv H1=>∃x,v=.str x/\R (Z7 x) H1
def Yb(he:PE X e z):PI X D e (aeo z):=by
 intro aB s σ H R I h;refine gN (he aB s σ H _ I h) λv s1#[y,H1,j,B,x,ex,q]=>?_;subst ex;obtain⟨t,rfl⟩:=B;cases n:x.cps.all (·<128)
 .exact wpAny_pyIter_wide n (QP (tk:=s1.toks) j _ (ID _ x t "str_iterator"<|.inr rfl) #[_,bw _ rfl,rfl,rfl] q)
 .exact wpAny_pyIter_ascii n (QP (tk:=s1.toks) j _ (ID _ x t "str_ascii_iterator"<|.inl rfl) #[_,bw _ rfl,rfl,rfl] q)
def Vr(K:ao)(a:Addr):It:=
 #[λi H=>∃xs x,bW K H a xs/\xs[i]?>x,λi H v H'=>∃T x,v=.ref T/\H T=none/\H'=upd H T (.tup [.int (i:Nat),x])/\∀xs,bW K H a xs->xs[i]?>x,λi H=>∃xs,bW K H a xs/\↑xs<=i]
def OD{K:ao}(a e it):
  Turn P w K (.Tuple ade kk Y0) (Vr K a) [e,it] e (λi h=>(∃old,IsEnum h e it ((i:Nat):Int) old)/\h.IsListIter it a i/\e≠it) where
 mem:=sP
 obj:=λi h st b n=>by
  let#[#[old,he],#[o,J,L,hd],_]:=st;let M:b=e\/b=it:=by simpa using n
  obtain z|z:=M
  .rw[z];exact#[_,he,λv q=>nomatch q]
  .rw[z];exact#[o,J,λv q=>by rw[hd]at q;cases q]
 keep:=λi h h' st k=>let#[#[old,he],hi,j]:=st;#[#[old,k e sP _ he],hi.at λo q=>k it sP o q,j];item:=by
  intro X N hw O L i aB s σ H E I hf st S;subst N hw O;let#[#[old,he],hit,j]:=st;let#[xs,x,G,U]:=S;let#[Y,Z,p,hz]:=I.list G;let#[u,hu,ru]:=Z.get U;let D:e<s.heap.objs.size:=a9 he;let G8:it<s.heap.objs.size:=by let#[_,q,_]:=hit;exact a9 q
  refine wpAny_pyNext_enum_item he hit p.isList (x:=u) (by simpa using hu) j λh' J F hT hsz hk=>?_;refine#[_,rfl,wpAny_letOwnedTupleGo_enum (s:={s with heap:=h',toks:=s.toks+1}) J λB he' sb=>?_];let hT2:B.get? s.heap.objs.size>{cls:=.type "tuple",data:=.seq (List.toArray [.int i s.toks,u])}:=(sb.2 _<|lQ D).trans hT;let new:eQ X.prog X.w (upd H s.heap.objs.size (.tup [.int (i:Nat),x])) B s.heap.objs.size (.tup [.int (i:Nat),x]):=
   #[by show 2<=sizeLine;decide,[.int i s.toks,u],.cons #[_,rfl] (.cons ru .nil),#[_,hT2,rfl,_,rfl]]
  let I1:Inv X aB σ (upd H s.heap.objs.size (.tup [.int (i:Nat),x])) {s with heap:=B,toks:=s.toks+1}:=
   I.EB (ch:=[e,it]) (λb ob n q=>(sb.2 b<|λz=>n<|by simp[z]).trans (hk b ob (λz=>n<|by simp[z]) (λz=>n<|by simp[z]) q)) hf (aI _) new
  refine#[.ref s.heap.objs.size,_,I1,rfl,#[_,x,rfl,I.fm.fresh<|aI _,rfl,λys hy=>by rw[I.wH hy G];exact U],#[#[u,?_],F.at λo q=>(sb.2 it<|eG j).trans q,j],λb n=>?_]
  .let e1:((i+1:Nat):Int)=(i:Int)+1:=oM;rw[e1];exact he'
  .let hb':b<s.heap.objs.size:=by
    let M:b=e\/b=it:=by simpa using n
    obtain z|z:=M
    .rw[z];exact D
    .rw[z];exact G8
   rw[aH (bT hb')];exact(hf b n).1
 done:=by intro X N hw O L i aB s σ H E I hf st S;subst N hw O;let#[#[old,he],hit,j]:=st;let#[xs,G,U]:=S;let#[Y,Z,p,hz]:=I.list G;let#[f0,f1,f2,f3,f4,f5]:=hf it sP;let hl:=↑Z;exact wpAny_pyNext_enum_end (I.ok.hd L) he hit p.isList (by simp;omega) λh' eb=>#[rfl,I.turned (t':=s.toks) (λb o n q=>eb b o n q) f0 f1 f3 f4 f5]
 self:=λA i s Q E st h=>let#[#[_,he],_]:=st;wpAny_pyIter_enum he h
def VY(K:ao)(ta:TA):TI:=λσ H R=>ta σ H λvs H1=>∃a xs,vs=[.ref a]/\bW K H1 a xs/\R (Vr K a) H1
def Uq(D:Gl X "enumerate")(hm:X.mg "enumerate"=none)(F:PA X [e] G)(J:bi [e] X.env=[(false,eval e X.env)]:=by rfl):
  PI X (.Tuple n kk B) (.Call (.Name "enumerate" p) [e] [] pos) (VY X.K G):=by
 intro aB s σ H R I h;refine Call_<|vn I D hm boot_enumerate<|gQ (gN (F pos aB s σ H _ I h) λus s1#[vs,H1,j,L,M]=>?_) J rfl;let#[a,xs,ex,N,q]:=M;subst ex;cases L with
 |cons r O=>
  cases O
  cases r
  let#[S,rv,U,hz]:=j.list N;refine call_enumerate_list U.isList λh' he hit hsz Y=>wpAny_pyIter_enum he ?_;let Z:Inv X aB σ H1 {s1 with heap:=h'}:=j.kept (t':=s1.toks) Y;refine#[s1.heap.objs.size+1,[s1.heap.objs.size+1,s1.heap.objs.size],_,_,H1,rfl,Z,OD a (s1.heap.objs.size+1) s1.heap.objs.size,#[#[.none,he],hit,Nat.succ_ne_self _],λb hb=>?_,q];let e':b=s1.heap.objs.size+1\/b=s1.heap.objs.size:=by simpa using hb
  let hle:s1.heap.objs.size<=b:=by
   obtain z|z:=e'
   .rw[z];exact mJ _ _
   .rw[z];exact aI _
  exact j.JC hle (j.fm.fresh hle)
def M7:eE "zip">.type "zip":=dK
def Z9(K:ao)(a b:Addr):It:=
 #[λi H=>∃xs ys x y,bW K H a xs/\bW K H b ys/\xs[i]?>x/\ys[i]?>y,
  λi H v H'=>∃T x y,v=.ref T/\H T=none/\H'=upd H T (.tup [x,y])/\(∀xs,bW K H a xs->xs[i]?>x)/\∀ys,bW K H b ys->ys[i]?>y,
  λi H=>∃xs ys,bW K H a xs/\bW K H b ys/\(↑xs<=i\/↑ys<=i)]
def Se{K:ao}{a b z TI TO G J:Addr}(D:ZipApart z TI TO G J a b):
  Turn P w K (.Tuple ade kk Y0) (Z9 K a b) [z,TI,TO,G,J] z (λi h=>IsZip h z TI TO .none/\IsPair h TI (.ref G) (.ref J)/\(∃x y,IsPair h TO x y)/\h.IsListIter G a i/\h.IsListIter J b i) where
 mem:=sP
 obj:=λi h st c hc=>by
  let#[hz,j,#[x,y,n],#[o1,e1,_,d1],#[o2,e2,_,d2]]:=st;let e':c=z\/c=TI\/c=TO\/c=G\/c=J:=by simpa using hc
  obtain q|q|q|q|q:=e'
  .rw[q];exact#[_,hz,λv q=>nomatch q]
  .rw[q];exact#[_,j,λv q=>nomatch q]
  .rw[q];exact#[_,n,λv q=>nomatch q]
  .rw[q];exact#[o1,e1,λv q=>by rw[d1]at q;cases q]
  .rw[q];exact#[o2,e2,λv q=>by rw[d2]at q;cases q]
 keep:=λi h h' st k=>by let#[hz,j,#[x,y,n],U,Y]:=st;exact#[k z sP _ hz,k TI sP _ j,#[x,y,k TO sP _ n],U.at λo q=>k G sP o q,Y.at λo q=>k J sP o q]
 item:=by
  intro X hP hw hK hc i aB s σ H E I hf st hg;subst hP hw hK;let#[hz,j,#[x0,y0,n],U,Y]:=st;let#[xs,ys,x,y,L,M,hx,hy]:=hg;let#[lL,rv,p,_]:=I.list L;let#[N,O,p2,_]:=I.list M;let#[u,hu,ru]:=rv.get hx;let#[u2,hu2,ru2]:=O.get hy;let hzl:z<s.heap.objs.size:=a9 hz;refine wpAny_pyNext_zip_item D hz j n U Y p.isList p2.isList (x:=u) (y:=u2) (by simpa using hu) (by simpa using hu2) λh' z' TO' h1' Xh hT hsz hk=>?_;refine#[_,rfl,wpAny_letOwnedTupleGo_zip (s:={s with heap:=h'}) z' λS z'' Z=>?_];let hT2:S.get? s.heap.objs.size>{cls:=.type "tuple",data:=.seq (List.toArray [u,u2])}:=(Z.2 _<|lQ hzl).trans hT;let new:eQ X.prog X.w (upd H s.heap.objs.size (.tup [x,y])) S s.heap.objs.size (.tup [x,y]):=
   #[by show 2<=sizeLine;decide,[u,u2],.cons ru<|.cons ru2 .nil,#[_,hT2,rfl,_,rfl]]
  let I1:Inv X aB σ (upd H s.heap.objs.size (.tup [x,y])) {s with heap:=S}:=
   I.EB (t':=s.toks) (ch:=[z,TI,TO,G,J]) (λc o F q=>(Z.2 c<|λB=>F<|by simp[B]).trans (hk c o (λB=>F<|by simp[B]) (λB=>F<|by simp[B]) (λB=>F<|by simp[B]) (λB=>F<|by simp[B]) q)) hf (aI _) new
  refine#[.ref s.heap.objs.size,_,I1,rfl,#[_,x,y,rfl,I.fm.fresh<|aI _,rfl,λl hl=>by rw[I.wH hl L];exact hx,λl hl=>by rw[I.wH hl M];exact hy],#[z'',?_,#[u,u2,?_],?_,?_],λc hcm=>?_]
  .exact(Z.2 _ D.TIz).trans (hk _ _ D.TIz D.TITO D.TIi1 D.TIi2 j)
  .exact(Z.2 _ D.TOz).trans TO'
  .exact h1'.at λo q=>(Z.2 _ D.i1z).trans q
  .exact Xh.at λo q=>(Z.2 _ D.i2z).trans q
  .let SK:c<s.heap.objs.size:=by
    let e':c=z\/c=TI\/c=TO\/c=G\/c=J:=by simpa using hcm
    obtain q|q|q|q|q:=e'
    .rw[q];exact hzl
    .rw[q];exact a9 j
    .rw[q];exact a9 n
    .rw[q];let#[_,e1,_]:=U;exact a9 e1
    .rw[q];let#[_,e2,_]:=Y;exact a9 e2
   rw[aH (bT SK)];exact(hf c hcm).1
 done:=by
  intro X hP hw hK hc i aB s σ H E I hf st hg;subst hP hw hK;let#[hz,j,#[x0,y0,n],U,Y]:=st;let#[xs,ys,L,M,adz]:=hg;let#[lL,rv,p,_]:=I.list L;let#[N,O,p2,_]:=I.list M;let l1:=↑rv;let l2:=↑O;let he:lL.toArray[i]?=none\/N.toArray[i]?=none:=by
   obtain q|q:=adz
   .exact .inl (by simp;omega)
   .exact .inr (by simp;omega)
  exact wpAny_pyNext_zip_end (I.ok.hd hc) D hz j n U Y p.isList p2.isList he λh' hk=>#[rfl,I.Vk (t':=s.toks) (ch:=[z,TI,TO,G,J]) (λc o F q=>
   hk c o (λB=>F<|by simp[B]) (λB=>F<|by simp[B]) (λB=>F<|by simp[B]) (λB=>F<|by simp[B]) q) hf]
 self:=λA i s Q E st h=>wpAny_pyIter_zip st.1 h
def aba(K:ao)(ta:TA):TI:=λσ H R=>ta σ H λvs H1=>∃a b xs ys,vs=[.ref a,.ref b]/\bW K H1 a xs/\bW K H1 b ys/\R (Z9 K a b) H1
def Yd(Z:Gl X "zip")(hm:X.mg "zip"=none)(ha:PA X [e,n] ta)
  (hs:bi [e,n] X.env=(false,eval e X.env)::bi [n] X.env:=by rfl)(B:(gW pos<|bi [n] X.env).any (·.1)=false:=by rfl):
  PI X (.Tuple N kk O) (.Call (.Name "zip" p) [e,n] [] pos) (aba X.K ta):=by
 intro aB s σ H R I h;refine Call_<|vn I Z hm M7<|gQ (gN (ha pos aB s σ H _ I h) λus s1#[vs,H1,j,r1,q1]=>?_) hs B;let#[a,b,xs,ys,ex,D,F,q]:=q1;subst ex;cases r1 with
 |cons r G=>
  cases G with
  |cons r' G=>
   cases G
   cases r
   cases r'
   let#[lL,rv,S,_]:=j.list D;let#[U,rv2,Y,_]:=j.list F;let la:a<s1.heap.objs.size:=S.lt;let lb:b<s1.heap.objs.size:=Y.lt;refine call_zip_2 S.isList Y.isList λh' hz J L h1 h2 hsz hk=>wpAny_pyIter_zip hz ?_;let I2:Inv X aB σ H1 {s1 with heap:=h'}:=j.kept (t':=s1.toks) hk;refine#[s1.heap.objs.size+4,[s1.heap.objs.size+4,s1.heap.objs.size+2,s1.heap.objs.size+3,s1.heap.objs.size,s1.heap.objs.size+1],_,_,H1,rfl,I2,Se<|PySem.W.ktu_apart s1.heap.objs.size a b la lb,#[hz,J,#[_,_,L],h1,h2],λc M=>?_,q];let e':c=s1.heap.objs.size+4\/c=s1.heap.objs.size+2\/c=s1.heap.objs.size+3\/c=s1.heap.objs.size\/c=s1.heap.objs.size+1:=by simpa using M
   let hle:s1.heap.objs.size<=c:=by
    obtain z|z|z|z|z:=e'
    .rw[z];exact mJ _ _
    .rw[z];exact mJ _ _
    .rw[z];exact mJ _ _
    .rw[z];exact aI _
    .rw[z];exact mJ _ _
   exact j.JC hle (j.fm.fresh hle)
def inClass(s:Stmt)(j:Nat):Stmt:=match s with
 |.ClassDef _ _ _ body _ _ _ _ _ _ _=>body.getD j (.Pass #[0,0,0,0])
 |_=>.Pass #[0,0,0,0]
def kY(s:Stmt):Arguments:=match s with
 |.FunctionDef _ a _ _ _ _ _ _ _ _=>a
 |_=>{posonlyargs:=[],args:=[],vararg:=none,kwonlyargs:=[],kw_defaults:=[],kwarg:=none,defaults:=[]}
def ij(s:Stmt):List Stmt:=match s with
 |.FunctionDef _ _ b _ _ _ _ _ _ _=>b
 |_=>[]
def dH(s:Stmt):Scope:=match s with
 |.FunctionDef _ _ _ _ _ _ sc _ _ _=>sc
 |_=>{kind:=.function,names:=[],isGenerator:=false,isCoroutine:=false}
abbrev dO:OI:=λ_ _ _ _ _ _=>False
abbrev E0:XK:=λ_ _ _=>False
def wO:mQ dO X E0:=λ_ _ _ _ _ _ _ h=>h.elim
structure xW(K:ao)(x qual:Str)(st:Stmt)(f:Addr)(fd:ow):Prop where
 ex:∃(oc:Value)(od:Option Addr)(kV doc pm:Value)(an:Option Addr)(oz ct:Value)(osl:Array (Option Value)),
  fd=f8 x qual (kY st) (ij st) (dH st) .none kV doc pm an oz ct/\K.lookup f>#[oc,od,.func fd,osl]/\jG K oz qual=true
 kp:db K (.ref f)=true
section
variable{P:a7}{w:bS}{K:ao}{mg:Str->Option Value}{aD:Heap}
theorem xW.ok{st:Stmt}(F:xW K x qual st f fd)(S:m_ N ps (dH st))(len:∀vs H Q E,sp vs H Q E->↑vs=↑ps)
  (n:∀j A outer s H vs Q E,i7 k (A.deeper<|oS qual (dH st) s.heap.objs.size f j)->sp vs H Q E->
   ∃t,DD (C7 dO P w K mg aD N qual (dH st) f j A outer s H E).Ub (ij st) t/\t {nx:=λ_ D=>Q .fP D,rt:=Q} (start N vs) H):j4 P w K mg aD dO (k+1) f fd ps sp:=by
 obtain⟨L,od,kV,doc,pm,an,j,ct,G,rfl,I,z⟩:=F.ex;refine P1 I z S len λA outer s H vs Q E J B=>?_;let#[t,h,q]:=n j A outer s H vs Q E J B;exact#[t,h.Ub,q]
def xW.binds{st:Stmt}(F:xW K x qual st f fd)
  (h:∀kV doc pm an j ct us,↑us=↑ps->CI (f8 x qual (kY st) (ij st) (dH st) .none kV doc pm an j ct) #[us,[]]=pure (ps.zip us)):Binds K fd ps []:=by
 obtain⟨z,od,kV,doc,pm,an,j,ct,n,rfl,B,q⟩:=F.ex;exact .all (h kV doc pm an j ct)
def Fc{st:Stmt}{kV doc pm j ct:Value}(l:K.lookup f>#[q,od,.func<|f8 x qual (kY st) (ij st) (dH st) .none kV doc pm an j ct,n])
  (c:jG K j qual=true)(k:db K (.ref f)=true):xW K x qual st f (f8 x qual (kY st) (ij st) (dH st) .none kV doc pm an j ct):=#[#[q,od,kV,doc,pm,an,j,ct,n,rfl,l,c],k]
end
def ky(j:i7 k A):A.units+1<cLine:=ON (Nat.add_le_add_left (by decide:1<=64) _) j.units
section
variable{X:Cx}
def pv(i:Nat){x:Str}{pos:Pos}(n:X.N[i]?>x:=by rfl)(q:Zo X.env.scope x:=by first|exact lX rfl|exact mP (lX rfl)|exact mP<|mP rfl)(hd:(x==("__debug__":Str))=false:=by decide)
  (j:(x==("__classdict__":Str))=false:=by decide):PE X (.Name x pos) (lN i):=X' n q hd j
def v0{X:Cx}:=@pv X 0
def v1{X:Cx}:=@pv X 1
def v2{X:Cx}:=@pv X 2
def v3{X:Cx}:=@pv X 3
def v4{X:Cx}:=@pv X 4
def v5{X:Cx}:=@pv X 5
def v6{X:Cx}:=@pv X 6
def v7{X:Cx}:=@pv X 7
def v8{X:Cx}:=@pv X 8
def v9{X:Cx}:=@pv X 9
def sZ{p:Prop}(h:p:=by(simp only[aj,aK];omega)):p:=h
def oh(p:Nat->L2.St->Hp->Prop):∃q:Nat->L2.St->Hp->Prop,∀{i σ H},q i σ H↔p i σ H:=#[_,pG]
def Ft(p:Nat->Hp->Prop):∃q:Nat->Hp->Prop,∀{i H},q i H↔p i H:=#[_,pG]
end
def wD{A B:Prop}(h:B):if false=true then A else B:=by rw[aa bQ];exact h
def rR{A B:Prop}(h:A):if true=true then A else B:=by rw[ac rfl];exact h
def a8(H H':Hp):Prop:=∀b o,H b>o->H' b>o
def a8.refl(H):a8 H H:=λ_ _ h=>h
theorem a8.trans(a:a8 H H1)(b:a8 H1 j):a8 H j:=λc o h=>b c o (a c o h)
def a8.free(e:a8 H j)(h:j l=Vy):H l=Vy:=by
 cases q:H l with
 |none=>rfl
 |some o=>
  rw[e l o q]at h;cases h
def a8.seq{K:ao}(e:a8 H j)(h:bW K H a xs):bW K j a xs:=by
 rcases h with(h|⟨o,h⟩)|h
 .exact .inl (.inl<|e _ _ h)
 .exact .inl (.inr #[o,e _ _ h])
 .exact .inr h
def at_of{xs:List V}{j:Nat}(e:z=(j:Int))(h:xs[j]?>v):nj xs z>v:=by rw[e];exact EV h
end L2
section
set_option maxHeartbeats 2000000
namespace L2
open PySem PySem.Spec PyProof.Rows
open PySem.W (WData Codec OpenSpec Well WellAll ReadsW ReadsAllW)
mutual
inductive Dw (K : ao) (H : Hp) : V → ni → Prop
  | fP : Dw K H .fP .none
  | bl (b : Bool) : Dw K H (.bl b) (.bool b)
  | int (i : Int) : Dw K H (.int i) (.int i)
  | str (x : Str) : Dw K H (.str x) (.str x)
  | GD (b : Array UInt8) : Dw K H (.GD b) (.bytes b.toList)
  | lst {a : Addr} {xs : List V} {ds : List ni} : bW K H a xs → r8 K H xs ds → Dw K H (.ref a) (.list ds)
  | tup {a : Addr} {xs : List V} {ds : List ni} : f9 K H a xs → r8 K H xs ds → Dw K H (.ref a) (.tuple ds)
inductive r8 (K : ao) (H : Hp) : List V → List ni → Prop
  | nil : r8 K H [] []
  | cons {v : V} {vs : List V} {d : ni} {ds : List ni} : Dw K H v d → r8 K H vs ds → r8 K H (v :: vs) (d :: ds)
end
def Lw{K:ao}:∀ns:List Int,r8 K H (ns.map V.int) (ns.map WData.int)
 |[]=>.nil
 |n::r=>.cons (.int n) (Lw r)
def LI{K:ao}:∀(ns:List Int) xs,r8 K H xs (ns.map WData.int)->xs=ns.map V.int
 |[],xs,h=>by
  cases h
  rfl
 |n::r,xs,h=>by
  cases h with
  |cons h1 h2=>
   cases h1
   rw[LI r _ h2]<;>rfl
section
variable{P:a7}{w:bS}{K:ao}{H:Hp}{h:Heap}{R:PySem.W.WRecords}{cl:Str->Option Addr}
def YE(c:nI P w H h)(f:K.In h)(q:bW K H a xs):∃(b:List Value)(o:Obj)(n:Nat),Vals xs b/\h.get? a>o/\o.cls=.type "list"/\o.data=.seq b.toArray n:=by
 obtain q|⟨o,b,n,e,g,_,hd,_,d⟩:=q
 .let#[_,b,n,d,e]:=(show eQ P w H h a (.lst xs)from q.ok c);exact#[b,_,n,d,e,rfl,rfl]
 .exact#[b.toList,o,n,d,f _ _ e,g,by simp[hd]]
def YF(c:nI P w H h)(g:K.In h)(q:f9 K H a xs):∃(b:List Value)(o:Obj)(n:Nat),Vals xs b/\h.get? a>o/\o.cls=.type "tuple"/\o.data=.seq b.toArray n:=by
 obtain q|⟨o,b,n,e,d,hd,_,f⟩:=q
 .let#[_,b,f,o,e,d,n,hd]:=(show eQ P w H h a (.tup xs)from q.ok c);exact#[b,o,n,f,e,d,hd]
 .exact#[b.toList,o,n,f,g _ _ e,d,by simp[hd]]
mutual
theorem Dw.reads (fm : nI P w H h) (KX : K.In h) : ∀ (d : ni) (v : V) (u : Value), Dw K H v d → RelV v u → ∃ as, ReadsW R cl h u d as
  | .none, _, _, x, r => by
    cases x
    cases r
    exact #[_, ReadsW.none]
  | .bool b, _, _, x, r => by
    cases x
    cases r
    exact #[_, ReadsW.bool b]
  | .int i, _, _, x, r => by
    cases x
    obtain ⟨t, rfl⟩ := r
    exact #[_, ReadsW.int i t]
  | .str s, _, _, x, r => by
    cases x
    obtain ⟨t, rfl⟩ := r
    exact #[_, ReadsW.str s t]
  | .bytes b, _, _, x, r => by
    cases x
    obtain ⟨t, rfl⟩ := r
    exact #[_, ReadsW.bytes _ t]
  | .list ds, _, _, x, r => by
    cases x with
    | lst hs ha =>
      cases r
      obtain ⟨lL, o, n, rv, ho, hc, hd⟩ := YE fm KX hs
      obtain ⟨as, hr⟩ := Dw.readsAll fm KX ds _ lL ha rv
      exact #[_, ReadsW.list ho hc hd hr]
  | .tuple ds, _, _, x, r => by
    cases x with
    | tup hs ha =>
      cases r
      obtain ⟨lL, o, n, rv, ho, hc, hd⟩ := YF fm KX hs
      obtain ⟨as, hr⟩ := Dw.readsAll fm KX ds _ lL ha rv
      exact #[_, ReadsW.tuple ho hc hd hr]
  | .float _, _, _, x, _ => by cases x
  | .dict _, _, _, x, _ => by cases x
  | .bytearray _, _, _, x, _ => by cases x
  | .set _, _, _, x, _ => by cases x
  | .frozenset _, _, _, x, _ => by cases x
  | .obj _ _, _, _, x, _ => by cases x
theorem Dw.readsAll (fm : nI P w H h) (KX : K.In h) : ∀ (ds : List ni) (vs : List V) (us : List Value), r8 K H vs ds → Vals vs us → ∃ as, Zk R cl h us ds as
  | [], _, _, x, r => by
    cases x
    cases r
    exact #[_, ReadsAllW.nil]
  | d :: ds, _, _, x, r => by
    cases x with
    | cons h1 h2 =>
      cases r with
      | cons r1 r2 =>
        obtain ⟨as, q1⟩ := Dw.reads fm KX d _ _ h1 r1
        obtain ⟨bs, q2⟩ := Dw.readsAll fm KX ds _ _ h2 r2
        exact #[_, ReadsAllW.cons q1 q2]
end
end
mutual
def Ma : ni → Bool
  | .none => true
  | .bool _ => true
  | .int _ => true
  | .str _ => true
  | .bytes _ => true
  | .list xs => Al xs
  | .tuple xs => Al xs
  | _ => false
def Al : List ni → Bool
  | [] => true
  | x :: r => Ma x && Al r
end
def HN{b:Type}{f:b->ni}(h:∀a,Ma (f a)=true):∀l:List b,Al (l.map f)=true
 |[]=>rfl
 |x::r=>by show(Ma (f x)&&Al (r.map f))=true;rw[h x,HN h r]<;>rfl
def sY:∀(c:Codec) a,Ma (c.enc a)=true
 |.unit,_=>rfl
 |.bool,_=>rfl
 |.int _ _,_=>rfl
 |.nat _ _,_=>rfl
 |.u8,_=>rfl
 |.bytes _ _,_=>rfl
 |.text _ _ _ _,_=>rfl
 |.list _ _ c,a=>HN (λx=>sY c x) a
 |.pair c d,a=>by show(Ma (c.enc a.1)&&(Ma (d.enc a.2)&&true))=true;rw[sY c a.1,sY d a.2]<;>rfl
 |.triple c d e,a=>by show(Ma (c.enc a.1)&&(Ma (d.enc a.2.1)&&(Ma (e.enc a.2.2)&&true)))=true;rw[sY c a.1,sY d a.2.1,sY e a.2.2]<;>rfl
 |.option c,none=>rfl
 |.option c,some x=>sY c x
def Ed:∀cs a,Al (Codec.encAll cs a)=true
 |[],_=>rfl
 |c::cs,a=>by show(Ma (c.enc a.1)&&Al (Codec.encAll cs a.2))=true;rw[sY c a.1,Ed cs a.2]<;>rfl
def vH:∀{xs:List ni}{d:ni},d∈xs->d.weight<=WData.weightAll xs
 |[],d,h=>ae h sP
 |x::r,d,h=>by
  show d.weight<=x.weight+1+WData.weightAll r;obtain e|m:=aE.mp h
  .rw[e];omega
  .let z:=vH m;omega
def toV:Value->V
 |.none=>.fP
 |.bool b=>.bl b
 |.int i _=>.int i
 |.str x _=>.str x
 |.bytes b _=>.GD b
 |.ref a=>.ref a
 |_=>.fP
def MS(A:List Addr):Value->Prop
 |.none=>True
 |.bool _=>True
 |.int _ _=>True
 |.str _ _=>True
 |.bytes _ _=>True
 |.ref a=>a∈A
 |_=>False
def MS.mono(h:∀a∈A,a∈B):∀{u:Value},MS A u->MS B u:=λ{u} x=>by
 cases u with
 |ref a=>exact h a x
 |none=>trivial
 |bool b=>trivial
 |int i t=>trivial
 |str s t=>trivial
 |bytes b t=>trivial
 |_=>exact dJ x
def Q2(x:MS A u):RelV (toV u) u:=by
 cases u with
 |ref a=>rfl
 |none=>rfl
 |bool b=>rfl
 |int i t=>exact#[t,rfl]
 |str s t=>exact#[t,rfl]
 |bytes b t=>exact#[t,rfl]
 |_=>exact dJ x
def qb:∀{vs:List Value},(∀u∈vs,MS A u)->Vals (vs.map toV) vs
 |[],_=>.nil
 |u::r,h=>.cons (Q2<|h u<|aZ ..) (qb λx a=>h x<|aR _ a)
def rf(h:Heap)(A:List Addr)(a:Addr):Prop:=∃vs:List Value,↑vs<=sizeLine/\(∀u∈vs,MS A u)/\
 (h.get? a>{cls:=.type "list",data:=.seq vs.toArray}\/h.get? a>{cls:=.type "tuple",data:=.seq vs.toArray})
def rf.mono(k:∀a∈A,a∈B)(x:rf h A a):rf h B a:=by let#[vs,b,c,d]:=x;exact#[vs,b,λu e=>(c u e).mono k,d]
def pb:∀{vs:List Value}{ds:List ni},rM P h vs ds->↑vs=↑ds
 |_,_,.nil=>rfl
 |_,_,.cons _ b=>by show _+1=_+1;rw[pb b]
def ED(x:Well P h v (.list ds)):∃a vs,v=.ref a/\h.get? a>{cls:=.type "list",data:=.seq vs.toArray}/\rM P h vs ds:=by
 cases x with
 |list c b=>exact#[_,_,rfl,c,b]
def Cz(x:Well P h v (.tuple ds)):∃a vs,v=.ref a/\h.get? a>{cls:=.type "tuple",data:=.seq vs.toArray}/\rM P h vs ds:=by
 cases x with
 |tuple c b=>exact#[_,_,rfl,c,b]
def EC(x:rM P h us (d::ds)):∃v vs,us=v::vs/\Well P h v d/\rM P h vs ds:=by
 cases x with
 |cons a b=>exact#[_,_,rfl,a,b]
def LP(h:n<=1048576):n<=sizeLine:=bu h dC
section
variable{P:Params}{h:Heap}
mutual
theorem Pi : ∀ (d : ni) (v : Value), Well P h v d → Ma d = true → d.weight ≤ 1048576 → ∃ A : List Addr, MS A v ∧ ∀ a ∈ A, rf h A a
  | .none, _, x, _, _ => by
    cases x
    exact #[[], trivial, fun a m => ae m (by simp)]
  | .bool b, _, x, _, _ => by
    cases x
    exact #[[], trivial, fun a m => ae m (by simp)]
  | .int i, _, x, _, _ => by
    cases x
    exact #[[], trivial, fun a m => ae m (by simp)]
  | .str s, _, x, _, _ => by
    cases x
    exact #[[], trivial, fun a m => ae m (by simp)]
  | .bytes b, _, x, _, _ => by
    cases x
    exact #[[], trivial, fun a m => ae m (by simp)]
  | .list ds, _, x, p, z => by
    obtain ⟨a, vs, rfl, ho, yl⟩ := ED x
    let z2 : WData.weightAll ds ≤ 1048576 := z
    obtain ⟨A, h1, h2⟩ := vY ds _ yl p fun d hd => bu (vH hd) z2
    let k : ∀ b ∈ A, b ∈ a :: A := fun b hb => aR _ hb
    refine #[a :: A, aZ .., fun b hb => ?_]
    obtain e | m:=aE.mp hb
    · rw [e]
      exact #[vs, LP (by rw [pb yl]; exact bu (yP ds) z2), fun u hu => (h1 u hu).mono k, .inl ho]
    · exact (h2 b m).mono k
  | .tuple ds, _, x, p, z => by
    obtain ⟨a, vs, rfl, ho, yl⟩ := Cz x
    let z2 : WData.weightAll ds ≤ 1048576 := z
    obtain ⟨A, h1, h2⟩ := vY ds _ yl p fun d hd => bu (vH hd) z2
    let k : ∀ b ∈ A, b ∈ a :: A := fun b hb => aR _ hb
    refine #[a :: A, aZ .., fun b hb => ?_]
    obtain e | m:=aE.mp hb
    · rw [e]
      exact #[vs, LP (by rw [pb yl]; exact bu (yP ds) z2), fun u hu => (h1 u hu).mono k, .inr ho]
    · exact (h2 b m).mono k
  | .float _, _, _, p, _ => dY (show false = true from p)
  | .dict _, _, _, p, _ => dY (show false = true from p)
  | .bytearray _, _, _, p, _ => dY (show false = true from p)
  | .set _, _, _, p, _ => dY (show false = true from p)
  | .frozenset _, _, _, p, _ => dY (show false = true from p)
  | .obj _ _, _, _, p, _ => dY (show false = true from p)
theorem vY : ∀ (ds : List ni) (vs : List Value), rM P h vs ds → Al ds = true → (∀ d ∈ ds, d.weight ≤ 1048576) → ∃ A : List Addr, (∀ u ∈ vs, MS A u) ∧ ∀ a ∈ A, rf h A a
  | [], _, x, _, _ => by
    cases x
    exact #[[], fun u m => ae m (by simp), fun a m => ae m (by simp)]
  | d :: ds, _, x, p, z => by
    obtain ⟨v, vs, rfl, x1, x2⟩ := EC x
    let q : Ma d = true ∧ Al ds = true := Ja.mp p
    obtain ⟨A, a1, a2⟩ := Pi d v x1 q.1 (z d (aZ ..))
    obtain ⟨B, b1, b2⟩ := vY ds vs x2 q.2 fun e he => z e (aR _ he)
    let kA : ∀ b ∈ A, b ∈ A ++ B := fun b hb => aM.mpr (.inl hb)
    let kB : ∀ b ∈ B, b ∈ A ++ B := fun b hb => aM.mpr (.inr hb)
    refine #[A ++ B, fun u hu => ?_, fun b hb => ?_]
    · obtain e | m:=aE.mp hu
      · rw [e]
        exact a1.mono kA
      · exact (b1 u m).mono kB
    · obtain m | m:=aM.mp hb
      · exact (a2 b m).mono kA
      · exact (b2 b m).mono kB
end
end
def TN(o:Obj):Option HO:=match o.data with
 |.seq vs _=>if(o.cls==gC "list")=true then some (.qc o<|.lst<|vs.toList.map toV)else some (.qc o<|.tup<|vs.toList.map toV)
 |_=>none
def qA(K:ao)(h:Heap)(A:List Addr):Hp:=λb=>if b∈A then(if(K.lookup b).isNone=true then(h.get? b).bind TN else none)else none
def Vx(H:Hp):Prop:=∀b,H b=none\/∃o u,H b>.qc o u
def G9(vs:List Value):TN {cls:=.type "list",data:=.seq vs.toArray}>.qc {cls:=.type "list",data:=.seq vs.toArray} (.lst<|vs.map toV):=by show(if(gC "list"==gC "list")=true then some (HO.qc {cls:=.type "list",data:=.seq vs.toArray} (.lst<|vs.toArray.toList.map toV))else some (HO.qc {cls:=.type "list",data:=.seq vs.toArray} (.tup<|vs.toArray.toList.map toV)))=_;rw[ac (beq_self_eq_true _)]
def G_(vs:List Value):TN {cls:=.type "tuple",data:=.seq vs.toArray}>.qc {cls:=.type "tuple",data:=.seq vs.toArray} (.tup<|vs.map toV):=by show(if(gC "tuple"==gC "list")=true then some (HO.qc {cls:=.type "tuple",data:=.seq vs.toArray} (.lst<|vs.toArray.toList.map toV))else some (HO.qc {cls:=.type "tuple",data:=.seq vs.toArray} (.tup<|vs.toArray.toList.map toV)))=_;rw[aa dC]
section
variable{P:a7}{w:bS}{K:ao}{h:Heap}{A:List Addr}
def Ax(a:b∈A)(c:K.lookup b=none)(e:h.get? b>o):qA K h A b=TN o:=by delta qA;rw[ac a,c,ac (show(none:Option Obj).isNone=true from rfl),e]<;>rfl
def Ud(q:qA K h A b>u):b∈A/\K.lookup b=none:=by
 delta qA at q;by_cases a:b∈A
 .rw[ac a]at q;cases c:K.lookup b with
  |none=>exact#[a,rfl]
  |some o=>
   rw[c,aa sP]at q;cases q
 .rw[aa a]at q;cases q
def Ay(f:∀a∈A,rf h A a)(q:qA K h A b>u):K.lookup b=none/\∃vs:List Value,↑vs<=sizeLine/\(∀u∈vs,MS A u)/\
  ((h.get? b>{cls:=.type "list",data:=.seq vs.toArray}/\u=.qc {cls:=.type "list",data:=.seq vs.toArray} (.lst<|vs.map toV))\/
  (h.get? b>{cls:=.type "tuple",data:=.seq vs.toArray}/\u=.qc {cls:=.type "tuple",data:=.seq vs.toArray} (.tup<|vs.map toV))):=by
 let#[c,d]:=Ud q;let#[vs,g,i,j]:=f b c;exists d,vs,g,i;obtain e|e:=j
 .rw[Ax c d e,G9]at q;exact .inl #[e,(aO q).symm]
 .rw[Ax c d e,G_]at q;exact .inr #[e,(aO q).symm]
def M1(c:∀a∈A,rf h A a):Vx (qA K h A):=λb=>by
 cases q:qA K h A b with
 |none=>exact .inl rfl
 |some u=>
  obtain⟨_,vs,_,_,⟨_,e⟩|⟨_,e⟩⟩:=Ay c q
  .exact .inr #[_,_,by rw[e]]
  .exact .inr #[_,_,by rw[e]]
def Tp(f:∀a∈A,rf h A a):nI P w (qA K h A) h:=λb u q=>by
 obtain⟨_,vs,c,d,⟨e,rfl⟩|⟨e,rfl⟩⟩:=Ay f q
 .exact#[e,by rw[aj];exact c,vs,_,qb d,e]
 .exact#[e,by rw[aj];exact c,vs,qb d,_,e,rfl,_,rfl]
def AK{vs us:List Value}(e:(some {cls:=c,data:=.seq vs.toArray}:Option Obj)>{cls:=a,data:=.seq us.toArray}):c=a/\vs=us:=by let b:=aO e;let d:c=a:=af Obj.cls b;let f:Data.seq vs.toArray=Data.seq us.toArray:=af Obj.data b;injection f with g;exists d;let i:=af F1 g;simpa using i
def ac7(g:K.In h)(i:∀a∈A,rf h A a){vs:List Value}(c:a∈A)(e:h.get? a>{cls:=.type "list",data:=.seq vs.toArray}):(∀u∈vs,MS A u)/\bW K (qA K h A) a (vs.map toV):=by
 let#[us,j,d,l]:=i a c;let m:us=vs:=by
  obtain q|q:=l
  .rw[e]at q;exact(AK q).2.symm
  .rw[e]at q;exact ae (Jo (AK q).1) dC
 subst m;exists d;cases b:K.lookup a with
 |none=>exact .inl (.inr #[_,by rw[Ax c b e,G9]])
 |some o=>
  let f:=g a o b;rw[e]at f;obtain rfl:=aO f;exact .inr #[_,us.toArray,_,b,rfl,rfl,rfl,by rw[bA];exact j,by simpa using qb d]
def ac8(g:K.In h)(i:∀a∈A,rf h A a){vs:List Value}(c:a∈A)(e:h.get? a>{cls:=.type "tuple",data:=.seq vs.toArray}):(∀u∈vs,MS A u)/\f9 K (qA K h A) a (vs.map toV):=by
 let#[us,j,d,l]:=i a c;let m:us=vs:=by
  obtain q|q:=l
  .rw[e]at q;exact ae (Jo (AK q).1) dC
  .rw[e]at q;exact(AK q).2.symm
 subst m;exists d;cases b:K.lookup a with
 |none=>exact .inl (.inr #[_,by rw[Ax c b e,G_]])
 |some o=>
  let f:=g a o b;rw[e]at f;obtain rfl:=aO f;exact .inr #[_,us.toArray,_,b,rfl,rfl,by rw[bA];exact j,by simpa using qb d]
mutual
theorem W_ {Pm : Params} (KX : K.In h) (ar : ∀ a ∈ A, rf h A a) : ∀ (d : ni) (v : Value), Well Pm h v d → Ma d = true → MS A v → Dw K (qA K h A) (toV v) d
  | .none, _, x, _, _ => by
    cases x
    exact .fP
  | .bool b, _, x, _, _ => by
    cases x
    exact .bl b
  | .int i, _, x, _, _ => by
    cases x
    exact .int i
  | .str s, _, x, _, _ => by
    cases x
    exact .str s
  | .bytes b, _, x, _, _ => by
    cases x
    let z := Dw.GD (K := K) (H := qA K h A) b.toArray
    exact z
  | .list ds, _, x, p, hu => by
    obtain ⟨a, vs, rfl, ho, yl⟩ := ED x
    obtain ⟨h2, hs⟩ := ac7 KX ar hu ho
    exact .lst hs (E8 KX ar ds _ yl p h2)
  | .tuple ds, _, x, p, hu => by
    obtain ⟨a, vs, rfl, ho, yl⟩ := Cz x
    obtain ⟨h2, hs⟩ := ac8 KX ar hu ho
    exact .tup hs (E8 KX ar ds _ yl p h2)
  | .float _, _, _, p, _ => dY (show false = true from p)
  | .dict _, _, _, p, _ => dY (show false = true from p)
  | .bytearray _, _, _, p, _ => dY (show false = true from p)
  | .set _, _, _, p, _ => dY (show false = true from p)
  | .frozenset _, _, _, p, _ => dY (show false = true from p)
  | .obj _ _, _, _, p, _ => dY (show false = true from p)
theorem E8 {Pm : Params} (KX : K.In h) (ar : ∀ a ∈ A, rf h A a) : ∀ (ds : List ni) (vs : List Value), rM Pm h vs ds → Al ds = true → (∀ u ∈ vs, MS A u) → r8 K (qA K h A) (vs.map toV) ds
  | [], _, x, _, _ => by
    cases x
    exact .nil
  | d :: ds, _, x, p, hu => by
    obtain ⟨v, vs, rfl, x1, x2⟩ := EC x
    let q : Ma d = true ∧ Al ds = true := Ja.mp p
    exact .cons (W_ KX ar d v x1 q.1 (hu _ (aZ ..))) (E8 KX ar ds vs x2 q.2 fun u m => hu u (aR _ m))
end
end
def BA(h:WData.layableAll ds=true):∀d∈ds,d.weight<=1048576:=λd hd=>
 (PySem.W.layableW_iff.mp<|eZ.mp h d hd).2.2
def Bf:∀b a,↑(Codec.encAll b a)=↑b
 |[],_=>rfl
 |c::b,a=>by show(Codec.encAll b a.2).length+1=↑b+1;rw[Bf b a.2]
end L2
end
namespace XF
open PySem PySem.Spec PyProof.Rows
abbrev Sl:List Value:=[.type "Exception",.type "BaseException",.type "object"]
section
variable{prog:a7}{w:bS}{A:dZ}{E:Value->bq->Prop}{h:Heap}{g:Array IG}{d:Drawn}{t:Nat}{os:OsState}
variable{nm q:Str}{C N x:Addr}{bs:List Value}{sn:List Str}{sub:List Value}{ab:Bool}{col:Option Bool}{dd:Option Addr}{k0 k1 k2 k3 k5:Option Value}{newId:String}
variable{mN mA:Str->Option Value}{name:Str}{v:Value}
def P5{M:Model}{o:Obj}{nv:Value}{Q:Unit->bq->Prop}
  (hC:h.get? C>io nm q C N bs Sl true sn sub ab col dd k0 k1 k2 k3 k5 newId)
  (hx:h.get? x>o)(hc:o.cls=.ref C)(hq:Q () #[h,g,d,t,os]):
  bj M A (DQ "BaseException.__getattribute__" #[[.ref x,nv],[]]) Q E #[h,g,d,t,os]:=by
 let e1:builtinKind "BaseException.__getattribute__">.slot:=by decide+kernel
 let e2:splitId "BaseException.__getattribute__">("BaseException","__getattribute__"):=by decide+kernel
 let e3:(cA C::Sl).contains (.type "BaseException")=true:=by rw[jf];show(_||true)=true;rw[WG]
 let e4:=F.args_bexc_ga (.ref x) nv;simp only[DQ,e1,e2];refine aA ?_
 .delta isInstance;repeat(first
   |(with_reducible refine gs hx ?_;rw[hc])
   |(with_reducible refine wpAny_isSubtype_exc hC ?_;rw[e3])
   |wp_step)
  exact hq
def P6{tk:Tok}{Q:Fin->bq->Prop}
  (hC:h.get? C>io nm q C N bs Sl true sn sub ab col dd k0 k1 k2 k3 k5 newId)(hn:h.Ns N mN)(Qg:mN name=none)
  (hB:lU (.type "Exception") name=pure none)(I:h.Inst x C mA)(hv:mA name>v)(hq:Q (.done (.ret v)) #[h,g,d,t,os]):
  bj (model prog w) A (Builtin.«object.__getattribute__» #[[.ref x,.str name tk],[]]) Q E #[h,g,d,t,os]:=by
 obtain⟨o,hx,hc,hnc,hd⟩:=I;obtain⟨_,z⟩|⟨dx,Qa,hne,VX⟩:=hd
 .rw[z name]at hv;cases hv
 delta Builtin.«object.__getattribute__»;repeat(first
  |(with_reducible refine gs hx ?_;rw[hc])
  |(with_reducible refine ki hC hn mh.mro hB ?_;rw[Qg])
  |wp_step)
 split
 .rename_i c hcd;exact ae hcd (hnc c)
 delta instanceDict;repeat(first
  |(with_reducible refine gs hx ?_;rw[hc])
  |with_reducible refine gs hC ?_
  |wp_step)
 rw[Qa];repeat(first
  |(with_reducible refine wpAny_nsGet VX.ns ?_;rw[hv])
  |wp_step)
 exact hq
def aaz{tk:Tok}{fill expr:Bool}{Q:Value->bq->Prop}
  (hC:h.get? C>io nm q C N bs Sl true sn sub ab col dd k0 k1 k2 k3 k5 newId)(hn:h.Ns N mN)(Qg:mN name=none)
  (hg1:mN "__getattribute__"=none)(ZD:mN "__getattr__"=none)
  (hB:lU (.type "Exception") name=pure none)(I:h.Inst x C mA)(hv:mA name>v)(hh:handedOut v=pure v)(hq:Q v #[h,g,d,t,os]):
  bj (model prog w) A (getAttrBy (.ref x) (.str name tk) fill expr) Q E #[h,g,d,t,os]:=by
 obtain⟨o,hx,hc,_⟩:=id I;let f3:=nH.ga.bind (.ref x);let y0:(expr&&onTheHeap (pE "BaseException.__getattribute__"))=false:=by cases expr<;>rfl
 let y2:(pE "BaseException.__getattribute__"==pE "object.__getattribute__")=false:=by decide+kernel
 let y1:(onTheHeap (cA C)&&pE "BaseException.__getattribute__"==pE "object.__getattribute__")=false:=by rw[y2];rfl
 repeat(any_goals(first
  |assumption
  |(with_reducible refine gs hx ?_;rw[hc])
  |(with_reducible refine ki hC hn mh.mro nH.ga.lookup ?_;rw[hg1])
  |(with_reducible refine ki hC hn mh.mro nH.noGetattr ?_;rw[ZD])
  |wp_step))
 refine xN nH.ga.plain F.entry_bexc_ga (P5 hC hx hc (P6 hC hn Qg hB I hv ?_));repeat(any_goals(first
  |assumption
  |(rw[hh])
  |wp_step))
def acu{expr:Bool}{Q:Value->bq->Prop}
  (hC:h.get? C>io nm q C N bs Sl true sn sub ab col dd k0 k1 k2 k3 k5 newId)(hn:h.Ns N mN)(Qg:mN name=none)
  (hg1:mN "__getattribute__"=none)(ZD:mN "__getattr__"=none)
  (hB:lU (.type "Exception") name=pure none)(I:h.Inst x C mA)(hv:mA name>v)(hh:handedOut v=pure v)(hq:Q v #[h,g,d,t+1,os]):
  bj (model prog w) A (OW (.ref x) name expr) Q E #[h,g,d,t,os]:=by
 delta OW;repeat(any_goals(first
  |assumption
  |with_reducible apply aaz hC hn Qg hg1 ZD hB I hv hh
  |wp_step))
end
def Je(h:Heap)(e C dx:Addr)(vs:Array Value):Prop:=
 ∃o,h.get? e>o/\o.cls=.ref C/\o.dict>dx/\o.data=.fields vs
def Jd(h:Heap)(e C dx:Addr):Prop:=∃vs,Je h e C dx vs/\vs[1]?>.none
def vM(h:Heap)(e C dx T:Addr)(fl:Value):Prop:=
 ∃vs oT ts,Je h e C dx vs/\vs[1]?>.ref T/\T≠e/\h.get? T>oT/\oT.data=.fields ts/\ts[3]?>fl
structure Flt(fs own:List Addr)(h h':Heap):Prop where
 keep:∀b o,h.get? b>o->b∉fs->b∉own->h'.get? b>o
 slot:∀b o,h.get? b>o->b∈fs->b∉own->∃sl,h'.get? b>{o with slots:=sl}
theorem Flt.trans(a:Flt fs own h g)(b:Flt fs c g i):Flt fs (own++c) h i where
 keep:=λx o q f no=>b.keep x o (a.keep x o q f λz=>no<|bf _ z) f λz=>no (bE _ z)
 slot:=λx o q hf no=>by let#[m,j]:=a.slot x o q hf λz=>no<|bf _ z;let#[d,l]:=b.slot x _ j hf λz=>no<|bE _ z;exact#[d,l]
def Flt.mono(a:Flt fs own h g)(i:∀b∈fs,b∈d)(f:∀b∈own,b∈c):Flt d c h g where
 keep:=λx o q j no=>a.keep x o q (λz=>j<|i _ z) λz=>no (f _ z)
 slot:=λx o q hf no=>by
  by_cases z:x∈fs
  .exact a.slot x o q z λz=>no (f _ z)
  .exact#[o.slots,a.keep x o q z λz=>no<|f _ z]
section
variable{M:Model}{A:dZ}{E:Value->bq->Prop}{s:bq}{aD:Heap}{env:Env}{outer:List Env}{L e C dx T:Addr}{Q:Unit->bq->Prop}
def V4{h:Heap}(d:h.FunFrames aD l)(f:h.get? b>o)(hd:o.data=.fields vs):b∉l.filterMap (·.frame):=λhm=>by let#[_,g,c,a]:=d.mem hm;rw[f]at c;cases c;exact a vs hd
def Lz(i:A.frames>env::outer)(n:s.heap.FunFrames aD (env::outer))(hf:env.frame>L)
  (he:s.heap.get? e>d)(x:d.cls=.ref C)(y:d.dict>B)(hd:d.data=.fields vs)(hsz:1<vs.size)
  (h:∀h' p,vM h' e C B p (gX L)->s.heap.objs.size<=p->Flt ((env::outer).filterMap (·.frame)) [e] s.heap h'->Q () {s with heap:=h'}):
  bj M A (do let a<-frameOf env;let pl<-entryPlaceOf L D;let b<-Dz head a .none (gX L) .none pl;setField (.ref e) 1 b) Q E s:=by
 let j:=V4 n he hd;refine aA (wpAny_frameOf_fun i n hf λc g=>?_);refine aA (wpAny_entryPlaceOf λpl F=>?_);delta Dz newFields;refine aA (gt ?_ (F.sizeOk5 _ _ _ _ _));let r:c.get? e>d:=(g.2.1 e j).trans he;generalize f:({cls:=.type "traceback",dict:=none,data:=.fields ([head,.ref L,.none,gX L,.none]++(if pl.isEmpty then cp 6 eU else pl)).toArray}:Obj)=l;let u:=aF (h:=c) l r;refine I_ u hd hsz (h _ c.objs.size ?_ ?_ ?_)
 .let v:c.objs.size≠e:=lQ (a9 r);let w:=oJ hd (·.setIfInBounds 1 (cA c.objs.size));let g3:=gu (jA (·.setIfInBounds 1 (cA c.objs.size))) u (tW w);let t3:=(d9 (c.push l) (jA (·.setIfInBounds 1 (cA c.objs.size))) (eG v)).trans (bw c (by subst f;rfl));refine#[_,l,_,#[_,g3,(Obj.cls_mapFields _ _).trans x,?_,w],by simp[hsz],v,t3,by subst f;rfl,?_]
  .let#[J,od,m,G]:=d;cases m<;>first|exact y|(cases hd)
  .grind
 .rw[g.1];exact aI _
 .refine#[λb o q H no=>?_,λb o q hf no=>?_]
  .let nb:b≠e:=λz=>no (by rw[z];exact aZ);rw[d9 _ _ (eG nb)];exact aF _ ((g.2.1 b H).trans q)
  .let nb:b≠e:=λz=>no (by rw[z];exact aZ);let#[I,z]:=g.2.2 b o q;exists I;rw[d9 _ _ (eG nb)];exact aF _ z
def abk(a:A.frames>env::outer)(d:s.heap.FunFrames aD (env::outer))(hf:env.frame>L)(X:Jd s.heap e C f)
  (h:∀h' b,vM h' e C f b (gX L)->s.heap.objs.size<=b->Flt ((env::outer).filterMap (·.frame)) [e] s.heap h'->Q () {s with heap:=h'}):
  bj M A (D' (.ref e) env) Q E s:=by
 let#[vs,#[o,he,g,i,hd],c]:=X;delta D';simp only[hf];refine aA<|xR he hd c ?_;rw[aa dC];exact Lz a d hf he g i hd (cY.mp c).1 h
def V5(g:A.frames>env::outer)(j:s.heap.FunFrames aD (env::outer))(hf:env.frame>L)(X:vM s.heap e C u T .none)
  (h:∀h' d,vM h' e C u d (gX L)->s.heap.objs.size<=d->Flt ((env::outer).filterMap (·.frame)) [T,e] s.heap h'->(∃o,h'.get? T>o)->Q () {s with heap:=h'}):
  bj M A (D' (.ref e) env) Q E s:=by
 let#[vs,D,F,#[o,he,v,w,hd],l,m,f,a,n]:=X;delta D';simp only[hf];refine aA<|xR he hd l ?_;rw[ac (show(cA T !=eU)=true from sP)];refine aA<|xR f a n ?_;rw[aa (show¬((eU==gX L)=true)from by simp[gX])];refine aA<|I_ f a (cY.mp n).1 ?_;let c:∀b,b≠T->(s.heap.update T (jA (·.setIfInBounds 3 eU))).get? b=s.heap.get? b:=λb i=>d9 _ _<|eG i;let x:Flt ((env::outer).filterMap (·.frame)) [T] s.heap (s.heap.update T (jA (·.setIfInBounds 3 eU))):=
  #[λb o q _ no=>(c b λz=>no<|by rw[z];exact aZ).trans q,λb o q _ no=>#[o.slots,(c b λz=>no<|by rw[z];exact aZ).trans q]]
 refine Lz (s:={s with heap:=s.heap.update T (jA (·.setIfInBounds 3 eU))}) g (j.of_keeps λb o i y=>#[o,(c b λq=>?_).trans i,rfl]) hf ((c e<|eG m).trans he) v w hd (cY.mp l).1
  λh' d B p r=>h h' d B ?_ (x.trans r) ?_
 .grind
 .let z:(s.heap.update T (jA (·.setIfInBounds 3 eU))).objs.size=s.heap.objs.size:=by simp[Heap.update]
  rw[z]at p;exact p
 .let g3:=gu (jA (·.setIfInBounds 3 eU)) f (tW<|oJ a _);refine#[_,r.keep T _ g3 (V4 j f a) λz=>?_];obtain z|z:=aE.mp z
  .exact m z
  .cases z
def JU(X:vM s.heap e C j T u)
  (h:∀h',vM h' e C j T .none->Flt [] [T] s.heap h'->Q () {s with heap:=h'}):bj M A (Oh (.ref e) none) Q E s:=by
 let#[vs,v,l,#[o,he,m,n,hd],d,g,i,a,p]:=X;let sz:3<l.size:=(cY.mp p).1;delta Oh;refine aA<|xR he hd d ?_;rw[ac (show(cA T !=eU)=true from sP)];let c:∀b,b≠T->(s.heap.update T (jA (·.setIfInBounds 3 ((none:Option Addr).elim eU λf=>gX f)))).get? b=s.heap.get? b:=λb r=>d9 _ _<|eG r;refine I_ i a sz (h _ ?_ ?_)
 .exact#[vs,_,_,#[o,(c e<|eG g).trans he,m,n,hd],d,g,gu _ i<|tW<|oJ a _,oJ a _,by simp[sz]]
 .exact#[λb o q _ no=>(c b λz=>no<|by rw[z];exact aZ).trans q,λb o q _ no=>#[o.slots,(c b λz=>no<|by rw[z];exact aZ).trans q]]
def vM.exc(X:vM h e C a T b):∃vs,Je h e C a vs:=let#[vs,_,_,x,_]:=X;#[vs,x]
def XO(a:A.frames>env::outer)(c:s.heap.FunFrames aD (env::outer))(hf:env.frame>L)(X:Jd s.heap e C d)
  (h:∀h' b,vM h' e C d b .none->s.heap.objs.size<=b->Flt ((env::outer).filterMap (·.frame)) [e,b] s.heap h'->Q () {s with heap:=h'}):
  bj M A (leaving env<|.ref e) Q E s:=by
 delta leaving;refine aA<|abk a c hf X λo f g i j=>JU g λl m n=>?_;exact h l f m i ((j.trans<|n.mono (λ_ z=>ae z sP) λ_ z=>z).mono (λ_ z=>z) λ_ z=>z)
def XQ(a:A.frames>env::outer)(c:s.heap.FunFrames aD (env::outer))(hf:env.frame>L)(X:vM s.heap e C d T .none)
  (h:∀h' b,vM h' e C d b .none->s.heap.objs.size<=b->Flt ((env::outer).filterMap (·.frame)) [T,e,b] s.heap h'->Q () {s with heap:=h'}):
  bj M A (leaving env<|.ref e) Q E s:=by
 delta leaving;refine aA<|V5 a c hf X λo f g i j _=>JU g λl m n=>?_;exact h l f m i ((j.trans<|n.mono (λ_ z=>ae z sP) λ_ z=>z).mono (λ_ z=>z) λ_ z=>z)
end
end XF
namespace XF
open PySem PySem.Spec PyProof.Rows L2
def Ys(e C:Addr)(h:Heap):Prop:=∃o vs,h.get? e>o/\o.cls=.ref C/\o.dict=none/\o.data=.fields vs/\vs[1]?>.none
def yw(e C:Addr):HO:=.ext (Ys e C)
def oa(e C dx:Addr):HO:=.ext (λh=>Jd h e C dx)
def pQ(e C dx:Addr):HO:=.ext (λh=>∃vs,Je h e C dx vs)
section
variable{P:a7}{w:bS}{H:Hp}{h:Heap}{e C dx:Addr}
def Yu(q:Ys e C h):eQ P w H h e (yw e C):=
 #[q,let#[o,_,g,_]:=q;#[o,g],λ_ _#[o,vs,g,r] k=>#[o,vs,k o g,r]]
def PR(q:Jd h e C a):eQ P w H h e (oa e C a):=
 #[q,let#[_,#[o,g,_],_]:=q;#[o,g],λ_ _#[vs,#[o,g,r],z] k=>#[vs,#[o,k o g,r],z]]
def Xe(q:Je h e C a vs):eQ P w H h e (pQ e C a):=
 #[#[vs,q],let#[o,g,_]:=q;#[o,g],λ_ _#[vs,o,g,r] k=>#[vs,o,k o g,r]]
def Yt(a:nI P w H h)(q:H e>yw e C):Ys e C h:=(a _ _ q).1
def Jy(a:nI P w H h)(q:H e>oa e C b):Jd h e C b:=(a _ _ q).1
def Xd(a:nI P w H h)(q:H e>pQ e C b):∃vs,Je h e C b vs:=(a _ _ q).1
end
def nG(P:a7)(w:bS)(C:Addr):OI:=λouter H s E ev s'=>
 ∃e dx T H',ev=cA e/\s'.os=s.os/\xU s'.gens/\Un (CK outer) [] H H' s.heap s'.heap/\nI P w H' s'.heap/\H' e>pQ e C dx/\
  vM s'.heap e C dx T .none/\s.heap.objs.size<=T/\H' T=none/\E (.ref C) (some dx) H'
section
variable{P:a7}{w:bS}{K:ao}{mg:Str->Option Value}{aD:Heap}{N:List Str}{qual:Str}{scope:Scope}{f C:Addr}{cd:Value}{A:dZ}{outer:List Env}{s0:bq}{H0:Hp}{E0':XK}
def AA(a:nI P w H h)(F:Flt fs own h h')(hf:∀b∈fs,H b=none)(s:∀b∈own,b=e\/H b=none)
  (x:Je h' e C j vs)(q:H e>.ext B):nI P w (upd H e<|pQ e C j) h':=λb u z=>by
 by_cases d:b=e
 .subst d;rw[au]at z;cases z;exact Xe x
 .rw[aH d]at z;let key:∀c,c≠e->(∃v,H c>v)->∀o,h.get? c>o->h'.get? c>o:=λc l#[v,i] o g=>
   F.keep c o g (λm=>by rw[hf c m]at i;cases i) λm=>gR
  let n:∀c y,H c>.own y->c≠e:=λc y r z=>by rw[z,q]at r;cases r
  let p:∀c xs,H c>.tup xs->c≠e:=λc xs r z=>by rw[z,q]at r;cases r
  refine(a b u z).lM (λc o l g=>?_) (λc r=>?_) λc xs r=>?_
  .grind
  .rw[aH (n c _ r)];exact r
  .rw[aH (p c _ r)];exact r
def K3(h:H a>o):upd H a o=H:=by
 funext b;delta upd;split
 .grind
 .rfl
def Sg(I:Inv X aB p H s)(F:Flt (X.env.locals::X.fs) own s.heap h')(d:X.ex=[])
  (i:∀b∈own,(∃u,H b>u)\/X.xQ.heap.get? b=none)(hw:∀b∈own,(∃o,h'.get? b>o)\/X.xQ.heap.get? b=none):Un X.fs [] X.SZ H X.xQ.heap h':=by
 let nl:∀b o,X.xQ.heap.get? b>o->b≠X.env.locals:=λb o g z=>by rw[z]at g;exact ae (bp (a9 g) I.ok.above) (dF _)
 let nx:∀b,b∉X.ex:=λb z=>by rw[d]at z;cases z
 let no:∀b o,X.xQ.heap.get? b>o->X.SZ b=none->b∉own:=λb o g n m=>by
  obtain⟨u,y⟩|y:=i b m
  .rw[I.aD.free b o g n (nx b)]at y;cases y
  .rw[g]at y;cases y
 refine#[λb o g n c _=>?_,λb o g n hf _=>?_,λb o g n _=>I.aD.free b o g n<|nx b,λb o g _=>?_,I.aD.Ao,I.aD.wn,I.aD.yD]
 .exact F.keep b o (I.aD.keep b o g n c<|nx b) (λm=>by obtain z|z:=aE.mp m;exact nl b o g z;exact c z) (no b o g n)
 .let#[j,g1]:=I.aD.slot b o g n hf<|nx b;let#[a,g2]:=F.slot b _ g1 (aR _ hf) (no b o g n);exact#[a,g2]
 .let#[l,g1]:=I.aD.there b o g<|nx b;by_cases m:b∈own
  .grind
  .by_cases hf:b∈X.env.locals::X.fs
   .let#[j,g2]:=F.slot b _ g1 hf m;exact#[_,g2]
   .exact#[_,F.keep b _ g1 hf m]
abbrev Zr(P:a7)(w:bS)(K:ao)(mg:Str->Option Value)(aD:Heap)(N:List Str)(qual:Str)(scope:Scope)(f C:Addr)(cd:Value)(A:dZ)(outer:List Env)(s0:bq)(H0:Hp)(E:XK):Cx:=
 C7 (nG P w C) P w K mg aD N qual scope f cd A outer s0 H0 E
def fL:mQ (nG P w C) (Zr P w K mg aD N qual scope f C cd A outer s0 J E) E:=by
 intro aB M H s ev L I #[e,x,T,q,i,j,y,un,fm,he,B,D,F,G];subst i;let a:=I.Pt (ch:=[]) j un fm y (λb z=>ae z sP);refine XQ (aD:=aD) (outer:=outer) a.ok.frames a.stack rfl B λh' l r n u=>?_;let#[vs,v]:=r.exc;let p:q l=none:=a.fm.fresh n;let d:s0.heap.get? T=none:=gP<|bu I.sz D;let c:s0.heap.get? l=none:=gP<|bu a.sz n;refine#[e,x,l,q,rfl,a.os,a.bare,Sg (h':=h') a u rfl (λb m=>?_) (λb m=>?_),?_,he,r,bu a.sz n,p,G]
 .obtain rfl|m:=aE.mp m
  .exact .inr d
  .obtain rfl|m:=aE.mp m
   .grind
   .obtain rfl|m:=aE.mp m
    .exact .inr c
    .cases m
 .obtain rfl|m:=aE.mp m
  .exact .inr d
  .obtain rfl|m:=aE.mp m
   .let#[o,g,_]:=v;exact .inl #[o,g]
   .obtain rfl|m:=aE.mp m
    .exact .inr c
    .cases m
 .let z:=AA a.fm u a.xD (λb m=>?_) v he
  .rw[K3 he]at z;exact z
  .grind
def jn(I:Inv (Zr P w K mg aD N qual scope f C cd A outer s0 j E) aB F H s)(he:H e>oa e C d)
  (D:E (.ref C) (some d) (upd H e<|pQ e C d)):(Zr P w K mg aD N qual scope f C cd A outer s0 j E).xe (.ref e) s:=by
 let x0:=Jy I.fm he;refine XO (aD:=aD) (outer:=outer) I.ok.frames I.stack rfl x0 λh' i v l x=>?_;let#[vs,B]:=v.exc;let a:H i=none:=I.fm.fresh l;let c:s0.heap.get? i=none:=gP<|bu I.sz l;let p:i≠e:=λz=>by rw[z,he]at a;cases a
 let un:Un (CK outer) [] j H s0.heap h':=Sg (h':=h') I x rfl (λb m=>by
  obtain rfl|m:=aE.mp m
  .exact .inl #[_,he]
  .obtain rfl|m:=aE.mp m
   .exact .inr c
   .cases m) (λb m=>by
  obtain rfl|m:=aE.mp m
  .let#[o,g,_]:=B;exact .inl #[o,g]
  .obtain rfl|m:=aE.mp m
   .exact .inr c
   .cases m)
 let r:Un (CK outer) [] j (upd H e<|pQ e C d) s0.heap h':=
  #[un.keep,un.slot,λb o g n m=>by
   let z:=un.free b o g n m;rw[aH (λy=>by rw[y,he]at z;cases z)];exact z,un.there,λb xs q=>by
   let z:=un.Ao b xs q;rw[aH (λy=>by rw[y,he]at z;cases z)];exact z,λb o u q=>by
   let z:=un.wn b o u q;rw[aH (λy=>by rw[y,he]at z;cases z)];exact z,λb ps q=>by
   let#[more,z]:=un.yD b ps q;exact#[more,by rw[aH (λy=>by rw[y,he]at z;cases z)];exact z]]
 refine#[e,d,i,upd H e<|pQ e C d,rfl,I.os,I.bare,r,?_,au,v,bu I.sz l,by rw[aH p];exact a,D];exact AA I.fm x I.xD (λb m=>by
  obtain rfl|m:=aE.mp m
  .exact .inl rfl
  .obtain rfl|m:=aE.mp m
   .exact .inr a
   .cases m) B he
end
open Builtin Builtin.ObjectAttr
section
variable{prog:a7}{w:bS}{A:dZ}{E:Value->bq->Prop}{h:Heap}{g:Array IG}{d:Drawn}{t:Nat}{os:OsState}
variable{nm q:Str}{C N x:Addr}{bs:List Value}{sn:List Str}{sub:List Value}{ab:Bool}{col:Option Bool}{dd:Option Addr}{k0 k1 k2 k3 k5:Option Value}{newId:String}
variable{B sa owner:String}{bm:List Value}{mN:Str->Option Value}{name:Str}{v:Value}{o:Obj}{vs:Array Value}
def Om{tk:Tok}{Q:Fin->bq->Prop}
  (SF:VH B bm sa owner)(hC:h.get? C>io nm q C N bs bm true sn sub ab col dd k0 k1 k2 k3 k5 newId)(hn:h.Ns N mN)(Qg:mN name=none)
  (hB:lU (.type B) name=pure none)(hx:h.get? x>o)(hc:o.cls=.ref C)(hdn:o.dict=none)(Ny:o.data=.fields vs)
  (hq:∀h' Vi,h'.get? x>{o with dict:=some h.objs.size}->h'.Ns1 h.objs.size (λy=>if y=name then some v else none)->
   (∀b ob,b≠x->h.get? b>ob->h'.get? b>ob)->Q (.done (.ret .none)) #[h',g,d,Vi,os]):
  bj (model prog w) A (Builtin.«object.__setattr__» #[[.ref x,.str name tk,v],[]]) Q E #[h,g,d,t,os]:=by
 let ps:=SF.passes (.ref x);delta Builtin.«object.__setattr__»;repeat(first
  |rw[refuse_eq]
  |(rw[refuseLoop_ref,ps])
  |(with_reducible refine gs hx ?_;rw[hc])
  |with_reducible refine wpAny_mroOf_exc hC ?_
  |(with_reducible refine ki hC hn SF.mro hB ?_;rw[Qg])
  |wp_step)
 rw[hdn,aa (by simp[typeHasDict])];split
 .rename_i z;cases z
 split
 .rename_i c z;rw[Ny]at z;cases z
 .let x1:(h.push {cls:=.type "dict",data:=.dict #[]}).get? x>o:=aF _ hx;let xs:x≠h.objs.size:=bT (a9 hx);refine aA (wpAny_alloc' ?_);refine aA (wpAny_update' x1 ?_);refine aU ?_;let gd:((h.push {cls:=.type "dict",data:=.dict #[]}).update x λo=>{cls:=o.cls,dict:=some h.objs.size,data:=o.data,slots:=o.slots}).get? h.objs.size
    >{cls:=.type "dict",data:=.dict #[]}:=
   (La _ _ _ _ xs.symm).trans (Heap.get?_push_at rfl rfl)
  let nd:((h.push {cls:=.type "dict",data:=.dict #[]}).update x λo=>{cls:=o.cls,dict:=some h.objs.size,data:=o.data,slots:=o.slots}).Ns h.objs.size (λ_=>none):=
   #[_,#[],_,gd,rfl,λe he=>ae he (by simp),λ_=>rfl]
  show bj _ _ (storeInDict h.objs.size (.str name tk) name v) _ _ _;delta storeInDict newKeyGuard;refine aA (aU (aA (wpAny_nsSet1 (IH nd) λh' hn' hs=>?_)));obtain⟨oD,eD,pD,hoD,hdD,hcD⟩:=hn'.count (Within.cons name v Within.nil);refine aA (wpAny_lookBehind hoD (by rw[hdD];exact pastItsLine_dict (bu hcD (by rw[aQ,c9,aK];omega))) ?_);wp_walk;refine hq h' _ ?_ hn' (λb ob SI hb=>?_)
  .refine(hs.2 x xs).trans (gu _ x1 ?_);obtain⟨oc,od,odt,osl⟩:=o;cases odt<;>first|rfl|(cases Ny)
  .exact(hs.2 b (bT (a9 hb))).trans ((La _ _ _ _ SI).trans (aF _ hb))
def RG
  (SF:VH B bm n owner)(i:h.get? C>io nm q C N bs bm true sn sub z col D F G H I J newId)(p:h.Ns N r)(c:r name=none)
  (s:lU (.type B) name=pure none)(j:h.get? x>o)(l:o.cls=.ref C)(e:o.dict=none)(a:o.data=.fields vs)
  (u:∀h' f,h'.get? x>{o with dict:=some h.objs.size}->h'.Ns1 h.objs.size (λy=>if y=name then some v else none)->
   (∀b m,b≠x->h.get? b>m->h'.get? b>m)->R (.ok<|.ret .none) #[h',g,d,f,os]):
  mK (model prog w) A (.call (.builtin n) #[[.ref x,.str name tk,v],[]]) R #[h,g,d,t,os]:=
 xN SF.slot.plain SF.entry (wpAny_check_sa SF i j l<|Om SF i p c s j l e a u)
def RF{Q:Unit->bq->Prop}
  (SF:VH B bm sa owner)(hC:h.get? C>io nm q C N bs bm true sn sub ab col dd k0 k1 k2 k3 k5 newId)(hn:h.Ns N mN)(VX:mN "__setattr__"=none)(Qg:mN name=none)
  (hB:lU (.type B) name=pure none)(hx:h.get? x>o)(hc:o.cls=.ref C)(hdn:o.dict=none)(Ny:o.data=.fields vs)
  (hq:∀h' Vi,h'.get? x>{o with dict:=some h.objs.size}->h'.Ns1 h.objs.size (λy=>if y=name then some v else none)->
   (∀b ob,b≠x->h.get? b>ob->h'.get? b>ob)->Q () #[h',g,d,Vi,os]):
  bj (model prog w) A (Ii (.ref x) name v) Q E #[h,g,d,t,os]:=by
 let f3:=SF.slot.bind (.ref x);delta Ii callSpecial? specialOf;repeat(any_goals(first
  |assumption
  |(with_reducible refine gs hx ?_;rw[hc])
  |(with_reducible refine ki hC hn SF.mro SF.slot.lookup ?_;rw[VX])
  |wp_step))
 refine RG SF hC hn Qg hB hx hc hdn Ny λh' Vi y1 y2 y3=>?_;repeat(any_goals(first|assumption|wp_step))
 exact hq h' Vi y1 y2 y3
def UK{M:Model}{env:Env}{s:bq}{y:Sem Value}{Q:Flow->bq->Prop}(hh:A.handled=none)
  (hy:bj M A y (λv s1=>∃e dx,v=.ref e/\s1.heap.get? C>io nm q C N bs Sl true sn sub ab col dd k0 k1 k2 k3 k5 newId/\Jd s1.heap e C dx/\E (.ref e) s1) E s):
  bj M A (ZR env (some y) none) Q E s:=by
 let e3:(cA C::Sl).contains (.type "BaseException")=true:=by rw[jf];show(_||true)=true;rw[WG]
 delta ZR;refine aA (fg hy (λv s1 h1=>?_) λ_ _ z=>z);obtain⟨e,dx,rfl,hC,⟨vs,⟨o,he,hc,hx,hd⟩,hv⟩,hE⟩:=h1;obtain⟨hp,g,d,tk,os⟩:=s1;repeat(first
  |(with_reducible refine gs he ?_;rw[hc])
  |with_reducible refine gs hC ?_
  |(with_reducible refine wpAny_isSubtype_exc hC ?_;rw[e3])
  |(with_reducible refine xR he hd hv ?_)
  |wp_step)
 exact wpAny_raiseNew_none hh hE
end
end XF
namespace XF
open PySem PySem.Spec PyProof.Rows L2
structure C2(K:ao)(C N fI:Addr):Prop where
 obj:∃nm q bs sn sub ab col dd k0 k1 k2 k3 k5,K.lookup C>io nm q C N bs Sl true sn sub ab col dd k0 k1 k2 k3 k5 "Exception.__new__"
 ns:At K N=true
 init:cu K N "__init__">some (.ref fI)
 sa:cu K N "__setattr__">none
 ga:cu K N "__getattribute__">none
 gh:cu K N "__getattr__">none
 fn:mT K (.ref fI)=true
 kp:db K (.ref C)=true
structure Sz(K:ao)(N:Addr)(f:Str):Prop where
 own:cu K N f>none
 up:lU (.type "Exception") f=pure none
def J3{K:ao}(X:K.In h)(G:h.Ns N mg)(e:cu K N n>some v):mg n>v:=by
 let#[o,es,g,a,hd,_,hf]:=G;delta cu at e;split at e
 .rename_i c d b n' i q;let z:=X _ _ q;rw[a]at z;cases z;cases hd;split at e
  .rename_i y he;rw[<-hf];delta nsFind findBy;rw[<-K8,he];exact af id (aO e)
  .grind
 .cases e
def eQ.there(x:eQ P w H h a o):∃u,h.get? a>u:=by
 cases o with
 |lst xs=>have#[_,_,_,_,e]:=x;exact#[_,e]
 |tup xs=>have#[_,_,_,ob,e,_]:=x;exact#[_,e]
 |dK nz=>have#[_,_,_,_,o,_,_,e,_]:=x;exact#[_,e]
 |dT nz=>have#[_,_,_,_,o,_,_,e,_]:=x;exact#[_,e]
 |set S n=>have#[o,_,_,_,e,_]:=x;exact#[_,e]
 |ins C dx fs=>have#[_,_,_,e,_]:=x;exact#[_,e]
 |own y=>have#[_,e]:=x;exact#[_,e]
 |xd fs=>have#[_,#[_,_,_,e,_],_]:=x;exact#[_,e]
 |rng lo hi=>have#[_,_,_,e]:=x;exact#[_,e]
 |qc ob u=>have#[e,_]:=x;exact#[_,e]
 |vL ps=>exact#[_,x]
 |met f y=>exact#[_,x]
 |ext b=>have#[_,#[_,e],_]:=x;exact#[_,e]
section
variable{X:Cx}{aB:List (Addr×Obj)}{σ:L2.St}{H:Hp}{s:bq}{C N fI e dx:Addr}{f:Str}{A:dZ}{E:Value->bq->Prop}
def nI.Fb(x:nI P w H h)(e:h.get? a=none):H a=none:=by
 cases q:H a with
 |none=>rfl
 |some o=>
  let#[u,z]:=eQ.there<|x a o q;rw[e]at z;cases z
def Inv.aaq(I:Inv X aB σ H s)(he:H e>.ext G)(hd:s.heap.get? d=none\/∃h,H d>.xd h)(D:d≠e)
  (k:∀b o,b≠e->b≠d->s.heap.get? b>o->h'.get? b>o)
  (p:∀l,eQ X.prog X.w l h' e (.ext ψ))(v:∀l,eQ X.prog X.w l h' d (.xd fs)):Inv X aB σ (upd (upd H d (.xd fs)) e (.ext ψ)) {s with heap:=h',toks:=t'}:=by
 let ne:∀b,H b=none->b≠e:=λb n z=>by rw[z,he]at n;cases n
 let m:∀b o,s.heap.get? b>o->H b=none->b≠d:=λb o g n z=>gR;let i:∀b u,H b>u->(∀h,u≠.xd h)->b≠d:=λb u q x z=>by
  obtain y|⟨h,y⟩:=hd
  .rw[z,nI.Fb I.fm y]at q;cases q
  .grind
 let j:∀b u,H b>u->(∀φ0,u≠.ext φ0)->b≠e:=λb u q x z=>by rw[z,he]at q;cases q;exact x G rfl
 refine I.un (t':=t') #[λb o g n _ _=>k b o (ne b n) (m b o g n) g,λb o g n _ _=>#[o.slots,k b o (ne b n) (m b o g n) g],λb o g n _=>?_,λb o g _=>?_,λb xs q=>?_,λb o u q=>?_,λb ps q=>#[#[],?_]] λb u z=>?_
 .rw[aH (ne b n),aH (m b o g n)];exact n
 .by_cases z:b=e
  .rw[z];exact eQ.there (p H)
  .by_cases y:b=d
   .rw[y];exact eQ.there (v H)
   .grind
 .rw[aH (j b _ q λ_ z=>by cases z),aH (i b _ q λ_ z=>by cases z)];exact q
 .rw[aH (j b _ q λ_ z=>by cases z),aH (i b _ q λ_ z=>by cases z)];exact q
 .rw[aH (j b _ q λ_ z=>by cases z),aH (i b _ q λ_ z=>by cases z),vI];exact q
 .by_cases y:b=e
  .subst y;rw[au]at z;cases z;exact p _
  .rw[aH y]at z;by_cases B:b=d
   .subst B;rw[au]at z;cases z;exact v _
   .rw[aH B]at z;let own:∀c a,H c>.own a->c≠e/\c≠d:=λc a q=>#[j c _ q (λ_ z=>by cases z),i c _ q (λ_ z=>by cases z)];refine(I.fm b u z).lM (λc o F g=>?_) (λc r=>?_) λc xs r=>?_
    .grind
    .rw[aH (own c _ r).1,aH (own c _ r).2];exact r
    .rw[aH (j c _ r λ_ z=>by cases z),aH (i c _ r λ_ z=>by cases z)];exact r
def We(C:Addr)(ta tv:TE)(f:Str):TS:=λD σ H=>tv σ H λy H1=>ta σ H1 λx H2=>∃e,x=.ref e/\
 ((H2 e>yw e C/\∀dx,H2 dx=none->dx≠e->D.nx σ (upd (upd H2 dx (.xd [(f,y)])) e (oa e C dx)))\/
  ∃dx fs,H2 e>oa e C dx/\H2 dx>.xd fs/\↑fs<1000/\D.nx σ (upd (upd H2 dx<|.xd<|iu f y fs) e (oa e C dx)))
def ab5(I:Inv X aB σ H s)(c:C2 X.K C N T)(n:Sz X.K N f)(he:H e>yw e C)(x:RelV y u)
  (h:∀r j,H j=none->j≠e->Inv X aB σ (upd (upd H j (.xd [(f,y)])) e (oa e C j)) r->Q () r):bj (model X.prog X.w) A (Ii (.ref e) f u) Q E s:=by
 let#[o,vs,g,v,m,i,B]:=Yt I.fm he;let#[nm,q,bs,sn,sub,U,col,Y,Z,k1,k2,k3,k5,D]:=c.obj;let a:=I.Ai;let p:=qo<|nL a c.ns;let#[l,G,d,tk,os]:=s;refine RF mh (a _ _ D) p (ft a c.ns c.sa) (ft a c.ns n.own) n.up g v m i λh' J L M O=>?_;let fr:H l.objs.size=none:=I.fm.fresh<|aI _;let ne:l.objs.size≠e:=λz=>by rw[z,he]at fr;cases fr
 refine h _ l.objs.size fr ne (Inv.aaq (s:=#[l,G,d,tk,os]) I he (.inl<|gP<|aI _) ne (λb o P _ z=>O b o P z) (λR=>?_) λR=>?_)
 .exact PR #[vs,#[_,L,v,rfl,i],B]
 .refine#[_,M,λg=>?_];show pq (jQ g [(f,y)]) (if g=f then some u else none);by_cases z:g=f
  .rw[ac z,z];simp only[gD,beq_self_eq_true];exact x
  .rw[aa z];let S:(g==f)=false:=beq_eq_false_iff_ne.mpr z;simp only[gD,S,List.lookup_nil];trivial
def TY{fs:List (Str×V)}(r:∀g,pq (fs.lookup g) (a g)):xL a (fs.map (·.1)):=λg b=>by
 let z:=r g;cases q:fs.lookup g with
 |none=>
  rw[q]at z;exact ae (pq.none_of z) b
 |some v=>exact a_.mpr #[(g,v),cG q,rfl]
def ab6(I:Inv X aB σ H s)(c:C2 X.K C N fI)(n:Sz X.K N f)(he:H e>oa e C i)(hd:H i>.xd fs)(hl:↑fs<1000)(J:RelV y u)
  (h:∀B,Inv X aB σ (upd (upd H i<|.xd<|iu f y fs) e (oa e C i)) B->Q () B):bj (model X.prog X.w) A (Ii (.ref e) f u) Q E s:=by
 let#[vs,#[o,g,L,j,a],M]:=Jy I.fm he;let#[m,O,r]:=I.fm _ _ hd;let#[nm,q,bs,sn,sub,ab,col,dd,k0,k1,k2,k3,k5,D]:=c.obj;let Aj:=I.Ai;let p:=qo<|nL Aj c.ns;let ne:i≠e:=λz=>by rw[z,he]at hd;cases hd
 let v:e≠C:=λz=>by let y:=(I.bs C _<|I.ok.mod.Aj _ _ D).2;rw[<-z,he]at y;cases y
 let#[G,P,d,tk,os]:=s;let R:G.Inst e C m:=#[o,g,L,(λc z=>by rw[a]at z;cases z),.inr #[i,j,ne,O]];refine store_attr mh (Aj _ _ D) p (ft Aj c.ns c.sa) (ft Aj c.ns n.own) n.up v R (λh' S T U Y=>?_) (TY r) sZ;let#[Z,g1,e1,e2,e3,e4]:=Y o g;let#[o2,g2,x,hn2,hdd]:=T;let eo:o2=Z:=aO<|g2.symm.trans g1;subst eo;let l:h'.Ns1 i (λy=>if y=f then some u else m y):=gR;refine h _ (Inv.aaq (s:=#[G,P,d,tk,os]) I he (.inr #[_,hd]) ne (λb ob hb ZC z=>U b ob hb (λo0 dx0 z1 z2=>?_) z) (λH'=>?_) λH'=>?_)
 .grind
 .exact PR #[vs,#[_,g2,x,e4 i j,e2.trans a],M]
 .refine#[_,l,λg=>?_];show pq ((iu f y fs).lookup g) (if g=f then some u else m g);rw[sU];by_cases z:g=f
  .rw[ac z,ac z];exact J
  .grind
def Mb(c:C2 X.K C N J)(n:Sz X.K N f)(l:PE X o m)(p:PE X value r)(v:kG value (some<|.Attribute o f pos') pos.line X.env=pure false):
  PS X (.Assign [.Attribute o f pos'] value pos) (We C m r f):=by
 intro aB s σ H D I h;refine plainObj_wpAny_Assign_Attribute (gN (p aB s σ H _ I h) λu s1#[y,H1,w,g,q]=>gN (l aB s1 σ H1 _ w q) λz s2#[x,L,i,B,e,ex,a]=>?_) v;subst ex;obtain rfl:z=cA e:=B;obtain⟨he,a⟩|⟨j,fs,he,hd,F,a⟩:=a
 .exact ab5 i c n he g λs3 j G b d=>#[σ,_,d,a j G b]
 .exact ab6 i c n he hd F g λs3 d=>#[σ,_,d,a]
def Wy(C:Addr)(ta:TE)(f:Str):TE:=λσ H Q=>ta σ H λx H1=>∃e dx fs v,x=.ref e/\H1 e>pQ e C dx/\H1 dx>.xd fs/\fs.lookup f>v/\Q v H1
def L0(c:C2 X.K C N fI)(n:Sz X.K N f)(ha:PE X o ta)(hb:jT o f X.env (eval o X.env)=eval o X.env):PE X (.Attribute o f pos) (Wy C ta f):=by
 intro aB s σ H Q I h;refine Lm hb<|gN (ha aB s σ H _ I h) λu s1#[x,H1,I1,rx,e,dx,fs,v,ex,he,hd,l,q]=>?_;subst ex;obtain rfl:u=cA e:=rx;let#[vs,o,g,hc,Qa,Ny]:=Xd I1.fm he;let#[mA,hA,r]:=I1.fm _ _ hd;let#[nm,q',bs,sn,sub,ab,col,dd,k0,k1,k2,k3,k5,lk]:=c.obj;let Aj:=I1.Ai;let VX:=qo<|nL Aj c.ns;let ne:dx≠e:=λz=>by rw[z,he]at hd;cases hd
 let#[u,hu,ru]:=pq.some_of (v:=v) (o:=mA f) (by rw[<-l];exact r f);let#[hp,gg,d,tk,os]:=s1;let hI:hp.Inst e C mA:=#[o,g,hc,(λc z=>by rw[Ny]at z;cases z),.inr #[dx,Qa,ne,hA]];refine acu (Aj _ _ lk) VX (ft Aj c.ns n.own) (ft Aj c.ns c.ga) (ft Aj c.ns c.gh) n.up hI hu ?_ #[v,H1,I1.tok _,ru,q];cases v with
 |fP=>cases ru;rfl
 |bl b=>cases ru;rfl
 |int i=>obtain⟨t,rfl⟩:=ru;rfl
 |str i=>obtain⟨t,rfl⟩:=ru;rfl
 |GD i=>obtain⟨t,rfl⟩:=ru;rfl
 |F9 i=>obtain⟨t,rfl⟩:=ru;rfl
 |ref a=>cases ru;rfl
 |ty n=>cases ru;rfl
def Inv.abe(I:Inv X aB σ H s)(k:∀b u,s.heap.get? b>u->h'.get? b>u)(d:s.heap.get? a=none)(new:∀h,eQ X.prog X.w h h' a o):
  Inv X aB σ (upd H a o) {s with heap:=h',toks:=t'}:=by
 let fr:=nI.Fb I.fm d;let na:∀b u,s.heap.get? b>u->b≠a:=λb u g z=>by rw[z,d]at g;cases g
 let nt:∀b u,H b>u->b≠a:=λb u g z=>by rw[z,fr]at g;cases g
 refine I.un (t':=t') #[λb o g _ _ _=>k b o g,λb o g _ _ _=>#[o.slots,k b o g],λb o g n _=>by rw[aH (na b o g)];exact n,λb o g _=>#[o,k b o g],λb xs q=>by rw[aH (nt b _ q)];exact q,
  λb o u q=>by rw[aH (nt b _ q)];exact q,λb ps q=>#[#[],by rw[aH (nt b _ q),vI];exact q]] λb u z=>?_
 by_cases y:b=a
 .subst y;rw[au]at z;cases z;exact new _
 .rw[aH y]at z;exact(I.fm b u z).lM (λc o _ g=>k c o g) (λc r=>by rw[aH (nt c _ r)];exact r) λc xs r=>by rw[aH (nt c _ r)];exact r
def KR(C:Addr)(sp:Sp)(t:TA):TE:=λσ H Q=>t σ H λvs H1=>∀e,H1 e=none->sp (.ref e::vs) (upd H1 e<|yw e C) (λv H2=>v=.fP/\Q (.ref e) H2) L2.E0
def jk(c:C2 X.K C N o)(F:j4 X.prog X.w X.K X.mg X.aD dO k o fd ps sp)(R:i7 (k+1) X.A)(S:Gl X x)(hm:X.mg x>.ref C)
  (T:Binds X.K fd ps [])(hsz:↑ps<=100)(U:PA X (a::es) t)(y:(x==("__debug__":Str))=false:=by decide)(he:bi (a::es) X.env=(false,eval a X.env)::bi es X.env:=by rfl)(B:(gW pos<|bi es X.env).any (·.1)=false:=by rfl):
  PE X (.Call (.Name x p) (a::es) [] pos) (KR C sp t):=by
 intro aB s σ H Q I h;refine gY<|qL I S hm ?_ y;refine kb (h₀:=X.aD) I.ok.mod.Aj c.kp (gN (U pos aB s σ H _ I h) λus s1#[vs,H1,j,r,q]=>#[j.Ai,?_]) he B;let#[nm,q',bs,sn,sub,ab,col,dd,k0,k1,k2,k3,k5,Y]:=c.obj;let Aj:=j.Ai;let l:=qo<|nL Aj c.ns;let g:(X.K.lookup o).map (·.cls)>.type "function":=beq_iff_eq.mp c.fn;let#[m,Z,cI]:∃m,X.K.lookup o>m/\m.cls=.type "function":=by
  cases z:X.K.lookup o with
  |none=>rw[z]at g;cases g
  |some m=>rw[z]at g;exact#[m,rfl,aO g]
 let D:↑(V.ref s1.heap.objs.size::vs)=↑ps:=F.len _ _ _ _<|q s1.heap.objs.size<|j.fm.fresh<|aI _;let hlen:↑us<=sizeLine:=by rw[<-↑r,aK];let:=D;rw[aQ]at this;omega
 let#[hp,L,d,tk,os]:=s1;refine wpAny_call_exc_init PySem.F.excBase_Exception (Aj _ _ Y) l (J3 Aj l c.init) (Aj _ _ Z) cI (λh' e i=>?_) hlen;let#[tt,G,_,_]:=i.there;let J:Inv X aB σ (upd H1 e<|yw e C) #[h',L,d,tk,os]:=Inv.abe (s:=#[hp,L,d,tk,os]) (t':=tk) j i.keeps i.new λM=>Yu #[_,_,G,rfl,rfl,rfl,rfl];let O:=q e<|nI.Fb j.fm i.new;let P:Vals (V.ref e::vs) (cA e::us):=.cons rfl r;let hl:↑((cA e::us)++[])=↑ps:=by rw[c8,<-↑P];exact F.len _ _ _ _ O
 let n:=T _ (cA e::us) J.Ai hl;rw[c8]at n;refine uY (kx (F.run _ X.stack _ _ #[cA e::us,[]] (cA e::us) _ _ L2.E0 (R.make C us []) (J.Tu.make C us []) n P O) λr s' b=>?_);cases r with
 |error x=>exact dJ b
 |ok fl=>
  cases fl with
  |ret u=>
   let#[v,M,I3,rv,ev,q3]:=J.after b;subst ev;exact#[rv,#[V.ref e,M,I3,rfl,q3]]
  |next=>exact dJ b
  |brk=>exact dJ b
  |cont=>exact dJ b
def Kt(C:Addr)(E:XK)(t:TE):TS:=λ_ σ H=>t σ H λv H1=>∃e dx,v=.ref e/\H1 e>oa e C dx/\E (.ref C) (some dx) (upd H1 e<|pQ e C dx)
def jl{E:XK}(c:C2 X.K C N G)(g:X.A.handled=none)(i:PE X x t)
  (b:∀aB σ H s e a,Inv X aB σ H s->H e>oa e C a->E (.ref C) (some a) (upd H e<|pQ e C a)->X.xe (.ref e) s):PS X (.Raise (some x) none pos) (Kt C E t):=by
 intro aB s σ H D I h;let#[nm,j,bs,sn,sub,l,col,m,n,o,p,r,u,z]:=c.obj;rw[arm_exec_Raise];let key:∀y,bj (model X.prog X.w) X.A y (λv s1=>∃e a,v=.ref e/\s1.heap.get? C>io nm j C N bs Sl true sn sub l col m n o p r u "Exception.__new__"/\Jd s1.heap e C a/\X.xe (.ref e) s1) X.xe s->
   bj (model X.prog X.w) X.A (ZR X.env (some y) none) (SP X aB D) X.xe s:=λy B=>UK g B
 refine aA<|rZ<|key _ ?_;refine aA<|gN (i aB s σ H _ I h) λv s1#[J,H1,d,F,e,a,ev,he,q]=>aA<|rZ<|aU ?_;subst ev;exact#[e,a,F,d.Ai _ _ z,Jy d.fm he,b aB σ H1 s1 e a d he q]
end
def okX{K:ao}{st:Stmt}(F:xW K x qual st f fd)(S:m_ N ps (dH st))
  (len:∀vs H Q E,sp vs H Q E->↑vs=↑ps)
  (b:∀a A outer s H vs Q E,i7 k (A.deeper<|oS qual (dH st) s.heap.objs.size f a)->sp vs H Q E->
   ∃t,DD (Zr P w K mg aD N qual (dH st) f C a A outer s H E) (ij st) t/\t {nx:=λ_ g=>Q .fP g,rt:=Q} (start N vs) H):j4 P w K mg aD (nG P w C) (k+1) f fd ps sp:=by
 obtain⟨l,od,kV,doc,pm,an,a,ct,h,rfl,i,c⟩:=F.ex;exact P1 i c S len λA outer s H vs Q E j d=>b a A outer s H vs Q E j d
abbrev V1(X:Cx)(e:Addr):Cx:={X with A:=X.A.mark<|some<|.ref e,calm:=false,xe:=λ_ _=>False}
section
variable{X:Cx}{aB:List (Addr×Obj)}{σ:L2.St}{H:Hp}{s:bq}{C N fI e dx T:Addr}{E:Value->bq->Prop}
def Inv.V1(I:Inv X aB σ H s)(e):Inv (XF.V1 X e) aB σ H s:=
 #[#[I.ok.mod,I.ok.kind,I.ok.glob,I.ok.blt,I.ok.above,I.ok.inj,I.ok.has,I.ok.Zq,(λz=>by cases z),I.ok.frames,I.ok.YH,I.ok.exf,I.ok.bs,I.ok.Lo,I.ok.NV,I.ok.Nj,I.ok.yg,I.ok.VN],I.os,I.bare,I.aD,I.loc,I.cell,I.free,I.mU,I.pin,I.fm,I.len]
def Inv.aev(ok:X.Ok)(I:Inv (XF.V1 X e) aB σ H s):Inv X aB σ H s:=
 #[ok,I.os,I.bare,I.aD,I.loc,I.cell,I.free,I.mU,I.pin,I.fm,I.len]
def Inv.F9(I:Inv X aB σ H s)(F:Flt (X.env.locals::X.fs) own s.heap h')(d:∀b∈own,(∃u,H b>u/\∃o,h'.get? b>o)\/s.heap.objs.size<=b\/b=T)
  (h:∃o,h'.get? T>o)(h0:X.xQ.heap.objs.size<=T)(i:T≠X.env.locals)(B:∀x c,X.env.cells.lookup x>c->c≠T)(D:∀p∈X.pn++aB,p.1≠T)(f:nI X.prog X.w H h'):
  Inv X aB σ H {s with heap:=h'}:=by
 let no:∀b o,b∉[T]->s.heap.get? b>o->H b=none->b∉own:=λb o j g n m=>by
  obtain⟨u,z,_⟩|z|z:=d b m
  .rw[n]at z;cases z
  .exact ae (bp (a9 g) z) (dF _)
  .grind
 refine I.step (g':=s.gens) (d':=s.drawn) (t':=s.toks) (ch:=[T]) (λb j=>?_) (λb o l hf a g n=>F.keep b o g (λm=>?_) (no b o a g n)) (λb o l hf a g n=>F.slot b o g (aR _ hf) (no b o a g n)) (λ_ _ _ _ n=>n) (λb o a g=>?_) (λ_ _ q=>q) (λ_ _ _ q=>q) (λb ps q=>#[#[],by rw[vI];exact q]) (λm hm=>?_) f I.bare
 .grind
 .grind
 .by_cases m:b∈own
  .obtain⟨u,_,z⟩|z|z:=d b m
   .exact z
   .exact ae (bp (a9 g) z) (dF _)
   .rw[z];exact h
  .by_cases hf:b∈X.env.locals::X.fs
   .let#[v,z]:=F.slot b o g hf m;exact#[_,z]
   .exact#[_,F.keep b o g hf m]
 .let#[o,es,A,g,hd,r]:=hm;by_cases z:X.env.locals∈own
  .exfalso;obtain⟨u,y,_⟩|y|y:=d _ z
   .rw[I.free]at y;cases y
   .exact ae (bp (a9 g) y) (dF _)
   .exact i y.symm
  .let#[v,g']:=F.slot _ o g aZ z;exact#[_,es,A,g',hd,r]
def Sd(I:Inv X aB σ H s)(a:s.heap.objs.size<=T):X.xQ.heap.objs.size<=T/\T≠X.env.locals/\(∀x c,X.env.cells.lookup x>c->c≠T)/\∀p∈X.pn++aB,p.1≠T:=
 #[bu I.sz a,λz=>ae (bp I.lt<|by rw[<-z];exact a) (dF _),λx c q z=>by
  let#[v,d,g,_]:=I.cell x c q;exact ae (bp (a9 g) (by rw[z];exact a)) (dF _),λp b z=>by
  exact ae (bp (a9 (I.pin p b).1) (by rw[z];exact a)) (dF _)]
def Inv.gone(I:Inv X aB σ H s)(l:h'.Ns X.env.locals y)(f:iG X.env.locals s.heap h'):Inv X aB (cp ↑X.N none) H {s with heap:=h',toks:=t'}:=by
 let a:∀b o,X.xQ.heap.get? b>o->b≠X.env.locals:=λb o e=>bT<|bp (a9 e) I.ok.above;let m:∀b u,H b>u->b≠X.env.locals:=λb u q z=>by rw[z,I.free]at q;cases q
 let L:∃o,h'.get? X.env.locals>o:=let#[o,_,_,g,_]:=l;#[o,g];refine#[I.ok,I.os,I.bare,#[λb o g n hf h=>(f.2 b<|a b o g).trans (I.aD.keep b o g n hf h),λb o g n hf h=>?_,I.aD.free,λb o g h=>?_,I.aD.Ao,I.aD.wn,I.aD.yD],#[y,l,λi x v _ M _=>?_],λx c q=>?_,I.free,I.mU,λp A=>?_,λb u z=>?_,by rw[sf]]
 .let#[B,z]:=I.aD.slot b o g n hf h;exact#[B,(f.2 b<|a b o g).trans z]
 .let#[D,z]:=I.aD.there b o g h;exact#[D,(f.2 b<|a b o g).trans z]
 .grind
 .let#[v,o,g,d]:=I.cell x c q;exact#[v,o,(f.2 c<|I.Ts x c q).trans g,d]
 .let#[F,G,w,J,K]:=I.pin p A;exact#[(f.2 _ w).trans F,G,w,J,K]
 .refine(I.fm b u z).lM (λc o j g=>(f.2 c ?_).trans g) (λ_ r=>r) λ_ _ r=>r;obtain rfl|j:=j
  .exact m _ _ z
  .exact m _ _ j
def P'
    {rest:List ExceptHandler}
  (h:bj (model prog w) (A.mark<|some<|.ref e) (eval t env) (λc s1=>c=.ref C/\s1.heap.get? C>io nm q C N bs Sl true sn sub v col x y B D F G newId/\(∃i,s1.heap.get? e>i/\i.cls=.ref C)/\
   bj (model prog w) (A.mark<|some<|.ref e) (Oh (.ref e) none) (λ_ s2=>
    bj (model prog w) (A.mark<|some<|.ref e) (Op env n<|.ref e) (λ_ s3=>
     bj (model prog w) (A.mark<|some<|.ref e) (execs (j::a) env)
      (λf s4=>bj (model prog w) A (do bindName env n .none;unbindBehindTheSuite env n pos) (λ_ s5=>Q f s5) E s4) (λ_ _=>False) s3) (λ_ _=>False) s2) (λ_ _=>False) s1) (λ_ _=>False) s):
  bj (model prog w) A (handleBy (.ref e) env (.ExceptHandler (some t) (some n) (j::a) pos::rest)) Q E s:=by
 refine wpAny_handleBy_cons (codeAny_handlers_test<|fg h (λc s1 l=>?_) λ_ _ z=>z.elim) (by intro z;cases z);obtain⟨rfl,m,⟨i,he,b⟩,o⟩:=l;let#[I,g,d,tk,os]:=s1;refine wpAny_excMatches_sub_self m he b rfl<|codeAny_handlers_suite_as ?_;refine fg o (λ_ s2 p=>?_) λ_ _ z=>z.elim;refine fg p (λ_ s3 r=>?_) λ_ _ z=>z.elim;exact fg r (λf s4 u=>u) λ_ _ z=>z.elim
def Wd(C:Addr)(i j:Nat)(sp:Sp)(t:TA)(ts:Addr->TS):TS:=λD σ H=>t σ H λvs H1=>
 sp vs H1 (λv H2=>D.nx (σ.set i<|some v) H2) (λ_ od H2=>∃dx,od>dx/\∀e,H2 e>pQ e C dx->ts e {nx:=λ_ _=>False,rt:=D.rt} (σ.set j<|some<|.ref e) H2)
def Uu
  (c:C2 X.K C N fI)(F:j4 X.prog X.w X.K X.mg X.aD (nG X.prog X.w C) k f fd ps sp)(hr:i7 k X.A)(hg:Gl X g)(hm:X.mg g>.ref f)(hk:db X.K (.ref f)=true)(hb:Binds X.K fd ps [])
  (hgc:Gl X cn)(hmc:X.mg cn>.ref C)(hN:X.N.Nodup)(hi:X.N[i]?>x)(hix:Loc X.env.scope x)(hj:X.N[j]?>n)(O:X.env.scope.names.lookup n>.local)(ha:PA X.Ub (a::es) t)
  (hsu:∀e,DD (XF.V1 X e) (b0::B) (ts e))(hex:X.stack=X.env::X.outer)(P:X.env.frame>X.env.locals)
  (hs:kG (.Call (.Name g p) (a::es) [] l) (some<|.Name x Q) apos.line X.env=pure false:=by rfl)
  (hdb:(g==("__debug__":Str))=false:=by decide)(hdc:(cn==("__debug__":Str))=false:=by decide)(he:bi (a::es) X.env=(false,eval a X.env)::bi es X.env:=by rfl)(NB:(gW l<|bi es X.env).any (·.1)=false:=by rfl)
  (hf:X.fn x=true\/X.env.scope.names.lookup x>.local:=by first|exact .inl rfl|exact .inr rfl|assumption)(hfn:X.fn n=true\/X.env.scope.names.lookup n>.local:=by first|exact .inl rfl|exact .inr rfl|assumption):
  PS X (.Try [.Assign [.Name x Q] (.Call (.Name g p) (a::es) [] l) apos] [.ExceptHandler (some<|.Name cn np) (some n) (b0::B) afe] [] [] pos) (Wd C i j sp t ts):=by
 intro aB s σ H D I h;let YH:∀b,b∈CK X.stack↔b∈X.env.locals::X.fs:=λb=>by rw[hex];delta CK;rw[iX,P];exact pG
 refine wpAny_Try_except ?_;refine EF<|wpAny_Assign_Name (gY<|qL I hg hm ?_ hdb) hs;refine kb (h₀:=X.aD) I.ok.mod.Aj hk (fg (ha l aB s σ H _ (I.CA _) h) (λus s1#[vs,H1,R,r,q]=>#[R.Ai,?_]) λ_ _ z=>dJ z) he NB
 .let S:Inv X aB σ H1 s1:=R.re;let hl:↑(us++[])=↑ps:=by rw[c8,<-↑r];exact F.len _ _ _ _ q
  let U:=hb s1 us S.Ai hl;rw[c8]at U;refine uY (kx (F.run X.A X.stack s1 H1 #[us,[]] us vs _ _ hr S.Tu U r q) λr s' Y=>?_);cases r with
  |ok L=>
   cases L with
   |ret u=>
    let#[v,G,y,rv,q2]:=S.after Y;exact tK y hN hi hix rv (λs3 I3=>lO (lO #[_,G,I3,q2])) hf
   |next=>exact dJ Y
   |brk=>exact dJ Y
   |cont=>exact dJ Y
  |error ev=>
   let#[e,dx,T,G,hev,hos,hgn,un,fm,d,x1,hT,hTn,dx',Z,qs]:=Y;subst hev;cases Z;let y:=S.Pt (ch:=[]) hos un fm hgn (λb z=>ae z sP);let#[t0,t1,t2,t3]:=Sd S hT;refine V5 (aD:=X.aD) (outer:=X.outer) (by rw[<-hex];exact y.ok.frames) (by rw[<-hex];exact y.stack) P x1 λh3 T3 y1 y2 y3 y4=>?_;let#[vs3,y0]:=y1.exc;let hT3:G T3=none:=y.fm.fresh y2;let F3:Flt (X.env.locals::X.fs) [T,e,T3] s'.heap h3:=(y3.mono (λb m=>(YH b).mp (by rw[hex];exact m)) λb m=>by
    obtain rfl|m:=aE.mp m
    .exact aZ
    .obtain rfl|m:=aE.mp m
     .exact aR _ aZ
     .cases m)
   let I3:Inv X aB σ G {s' with heap:=h3}:=Inv.F9 (T:=T) y F3 (λb m=>by
    obtain rfl|m:=aE.mp m
    .exact .inr (.inr rfl)
    .obtain rfl|m:=aE.mp m
     .let#[o,g,_]:=y0;exact .inl #[_,d,o,g]
     .obtain rfl|m:=aE.mp m
      .exact .inr (.inl y2)
      .cases m) y4 t0 t1 t2 t3 (by
    let z:=AA y.fm y3 (λb m=>y.xD b<|by rw[hex];exact m) (λb m=>?_) y0 d
    .rw[K3 d]at z;exact z
    .obtain rfl|m:=aE.mp m
     .exact .inr hTn
     .obtain rfl|m:=aE.mp m
      .exact .inl rfl
      .cases m)
   let#[u0,u1,u2,u3]:=Sd y y2;let land:∀{s4:bq}{A':dZ}{Q':Unit->bq->Prop}{E':Value->bq->Prop}{L:Value},Inv X aB σ G s4->vM s4.heap e C dx T3 L->
     (∀s5,Inv X aB σ G s5->vM s5.heap e C dx T3 .none->Q' () s5)->bj (model X.prog X.w) A' (Oh (.ref e) none) Q' E' s4:=λ{s4 A' Q' E' L} J z1 k=>by
    refine JU z1 λh5 z2 z3=>?_;let#[vs5,z0]:=z2.exc;let#[vs6,oT,ts6,_,_,_,gT,_,_]:=id z2;let F5:Flt (X.env.locals::X.fs) [T3] s4.heap h5:=z3.mono (λ_ m=>by cases m) λ_ m=>m;refine k _ (Inv.F9 (T:=T3) J F5 (λb m=>?_) #[oT,gT] u0 u1 u2 u3 ?_) z2
    .obtain rfl|m:=aE.mp m
     .exact .inr (.inr rfl)
     .cases m
    .let z:=AA J.fm z3 (λb m=>by cases m) (λb m=>?_) z0 d
     .rw[K3 d]at z;exact z
     .obtain rfl|m:=aE.mp m
      .exact .inr hT3
      .cases m
   refine land I3 y1 λs4 I4 z1=>?_;let#[nm,q',bs,sn,sub,ab,col,dd,k0,k1,k2,k3,k5,lk]:=c.obj;refine P' (qL (X:=XF.V1 X e) (XF.Inv.V1 I4 e) hgc hmc #[rfl,I4.Ai _ _ lk,?_,?_] hdc)
   .let#[vs4,o4,g4,c4,_]:=z1.exc;exact#[o4,g4,c4]
   .refine land I4 z1 λs5 I5 _=>?_;refine tK (X:=XF.V1 X e) (XF.Inv.V1 I5 e) hN hj (lX O) (v:=V.ref e) rfl (λs6 I6=>?_) hfn;refine gN (hsu e aB s6 _ G _ I6<|qs e d) λL s7 M=>?_;cases L with
    |next=>
     let#[_,_,_,z]:=M;exact z.elim
    |brk=>
     let#[_,_,_,z]:=M;exact z.elim
    |cont=>
     let#[_,_,_,z]:=M;exact z.elim
    |ret u=>
     let#[v,σ7,H7,I7,rv,M]:=M;let J7:Inv X aB σ7 H7 s7:=Inv.aev I.ok I7;let#[m7,n7,_]:=id J7.loc;refine wpAny_nameGoes O n7 (by rw[J7.ok.kind];rfl) λh8 m8 n8 sb=>?_;exact#[v,cp ↑X.N none,H7,Inv.gone J7 n8 sb,rv,M]
end
end XF
namespace Cr
open PySem PySem.Spec PyProof.Rows L2 XF
def top(i:Nat):Stmt:=VD.main.body.getD i (.Pass #[0,0,0,0])
abbrev Ei:Stmt:=top 2
abbrev rB:Stmt:=top 3
abbrev w8:Stmt:=top 4
abbrev tG:Stmt:=top 5
abbrev p8:Stmt:=top 6
abbrev zu:Stmt:=top 7
abbrev xm:Stmt:=top 8
abbrev w6:Stmt:=top 9
abbrev lj:Stmt:=inClass (top 11) 0
abbrev o5:Stmt:=inClass (top 19) 0
abbrev uN:Stmt:=inClass (top 20) 0
abbrev tm:Stmt:=inClass (top 20) 1
abbrev uO:Stmt:=inClass (top 20) 2
abbrev mE:Stmt:=inClass (top 20) 3
abbrev o_:Stmt:=top 21
abbrev zz:Stmt:=top 22
abbrev B8:Stmt:=top 23
abbrev zx:Stmt:=top 24
abbrev zy:Stmt:=top 25
abbrev wU:Stmt:=inClass (top 35) 0
abbrev Mj:Stmt:=top 36
abbrev zt:Stmt:=top 37
abbrev B6:Stmt:=top 38
abbrev Q9:Stmt:=top 39
abbrev Q_:Stmt:=top 40
abbrev xt:Stmt:=top 41
abbrev B9:Stmt:=top 42
abbrev xj:Stmt:=top 43
abbrev tD:Stmt:=top 44
abbrev xu:Stmt:=top 45
abbrev tj:Stmt:=inClass (top 48) 0
abbrev tE:Stmt:=top 49
abbrev uP:Stmt:=top 50
abbrev uQ:Stmt:=top 51
abbrev wY:Stmt:=top 52
abbrev tp:Stmt:=top 53
abbrev Ef:Stmt:=top 54
abbrev B7:Stmt:=top 55
abbrev Q8:Stmt:=top 56
abbrev zr:Stmt:=top 58
abbrev uR:Stmt:=top 59
abbrev xb:Stmt:=top 60
abbrev uS:Stmt:=top 61
abbrev tH:Stmt:=top 62
abbrev uM:Stmt:=inClass (top 66) 0
abbrev wZ:Stmt:=top 67
abbrev p9:Stmt:=top 68
abbrev rA:Stmt:=top 69
abbrev Eh:Stmt:=top 70
abbrev Ig:Stmt:=top 71
abbrev p_:Stmt:=top 72
abbrev Ml:Stmt:=top 73
abbrev p4:Stmt:=top 74
abbrev mX:Stmt:=top 75
abbrev rq:Stmt:=top 76
abbrev Ej:Stmt:=top 77
abbrev rC:Stmt:=top 81
abbrev wX:Stmt:=top 82
abbrev mY:Stmt:=top 83
abbrev w_:Stmt:=top 88
abbrev fH:Stmt:=top 89
abbrev rD:Stmt:=top 90
abbrev zw:Stmt:=top 91
abbrev xq:Stmt:=top 92
abbrev tF:Stmt:=top 93
abbrev wW:Stmt:=top 94
abbrev o9:Stmt:=top 95
abbrev tu:Stmt:=top 96
abbrev wV:Stmt:=top 97
abbrev zp:Stmt:=inClass (top 113) 0
abbrev zo:Stmt:=inClass (top 114) 0
abbrev yz:Stmt:=top 115
abbrev zq:Stmt:=top 116
abbrev Mi:Stmt:=top 117
abbrev Eg:Stmt:=top 118
abbrev s_load:Stmt:=top 119
abbrev Mm:Stmt:=top 120
abbrev tw:Stmt:=top 121
abbrev xr:Stmt:=top 122
abbrev o6:Stmt:=top 123
abbrev w9:Stmt:=top 124
abbrev Wf:Stmt:=top 125
abbrev Mo:Stmt:=top 126
abbrev Mn:Stmt:=top 127
abbrev Ih:Stmt:=top 128
abbrev Q6:Stmt:=top 129
abbrev Ie:Stmt:=top 130
abbrev Q7:Stmt:=top 131
def Good(P:a7)(w:bS)(K:ao)(mg:Str->Option Value)(aD:Heap)(CX:OI)(k:Nat)(x:Str)(ps:List Str)(sp:Sp):Prop:=
 ∃f fd,mg x>.ref f/\db K (.ref f)=true/\Binds K fd ps []/\j4 P w K mg aD CX k f fd ps sp
structure iW(K:ao)(mg:Str->Option Value)(x:Str)(st:Stmt)(f:Addr)(fd:ow):Prop where
 fn:xW K x x st f fd
 at_:mg x>.ref f
def YL(sp:Sp)(E:XK)(t:TA):TE:=λa H Q=>t a H λvs H1=>sp vs H1 Q E
section
variable{X:Cx}{CX:OI}{k:Nat}{ps:List Str}{sp:Sp}{E:XK}{x:Str}{p pos:Pos}{e:fU}{es:List fU}{t:TA}
def pc(G:Good X.prog X.w X.K X.mg X.aD CX k x ps sp)(c:i7 k X.A)(d:mQ CX X E)(g:PA X (e::es) t)(i:Gl X x:=by rfl)
  (a:(x==("__debug__":Str))=false:=by decide)(he:bi (e::es) X.env=(false,eval e X.env)::bi es X.env:=by rfl)(b:(gW pos<|bi es X.env).any (·.1)=false:=by rfl):
  PE X (.Call (.Name x p) (e::es) [] pos) (YL sp E t):=by
 let#[f,fd,hm,j,l,F]:=G;let z:PE X (.Call (.Name x p) (e::es) [] pos) (Wt sp [] E t):=Uj F c i hm j l .nil d g a he b;intro aB s n H Q I h;refine z aB s n H Q I ?_;show t n H λvs H1=>sp (vs++[]) H1 Q E;let m:(λvs H1=>sp (vs++[]) H1 Q E)=λvs H1=>sp vs H1 Q E:=gR;rw[m];exact h
def p0{k':Nat}(G:Good X.prog X.w X.K X.mg X.aD dO k x ps sp)(hr:i7 k' X.A)(ha:PA X (e::es) t)(hk:k<=k':=by decide)(hg:Gl X x:=by rfl)(hdb:(x==("__debug__":Str))=false:=by decide)(he:bi (e::es) X.env=(false,eval e X.env)::bi es X.env:=by rfl)(NB:(gW pos (bi es X.env)).any (·.1)=false:=by rfl):
  PE X (.Call (.Name x p) (e::es) [] pos) (YL sp E0 t):=pc G (hr.mono hk) wO ha hg hdb he NB
end
section
variable{P:a7}{w:bS}{K:ao}{mg:Str->Option Value}{aD:Heap}
def KF(g:Int->Bool):Sp:=λvs H Q _=>∃b,vs=[.int b]/\Q (.bl<|g b) H
end
section
variable{P:a7}{w:bS}{K:ao}{mg:Str->Option Value}{aD:Heap}{C:Addr}{x q:Str}{st:Stmt}{f:Addr}{fd:ow}{ps:List Str}{k:Nat}{sp:Sp}
def _root_.L2.xW.gk(F:xW K x q st f fd)(N:List Str)(b:∀(a:Value)(A:dZ)(outer:List Env)(s:bq)(H:Hp)(vs:List V)(Q:VK)(E:XK),N.Nodup->i7 k (A.deeper<|oS q (dH st) s.heap.objs.size f a)->sp vs H Q E->
   ∃t,DD (C7 dO P w K mg aD N q (dH st) f a A outer s H E).Ub (ij st) t/\t {nx:=λ_ c=>Q .fP c,rt:=Q} (start N vs) H)
  (S:m_ N ps (dH st):=by exact#[rfl,rfl,rfl,dK,rfl,dK,dK])(len:∀vs H Q E,sp vs H Q E->↑vs=↑ps:=by(intro vs H Q E h;(repeat have#[_,h]:=h);subst_vars;rfl)):j4 P w K mg aD dO (k+1) f fd ps sp:=
 F.ok S len λa A outer s H vs Q E d h=>b a A outer s H vs Q E S.nd d h
def _root_.L2.xW.gkX(F:xW K x q st f fd)(N:List Str)(b:∀(a:Value)(A:dZ)(outer:List Env)(s:bq)(H:Hp)(vs:List V)(Q:VK)(E:XK),N.Nodup->i7 k (A.deeper<|oS q (dH st) s.heap.objs.size f a)->sp vs H Q E->
   ∃t,DD (Zr P w K mg aD N q (dH st) f C a A outer s H E) (ij st) t/\t {nx:=λ_ c=>Q .fP c,rt:=Q} (start N vs) H)
  (S:m_ N ps (dH st):=by exact#[rfl,rfl,rfl,dK,rfl,dK,dK])(len:∀vs H Q E,sp vs H Q E->↑vs=↑ps:=by(intro vs H Q E h;(repeat have#[_,h]:=h);subst_vars;rfl)):j4 P w K mg aD (nG P w C) (k+1) f fd ps sp:=
 okX F S len λa A outer s H vs Q E d h=>b a A outer s H vs Q E S.nd d h
def iW.gd(h:iW K mg x st f fd)(N:List Str)(c:∀(a:Value)(A:dZ)(outer:List Env)(s:bq)(H:Hp)(vs:List V)(Q:VK)(E:XK),N.Nodup->i7 k (A.deeper<|oS x (dH st) s.heap.objs.size f a)->sp vs H Q E->
   ∃t,DD (C7 dO P w K mg aD N x (dH st) f a A outer s H E).Ub (ij st) t/\t {nx:=λ_ g=>Q .fP g,rt:=Q} (start N vs) H)
  (S:m_ N ps (dH st):=by exact#[rfl,rfl,rfl,dK,rfl,dK,dK])(len:∀vs H Q E,sp vs H Q E->↑vs=↑ps:=by(intro vs H Q E h;(repeat have#[_,h]:=h);subst_vars;rfl))
  (b:∀(kV doc pm:Value)(an:Option Addr)(a ct:Value)(us:List Value),↑us=↑ps->CI (f8 x x (kY st) (ij st) (dH st) .none kV doc pm an a ct) #[us,[]]=pure (ps.zip us):=by(intro _ _ _ _ _ _ us d;first|exact(match us,d with|[_],_=>rfl)|exact(match us,d with|[_,_],_=>rfl)|exact(match us,d with|[_,_,_],_=>rfl)|exact(match us,d with|[_,_,_,_],_=>rfl))):Good P w K mg aD dO (k+1) x ps sp:=
 #[f,fd,h.at_,h.fn.kp,h.fn.binds b,h.fn.gk N c S len]
def iW.JG(h:iW K mg x st f fd)(N:List Str)(c:∀(a:Value)(A:dZ)(outer:List Env)(s:bq)(H:Hp)(vs:List V)(Q:VK)(E:XK),N.Nodup->i7 k (A.deeper<|oS x (dH st) s.heap.objs.size f a)->sp vs H Q E->
   ∃t,DD (Zr P w K mg aD N x (dH st) f C a A outer s H E) (ij st) t/\t {nx:=λ_ g=>Q .fP g,rt:=Q} (start N vs) H)
  (S:m_ N ps (dH st):=by exact#[rfl,rfl,rfl,dK,rfl,dK,dK])(len:∀vs H Q E,sp vs H Q E->↑vs=↑ps:=by(intro vs H Q E h;(repeat have#[_,h]:=h);subst_vars;rfl))
  (b:∀(kV doc pm:Value)(an:Option Addr)(a ct:Value)(us:List Value),↑us=↑ps->CI (f8 x x (kY st) (ij st) (dH st) .none kV doc pm an a ct) #[us,[]]=pure (ps.zip us):=by(intro _ _ _ _ _ _ us d;first|exact(match us,d with|[_],_=>rfl)|exact(match us,d with|[_,_],_=>rfl)|exact(match us,d with|[_,_,_],_=>rfl)|exact(match us,d with|[_,_,_,_],_=>rfl))):Good P w K mg aD (nG P w C) (k+1) x ps sp:=
 #[f,fd,h.at_,h.fn.kp,h.fn.binds b,h.fn.gkX N c S len]
end
def GoodC(P:a7)(w:bS)(K:ao)(mg:Str->Option Value)(aD:Heap)(k:Nat)(x:Str)(C:Addr)(ps:List Str)(sp:Sp):Prop:=
 ∃f fd,mg x>.ref C/\Mk K C f/\Binds K fd ps []/\j4 P w K mg aD dO k f fd ps sp
def YS(C:Addr)(sp:Sp)(t:TA):TE:=λa H Q=>t a H λvs H1=>∀x dx,H1 x=none->H1 dx=none->dx≠x->
 sp (.ref x::vs) (upd (upd H1 dx<|.own x) x (.ins C dx [])) (λv H2=>v=.fP/\Q (.ref x) H2) L2.E0
theorem YT(C)(sp)(t:TA):∀c H Q,YS C sp t c H Q=(t c H λvs H1=>∀x a,H1 x=none->H1 a=none->a≠x->
 sp (.ref x::vs) (upd (upd H1 a<|.own x) x (.ins C a [])) (λv b=>v=.fP/\Q (.ref x) b) L2.E0):=λ_ _ _=>rfl
section
variable{X:Cx}{k:Nat}{ps:List Str}{sp:Sp}{x:Str}{C:Addr}{p pos:Pos}{e:fU}{es:List fU}{t:TA}
def Us(G:GoodC X.prog X.w X.K X.mg X.aD k x C ps sp)(c:i7 (k+1) X.A)(d:PA X (e::es) t)(g:Gl X x:=by rfl)
  (a:(x==("__debug__":Str))=false:=by decide)(he:bi (e::es) X.env=(false,eval e X.env)::bi es X.env:=by rfl)(b:(gW pos<|bi es X.env).any (·.1)=false:=by rfl):
  PE X (.Call (.Name x p) (e::es) [] pos) (YS C sp t):=by
 let#[f,fd,hm,M,i,F]:=G;let z:PE X (.Call (.Name x p) (e::es) [] pos) (zC C sp [] L2.E0 t):=Um M F c g hm i .nil wO d a he b;intro aB s l H Q I h;refine z aB s l H Q I ?_;let j:zC C sp [] L2.E0 t l H Q=YS C sp t l H Q:=by delta zC YS;congr 1;funext vs H1;rw[c8]
 rw[j];exact h
end
structure fW(K:ao)(C:Addr)(fs:List Str):Prop where
 cl:IF K C
 no:∀f∈fs,nU K C f
section
variable{P:a7}{w:bS}{K:ao}{h:Heap}{mg:Str->Option Value}
def Ci(K:ao)(x:Str)(n:Int):Prop:=∃t,cu K cV x>(some<|.int n t)
def Ci.of(a:cu K cV x>(some<|.int n t)):Ci K x n:=#[t,a]
def Ci.Xy(c:Ci K x n)(X:K.In h)(G:h.Ns cV mg):∃t,mg x>.int n t:=let#[t,a]:=c;#[t,fY X G a]
def Ct(K:ao)(x:Str)(xs:List V):Prop:=∃t o lL n,cu K cV x>(some<|.ref t)/\K.lookup t>o/\o.cls=.type "tuple"/\o.data=.seq lL n/\lL.size<=sizeLine/\Vals xs lL.toList
def Ct.of(a:cu K cV x>(some<|.ref t))(l:K.lookup t>#[.type "tuple",d,.seq b n,c])(z:b.size<=sizeLine)(v:Vals xs b.toList):Ct K x xs:=#[t,_,b,n,a,l,rfl,rfl,z,v]
def Ct.Xy(c:Ct K x xs)(X:K.In h)(G:h.Ns cV mg):∃t,mg x>.ref t/\∀H,f9 K H t xs:=let#[t,o,b,n,a,l,d,e,z,v]:=c;#[t,fY X G a,λ_=>.inr #[o,b,n,l,d,e,z,v]]
def Tz(F:xW K "answers" "answers" yz f fd):∀s us,↑us=↑(["calls"]:List Str)->F_ s fd #[us,[]] ((["calls"]:List Str).zip us):=by obtain⟨d,od,kV,doc,pm,an,a,ct,b,rfl,_⟩:=F.ex;exact λs us c=>match us,c with|[_],_=>.of_eq rfl
def Dn(K:ao)(x:Str)(st:Stmt):Prop:=∃f fd,cu K cV x>(some<|.ref f)/\xW K x x st f fd
def Dn.of{st:Stmt}{kV doc pm b ct:Value}(a:cu K cV x>(some<|.ref f))(l:K.lookup f>#[e,od,.func<|f8 x x (kY st) (ij st) (dH st) .none kV doc pm an b ct,d])
  (c:jG K b x=true)(k:db K (.ref f)=true):Dn K x st:=#[f,_,a,Fc l c k]
def Dn.has{st:Stmt}(d:Dn K x st)(X:K.In h)(G:h.Ns cV mg):∃f fd,iW K mg x st f fd:=let#[f,fd,a,F]:=d;#[f,fd,F,fY X G a]
def Im(K:ao)(C:Addr)(m q:Str)(st:Stmt):Prop:=∃f fd,xW K m q st f fd/\Meth K C m f
def Im.of{C:Addr}{m q:Str}{st:Stmt}{f:Addr}{d:Array (Option Value)}{kV doc pm b ct:Value}(a:cK K (.ref C) m>(some<|.ref f))(i:mT K (.ref f)=true)(l:K.lookup f>#[e,od,.func<|f8 m q (kY st) (ij st) (dH st) .none kV doc pm an b ct,d])
  (c:jG K b q=true)(k:db K (.ref f)=true):Im K C m q st:=#[f,_,Fc l c k,a,i,k]
def Im.fn{C:Addr}{m q:Str}{st:Stmt}(i:Im K C m q st):∃f fd,xW K m q st f fd/\Meth K C m f:=i
def fc2(c:iT K C Gq=true)(hd:ju K C=true)(po:kQ K C=true)(d:cK K (.ref C) "__setattr__">(some<|.builtin "object.__setattr__"))(e:cK K (.ref C) a>none)(g:cK K (.ref C) b>none):fW K C [a,b]:=
 #[#[c,hd,po,d],λf hf=>by simp only[aE,cN,or_false]at hf;obtain rfl|rfl:=hf<;>assumption]
def fc3(d:iT K C Gq=true)(hd:ju K C=true)(po:kQ K C=true)(e:cK K (.ref C) "__setattr__">(some<|.builtin "object.__setattr__"))(g:cK K (.ref C) a>none)(i:cK K (.ref C) b>none)(j:cK K (.ref C) c>none):fW K C [a,b,c]:=
 #[#[d,hd,po,e],λf hf=>by simp only[aE,cN,or_false]at hf;obtain rfl|rfl|rfl:=hf<;>assumption]
def fc4(e:iT K C Gq=true)(hd:ju K C=true)(po:kQ K C=true)(g:cK K (.ref C) "__setattr__">(some<|.builtin "object.__setattr__"))(i:cK K (.ref C) a>none)(j:cK K (.ref C) b>none)(l:cK K (.ref C) c>none)(m:cK K (.ref C) d>none):fW K C [a,b,c,d]:=
 #[#[e,hd,po,g],λf hf=>by simp only[aE,cN,or_false]at hf;obtain rfl|rfl|rfl|rfl:=hf<;>assumption]
def JS(e:ML):Bool:=match e.key with|.str _ _=>true|_=>false
def abm{N:Addr}{oN:Value}{dN:Option Addr}{eN:Array ML}{nN:Nat}{sN:Array (Option Value)}(xn:K.lookup N>#[oN,dN,.dict eN nN,sN])(xa:eN.toList.all JS=true):At K N=true:=by delta At;rw[xn];simp only[];rw[<-Array.all_toList];rw[eZ]at xa|-;intro e he;let:=xa e he;revert this;delta JS;cases e.key<;>simp
def YZ(t:∀d∈recsOf q,∃a o fd c P,mg d.name>.ref a/\h.get? a>o/\o.data=.func fd/\fd.code=.ref c/\h.IsCode c P #[]/\h.TableAt c P #[])(e:((recsOf q).any λd=>decide<|d.name=x)=true):∃a o fd c P,mg x>.ref a/\h.get? a>o/\o.data=.func fd/\fd.code=.ref c/\h.IsCode c P #[]/\h.TableAt c P #[]:=by let#[d,hd,e]:=qr.mp e;let e:=ai e;subst e;exact t d hd
abbrev Nn(K:ao)(x:Str):Prop:=cu K cV x>none
inductive iz(K:ao):Prop
 |mk(CT CR CS CD CL CH CC CF N fI cB PT:Addr)(xC:cu K cV "Fault">some (.ref CF))(xo:K.lookup CF>io nm q CF N bs Sl true sn sub ab col dd k0 k1 k2 k3 k5 "Exception.__new__")(xn:K.lookup N>#[oN,dN,.dict eN nN,sN])(xa:eN.toList.all JS=true)(xi:cu K N "__init__">some (.ref fI))(xs:cu K N "__setattr__">none)(xg:cu K N "__getattribute__">none)(xh:cu K N "__getattr__">none)(xf:mT K (.ref fI)=true)(xk:db K (.ref CF)=true)(xc:cu K N "code">none)(xp:cu K N "place">none)(xl:K.lookup fI>#[oc2,od2,.func (f8 "__init__" "Fault.__init__" (kY lj) (ij lj) (dH lj) .none kV2 dc2 pm2 an2 cd2 ct2),sl2])(xcd:jG K cd2 "Fault.__init__"=true)(xkf:db K (.ref fI)=true)(ba:cu K cV "by_middles">some (.ref fB))(bl:K.lookup fB>#[ocB,odB,.func (f8 "by_middles" "by_middles" (kY fH) (ij fH) (dH fH) .none kVB dcB pmB anB (.ref cB) ctB),slB])(bc:jG K (.ref cB) "by_middles"=true)(bk:db K (.ref fB)=true)(bo:K.lookup cB>#[ocC,odC,.fields vsC,slC])(b11:vsC[11]?>.ref PT)(nPT:K.lookup PT=none)(Z:Nn K "len"/\Nn K "max"/\Nn K "min"/\Nn K "sum"/\Nn K "ord"/\Nn K "sorted"/\Nn K "str"/\Nn K "list"/\Nn K "tuple"/\Nn K "range"/\Nn K "enumerate"/\Nn K "zip"/\Ci K "MOST_TRIED" 10/\Ci K "LINE_FEED" 10/\Ci K "REMARK" 35/\Ci K "ZERO" 48/\Ci K "LONGEST_NAME" 16/\Ci K "GREATEST_NUMBER" 1000000000/\Ct K "BLANKS" [.int 9,.int 10,.int 32]/\Nn K "set"/\Ct K "WORDS" [.str "box",.str "edge",.str "above",.str "group"]/\Ct K "SIGNS" [.str "{",.str "}",.str ";",.str ":",.str "->"]/\Ci K "MOST_BOXES" 24/\Ci K "MOST_EDGES" 40/\Ci K "MOST_WISHES" 16/\Ci K "WIDEST" 30/\Ci K "LOWEST" 3/\Ci K "HIGHEST" 9/\Ci K "LONGEST_TEXT" 4096/\Ci K "BOX" 0/\Ci K "PASSING" 1/\Ci K "ABOVE" 0/\Ci K "BELOW" 1/\Ci K "DOWN" 0/\Ci K "UP" 1/\Ci K "ROUNDS_TO_SETTLE" 4/\Ci K "LOAD" 0/\Ci K "SHOWN" 1/\Ci K "RANK" 2/\Ci K "CROSSINGS" 3/\Ci K "PAIRS" 4/\Ci K "PUT" 5/\Ci K "SWEEP" 6/\Ci K "SWAPS" 7/\Ci K "SETTLE" 8/\Ci K "ANEW" 9/\Ci K "MIDDLE" 10/\Ct K "NUMBERS_OF_CALL" [.int 0,.int 0,.int 1,.int 0,.int 1,.int 1,.int 1,.int 0,.int 0,.int 0,.int 3,.int 1]/\Ct K "ROWS_OF_CALL" [.int 1,.int 0,.int 0,.int 0,.int 0,.int 1,.int 0,.int 0,.int 0,.int 0,.int 0,.int 0]/\Ci K "MOST_PLACES_FOR_BEST" 6/\True)(D:Dn K "answers" yz/\Dn K "all_crossings" rq/\Dn K "all_orders" wV/\Dn K "anew" Q6/\Dn K "answer_to" zq/\Dn K "arcs_of" Ef/\Dn K "asked" Mi/\Dn K "best" Q7/\Dn K "best_order" wW/\Dn K "both_sides" wX/\Dn K "box_numbers" uP/\Dn K "box_ranks" zr/\Dn K "changed" Eg/\Dn K "channel_count" rA/\Dn K "channel_crossings" mX/\Dn K "check_ends" wY/\Dn K "check_names" uQ/\Dn K "check_wishes" tp/\Dn K "closes_circle" rB/\Dn K "codes" Mj/\Dn K "count_crossings" o6/\Dn K "cross" Ml/\Dn K "crossing_pairs" p4/\Dn K "crossings_between" mY/\Dn K "crossings_of" tu/\Dn K "crossings_table" o9/\Dn K "edges_not_kept" p8/\Dn K "first_ranks" uR/\Dn K "first_rows" wZ/\Dn K "going_down" w6/\Dn K "has_circle" w8/\Dn K "is_digit" B6/\Dn K "is_letter" zt/\Dn K "item_on" Eh/\Dn K "least_set" zu/\Dn K "line" Q8/\Dn K "list_pairs" w9/\Dn K "load" s_load/\Dn K "make_pass" zw/\Dn K "make_sweep" w_/\Dn K "middle" Ie/\Dn K "move_boxes" xb/\Dn K "name_token" xj/\Dn K "neighbours_on" rC/\Dn K "no_such_rank" tw/\Dn K "number_token" tD/\Dn K "one_form" B7/\Dn K "one_larger" xm/\Dn K "pass_along" xq/\Dn K "passing_places" p9/\Dn K "pieces" Ig/\Dn K "places_by_item" p_/\Dn K "put" Wf/\Dn K "rank_items" xr/\Dn K "reached" Ei/\Dn K "read_box" B8/\Dn K "read_diagram" tE/\Dn K "read_edge" zx/\Dn K "read_statements" o_/\Dn K "read_wish" zy/\Dn K "remark_end" xt/\Dn K "reorder" Ej/\Dn K "scan" Q9/\Dn K "settle" Ih/\Dn K "settle_order" tF/\Dn K "shown" Mm/\Dn K "sign_token" xu/\Dn K "skip" Q_/\Dn K "swaps" Mn/\Dn K "sweep" Mo/\Dn K "take_word" zz/\Dn K "token_at" B9/\Dn K "turned_edges" tG/\Dn K "wanted_rank" uS/\Dn K "whole_middles" rD/\Dn K "without_gaps" tH/\True)(nToken:cu K cV "Token">some (.ref CT))(cT:fW K CT ["kind","value","place","behind"])(wToken:gU K CT=true)(vToken:db K (.ref CT)=true)(iToken:Im K CT "__init__" "Token.__init__" wU)(nReader:cu K cV "Reader">some (.ref CR))(cR:fW K CR ["tokens","at"])(wReader:gU K CR=true)(vReader:db K (.ref CR)=true)(iReader:Im K CR "__init__" "Reader.__init__" uN)(nStatements:cu K cV "Statements">some (.ref CS))(cS:fW K CS ["boxes","edges","wishes"])(wStatements:gU K CS=true)(vStatements:db K (.ref CS)=true)(iStatements:Im K CS "__init__" "Statements.__init__" o5)(nDiagram:cu K cV "Diagram">some (.ref CD))(cD:fW K CD ["boxes","edges","labels","wishes"])(wDiagram:gU K CD=true)(vDiagram:db K (.ref CD)=true)(iDiagram:Im K CD "__init__" "Diagram.__init__" tj)(nLayout:cu K cV "Layout">some (.ref CL))(cL:fW K CL ["edges","ranks","rows"])(wLayout:gU K CL=true)(vLayout:db K (.ref CL)=true)(iLayout:Im K CL "__init__" "Layout.__init__" uM)(nHeld:cu K cV "Held">some (.ref CH))(cH:fW K CH ["diagram","layout"])(wHeld:gU K CH=true)(vHeld:db K (.ref CH)=true)(iHeld:Im K CH "__init__" "Held.__init__" zp)(nCall:cu K cV "Call">some (.ref CC))(cC:fW K CC ["number","numbers","row","behind"])(wCall:gU K CC=true)(vCall:db K (.ref CC)=true)(iCall:Im K CC "__init__" "Call.__init__" zo)(i_ahead:Im K CR "ahead" "Reader.ahead" tm)(i_take:Im K CR "take" "Reader.take" uO)(i_take_within:Im K CR "take_within" "Reader.take_within" mE):iz K
abbrev ld(r:PySem.W.OpenSpec)(q:a7)(Y:bS->Heap->Prop)(d:DefRec):Prop:=∃K:Params->ao,d.params.defaults=[]/\d.name="answers"/\(∀w h,Y w h->(K w.params).In h)/\((recsOf q).any λd=>decide<|d.name="by_middles")=true/\∀w:bS,iz (K w.params)
def mt:Prop:=∀q l X Y d,ld VE q Y d->PySem.W.WalkOS q l X Y VE d [] λf vs=>PySem.call f vs
end
end Cr
end
section
local macro_rules | `(tactic| refine $f:ident $xs*) => do if xs.size != 23 then Lean.Macro.throwUnsupported else let y : Lean.TSyntax `term := ⟨xs[22]!.raw⟩; `(tactic| refine ($f $(xs.pop)* ((by assumption : Cr.mt) _ _ _ _ _ $y)))
open PySem PySem.W PyProof.Rows
set_option maxHeartbeats 0 in
theorem Cr.Tm : VE.wellSaid = true := by decide +kernel
set_option maxHeartbeats 0 in
theorem Cr.KK (H : Cr.mt) : VE.Holds := by
 have := Cr.Tm
 w_on; k_headS; (case hw => exact ⟨[.list [.int 3]], by decide +kernel, by decide +kernel⟩)
 k_fillS
 refine ⟨_, rfl, rfl, fun w h Y => kIn_of Y, by decide +kernel, fun w => ?_⟩
 apply Cr.iz.mk
 (case xC|xo|xn|xi|xs|xg|xh|xf|xk|xc|xp|xl|xcd|xkf|ba|bl|bc|bk|bo|nToken|nReader|nStatements|nDiagram|nLayout|nHeld|nCall|wToken|wReader|wStatements|wDiagram|wLayout|wHeld|wCall|vToken|vReader|vStatements|vDiagram|vLayout|vHeld|vCall => k_is)
 (case xa|b11|nPT => rfl)
 (case Z => (repeat (refine' ⟨?z, ?_⟩; (case z => first | (refine' Cr.Ci.of ?va; (case va => k_is)) | (refine' Cr.Ct.of ?va ?vl ?vz ?vv; (case va|vl => k_is); (case vz => exact (by decide)); (case vv => exact (by repeat' constructor))) | (unfold Cr.Nn; k_is)))); trivial)
 (case D => (repeat (refine' ⟨?z, ?_⟩; (case z => refine' Cr.Dn.of ?va ?vl ?vc ?vk; (case va|vl|vc|vk => k_is)))); trivial)
 (case cT|cD|cC => refine' Cr.fc4 ?_ ?_ ?_ ?_ ?_ ?_ ?_ ?_ <;> k_is)
 (case cR|cH => refine' Cr.fc2 ?_ ?_ ?_ ?_ ?_ ?_ <;> k_is)
 (case cS|cL => refine' Cr.fc3 ?_ ?_ ?_ ?_ ?_ ?_ ?_ <;> k_is)
 (case iToken|iReader|iStatements|iDiagram|iLayout|iHeld|iCall|i_ahead|i_take|i_take_within => refine' Cr.Im.of ?va ?vi ?vl ?vc ?vk; (case va|vi|vl|vc|vk => k_is))
end
section
local macro_rules | `(↑$x) => `(($x).length)
local macro_rules | `($a > $b) => `($a = some $b)
local macro_rules | `($a > $n:num) => `(GT.gt $a $n)
local macro_rules | `(#[$a,$xs,*]) => `(⟨$a,$xs,*⟩)
local macro_rules | `(#[$a]) => `(⟨$a⟩)
local macro_rules | `(~~~$a) => `(some $a)
local macro_rules | `(tactic| let $d:letDecl) => `(tactic| have $d:letDecl)
local macro_rules | `(tactic| exists $xs,*) => `(tactic| refine ⟨$xs,*, ?_⟩)
local macro_rules | `(tactic| delta $xs* $[$l]?) => `(tactic| unfold $xs* $[$l]?)
namespace Cr
open PySem PySem.Spec PyProof.Rows
def Vq(xs:Array Nat):Prop:=xs.toList.Pairwise (·<·)
structure Aw(l:Bool)(t:SetTable):Prop where
 inc:Vq t.place
 dum:t.dummies=#[]
 led:t.led=l
def Pp(xs)(j)(x:Vq xs):∀f lo g,g-lo<=f->lo<=g->g<=xs.size->(∀i v,i<lo->xs[i]?>v->v<j)->(∀i v,g<=i->xs[i]?>v->j<=v)->
  (∀i v,i<j6 xs j f lo g->xs[i]?>v->v<j)/\(∀i v,j6 xs j f lo g<=i->xs[i]?>v->j<=v)/\j6 xs j f lo g<=xs.size:=by
 let inc:∀(a b:Nat)(v w:Nat),a<b->xs[a]?>v->xs[b]?>w->v<w:=by intro a b v w p y z;obtain⟨q,rfl⟩:=cY.mp y;obtain⟨r,rfl⟩:=cY.mp z;let:=df.mp x a b (by simpa using q) (by simpa using r) p;simpa using this
 intro f;induction f with
 |zero=>
  intro lo g A B m n o;let e:lo=g:=oM;subst e;delta j6;exact#[n,o,m]
 |succ f u=>
  intro lo g A B m n o;delta j6;by_cases c:lo<g
  .rw[ac c];let hm:(lo+g)/2<g:=oM;let C:lo<=(lo+g)/2:=oM;generalize(lo+g)/2=mid at*;let h:mid<xs.size:=oM;let D:xs.getD mid j=xs[mid]:=by simp[Array.getD,h]
   simp only[];rw[D];by_cases d:xs[mid]<j
   .rw[ac d];refine u (mid+1) g oM oM m (λi v s l=>?_) o;by_cases e:i=mid
    .subst e;rw[cM h]at l;injection l with l;omega
    .let:=inc i mid v _ oM l<|cM h;omega
   .rw[aa d];refine u lo mid oM oM oM n<|λi v s l=>?_;by_cases e:i=mid
    .subst e;rw[cM h]at l;injection l with l;omega
    .let:=inc mid i _ v oM (cM h) l;omega
  .rw[aa c];let e:lo=g:=oM;subst e;exact#[n,o,m]
def A3(a:Vq xs)(j):(∀i v,i<d_ xs j->xs[i]?>v->v<j)/\(∀i v,d_ xs j<=i->xs[i]?>v->j<=v)/\d_ xs j<=xs.size:=by
 delta d_;exact Pp xs j a xs.size 0 xs.size oM oM (aI _) (λi v h=>oM) (λi v h e=>by let:=(cY.mp e).1;omega)
def Ah(xs)(p j:Nat)(a:p<=xs.size):(u7 xs p j).toList=xs.toList.take p++j::xs.toList.drop p:=by delta u7;simp[Array.toList_append,List.extract_eq_drop_take];rw[cz sP]
def JQ(d:Vq xs)(l:j∉xs.toList):Vq (u7 xs (d_ xs j) j):=by
 let#[m,h,n]:=A3 d j;delta Vq;rw[Ah _ _ _ n,List.pairwise_append];refine#[rg d,dz.mpr #[λa c=>?_,Y8 d],λa c b f=>?_]
 .let#[i,o,e]:=pf.mp c;let g:xs[d_ xs j+i]?>a:=by rw[<-dv,aq oM];rw[<-e]
  let:=h _ _ oM g;let p:j≠a:=λz=>l<|z▸mO c;omega
 .let#[i,o,e]:=pi.mp c;let g:xs[i]?>a:=by rw[<-dv,aq oM];rw[<-e]
  let q:=m i a oM g;obtain rfl|f:=aE.mp f
  .exact q
  .let#[r,s,u]:=pf.mp f;let v:xs[d_ xs j+r]?>b:=by rw[<-dv,aq oM];rw[<-u]
   let:=h _ _ oM v;omega
def KC(T:Aw l t)(h:t.slot j=.empty):j∉t.place.toList:=by
 intro hm;delta OQ at h;simp only[]at h;let#[g,i,p]:=A3 T.inc j;let#[m,a,e]:=j' hm;let d:t.place[m]?>j:=by rw[<-dv,aq a,e]
 let n:d_ t.place j<=m:=by refine c7 λc=>?_;let:=g m j oM d;omega
 let b:d_ t.place j=m:=by
  refine c7 λc=>?_;let f:d_ t.place j<↑t.place.toList:=oM;let o:t.place[d_ t.place j]?>t.place.toList[d_ t.place j]:=by rw[<-dv,aq f]
  let q:=i _ _ (aI _) o;let r:=df.mp T.inc _ m f a oM;omega
 rw[b,d]at h;simp at h
def KB(T:Aw l t):t.slot j≠.dummy:=by
 delta OQ Pe;rw[T.dum];simp only[];split
 .simp
 .simp
def HR(T:Aw l t)(h):∀a p,p.dummy=none->rK t (λ_=>h+1) h a p=none\/∃j,rK t (λ_=>h+1) h a p>.empty j none/\t.slot j=.empty
 |0,p,_=>.inl rfl
 |a+1,p,b=>by
  delta rK;cases q:t.slot p.j with
  |empty=>exact .inr #[p.j,by rw[b],q]
  |dummy=>exact ae q (KB T)
  |live i=>
   simp only[];rw[aa (by simp;omega)];refine HR T h a _ ?_;delta SetTable.advance;split
   .exact b
   .exact b
def GY(T:Aw l t)(h):t.freeSlot h=none\/∃j,t.freeSlot h>(j,false)/\j∉t.place.toList:=by
 delta SetTable.freeSlot SetTable.probe;obtain e|⟨j,e,a⟩:=HR T h (10*SetTable.turns t.mask) (t.probeStart h) rfl
 .rw[e];exact .inl rfl
 .rw[e];exact .inr #[j,rfl,KC T a]
def qZ(T:Aw l t)(n):Aw l (t.standIn n):=by refine#[?_,rfl,T.led];delta SetTable.standIn Vq;simp only[Array.toList_range];exact gf
def QV(T:Aw l t)(h:j∉t.place.toList):Aw l (t.put j).1:=by delta SetTable.put;refine#[JQ T.inc h,?_,T.led];simp only[T.dum];delta Pe;simp
def NJ(T:Aw l t)(es)(h)(x):Aw l (layNew t es h x).2.1:=by
 delta layNew;obtain e|⟨j,e,a⟩:=GY T h
 .rw[e];exact qZ T _
 .rw[e];simp only[];delta SetTable.orStandIn;split
  .exact QV T a
  .exact qZ (QV T a) _
def C9{g:Type}(f:Nat->Option (Nat×g))(hf:∀j x,f j>x->x.1=j)(n):(((ay n).filterMap f).map (·.1)).Pairwise (·<·):=by rw[fq];refine nJ (R:=λa b=>a<b) _ ?_ gf;intro a b c x d y e;rw[hf a x d,hf b y e];exact c
def H_(T:Aw l t)(es)(wanted:Nat):Aw l (xP t es wanted).2.1:=by
 delta xP;split
 .rename_i t' order a;simp only[];split
  .delta SetTable.relaid SetTable.laid at a;simp only[bind,Option.bind]at a;split at a
   .simp at a
   .rename_i owner _;simp only[pure,gE,ul]at a;obtain⟨rfl,_⟩:=a;refine#[?_,rfl,T.led];delta Vq;simp only[];refine C9 _ (λj x b=>?_) _;cases q:owner.getD j none with
    |none=>rw[q]at b;simp at b
    |some y=>rw[q]at b;simp at b;rw[<-b]
  .exact qZ T _
 .exact qZ T _
def nX(prog:a7)(w:bS)(h:Heap)(a:Addr)(S:Int->Bool)(n:Nat):Prop:=
 ∃o es ep t,h.get? a>o/\o.ExactSet/\o.data=.set es ep t/\OJ (intKind prog w) es.toList/\(∀k,S k=true↔∃e∈es.toList,(intKind prog w).is k e.2=true)
  /\es.size<scanBound/\t.fits es.size=true/\es.size=n/\Aw (!w.params.followText "set-order") t
section
variable{prog:a7}{w:bS}{A:dZ}{E:Value->bq->Prop}{s:bq}
def nX.keep(x:nX prog w h a S n)(k:∀o,h.get? a>o->h'.get? a>o):nX prog w h' a S n:=by let#[o,es,b,t,c,rest]:=x;exact#[o,es,b,t,k o c,rest]
def nX.congr(x:nX prog w h a S n)(e:∀k,S' k=S k)(b:n'=n):nX prog w h a S' n':=by let#[o,es,c,t,d,f,g,i,j,l,m,p,q]:=x;exact#[o,es,c,t,d,f,g,i,λk=>by rw[e];exact j k,l,m,by rw[b];exact p,q]
def HP(T:Aw l t):Aw l {t with plain:=false}:=#[T.inc,T.dum,T.led]
def nX.store{h:Heap}(j:h.get? a>o)(hex:o.ExactSet)(hd:o.data=.set es f t)
   (d:OJ (intKind prog w) b.toList)(c:∀k,S' k=true↔∃e∈b.toList,(intKind prog w).is k e.2=true)(g:b.size<scanBound)(hf:t'.fits b.size=true)
  (T:Aw (!w.params.followText "set-order") t'):
  (h.update a<|Obj.putSet b t').get? a>{o with data:=.set b (f+1) t'}/\nX prog w (h.update a<|Obj.putSet b t') a S' b.size:=by
 let#[i,_]:=SetOf_store (knd:=intKind prog w) j hex hd d c g hf;exact#[i,_,b,f+1,t',i,hex,rfl,d,c,g,hf,rfl,T]
def Gs{g:Bool->Sem Unit}(F:∀b v x,x () v->bj (model prog w) A (g b) x E v)
    (y:s.heap.get? a>o)(hex:o.ExactSet)(hd:o.data=.set es L t)
   (l:OJ (intKind prog w) d.toList)(i:∀p,S' p=true↔∃e∈d.toList,(intKind prog w).is p e.2=true)
  (m:d.size<scanBound)(u:j.fits d.size=true)(T:Aw (!w.params.followText "set-order") j)
  (h:∀h',iG a s.heap h'->nX prog w h' a S' d.size->R (some true) {s with heap:=h'}):
  bj (model prog w) A (do
    storeSet a d j
    if(!f&&j.tooFull)=true then do
      g (xP j d<|iR d.size).2.2
      storeSet a (xP j d<|iR d.size).1 (xP j d<|iR d.size).2.1
      pure (some true)
     else pure (some true)) R E s:=by
 let#[z,H]:=nX.store y hex hd l i m u T;refine aA<|wpAny_storeSet_of y hd ?_<|rP m;by_cases c:(!f&&j.tooFull)=true
 .rw[ac c];let r:=relayAll_perm j d<|iR d.size;let J:=relayAll_fits j d<|iR d.size;let K:=H_ T d<|iR d.size;let B:(xP j d<|iR d.size).1.size=d.size:=by rw[<-dP,r.length_eq,dP]
  let C:(xP j d<|iR d.size).1.size<scanBound:=by rw[B];exact m
  refine aA<|F _ _ _<|aA<|wpAny_storeSet_of z rfl ?_<|rP C;let#[_,D]:=nX.store (prog:=prog) (w:=w) (S':=S') z hex rfl (l.perm r) (λp=>(i p).trans #[λ#[e,he,q]=>#[e,r.mem_iff.mpr he,q],λ#[e,he,q]=>#[e,r.mem_iff.mp he,q]]) C J K;rw[B]at D;exact aU (h _ ((qp s.heap a _).trans (qp _ a _)) D)
 .rw[aa c];exact aU (h _ (qp s.heap a _) H)
def ac6(f:(intKind prog w).is k x=true)(l:x.scannable=true)(Y:nX prog w s.heap a S n)
  (r:n+1<scanBound)
  (h:∀h',iG a s.heap h'->nX prog w h' a (λu=>S u||decide (u=k)) (if S k then n else n+1)->Q (!S k) {s with heap:=h'}):
  bj (model prog w) A (setAddHashed a x<|(intKind prog w).hash k) Q E s:=by
 let#[o,es,Z,t,C,hex,hd,i,g,U,hf,J,T]:=Y;let VS:es.size+1<scanBound:=by rw[J];exact r
 delta setAddHashed setAddHashedIn;refine j0<|aA<|iZ C hd hf ?_;dsimp only;rw[byScan_of l U i,ac rfl];delta setAddByScan;refine aA<|aA<|WA<|aA<|wpAny_setScan_of f C hd hf i ?_;cases hr:List.findIdx? (λe=>(intKind prog w).is k e.2) es.toList with
 |some j=>
  let#[hj,K,_]:=iw.mp hr;let m:S k=true:=(g k).mpr #[es.toList[j],cx hj,K];let z:=h s.heap (Z4 a s.heap) #[o,es,Z,t,C,hex,hd,i,λu=>by rw[g8,decide_eq_true_eq,<-g u];exact#[λq=>q.elim id λe=>e▸m,.inl],U,hf,by rw[m];exact J,T]
  rw[m]at z;let e:s={s with heap:=s.heap}:=by cases s;rfl
  dsimp only;refine aU<|aU ?_;rw[e];exact z
 |none=>
  let m:S k=false:=gR;let c:=layNew_perm t es ((intKind prog w).hash k) x;let d:=layNew_fits t es ((intKind prog w).hash k) x;let D:=NJ T es ((intKind prog w).hash k) x;dsimp only;generalize layNew t es ((intKind prog w).hash k) x=L at c d D|-;let#[F,t1,B,H]:=L;dsimp only at c d D|-;rw[MK]at c;let W:F.size=n+1:=by rw[<-dP,c.length_eq,aW,dP,J];rfl
  let p:∀h',iG a s.heap h'->nX prog w h' a (λu=>S u||decide (u=k)) F.size->Q true {s with heap:=h'}:=gR;let M:∀b N O,O () N->bj (model prog w) A (match b with|true=>rule "set.scan.the-table-gave-way"|false=>pure ()) O E N:=
   λb N O X=>by cases b<;>first|exact aU X|exact WA X
  refine aA<|M H s _ ?_;split
  .refine aA ?_;rw[hashByValue_scannable 8 l];refine aU (Gs M C hex hd ((i.push f l).perm c) (mem_push_iff f g c) oM ?_ ?_ λh' v y=>?_)
   .split
    .exact d
    .exact SetTable.fits_plain_off d
   .split
    .exact D
    .exact HP D
   .dsimp only;exact aU (p h' v y)
  .refine aA<|aU ?_;rw[ac rfl];refine Gs M C hex hd ((i.push f l).perm c) (mem_push_iff f g c) oM d D λh' v y=>?_;dsimp only;exact aU (p h' v y)
end
section
variable{prog:a7}{w:bS}{A:dZ}{R:Result->bq->Prop}{I:Addr}{fp wr:List Addr}{G:Array IG->Array IG->Prop}{n:Nat}{P:Nat->Value->Prop}{St:Nat->bq->Prop}
def Sh(W:WalksS prog w A.in1 I L wr G n P St)(S)(l:S∉L)(val:Nat->Int)(m:∀i v,P i v->∃t,v=.int (val i) t)(g:n+1<scanBound):
  ∀k i s,n-i=k->i<=n->St i s->nX prog w s.heap S (λj=>(ke val i).any (·==j)) ↑(ke val i)->
   (∀a,Moved (S::wr) G s a->nX prog w a.heap S (λj=>(ke val n).any (·==j)) ↑(ke val n)->R (.ok<|.ret .none) a)->
   mK (model prog w) A (.builtin "set.update.loop" #[[.ref S,.ref I],[]]) R s:=by
 let p:S∉wr:=λh=>l<|W.sub _ h;let c:∀b∈wr,b∈S::wr:=λb g=>aR _ g;intro k;induction k with
 |zero=>
  intro i s M N d z B;let C:i=n:=oM;subst C;refine lK pL ?_;rw[jI jt _];show bj _ A.in1 (qj (.ref I)>>=_) _ _ s;refine aA<|W.done s _ _ d λa hm=>?_;show bj _ A.in1 (ret eU) _ _ a;exact aU (B a (hm.mono c) (z.keep λo e=>hm.heap S _ p e))
 |succ k O=>
  intro i s M N d z B;let q:i<n:=oM;refine lK pL ?_;rw[jI jt _];show bj _ A.in1 (qj (.ref I)>>=_) _ _ s;refine aA<|W.item i s _ _ q d λv a Q r hm=>?_;obtain⟨t,rfl⟩:=m i v Q;let D:=z.keep (h':=a.heap) λo e=>hm.heap S _ p e;show bj _ A.in1 (holding [n6 (val i) t] (setAdd S<|.int (val i) t)>>=_) _ _ a;refine aA<|j0 ?_;delta setAdd;refine j0 (aA ((intKind prog w).pyHash (k:=val i) (V2 _ _ _ _) ?_));let f:↑(ke val i)+1<scanBound:=by let:=firstMet_length_le val i;omega
  refine ac6 (s:={a with toks:=a.toks+1}) (V2 _ _ _ _) rfl D f λh' u H=>?_;let J:=H.congr (S':=λj=>(ke val<|i+1).any (·==j)) (n':=↑(ke val<|i+1)) (λj=>by rw[LC,step_any]) (by rw[LC,step_length]);refine aU #[Am jt _,O (i+1) _ oM q (W.frame _ a _ _ r (pJ _) λb g o e=>?_) J λK x y=>?_]
  .rw[u.2 b (λh:b=S=>l<|by rw[<-h];exact g)];exact e
  .refine B K (Moved.trans W.gtrans ((hm.mono c).then_heap (pJ _) λb o g e=>?_) x) y;rw[u.2 b (λh:b=S=>g<|by rw[h];exact aZ)];exact e
end
section
variable{prog:a7}{w:bS}{A:dZ}{E:Value->bq->Prop}{s:bq}
def iU(w:bS):Obj:={cls:=.type "set",dict:=none,data:=.set #[] 0 (.fresh 0 0<|!w.params.followText "set-order")}
def T_(a)(h:Q₁ (.ref s.heap.objs.size) {s with heap:=s.heap.push (iU w)}):
  mK (model prog w) A (.call (.builtin "set.__new__") #[[.type "set",a],[]]) (wants Q₁ E) s:=by
 refine codeAny_of_tree ?_;show bj _ A.in1 (do DQ "set.__new__" #[[.type "set",a],[]];again (.builtin "set.__new__" #[[.type "set",a],[]])) _ _ s;refine aA (SV (PySem.F.newCall_set_1 a) (aU #[Am EL _,lK PySem.F.entry_set_new ?_]));rw[jI EL _];delta Builtin.«set.__new__» Sn;let aeh:=sub_set_self;let#[hp,g,d,tk,os]:=s;dsimp only;wp_walk;refine nS<|aU ?_;dsimp only;simp only[newObj];refine aA<|wpAny_alloc<|aU ?_;exact aU h
def W'(e:h.get? a>iU w):nX prog w h a (λ_=>false) 0:=
 #[_,#[],0,_,e,#[rfl,rfl,rfl],rfl,λe he=>by simp at he,λk=>sP,dC,rfl,rfl,#[.nil,rfl,rfl]]
set_option maxHeartbeats 3200000 in
def Pu    
    (hh : A.handled = none) (hl : s.heap.IsList l items) (hi : rG items.toList ns) (hb : items.size + 1 < scanBound)
    (h : ∀ h' tk, nX prog w h' s.heap.objs.size (fun k' => (ke (fun i => ns.getD i 0) items.size).any (· == k')) ↑(ke (fun i => ns.getD i 0) items.size) →
      (∀ b o, b < s.heap.objs.size → s.heap.get? b = some o → h'.get? b = some o) → Q (.ref s.heap.objs.size) { s with heap := h', toks := tk }) :
    bj (model prog w) A (call (.type "set") [.ref l]) Q E s := by
  obtain ⟨c, tl, afb⟩ := gq.mro
  let ae2 := gq.made
  let aeh := gq.sub
  refine uY (codeAny_of_tree ?_)
  show bj _ _ (callAny (.type "set") _) _ _ _
  refine aU #[Code.quiet_builtin _ (by decide +kernel), lK PySem.F.entry_type_call ?_]
  rw [Around.under_plain (weight_type_call_type "set" [.ref l] []) rfl]
  let h1 := gq.notType
  let h2 := gq.canCreate
  let hct := PySem.F.typeCall_set_1 (.ref l)
  repeat (any_goals (first | assumption | wp_step))
  refine kx (T_ (.ref l) (E := E) (Q₁ := fun obj s₁ => obj = .ref s.heap.objs.size ∧ s₁ = { s with heap := s.heap.push (iU w) }) #[rfl, rfl]) fun r s₁ hr => ?_
  cases r with
  | error e => exact hr
  | ok fl =>
    cases fl with
    | ret obj =>
      obtain ⟨rfl, rfl⟩ := hr
      let hS : (s.heap.push (iU w)).get? s.heap.objs.size = some (iU w) := bw _ rfl
      let hT : Shared.TypeIs { s with heap := s.heap.push (iU w) } (.ref s.heap.objs.size) "set" := #[_, hS, rfl]
      let TM := gq.init.lookup
      let hbi := gq.init.bind (.ref s.heap.objs.size)
      repeat (any_goals (first | assumption | wp_step))
      refine kx (xN (R := wants (fun r s₂ => r = .none ∧ ∃ h' tk, s₂ = { s with heap := h', toks := tk } ∧
          nX prog w h' s.heap.objs.size (fun k' => (ke (fun i => ns.getD i 0) items.size).any (· == k')) ↑(ke (fun i => ns.getD i 0) items.size) ∧
          (∀ b o, b < s.heap.objs.size → s.heap.get? b = some o → h'.get? b = some o)) E) gq.init.plain PySem.F.entry_set_init (check_set_init_1 hT ?_)) fun r₂ s₂ hr₂ => ?_
      · obtain ⟨ol, hol, SJ, nl, hdl⟩ := hl
        obtain ⟨afp, abo, ae3, X6⟩ := ol
        simp only at SJ hdl
        subst SJ; subst hdl
        let ad7 : (s.heap.push (iU w)).get? l = some { cls := .type "list", dict := abo, data := .seq items nl, slots := X6 } := aF _ hol
        let afi := PySem.F.sub_list_set
        let afh := PySem.F.sub_list_frozenset
        let hne : (gC "list" == gC "dict") = false := by decide
        let NA : (s.heap.push (iU w)).IsList l items := #[_, ad7, rfl, nl, rfl]
        delta Builtin.«set.__init__» noKeywords Sr
        generalize hPI : OZ = PI
        wp_walk
        subst hPI
        refine wpAny_pyIter_list NA ?_
        refine aA (wpAny_runValue ?_)
        let hlS : l < s.heap.objs.size := a9 hol
        let hh3 : A.in1.in1.in1.handled = none := by simp [hh]
        let ad5 : l ≠ (s.heap.push (iU w)).objs.size := by
          rw [dh]; exact bT (g_ hlS)
        let hSf : s.heap.objs.size ∉ [(s.heap.push (iU w)).objs.size, l] := by
          rw [dh]; simp only [aE, bd, cN, or_false, not_or]
          exact #[bT (j8 _), lQ hlS]
        let aei : ∀ (i : Nat) (v : Value), items[i]? = some v → ∃ t, v = .int ((fun i => ns.getD i 0) i) t := fun i v hv =>
          IntsAre.int_at hi i v (by rw [dv]; exact hv)
        refine Sh ((Walks.list hh3 _ l ad5 items).toS) s.heap.objs.size
          hSf (fun i => ns.getD i 0) aei hb (items.size - 0) 0 _ (by omega) (cP _)
          #[#[_, bw _ rfl, rfl, rfl], (NA.push _)] ?hS0 ?hR
        case hS0 =>
          let ad1 : ((s.heap.push (iU w)).push { cls := .type "list_iterator", data := .fields (List.toArray [.ref l, .int 0 0]) }).get? s.heap.objs.size = some (iU w) := aF _ hS
          exact (W' ad1).congr (fun _ => rfl) rfl
        case hR =>
          intro s' hm hS'
          obtain ⟨h', g', d', Vi, os'⟩ := s'
          let eg : g' = s.gens := hm.gens
          let ed : d' = s.drawn := hm.drawn
          let eo : os' = s.os := hm.os
          subst eg; subst ed; subst eo
          show bj _ _ _ _ _ _
          refine aU ?_
          show bj _ _ (ret eU) _ _ _
          refine aU #[rfl, h', Vi, rfl, hS', fun b o hb e => ?_]
          let VS : b ≠ s.heap.objs.size := bT hb
          let ZC : b ≠ (s.heap.push (iU w)).objs.size := by
            rw [dh]; exact bT (g_ hb)
          exact hm.heap b o (by simp only [aE, bd, cN, or_false, not_or]; exact #[VS, ZC]) (aF _ (aF _ e))
      · cases r₂ with
        | error e => exact hr₂
        | ok fl₂ =>
          cases fl₂ with
          | ret r =>
            obtain ⟨rfl, h', tk, rfl, hS', hk'⟩ := hr₂
            repeat (any_goals (first | assumption | wp_step))
            exact h _ _ hS' hk'
          | _ => exact hr₂.elim
    | _ => exact hr.elim
end
def Bg:entryFor table "set.__iter__">Builtin.«frozenset.__iter__»:=entryFor_alias (id':="frozenset.__iter__") (by kernel_rfl) rfl dK (by kernel_rfl)
def fz:Slot "set_iterator" "__next__" "set_iterator.__next__":=
 .of (owner:="set_iterator") (n:="__next__") (by rw[typeLookup_type,builtinLookup_eq_fast];kernel_rfl) dK dK dK
  (by first|exact .inl dK|exact .inr dK) (by rw[IY];kernel_rfl)
def rE:Slot "set_iterator" "__iter__" "set_iterator.__iter__":=
 .of (owner:="set_iterator") (n:="__iter__") (by rw[typeLookup_type,builtinLookup_eq_fast];kernel_rfl) dK dK dK
  (by first|exact .inl dK|exact .inr dK) (by rw[IY];kernel_rfl)
def kZ:entryFor table "set_iterator.__next__">Builtin.«set_iterator.__next__»:=entryFor_of_tree (by kernel_rfl)
def mj(a):argsOk "set_iterator.__next__" #[[a],[]]:=by delta argsOk;kernel_rfl
def L_(next:Nat->Nat):∀b k(left:List f)(out:Array f),↑left=b->(CN next b k left out).toList.Perm (out.toList++left)
 |0,k,left,out,h=>by let:left=[]:=g0.mp h;subst this;delta CN;simp
 |b+1,k,left,out,h=>by
  delta CN;let c:next k%↑left<↑left:=Nat.mod_lt _ oM;rw[aq c];simp only[];refine(L_ next b (k+1) _ _ (by rw[oC c];omega)).trans ?_;rw[MK,cJ];refine List.Perm.append_left _ ?_;rw[List.singleton_append];let gen:∀(l:List f)(i:Nat)(d:i<↑l),(l[i]::l.eraseIdx i).Perm l:=by
   intro l;induction l with
   |nil=>intro i d;simp at d
   |cons a l e=>
    intro i d;cases i with
    |zero=>exact fi _
    |succ i=>
     rw[gZ,Gh];exact(yL _ _ _).trans ((e i<|by simpa using d).cons a)
  exact gen left _ c
def N5(next:Nat->Nat)(xs:Array a):(ZP next xs).toList.Perm xs.toList:=by delta ZP;let:=L_ next xs.size 0 xs.toList #[] sP;simpa using this
section
variable{prog:a7}{w:bS}{A:dZ}{E:Value->bq->Prop}
def Dv(a:n≠0)(h:∀i d',i<n->Q i {s with drawn:=d'}):bj (model prog w) A (choose src n) Q E s:=by intro Γ p b;exact#[a,h _ _<|Nat.mod_lt _<|Nat.pos_of_ne_zero a]
def Lv{g:Type}:∀(n:Nat)(xs:List g) s Q,↑xs=n->(∀ys d',ys.Perm xs->Q ys {s with drawn:=d'})->bj (model prog w) A (Zs n xs) Q E s
 |0,xs,s,Q,h,c=>by let:xs=[]:=g0.mp h;subst this;delta Zs;exact aU (c [] s.drawn (fi _))
 |n+1,[],s,Q,h,c=>by simp at h
 |n+1,x::xs,s,Q,h,c=>by
  delta Zs;refine aA<|Dv sP λi d' b=>?_;rw[aq b];simp only[];let gen:∀(l:List g)(i:Nat)(b:i<↑l),(l[i]::l.eraseIdx i).Perm l:=by
   intro l;induction l with
   |nil=>intro i b;simp at b
   |cons a l e=>
    intro i b;cases i with
    |zero=>exact fi _
    |succ i=>
     rw[gZ,Gh];exact(yL _ _ _).trans ((e i<|by simpa using b).cons a)
  refine aA<|Lv n _ _ _ (by rw[oC b];simp at h|-;omega) λys d f=>?_;exact aU (c _ d<|(f.cons _).trans (gen _ i b))
def r9(first:Value)(i:Nat)(S:Addr)(n ep:Nat):Obj:={cls:=.type "set_iterator",data:=.fields (List.toArray [first,gX i,.ref S,gX n,gX ep])}
def slotAt(bt:Bool)(t:SetTable)(i:Nat):Nat:=if bt then 0 else match i with
 |0=>0
 |i+1=>t.place.getD i 0+1
def orderOf(w:bS)(S:Addr)(es:Array (Int×Value))(ep:Nat):List (Int×Value):=if w.params.followText "set-order"=true then(ZP (w.params.setOrder S ep) es).toList else es.toList
def qP(w)(S)(es)(a):(orderOf w S es a).Perm es.toList:=by
 delta orderOf;split
 .exact N5 _ _
 .grind
def B_(D:s.heap.get? S>o)(hd:o.data=.set es F t)(hf:t.fits es.size=true)(T:Aw (!w.params.followText "set-order") t)
  (H:w.params.followText "set-order"=true\/(!t.plain&&decide (es.size>1))=false)(J:i<=es.size)
  (h:Q (((orderOf w S es F)[i]?).map λe=>(e.2,slotAt (w.params.followText "set-order") t (i+1))) s):
  bj (model prog w) A (YA S (slotAt (w.params.followText "set-order") t i) i F) Q E s:=by
 delta YA;refine aA<|iZ D hd hf ?_;dsimp only;delta Wg;refine aA<|aA<|nS<|aU ?_;show bj (model prog w) A (if w.params.followText "set-order"=true then _ else _) Q E s;cases d:w.params.followText "set-order" with
 |true=>
  rw[ac rfl];rw[aa sP];refine aA ?_;delta setWalk;refine aA<|iZ D hd hf ?_;dsimp only;delta Wg;refine aA<|aA<|nS<|aU ?_;show bj (model prog w) A (if w.params.followText "set-order"=true then _ else _) _ E s;rw[d,ac rfl];refine aA<|nS<|aU ?_;refine aU ?_;delta orderOf slotAt at h;rw[d,ac rfl]at h;delta slotAt;rw[dv]at h;exact h
 |false=>
  rw[aa sP];let f:(!t.plain&&decide (es.size>1))=false:=gR;show bj (model prog w) A (if(!t.plain&&decide (es.size>1))=true then _ else _) Q E s;rw[f,aa sP];let g:t.led=true:=by rw[T.led,d];rfl
  show bj (model prog w) A ((if(!t.led&&!es.isEmpty)=true then _ else _)>>=_) Q E s;rw[g];simp only[mH,SW,eV,if_false];refine aA<|aU ?_;let n:t.place.size=es.size:=by delta SetTable.fits at hf;simp only[b_,beq_iff_eq,decide_eq_true_eq]at hf;exact hf.1
  let l:d_ t.place (slotAt false t i)=i:=by
   let#[p,G,K]:=A3 T.inc<|slotAt false t i;let inc:∀(a b:Nat)(v w:Nat),a<b->t.place[a]?>v->t.place[b]?>w->v<w:=by intro a b v w r I d;obtain⟨u,rfl⟩:=cY.mp I;obtain⟨x,rfl⟩:=cY.mp d;let:=df.mp T.inc a b (by simpa using u) (by simpa using x) r;simpa using this
   generalize L:d_ t.place (slotAt false t i)=B at*;cases i with
   |zero=>
    refine c7 λy=>?_;let h0:0<t.place.size:=oM;let:=p 0 _ oM<|cM h0;delta slotAt at this;simp at this
   |succ j=>
    let z:j<t.place.size:=oM;let C:slotAt false t (j+1)=t.place[j]+1:=by delta slotAt;simp[z]
    rw[C]at p G;let M:j<B:=by refine c7 λy=>?_;let:=G j _ oM<|cM z;omega
    let N:¬j+1<B:=by intro c;let m:j+1<t.place.size:=oM;let:=p (j+1) _ c (cM m);let:=inc j (j+1) _ _ oM (cM z) (cM m);omega
    omega
  rw[l];refine aU ?_;delta orderOf at h;rw[d,aa sP,dv]at h;cases q:es[i]? with
  |none=>rw[q]at h;exact h
  |some e=>
   let c:i<t.place.size:=by rw[n];exact(cY.mp q).1
   rw[q]at h;rw[cM c];let C:slotAt false t (i+1)=t.place[i]+1:=by delta slotAt;simp[c]
   rw[C]at h;exact h
def QE(hI:s.heap.get? I>r9 (gX<|slotAt (w.params.followText "set-order") t i) i S es.size ep)(ho:s.heap.get? S>o)(hSI:S≠I)
  (hd:o.data=.set es ep t)(hf:t.fits es.size=true)(T:Aw (!w.params.followText "set-order") t)(hdr:w.params.followText "set-order"=true\/(!t.plain&&decide (es.size>1))=false)(hi:i<es.size)(he:(orderOf w S es ep)[i]?>e)
  (h:∀h',h'.get? I>r9 (gX<|slotAt (w.params.followText "set-order") t (i+1)) (i+1) S es.size ep->iG I s.heap h'->Q (some e.2) {s with heap:=h'}):
  bj (model prog w) A (qj<|.ref I) Q E s:=by
 let hT:s.TypeIs (.ref I) "set_iterator":=#[_,hI,rfl];delta qj;refine aA (Aq (mf (name:=eK "__next__") hT fz
  (jr fz hT kZ ?_<|mj _)))
 delta Builtin.«set_iterator.__next__» I0;simp only[mx,mH,eV,↓reduceIte,bind_assoc,c9,bne_self_eq_false];refine aA<|aU ?_;refine aA<|xS hI rfl ?_;show bj _ _ (IZ S>>=_) _ _ s;refine aA<|kS ho hd hf ?_;show bj _ _ (if(((es.size:Nat):Int) !=((es.size:Nat):Int))=true then _ else _) _ _ s;rw[aa sP];show bj _ _ (YA S ((slotAt (w.params.followText "set-order") t i:Nat):Int).toNat ((i:Nat):Int).toNat ((ep:Nat):Int).toNat>>=_) _ _ s;rw[aT,aT,aT];refine aA<|B_ ho hd hf T hdr oM ?_;rw[he];dsimp only[bD];refine aA<|jH hI sP λh1 e1 b1=>?_;refine aA<|jH e1 sP λh2 e2 b2=>?_;refine aU #[_,rfl,?_];refine aU<|h h2 ?_<|b1.trans b2;rw[e2];rfl
def Hx(hh:A.handled=none)(hI:s.heap.get? I>r9 (gX (slotAt (w.params.followText "set-order") t es.size)) es.size S es.size ep)(ho:s.heap.get? S>o)
  (hd:o.data=.set es ep t)(hf:t.fits es.size=true)(T:Aw (!w.params.followText "set-order") t)(hdr:w.params.followText "set-order"=true\/(!t.plain&&decide (es.size>1))=false)
  (h:∀h',Y6 I s.heap h'->Q none {s with heap:=h'}):
  bj (model prog w) A (qj (.ref I)) Q E s:=by
 let hT:s.TypeIs (.ref I) "set_iterator":=#[_,hI,rfl];delta qj;refine aA (Aq (mf (name:=eK "__next__") hT fz
  (jr fz hT kZ ?_ (mj _))))
 delta Builtin.«set_iterator.__next__» I0;simp only[mx,mH,eV,↓reduceIte,bind_assoc,c9,bne_self_eq_false];refine aA (aU ?_);refine aA (xS hI rfl ?_);show bj _ _ (IZ S>>=_) _ _ s;refine aA (kS ho hd hf ?_);show bj _ _ (if(((es.size:Nat):Int) !=((es.size:Nat):Int))=true then _ else _) _ _ s;rw[aa sP];show bj _ _ (YA S ((slotAt (w.params.followText "set-order") t es.size:Nat):Int).toNat ((es.size:Nat):Int).toNat ((ep:Nat):Int).toNat>>=_) _ _ s;rw[aT,aT,aT];refine aA (B_ ho hd hf T hdr (aI _) ?_);let e0:(orderOf w S es ep)[es.size]?=none:=by rw[di];rw[(qP w S es ep).length_eq];simp
 rw[e0];dsimp only[OO];refine aA (jH hI sP λh1 e1 b1=>?_);refine aA ?_;simp only[newExc,newTuple];refine aA (gt ?_ (by size_fits));refine aA (m:=xO _ _) (SV (a:=eU) (by first|rfl|(simp only[xO];rfl)) ?_);refine gt ?_ (by size_fits);simp only[raiseNew];refine aA (wpAny_handled ?_);first|rw[show A.in1.handled=none from hh]|rw[hh]
 refine aA (aU (wpAny_throw ?_));refine aA (EG (T:="StopIteration") (b:=true) #[_,bw _ rfl,rfl] isSubtype_stop ?_);exact aU (h _ ((b1.extBut.push _).push _))
def J1{ps:List Nat}(hI:s.heap.get? I>r9 (.ref U) i S es.size ep)(hU:s.heap.get? U>{cls:=.type "tuple",data:=.seq (ps.map λ(i:Nat)=>gX i).toArray c})(ho:s.heap.get? S>o)
  (hd:o.data=.set es ep t)(hf:t.fits es.size=true)(hp:ps[i]?>p)(he:es[p]?>e)
  (h:∀h',h'.get? I>r9 (.ref U) (i+1) S es.size ep->iG I s.heap h'->Q (some e.2) {s with heap:=h'}):
  bj (model prog w) A (qj (.ref I)) Q E s:=by
 let hT:s.TypeIs (.ref I) "set_iterator":=#[_,hI,rfl];delta qj;refine aA (Aq (mf (name:=eK "__next__") hT fz
  (jr fz hT kZ ?_ (mj _))))
 delta Builtin.«set_iterator.__next__» I0;simp only[mx,mH,eV,↓reduceIte,bind_assoc,c9,bne_self_eq_false];refine aA (aU ?_);refine aA (xS hI rfl ?_);show bj _ _ (IZ S>>=_) _ _ s;refine aA (kS ho hd hf ?_);show bj _ _ (if(((es.size:Nat):Int) !=((es.size:Nat):Int))=true then _ else _) _ _ s;rw[aa sP];show bj _ _ (seqItems? (.ref U)>>=_) _ _ s;refine aA (wpAny_seqItems hU rfl ?_);let ep1:(ps.map λ(i:Nat)=>gX i).toArray[((i:Nat):Int).toNat]?>gX p:=gR;dsimp only;rw[ep1];show bj _ _ (setNextDrawn S ((p:Nat):Int).toNat ((ep:Nat):Int).toNat>>=_) _ _ s;rw[aT,aT];delta setNextDrawn;refine aA (aA (iZ ho hd hf ?_));dsimp only;rw[aa sP,he];refine aU ?_;refine aA (jH hI sP λh1 e1 b1=>?_);refine aU #[_,rfl,?_];refine aU (h h1 ?_ b1);rw[e1];rfl
def Di{ps:List Nat}(hh:A.handled=none)(hl:↑ps=es.size)(hI:s.heap.get? I>r9 (.ref U) es.size S es.size ep)(hU:s.heap.get? U>{cls:=.type "tuple",data:=.seq (ps.map λ(i:Nat)=>gX i).toArray c})(ho:s.heap.get? S>o)
  (hd:o.data=.set es ep t)(hf:t.fits es.size=true)
  (h:∀h',Y6 I s.heap h'->Q none {s with heap:=h'}):
  bj (model prog w) A (qj (.ref I)) Q E s:=by
 let hT:s.TypeIs (.ref I) "set_iterator":=#[_,hI,rfl];delta qj;refine aA (Aq (mf (name:=eK "__next__") hT fz
  (jr fz hT kZ ?_ (mj _))))
 delta Builtin.«set_iterator.__next__» I0;simp only[mx,mH,eV,↓reduceIte,bind_assoc,c9,bne_self_eq_false];refine aA (aU ?_);refine aA (xS hI rfl ?_);show bj _ _ (IZ S>>=_) _ _ s;refine aA (kS ho hd hf ?_);show bj _ _ (if(((es.size:Nat):Int) !=((es.size:Nat):Int))=true then _ else _) _ _ s;rw[aa sP];show bj _ _ (seqItems? (.ref U)>>=_) _ _ s;refine aA (wpAny_seqItems hU rfl ?_);let ep1:(ps.map λ(i:Nat)=>gX i).toArray[((es.size:Nat):Int).toNat]?=none:=gR;dsimp only;rw[ep1];dsimp only;refine aA (jH hI sP λh1 e1 b1=>?_);refine aA (jH e1 sP λh2 e2 b2=>?_);refine aA ?_;simp only[newExc,newTuple];refine aA (gt ?_ (by size_fits));refine aA (m:=xO _ _) (SV (a:=eU) (by first|rfl|(simp only[xO];rfl)) ?_);refine gt ?_ (by size_fits);simp only[raiseNew];refine aA (wpAny_handled ?_);first|rw[show A.in1.handled=none from hh]|rw[hh]
 refine aA (aU (wpAny_throw ?_));refine aA (EG (T:="StopIteration") (b:=true) #[_,bw _ rfl,rfl] isSubtype_stop ?_);exact aU (h _ (((b1.trans b2).extBut.push _).push _))
end
def yd:entryFor table "set_iterator.__iter__">Builtin.«dict_keyiterator.__iter__»:=
 entryFor_alias (id':="dict_keyiterator.__iter__") (by kernel_rfl) (by first|rfl|decide+kernel) dK (by kernel_rfl)
def zP(a):argsOk "set_iterator.__iter__" #[[a],[]]:=by delta argsOk;kernel_rfl
section
variable{prog:a7}{w:bS}{A:dZ}{E:Value->bq->Prop}
def P0(es:Array (Int×Value)):∀ps:List Nat,(∀p∈ps,p<es.size)->(ps.filterMap λp=>es[p]?)=ps.map λp=>es.getD p (0,.none)
 |[],_=>rfl
 |p::ps,h=>by let a:=h p<|.head _;rw[iX,cM a,bb,P0 es ps λq b=>h q (.tail _ b)];simp[a]
def D5(b:s.heap.get? I>r9 f i S n c)(h:Q (.ref I) s):bj (model prog w) A (OZ<|.ref I) Q E s:=by let a:s.TypeIs (.ref I) "set_iterator":=#[_,b,rfl];refine wpAny_pyIter_slot a rE<|jr rE a yd ?_<|zP _;show bj _ _ (ret<|.ref I) _ _ s;exact aU #[_,rfl,"set_iterator",_,a,fz.lookup,h]
def Sj(p:A.handled=none)(c:S≠I)(hd:o.data=.set es g t)(hf:t.fits es.size=true)(T:Aw (!w.params.followText "set-order") t)
  (d:w.params.followText "set-order"=true\/(!t.plain&&decide (es.size>1))=false):
  Walks prog w A I [I,S] [I] es.size (λi v=>∃e,(orderOf w S es g)[i]?>e/\v=e.2) (λi h=>h.get? I>r9 (gX<|slotAt (w.params.followText "set-order") t i) i S es.size g/\h.get? S>o) where
 sub:=λb a=>by simp at a;simp[a]
 frame:=λ_ _ _ st j=>#[j I sP _ st.1,j S sP _ st.2]
 item:=λi s Q E l st f=>by
  let m:i<↑(orderOf w S es g):=by rw[(qP w S es g).length_eq];simpa using l
  refine QE st.1 st.2 c hd hf T d l (aq m) λh' q n=>?_;exact f _ h' s.toks #[_,aq m,rfl] #[q,(n.2 S c).trans st.2] λb o a e=>(n.2 b<|λz=>a<|by simp[z]).trans e
 done:=λs Q E st f=>Hx p st.1 st.2 hd hf T d λh' he=>f h' s.toks λb o a e=>he b o (λz=>a<|by simp[z]) e;self:=λ_ _ _ _ st f=>D5 st.1 f
def K4(y:A.handled=none)(j:S≠I)(l:U≠I){ps:List Nat}(hd:o.data=.set es B t)(hf:t.fits es.size=true)(g:ps.Perm (ay es.size)):
  Walks prog w A I [I,S,U] [I] es.size (λi v=>∃e,(ps.filterMap λp=>es[p]?)[i]?>e/\v=e.2)
   (λi h=>h.get? I>r9 (.ref U) i S es.size B/\h.get? S>o/\h.get? U>{cls:=.type "tuple",data:=.seq (ps.map λ(i:Nat)=>gX i).toArray c}) where
 sub:=λb a=>by simp at a;simp[a]
 frame:=λ_ _ _ st m=>#[m I sP _ st.1,m S sP _ st.2.1,m U sP _ st.2.2]
 item:=λi s Q E D st d=>by
  let C:↑ps=es.size:=by rw[g.length_eq,cr]
  let n:i<↑ps:=oM;let f:ps[i]<es.size:=cb.mp<|g.mem_iff.mp<|cx n;let q:(ps.filterMap λp=>es[p]?)[i]?>es[ps[i]]:=by let r:=P0 es ps λp u=>cb.mp<|g.mem_iff.mp u;rw[r,ak,aq n];simp[f]
  refine J1 st.1 st.2.2 st.2.1 hd hf (aq n) (cM f) λh' r x=>?_;exact d _ h' s.toks #[_,q,rfl] #[r,(x.2 S j).trans st.2.1,(x.2 U l).trans st.2.2] λb o a e=>(x.2 b<|λz=>a<|by simp[z]).trans e
 done:=λs Q E st d=>Di y (by rw[g.length_eq,cr]) st.1 st.2.2 st.2.1 hd hf λh' he=>d h' s.toks λb o a e=>he b o (λz=>a<|by simp[z]) e;self:=λ_ _ _ _ st d=>D5 st.1 d
def sD{ps:List Nat}{es:Array (Int×Value)}(a:ps.Perm (ay es.size)):(ps.filterMap λp=>es[p]?).Perm es.toList:=
 (a.filterMap _).trans (by rw[filterMap_getElem?_range])
def Qc(ho:s.heap.get? S>o)(hc:o.cls=.type "set")(h:Q false s):bj (model prog w) A (lV<|.ref S) Q E s:=by delta lV;refine aA (wpAny_specialOf #[_,ho,hc] PySem.F.slot_set_len.lookup ?_);generalize hid:("set.__len__":String)=id0;wp_delta;rw[show splitId id0>("set","__len__")from by subst hid;decide+kernel];subst hid;refine aA (EG (T:="set") (b:=true) #[_,ho,hc] (by rw[IY];kernel_rfl) ?_);refine wpAny_ite_split (λhab=>ae hab dC) (λ_=>?_);refine wpAny_ite_split (λ_=>?_) (λhab=>ae dK hab);refine aA (wpAny_typeOf (T:="set") #[_,ho,hc] ?_);exact aU h
def Qm(ho:s.heap.get? S>o)(hex:o.ExactSet)(hd:o.data=.set es ep t)(hf:t.fits es.size=true)(hb:es.size<scanBound)(T:Aw (!w.params.followText "set-order") t)
  (h1:(w.params.followText "set-order"=true\/(!t.plain&&decide (es.size>1))=false)->Q (.ref s.heap.objs.size) {s with heap:=s.heap.push (r9 (gX (slotAt (w.params.followText "set-order") t 0)) 0 S es.size ep)})
  (h2:∀(ps:List Nat) d',ps.Perm (ay es.size)->Q (.ref (s.heap.push {cls:=.type "tuple",data:=.seq (ps.map λ(i:Nat)=>gX i).toArray}).objs.size) {s with heap:=(s.heap.push {cls:=.type "tuple",data:=.seq (ps.map λ(i:Nat)=>gX i).toArray}).push (r9 (.ref s.heap.objs.size) 0 S es.size ep),drawn:=d'}):
  bj (model prog w) A (OZ (.ref S)) Q E s:=by
 let hT:s.TypeIs (.ref S) "set":=#[o,ho,hex.1];refine wpAny_pyIter_slot hT EM (jr EM hT Bg ?_ (PySem.F.args_set_iter_1 _));delta Builtin.«frozenset.__iter__» Sq I0;simp only[mx,mH,eV,↓reduceIte,bind_assoc,c9,bne_self_eq_false];delta Sm So;refine aA (aU ?_);try dsimp only;refine aA (aU ?_);refine aA (aA (kS ho hd hf (aU ?_)));delta setDrawn Wg;refine aA (aA (iZ ho hd hf ?_));dsimp only;refine aA (aA (nS (aU ?_)));refine aU ?_;show bj (model prog w) A.in1 (if(!w.params.followText "set-order"&&(!t.plain&&decide (es.size>1)))=true then _ else _) _ E s;by_cases c:(!w.params.followText "set-order"&&(!t.plain&&decide (es.size>1)))=true
 .rw[ac c];refine aA (Lv es.size (ay es.size) s _ sP λps d' hp=>?_);let hz:es.size<=sizeLine:=rP hb;refine aA (wpAny_newTuple ?_ (by rw[aj,hp.length_eq,cr];exact hz));delta setEpoch;refine aA (aA (iZ (aF _ ho) hd hf (aU ?_)));refine aA (gt ?_);exact aU #[_,rfl,"set_iterator",_,#[_,bw _ rfl,rfl],fz.lookup,h2 ps d' hp]
 .rw[aa c];refine aA (aU ?_);delta setEpoch;refine aA (aA (iZ ho hd hf (aU ?_)));refine aA (gt ?_);refine aU #[_,rfl,"set_iterator",_,#[_,bw _ rfl,rfl],fz.lookup,?_];let e0:slotAt (w.params.followText "set-order") t 0=0:=by delta slotAt;split<;>rfl
  let:=h1 (by
   cases q1:w.params.followText "set-order" with
   |true=>exact .inl rfl
   |false=>
    right;rw[q1]at c;simpa using c)
  rw[e0]at this;exact this
def JR{order:List (Int×Value)}(a:↑order=n)(h:ItemsOf (λi v=>∃e,order[i]?>e/\v=e.2) acc n):acc.toList=order.map (·.2):=by
 apply cq;intro i;rw[dv,ak];cases q:acc[i]? with
 |none=>
  let:acc.size<=i:=by rw[Array.getElem?_eq_none_iff]at q;exact q
  rw[di (by rw[a,<-h.1];exact this)];rfl
 |some v=>
  obtain⟨e,he,rfl⟩:=h.2 i v q;rw[he];rfl
def Dd(h:OJ (intKind prog w) l):rG (l.map (·.2)) ((l.map (·.2)).map numOf):=by
 induction l with
 |nil=>exact .nil
 |cons e l b=>
  let#[#[k,c,_],_]:=h e<|.head _;let:∃t,e.2=.int k t:=by
   let a:e.2.isInt k=true:=c;delta tY at a;cases q:e.2 with
   |int i t=>rw[q]at a;simp at a;exact#[t,by rw[a]]
   |_=>rw[q]at a;simp at a
  let#[t,d]:=this;rw[bb,bb,d];exact .cons k t (b λx f=>h x<|.tail _ f)
def Jz {s : bq} {S D : Addr} {o : Obj} {es : Array (Int × Value)} {ep c0 : Nat} {t : SetTable} {R : Result → bq → Prop} {res : Value} (hh : A.handled = none) (ho : s.heap.get? S = some o) (hex : o.ExactSet) (hd : o.data = .set es ep t) (hf : t.fits es.size = true) (hb : es.size < scanBound)
    (T : Aw (!w.params.followText "set-order") t) (hD : s.heap.get? D = some { cls := .type "list", data := .seq #[] c0 })
    (hR : ∀ (h' : Heap) (tk : Nat) (d' : Drawn) (To : Array Value) (c' : Nat) (order : List (Int × Value)), order.Perm es.toList → (∀ b o, b ≠ D → s.heap.get? b = some o → h'.get? b = some o) → h'.get? D = some { cls := .type "list", dict := none, data := .seq To c', slots := #[] } → To.toList = order.map (·.2) →
      R (.ok (.ret res)) { s with heap := h', toks := tk, drawn := d' }) :
    bj (model prog w) A.in1 (vJ (.ref D) (.ref S) res)
      (fun fin s' => match fin with | .done f => R (.ok f) s' | .again c' => c'.quiet = true ∧ mK (model prog w) A c' R s') (fun e s' => R (.error e) s') s := by
  let hDS : D ≠ S := fun z => by
    rw [z, ho]at hD
    let := hex.1
    injection hD with hD
    rw [hD]at this
    simp at this
  let Xk : D < s.heap.objs.size := a9 hD
  let aa1 : S < s.heap.objs.size := a9 ho
  let hz : es.size ≤ sizeLine := rP hb
  delta vJ
  refine aA (wpAny_typeOf (T := "set") #[_, ho, hex.1] ?_)
  let q1 : xV (.ref D) (.ref S) = false := by simp [xV, hDS]
  let q2 : (gC "set" == gC "list") = false := by decide
  let q3 : (gC "set" == gC "tuple") = false := by decide
  simp only [q1, q2, q3, Vl, eV, if_false]
  let tail : ∀ (I : Addr) (h0 : Heap) (d' : Drawn) (fp : List Addr) (P : Nat → Value → Prop) (St : Nat → Heap → Prop) (order : List (Int × Value)), order.Perm es.toList → ↑order = es.size → (P = fun i v => ∃ e, order[i]? = some e ∧ v = e.2) →
      Walks prog w A.in1 I fp [I] es.size P St → St 0 h0 → D ∉ fp → (∀ b o, s.heap.get? b = some o → h0.get? b = some o) → s.heap.objs.size ≤ I →
      bj (model prog w) A.in1 (holding [.ref I] (lV (.ref S)) >>= fun room => (if (room || (["set", "frozenset", "dict", "dict_keys", "dict_values", "dict_items"] : List String).any (gC "set" == .type ·)) = true then rule "list.extend.makes-room" >>= fun _ => Z0 (.ref D) >>= fun _ => again (.builtin "list.extend.loop" #[[.ref D, .ref I, res], []])else again (.builtin "list.extend.loop" #[[.ref D, .ref I, res], []])))
        (fun fin s' => match fin with | .done f => R (.ok f) s' | .again c' => c'.quiet = true ∧ mK (model prog w) A c' R s') (fun e s' => R (.error e) s') { s with heap := h0, drawn := d' } := by
    intro I h0 d' fp P St order hp hlen eP W st hDf hk adr
    subst eP
    refine aA (j0 (Qc (o := o) (hk _ _ ho) hex.1 ?_))
    let adt : (false || (["set", "frozenset", "dict", "dict_keys", "dict_values", "dict_items"] : List String).any (gC "set" == .type ·)) = true := by decide
    rw [ac adt]
    refine aA (WA ?_)
    let SH := hk _ _ hD
    refine aA ?_
    show bj _ _ (updateSeq D (·.push .none) >>= fun _ => updateSeq D (·.pop)) _ _ _
    refine aA (wpAny_updateSeq SH rfl ?_)
    let VQ := gu (kP (·.push eU)) SH rfl
    refine wpAny_updateSeq (hz := by seq_fits) VQ rfl ?_
    let hD3 := gu (kP (·.pop)) VQ rfl
    let oth : ∀ b o, b ≠ D → h0.get? b = some o → ((h0.update D (kP (·.push eU))).update D (kP (·.pop))).get? b = some o :=
      fun b o hb e => (d9 _ _ (eG hb)).trans ((d9 _ _ (eG hb)).trans e)
    refine aU #[Am PySem.F.plain_extend_loop _, codeAny_extend_loopS W.toS hz D hDf res es.size 0 _ #[] _ rfl (cP _) (W.frame 0 _ _ st fun b hb o e => oth b o (fun z => hDf (z ▸ hb)) e) hD3 (ItemsOf.nil _) fun s' To c' hm hS' ads => ?_]
    rw [Moved.eq_with hm]
    refine hR s'.heap s'.toks d' To c' order hp (fun b o hb e => hm.heap b o (fun Xp => ?_) (oth b o hb (hk b o e))) hS' (JR hlen ads)
    obtain e' | Xp:=aE.mp Xp
    · exact hb e'
    · let z := a9 e
      rw [bd.mp Xp]at z
      exact ae z (Nat.not_lt.mpr adr)
  refine aA (Qm ho hex hd hf hb T (fun hdr => ?_) (fun ps d' hp => ?_))
  · let W := Sj (prog := prog) (w := w) (A := A.in1) hh (I := s.heap.objs.size) (S := S) (bT aa1) hd hf T hdr
    refine tail s.heap.objs.size _ s.drawn [s.heap.objs.size, S] _ _ (orderOf w S es ep) (qP w S es ep) (by rw [(qP w S es ep).length_eq]; simp) rfl W #[bw _ rfl, aF _ ho] ?_ (fun b o e => aF _ e) (aI _)
    simp only [aE, cN, or_false, not_or]
    exact #[bT Xk, hDS]
  · let W := K4 (prog := prog) (w := w) (A := A.in1) hh (I := (s.heap.push { cls := .type "tuple", data := .seq (ps.map fun (i : Nat) => gX i).toArray }).objs.size) (S := S) (U := s.heap.objs.size) (c := 0) (by rw [dh]; exact bT (g_ aa1)) (by rw [dh]; exact bT (j8 _)) hd hf hp
    refine tail _ _ d' [(s.heap.push { cls := .type "tuple", data := .seq (ps.map fun (i : Nat) => gX i).toArray }).objs.size, S, s.heap.objs.size] _ _ (ps.filterMap fun p => es[p]?) (sD hp) (by rw [(sD hp).length_eq]; simp) rfl W
      #[bw _ rfl, aF _ (aF _ ho), aF _ (bw _ rfl)] ?_ (fun b o e => aF _ (aF _ e)) (by rw [dh]; exact pJ _)
    rw [dh]
    simp only [aE, cN, or_false, not_or]
    exact #[bT (g_ Xk), hDS, bT Xk]
def Ql(c:A.handled=none)(d:s.heap.get? S>o)(hex:o.ExactSet)(hd:o.data=.set es i t)(hf:t.fits es.size=true)(e:es.size<scanBound)
  (T:Aw (!w.params.followText "set-order") t)(f:s.heap.get? D>{cls:=.type "list",data:=.seq #[] c0})
  (g:∀h' tk d' a h(order:List (Int×Value)),order.Perm es.toList->(∀b o,b≠D->s.heap.get? b>o->h'.get? b>o)->h'.get? D>{cls:=.type "list",dict:=none,data:=.seq a h,slots:=#[]}->a.toList=order.map (·.2)->
   R (.ok<|.ret<|.ref D) {s with heap:=h',toks:=tk,drawn:=d'}):mK (model prog w) A (.builtin "list.__iadd__" #[[.ref D,.ref S],[]]) R s:=by
 refine lK PySem.F.entry_list_iadd ?_;rw[jI C0 _];exact Jz c d hex hd hf e T f g
def GG(B:A.handled=none)(C:nX prog w s.heap S F n)
  (G:∀p vs h' tk d',rG vs p->↑p=n->(∀k,k∈p↔F k=true)->(∀b o,s.heap.get? b>o->h'.get? b>o)->s.heap.objs.size<=h'.objs.size->Q vs {s with heap:=h',toks:=tk,drawn:=d'}):
  bj (model prog w) A (collect<|.ref S) Q E s:=by
 let#[o,es,P,t,H,hex,hd,r,f,I,hf,J,T]:=C;delta collect;refine aA<|wpAny_runValue<|lK PySem.F.entry_proto_collect ?_;rw[jI PySem.F.plain_proto_collect _];show bj _ A.in1 (newList []>>=λl=>again (.builtin "list.__iadd__" #[[l,.ref S],[]])) _ _ s;refine aA<|gt ?_;refine aU #[Am C0 _,Ql (s:={s with heap:=s.heap.push {cls:=.type "list",data:=.seq ([]:List Value).toArray}}) (D:=s.heap.objs.size) (c0:=0) B (aF _ H) hex hd hf I T (bw _ rfl) λh' tk d' y R order j K g h=>?_];show bj _ A (load s.heap.objs.size>>=_) _ _ _;refine aA<|wpAny_load g ?_;refine aU ?_;rw[h];let c:OJ (intKind prog w) order:=r.perm j;let L:=Dd c;refine G _ _ h' tk d' L (by rw[aj,aj,j.length_eq,dP,J]) (λk=>?_) (λb o e=>K b o (bT<|a9 e) (aF _ e)) (fN<|a9 g);rw[f k];constructor
 .intro u;let#[v,M,e]:=a_.mp u;let#[x,m,N]:=a_.mp M;let#[#[O,d,_],_]:=c x m;exists x,j.mem_iff.mp m;let a:x.2.isInt O=true:=d;delta tY at a;cases q:x.2 with
  |int i t=>
   rw[q]at a;simp at a;let z:numOf x.2=i:=by rw[q];rfl
   rw[N,e]at z;rw[z];exact V2 _ _ _ _
  |_=>rw[q]at a;simp at a
 .rintro⟨x,m,d⟩;refine a_.mpr #[x.2,a_.mpr #[x,j.mem_iff.mpr m,rfl],?_];let a:x.2.isInt k=true:=d;delta tY at a;cases q:x.2 with
  |int i t=>rw[q]at a;simp at a;rw[a];rfl
  |_=>rw[q]at a;simp at a
end
end Cr
namespace Cr
inductive Reach(arcs:List (Int×Int))(s:Int):Int->Prop
 |refl:Reach arcs s s
 |step {u v:Int}:Reach arcs s u->(u,v)∈arcs->Reach arcs s v
def grows(c:List Int)(n:Int):Bool:=match c.getLast? with|none=>true|some l=>decide (l<n)
def jx(c:List Int)(nums:List Int):List (List Int):=(nums.filter<|grows c).map λn=>c++[n]
def jb(cs:List (List Int))(nums:List Int):List (List Int):=cs.flatMap λc=>jx c nums
def fG{a:Type}:Nat->List a->List (List a)
 |0,_=>[[]]
 |_+1,[]=>[]
 |k+1,x::r=>(fG k r).map (λl=>x::l)++fG (k+1) r
def jK:∀k(c:List e)(l:List e),l∈fG k c->(∀x∈l,x∈c)/\↑l=k
 |0,c,l,h=>by grind [fG]
 |k+1,[],l,h=>by simp[fG]at h
 |k+1,x::r,l,h=>by
  simp only[fG,aM,a_]at h;obtain⟨m,hm,rfl⟩|h:=h
  .let#[d,b]:=jK k r m hm;refine#[λy a=>?_,by simp[b]];obtain rfl|a:=aE.mp a
   .grind
   .grind
  .let#[d,b]:=jK (k+1) r l h;exact#[λy a=>aR _<|d y a,b]
def ss:∀k(c:List d),↑(fG k c)<=2^↑c
 |0,c=>by cases c<;>simp[fG,Nat.one_le_two_pow]
 |k+1,[]=>by simp[fG]
 |k+1,x::r=>by let a:=ss k r;let b:=ss (k+1) r;simp only[fG,aW,aj,aQ,IL];omega
def JN(a:x<n):grows (x::l) n=grows l n:=by grind [grows]
theorem G6(a:l≠[])(h:∀y∈l,x<=y):grows l x=false:=by
 delta grows;cases q:l.getLast? with
 |none=>exact ae (List.getLast?_eq_none_iff.mp q) a
 |some y=>
  let:=h y<|List.mem_of_getLast? q;simp;omega
def JV(A B)(nums):jb (A++B) nums=jb A nums++jb B nums:=by delta jb;rw[dX]
def Fn(a:∀y∈r,x<y)(c:∀y∈l,y∈r):jx (x::l) (x::r)=(jx l r).map (λm=>x::m):=by delta jx;let h0:grows (x::l) x=false:=G6 sP λy d=>gR;rw[bJ,h0,aa dC,aS];let e:r.filter (grows<|x::l)=r.filter (grows l):=d4 λn b=>JN<|a n b;rw[e];rfl
def Fo(a:∀y∈r,x<y)(h0:l≠[])(b:∀y∈l,y∈r):jx l (x::r)=jx l r:=by grind [G6,jx]
def Bz(a:∀y∈r,x<y):∀A,(∀l∈A,∀y∈l,y∈r)->jb (A.map λl=>x::l) (x::r)=(jb A r).map λm=>x::m
 |[],_=>rfl
 |l::A,h=>by let b:=Bz a A λm hm=>h m<|aR _ hm;delta jb at b|-;rw[bb,dw,dw,aJ,b,Fn a (h l aZ)]
def y_(a:∀y∈r,x<y):∀A,(∀l∈A,l≠[]/\∀y∈l,y∈r)->jb A (x::r)=jb A r
 |[],_=>rfl
 |l::A,h=>by let b:=y_ a A λm hm=>h m<|aR _ hm;let#[c,d]:=h l aZ;delta jb at b|-;rw[dw,dw,b,Fo a c d]
def mn:∀c k,c.Pairwise (·<·)->jb (fG k c) c=fG (k+1) c
 |[],0,_=>rfl
 |[],k+1,_=>rfl
 |x::r,0,h=>by
  let b:=mn r 0 (dz.mp h).2;simp only[fG]at b|-;let g:jb [[]] r=r.map λn=>[n]:=by grind [grows,jb,jx,j_]
  let i:jb [[]] (x::r)=(x::r).map λn=>[n]:=by grind [grows,jb,jx]
  rw[i,<-b,g];rfl
 |x::r,k+1,h=>by
  let#[d,f]:=dz.mp h;let j:=mn r k f;let m:=mn r (k+1) f;let e:fG (k+1) (x::r)=(fG k r).map (λl=>x::l)++fG (k+1) r:=rfl;rw[e,JV,Bz d _ λl a=>(jK k r l a).1,j,y_ d _ λl a=>#[λz=>?_,(jK (k+1) r l a).1],m]
  .rfl
  .let:=(jK (k+1) r l a).2;rw[z]at this;cases this
noncomputable def closes(p:Int×Int)(arcs:List (Int×Int)):Bool:=@decide (Reach arcs p.2 p.1) (du _)
def i9(arcs:List (Int×Int)):Prop:=∃S,S≠[]/\(∀p∈S,p∈arcs)/\∀p∈S,∃q∈S,q.2=p.1
noncomputable def ro(arcs:List (Int×Int)):Bool:=@decide (i9 arcs) (du _)
def PB(h:b=true↔i9 arcs):ro arcs=b:=by
 delta ro;cases b with
 |true=>exact@decide_eq_true _ (du _) (h.mp rfl)
 |false=>exact@decide_eq_false _ (du _) (λz=>by let:=h.mpr z;cases this)
noncomputable def sJ(x:List (Int×Int)×List Nat)(a:(Int×Int)×Nat):List (Int×Int)×List Nat:=if closes a.1 x.1=true then(x.1,x.2++[a.2])else(x.1++[a.1],x.2)
noncomputable def oU(edges wishes:List (Int×Int)):List (Int×Int)×List Nat:=edges.zipIdx.foldl sJ (wishes,[])
def Bm(edges wishes:List (Int×Int))(i)(p)(h:edges[i]?>p):oU (edges.take<|i+1) wishes=sJ (oU (edges.take i) wishes) (p,i):=by delta oU;let a:=gl h;rw[aN,h,dj,kK,d5,bN,iJ (fN a)];simp
def restOf(edges:List (Int×Int))(nums A9:List Int):List (Int×Int):=(nums.filter λn=>decide<|n∉A9).filterMap λn=>edges[n.toNat]?
noncomputable def kW(edges wishes:List (Int×Int))(nums A9:List Int):Bool:=!ro (restOf edges nums A9++wishes)
noncomputable def wJ(edges wishes:List (Int×Int))(nums:List Int):Nat->Nat->List Int
 |0,_=>nums
 |n+1,k=>match(fG k nums).find? (kW edges wishes nums)with
  |some s=>s
  |none=>wJ edges wishes nums n (k+1)
noncomputable def fS(edges wishes:List (Int×Int)):List Nat:=(ay ↑edges).filter λi=>match edges[i]? with|some p=>closes p (edges++wishes)|none=>false
def dq(l:List Nat):List Int:=l.map λ(n:Nat)=>(n:Int)
noncomputable def mw(edges wishes:List (Int×Int)):List Int:=
 if 10<↑(fS edges wishes)then dq (oU edges wishes).2 else wJ edges wishes (dq<|fS edges wishes) ↑(fS edges wishes) 0
def G2(edges wishes:List (Int×Int)):∀i,i<=↑edges->∀n∈(oU (edges.take i) wishes).2,n<↑edges
 |0,_,n,h=>by simp[oU]at h
 |i+1,c,n,h=>by
  let a:=G2 edges wishes i oM;let#[p,b]:∃p,edges[i]?>p:=#[_,aq oM];rw[Bm edges wishes i p b]at h;delta sJ at h;split at h
  .grind
  .exact a n h
def Hm(edges wishes:List (Int×Int))(nums):∀n k,(∀x∈wJ edges wishes nums n k,x∈nums)/\↑(wJ edges wishes nums n k)<=max ↑nums (n+k)
 |0,k=>by delta wJ;exact#[λx h=>h,Tg _ _]
 |n+1,k=>by
  delta wJ;cases q:(fG k nums).find? (kW edges wishes nums)with
  |none=>
   let#[a,b]:=Hm edges wishes nums n<|k+1;exact#[a,by rw[show n+1+k=n+(k+1) by omega];exact b]
  |some s=>
   let#[a,b]:=jK k nums s<|ph q;exact#[a,by show ↑s<=_;rw[b];exact bu oM<|Sx _ _]
def yW(h:n∈fS edges wishes):n<↑edges:=by delta fS at h;exact cb.mp (be.mp h).1
def E5(edges wishes:List (Int×Int)):(dq<|fS edges wishes).Pairwise (·<·):=by delta dq fS;rw[fq];refine Y9 (λh=>oM) (kM _<|gf)
def K2(edges wishes:List (Int×Int)):∀n∈mw edges wishes,0<=n/\n<(↑edges:Int):=by
 intro n h;delta mw at h;split at h
 .obtain⟨m,hm,rfl⟩:=a_.mp h;let:=G2 edges wishes ↑edges (aI _) m (by rw[br];exact hm);omega
 .let:=(Hm edges wishes _ _ _).1 n h;obtain⟨m,hm,rfl⟩:=a_.mp this;let:=yW hm;omega
def yZ(edges:List (Int×Int))(t:List Int):List (Int×Int):=edges.zipIdx.map λx=>if(x.2:Int)∈t then(x.1.2,x.1.1)else x.1
def Ni(edges:List (Int×Int)):yZ edges []=edges:=by
 delta yZ;let e:(λx:(Int×Int)×Nat=>if(x.2:Int)∈([]:List Int)then(x.1.2,x.1.1)else x.1)=λx=>x.1:=by funext x;simp
 rw[e];exact List.zipIdx_map_fst 0 edges
def yc(edges:List (Int×Int))(t)(i:Nat):(yZ edges t)[i]?=(edges[i]?).map λp=>if(i:Int)∈t then(p.2,p.1)else p:=by grind [yZ]
def pick(c:Int)(p:Int×Int):Int:=if c=0 then p.1 else p.2
def rV:List Int->Int
 |[]=>0
 |[x]=>x
 |x::y::l=>if x<=rV (y::l)then x else rV (y::l)
def rT:List Int->Int
 |[]=>0
 |[x]=>x
 |x::y::l=>if rT (y::l)<=x then x else rT (y::l)
def sel(c e:Int)(box:Int)(rs:List Int)(arcs:List (Int×Int)):List Int:=(arcs.filter λp=>decide<|pick c p=box).map λp=>rs.getD (pick e p).toNat 0
def ny(c:Int)(box:Int)(edges:List (Int×Int)):Nat:=↑(edges.filter λp=>decide<|pick c p=box)
def pa(box:Int)(rs:List Int)(edges arcs:List (Int×Int)):Int:=
 if ny 1 box edges<ny 0 box edges then rV (sel 0 1 box rs arcs)-1 else if ny 0 box edges<ny 1 box edges then rT (sel 1 0 box rs arcs)+1 else rs.getD box.toNat 0
def uX(edges arcs:List (Int×Int))(rs:List Int)(v:Nat):List Int:=rs.set v (pa (v:Int) rs edges arcs)
def gM(edges arcs:List (Int×Int))(rs:List Int)(i:Nat):List Int:=(ay i).foldl (uX edges arcs) rs
def IT(rs:List Int)(v:Int):Int:=rs.getD v.toNat 0
def MM(arcs:List (Int×Int))(rs:List Int):Prop:=∀p∈arcs,IT rs p.1+1<=IT rs p.2
def Below(rs L:List Int):Prop:=↑rs=↑L/\∀(i:Nat)(x y:Int),rs[i]?>x->L[i]?>y->0<=x/\x<=y
def qJ(b:Int):Bool:=(decide (97<=b)&&decide (b<=122))||(decide (65<=b)&&decide (b<=90))
def ip(b:Int):Bool:=decide (48<=b)&&decide (b<=57)
def ic(p:Int->Bool)(bs:List Int)(s:Nat):Nat:=s+↑((bs.drop s).takeWhile p)
def yF(bs:List Int)(s e:Nat):Int:=((bs.drop s).take (e-s)).foldl (λv b=>v*10+b-48) 0
def k6(b:Int):Bool:=decide (b=9)||decide (b=10)||decide (b=32)
def lm(bs:List Int):Nat->Nat->Nat
 |0,s=>s
 |n+1,s=>match bs[s]? with
  |none=>s
  |some b=>if b=35 then lm bs n (ic (λb=>decide<|b≠10) bs s)else if k6 b=true then lm bs n (s+1)else s
def ie(bs:List Int)(s:Nat):Nat:=lm bs (↑bs+1) s
open Vadiaa (Arc peel open_ spread)
def gn(a:Nat×Nat):Int×Int:=((a.1:Int),(a.2:Int))
def bR(l:List (Nat×Nat)):List (Int×Int):=l.map gn
theorem M9(h:gn a=gn b):a=b:=by grind [gn]
theorem dD:p∈bR l↔∃a∈l,gn a=p:=by delta bR;exact a_
def yq:gn a∈bR l↔a∈l:=by grind [dD,M9]
def kX(l m):bR (l++m)=bR l++bR m:=aJ
theorem eY(l):↑(bR l)=↑l:=aj _
def Reach.mono(h:∀p∈A,p∈B)(r:Reach A s u):Reach B s u:=by
 induction r with
 |refl=>exact .refl
 |step _ m a=>exact .step a (h _ m)
theorem Reach.trans(r:Reach A s u)(q:Reach A u v):Reach A s v:=by
 induction q with
 |refl=>exact r
 |step _ m a=>exact .step a m
def i9.mono(h:∀p∈A,p∈B)(c:i9 A):i9 B:=by let#[S,h0,a,b]:=c;exact#[S,h0,λp d=>h p<|a p d,b]
def i9.core:∀n S,↑S<=n->S≠[]->(∀p∈S,∃q∈S,q.2=p.1)->∃T,T≠[]/\(∀p∈T,p∈S)/\(∀p∈T,∃q∈T,q.2=p.1)/\∀p∈T,Reach T p.2 p.1
 |0,S,h,h0,_=>gR
 |n+1,S,h,h0,b=>by
  by_cases c:∀p∈S,Reach S p.2 p.1
  .exact#[S,h0,λ_ h=>h,b,c]
  .let#[p,d]:=Classical.not_forall.mp c;let#[d,r]:=Classical.not_imp.mp d;refine_lift(let B:=S.filter λq=>@decide (Reach S q.2 p.1) (du _);?_);let a:∀q,q∈B↔q∈S/\Reach S q.2 p.1:=gR;let j:↑B<↑S:=by grind [Nat.lt_of_le_of_ne,ca,lG]
   let#[q,l,e]:=b p d;let f:q∈B:=(a q).mpr #[l,by rw[e];exact .refl];let#[T,t0,t1,m,t3]:=i9.core n B oM (oE f) (by intro z hz;let#[hz,g]:=(a z).mp hz;let#[y,o,i]:=b z hz;refine#[y,(a y).mpr #[o,?_],i];rw[i];exact(Reach.step .refl (show(z.1,z.2)∈S from hz)).trans g)
   exact#[T,t0,λz hz=>((a z).mp (t1 z hz)).1,m,t3]
def nO(h:¬i9 kept):i9 (a::kept)↔Reach kept a.2 a.1:=by
 constructor
 .rintro⟨S,h0,c,f⟩;let#[T,t0,t1,g,t3]:=i9.core ↑S S (aI _) h0 f;let i:a∈T:=by
   refine c7 λna=>h #[T,t0,λp b=>?_,g];obtain rfl|m:=aE.mp (c p<|t1 p b)
   .exact ae b na
   .exact m
  let r:Reach (a::kept) a.2 a.1:=(t3 a i).mono λp b=>c p<|t1 p b;let:∀x,Reach (a::kept) a.2 x->Reach kept a.2 x:=by
   intro x r;induction r with
   |refl=>exact .refl
   |@step u v _ m j=>
    obtain e|m:=aE.mp m
    .rw[<-e];exact .refl
    .exact .step j m
  exact this _ r
 .intro r;refine#[(a::kept).filter λp=>@decide (Reach kept a.2 p.1) (du _),?_,λp b=>(be.mp b).1,λp b=>?_]
  .grind
  .let d:=(@decide_eq_true_iff _<|du _).mp (be.mp b).2;generalize p.1=x at d;cases d with
   |refl=>exact#[a,be.mpr #[.head _,@decide_eq_true _ (du _) r],rfl]
   |@step u v l m=>exact#[(u,x),be.mpr #[.tail _ m,@decide_eq_true _ (du _) l],rfl]
def su(h:∀p,p∈A↔p∈B):i9 A↔i9 B:=#[i9.mono λp=>(h p).mp,i9.mono λp=>(h p).mpr]
def iL:ro A=true↔i9 A:=by delta ro;exact@decide_eq_true_iff _ (du _)
def M_(h:i9 A↔i9 B):ro A=ro B:=by rw[b7,iL,iL];exact h
def mB:closes p A=true↔Reach A p.2 p.1:=by delta closes;exact@decide_eq_true_iff _ (du _)
def Ec{S:List (Int×Int)}(d:∀p∈S,p∈bR l)(f:∀p∈S,∃q∈S,q.2=p.1):∀n(vs:List Nat),(∀p∈S,∃v∈vs,(v:Int)=p.2)->∀p∈S,∃v∈peel l n vs,(v:Int)=p.2
 |0,vs,h,p,b=>h p b
 |n+1,vs,h,p,b=>by
  delta peel;refine Ec d f n _ (λq c=>?_) p b;let#[v,i,e]:=h q c;refine#[v,be.mpr #[i,?_],e];let#[a,j,g]:=dD.mp<|d q c;let#[y,m,r]:=f q c;let#[u,o,s]:=h y m;rw[qr];exists a,j;rw[b_,beq_iff_eq,bB];let w:(a.1:Int)=q.1:=by rw[<-g];rfl
  let x:(a.2:Int)=q.2:=by rw[<-g];rfl
  let:a.1=u:=oM;exact#[oM,this▸o]
def DR:∀n vs,↑vs<=n->peel l n vs≠[]->i9 (bR l)
 |0,vs,h,h0=>by let:vs=[]:=g0.mp<|Nat.le_zero.mp h;subst this;exact ae rfl h0
 |n+1,vs,h,h0=>by
  delta peel at h0;by_cases c:↑(vs.filter λv=>l.any λa=>a.2==v&&vs.contains a.1)<↑vs
  .exact DR n _ oM h0
  .let he:=ca (λv=>l.any λa=>a.2==v&&vs.contains a.1) vs;let j:=lG.mp (show(vs.filter λv=>l.any λa=>a.2==v&&vs.contains a.1).length=↑vs by omega);let g:vs≠[]:=by
    intro e;subst e;let:∀n,peel l n []=[]:=by
     intro n;induction n with
     |zero=>rfl
     |succ n o=>unfold peel;exact o
    exact h0 (this n)
   let step:∀v∈vs,∃a∈l,a.2=v/\a.1∈vs:=gR;refine#[bR<|l.filter λa=>vs.contains a.1&&vs.contains a.2,?_,λp i=>?_,λp i=>?_]
   .let#[v,m]:=iB _ g;let#[a,d,e,f]:=step v m;refine oE (yq.mpr (be.mpr #[d,?_]):gn a∈_);rw[b_,bB,bB];exact#[f,e▸m]
   .let#[a,d,e]:=dD.mp i;exact dD.mpr #[a,(be.mp d).1,e]
   .let#[a,d,e]:=dD.mp i;let#[d,f]:=be.mp d;rw[b_,bB,bB]at f;let#[b,q,r,s]:=step a.1 f.1;exists gn b,yq.mpr (be.mpr #[q,?_])
    .grind
    .rw[<-e];show(b.2:Int)=(a.1:Int);rw[r]
def qO(h:∀a∈l,a.2<n):qg n l=!ro (bR l):=by
 let key:qg n l=true↔¬i9 (bR l):=by
  delta qg;rw[List.isEmpty_iff];constructor
  .rintro e ⟨S,h0,b,d⟩;let#[p,f]:=iB _ h0;let#[v,c,_]:=Ec b d n (ay n) (λq g=>by let#[a,i,j]:=dD.mp<|b q g;exact#[a.2,cb.mpr<|h a i,by rw[<-j];rfl]) p f
   rw[e]at c;simp at c
  .intro m;exact c7 λe=>m (DR n _ sP e)
 rw[b7,key,lB,<-i3,iL]
def Ol{n:Nat}{l:List Arc}{v:Nat}(h:∀a∈l,a.2<n):∀(k i:Nat)(vs:List Nat),n+1<=k+i->vs.Nodup->(∀u∈vs,u<n)->v∈vs->(∀u∈vs,Reach (bR l) v u)->
  (∀(j u:Nat),j<i->vs[j]?>u->∀a∈l,a.1=u->a.2∈vs)->∀u:Nat,u∈spread l k i vs↔Reach (bR l) v u:=by
 let closed:∀(i:Nat)(vs:List Nat),↑vs<=i->v∈vs->(∀u∈vs,Reach (bR l) v u)->(∀(j u:Nat),j<i->vs[j]?>u->∀a∈l,a.1=u->a.2∈vs)->∀u:Nat,u∈vs↔Reach (bR l) v u:=by
  intro i vs H y A B u;refine#[A u,λr=>?_];let gen:∀x:Int,Reach (bR l) v x->∃u∈vs,(u:Int)=x:=by
   intro x r;induction r with
   |refl=>exact#[v,y,rfl]
   |@step p q _ m L=>
    obtain⟨w,hw,e⟩:=L;obtain⟨a,f,C⟩:=dD.mp m;obtain⟨j,O,P⟩:=j' hw;delta gn at C;injection C with X Q;exact#[a.2,B j w (by omega) (by rw[aq O,P]) a f (by omega),Q]
  obtain⟨w,hw,e⟩:=gen u r;let:w=u:=by omega
  exact this▸hw
 let o:∀vs:List Nat,vs.Nodup->(∀u∈vs,u<n)->↑vs<=n:=by intro vs hd d;let:=(i6 (n:=n)).length_le_of_subset (l₂:=vs);let y:↑vs<=↑(ay n):=eM hd (λu g=>cb.mpr (d u g));simpa using y
 intro k;induction k with
 |zero=>
  intro i vs R hd d I D J u;delta spread;exact closed i vs (by let:=o vs hd d;omega) I D J u
 |succ k L=>
  intro i vs R hd d I D J u;delta spread;cases q:vs[i]? with
  |none=>
   simp only[];exact closed i vs (by rw[fh]at q;exact q) I D J u
  |some x=>
   simp only[];let fold:∀(z:List Arc)(us:List Nat),(∀a∈z,a∈l/\a.1=x)->us.Nodup->(∀u∈us,u<n)->(∀u∈us,Reach (bR l) v u)->
     (z.foldl (λus a=>if us.contains a.2=true then us else us++[a.2]) us).Nodup/\(∀u∈z.foldl (λus a=>if us.contains a.2=true then us else us++[a.2]) us,u<n/\Reach (bR l) v u)/\
     (∃t,z.foldl (λus a=>if us.contains a.2=true then us else us++[a.2]) us=us++t)/\∀a∈z,a.2∈z.foldl (λus a=>if us.contains a.2=true then us else us++[a.2]) us:=by
    intro z;induction z with
    |nil=>intro us _ y A B;exact#[y,λu g=>#[A u g,B u g],#[[],by simp],λa f=>by simp at f]
    |cons a r E=>
     intro us H y A B;rw[cy];let f:=H a (.head _);by_cases c:us.contains a.2=true
     .rw[ac c];obtain⟨a1,a2,⟨t,F⟩,M⟩:=E us (λb d=>H b (.tail _ d)) y A B;refine#[a1,a2,#[t,F],λb d=>?_];obtain rfl|d:=aE.mp d
      .rw[F];exact bf _ (bB.mp c)
      .exact M b d
     .rw[aa c];let S:a.2∉us:=λm=>c (bB.mpr m);let N:Reach (bR l) v (a.2:Int):=.step (u:=(x:Int)) (D x (ax q)) (dD.mpr #[a,f.1,by delta gn;rw[f.2]]);obtain⟨a1,a2,⟨t,F⟩,M⟩:=E (us++[a.2]) (λb d=>H b (.tail _ d)) (by
        rw[lH];refine#[y,by simp,λp T s U e=>?_];rw[bd.mp U]at e;exact S (e▸T)) (λu g=>by
        obtain m|m:=aM.mp g
        .exact A u m
        .rw[bd.mp m];exact h a f.1) (λu g=>by
        obtain m|m:=aM.mp g
        .exact B u m
        .rw[bd.mp m];exact N)
      refine#[a1,a2,#[a.2::t,by rw[F];simp],λb d=>?_];obtain rfl|d:=aE.mp d
      .rw[F];simp
      .exact M b d
   obtain⟨f1,f2,⟨t,K⟩,f4⟩:=fold (l.filter λa=>a.1==x) vs (λa f=>#[(be.mp f).1,by simpa using(be.mp f).2]) hd d D;refine L (i+1) _ (by omega) f1 (λu g=>(f2 u g).1) (by rw[K];exact bf _ I) (λu g=>(f2 u g).2) (λj w O hw a f C=>?_) u;by_cases W:j<i
   .let G:=(aP.mp q).1;rw[K,iC (by omega)]at hw;rw[K];exact bf _ (J j w W hw a f C)
   .let:j=i:=by omega
    subst this;let G:=(aP.mp q).1;rw[K,iC G,q]at hw;injection hw with hw;subst hw;exact f4 a (be.mpr #[f,by simpa using C])
def Kn(h:∀a∈l,a.2<n)(b:v<n)(u):(Pg n l v).contains u=closes ((u:Int),(v:Int)) (bR l):=by rw[b7,bB,mB];delta Pg;refine Ol h (n+1) 0 [v] oM sP (by simpa using b) sP (λu c=>?_) (λj u d=>oM) u;rw[bd.mp c];exact .refl
end Cr
namespace Cr
open Vadiaa (Diagram arcs wishArcs circled leastSet greedySet turned downs withoutSome breaks choose open_)
structure EI(d:Diagram):Prop where
 e1:∀a∈arcs d,a.1<↑d.boxes/\a.2<↑d.boxes
 w1:∀a∈eA d,a.1<↑d.boxes/\a.2<↑d.boxes
 wo:¬i9 (bR (eA d))
variable{d:Diagram}
theorem pN(d:Diagram):↑(arcs d)=↑d.edges:=by delta arcs;rw[aj]
def Ba(D:EI d):circled d=fS (bR<|arcs d) (bR<|eA d):=by
 delta circled fS;simp only[];rw[eY,pN];refine d4 λi b=>?_;let b:i<↑(arcs d):=by rw[pN];exact cb.mp b
 delta bR;rw[ak,aq b];simp only[bD];let:=Kn (n:=↑d.boxes) (l:=arcs d++eA d) (v:=((arcs d)[i]).2) (λa c=>by
  obtain m|m:=aM.mp c
  .exact(D.e1 a m).2
  .exact(D.w1 a m).2) (D.e1 _<|cx b).2 ((arcs d)[i]).1
 rw[this,kX];rfl
def n_(f:Nat->Int):∀k l,fG k (l.map f)=(choose k l).map λs=>s.map f
 |0,l=>by delta choose;cases l<;>rfl
 |k+1,[]=>rfl
 |k+1,x::r=>by rw[bb];delta fG choose;rw[n_ f k r];rw[aJ,aS,aS];congr 1;let:=n_ f (k+1) r;exact this
def A8:∀l,choose ↑l l=[l]
 |[]=>rfl
 |x::r=>by
  let h0:∀k l,↑l<k->choose k l=[]:=by
   intro k;induction k with
   |zero=>intro l h;omega
   |succ k b=>
    intro l;induction l with
    |nil=>intro _;rfl
    |cons y m a=>
     intro h;delta choose;rw[b m (by simp at h;omega),a (by simp at h;omega)];rfl
  rw[aQ];delta choose;rw[A8 r,h0 (↑r+1) r oM];rfl
def nA{n:Nat}:(n:Int)∈dq l↔n∈l:=by grind [dq]
def DO(D:EI d)(s):breaks d s=kW (bR<|arcs d) (bR<|eA d) (dq<|circled d) (dq s):=by
 delta breaks kW;let g:∀a∈dQ d s,a.2<↑d.boxes:=by
  intro a b;delta dQ at b;obtain m|m:=aM.mp b
  .let#[x,l,e]:=dS.mp m;split at e
   .simp at e
   .injection e with e;let:=Sv l;rw[<-e,this.2.2];exact(D.e1 _<|cx _).2
  .exact(D.w1 a m).2
 rw[qO g];congr 1;refine M_ #[λc=>?_,λc=>?_]
 .let#[S,h0,r,v]:=c;let#[T,t0,t1,w,t3]:=i9.core ↑S S (aI _) h0 v;refine#[T,t0,λp f=>?_,w];let h:∀p∈T,p∈bR (arcs d++eA d):=by
   intro p f;let#[a,b,e]:=dD.mp<|r p<|t1 p f;refine dD.mpr #[a,?_,e];delta dQ at b;obtain m|m:=aM.mp b
   .grind
   .grind
  let y:Reach (bR<|arcs d++eA d) p.2 p.1:=(t3 p f).mono h;let#[a,b,e]:=dD.mp<|r p<|t1 p f;delta dQ at b;obtain m|m:=aM.mp b
  .let#[x,l,ex]:=dS.mp m;split at ex
   .simp at ex
   .rename_i j;injection ex with ex;let hz:=Sv l;refine bf _ ?_;delta restOf;refine dS.mpr #[(x.2:Int),be.mpr #[nA.mpr ?_,?_],?_]
    .rw[Ba D];delta fS;let i:x.2<↑(arcs d):=oM;refine be.mpr #[cb.mpr<|by rw[eY];exact i,?_];delta bR;rw[ak,aq i];simp only[bD];let z:gn (arcs d)[x.2]=p:=by rw[<-e,<-ex,hz.2.2];rfl
     rw[z,mB];exact y.mono λq u=>by rw[kX]at u;exact u
    .rw[decide_eq_true_iff];intro hm;exact j (bB.mpr<|nA.mp hm)
    .grind [bR,aT,ak,aq]
  .exact bE _ (dD.mpr #[a,m,e])
 .refine c.mono λp f=>?_;obtain m|m:=aM.mp f
  .delta restOf at m;let#[n,o,e]:=dS.mp m;let#[o,j]:=be.mp o;obtain⟨k,B,rfl⟩:=a_.mp o;rw[aT]at e;delta bR at e;rw[ak]at e;cases q:(arcs d)[k]? with
   |none=>rw[q]at e;simp at e
   |some a=>
    rw[q]at e;simp only[bD]at e;injection e with e;refine dD.mpr #[a,?_,e];delta dQ;refine bf _ (dS.mpr #[(a,k),?_,?_])
    .grind
    .rw[if_neg];intro A;rw[decide_eq_true_iff]at j;exact j (nA.mpr<|bB.mp A)
  .let#[a,b,e]:=dD.mp m;refine dD.mpr #[a,?_,e];delta dQ;exact bE _ b
def y'(D:EI d):∀n k,n+k=↑(circled d)->dq (mL d (circled d) (n+1) k)=wJ (bR<|arcs d) (bR<|eA d) (dq<|circled d) n k
 |0,k,h=>by let a:k=↑(circled d):=oM;delta mL wJ;rw[a,A8];simp only[fJ,CU];cases breaks d (circled d)<;>rfl
 |n+1,k,h=>by
  delta mL wJ;let e:fG k (dq<|circled d)=(choose k<|circled d).map dq:=n_ (λn=>(n:Int)) k (circled d);rw[e,CQ];let b:(kW (bR<|arcs d) (bR<|eA d) (dq<|circled d)∘dq)=breaks d:=funext λs=>(DO D s).symm;rw[b];cases q:(choose k<|circled d).find? (breaks d)with
  |some s=>rfl
  |none=>exact y' D n (k+1) oM
def Nv(D:EI d):D0 d=(oU (bR<|arcs d) (bR<|eA d)).2:=by
 delta D0 oU;let gen:∀es s x y,(∀a∈es,a.2<↑d.boxes)->(∀a∈x.1,a.2<↑d.boxes)->(∀p,p∈bR x.1↔p∈y.1)->x.2=y.2->¬i9 y.1->
   ((es.zipIdx s).foldl (λx a=>if qg ↑d.boxes (a.1::x.1)=true then(a.1::x.1,x.2)else(x.1,x.2++[a.2])) x).2=(((bR es).zipIdx s).foldl sJ y).2:=by
  intro es;induction es with
  |nil=>intro s x y _ _ _ h _;exact h
  |cons a r i=>
   intro s x y j m n l f;delta bR;rw[bb,fb,fb,cy,cy];let o:qg ↑d.boxes (a::x.1)=!closes (gn a) y.1:=by rw[qO (λb e=>gR)];congr 1;rw[b7,iL,mB];rw[su (B:=gn a::y.1) (λp=>by grind [bR])];exact nO f
   simp only[];rw[o];delta sJ;simp only[];by_cases c:closes (gn a) y.1=true
   .rw[aa (by rw[c];simp),ac c];exact i (s+1) _ _ (λb e=>j b<|.tail _ e) m n (by rw[l]) f
   .rw[ac (by simpa using c),aa c];refine i (s+1) _ _ (λb e=>j b<|.tail _ e) (λb e=>?_) (λp=>?_) l ?_
    .grind
    .grind [bR]
    .rw[su (B:=gn a::y.1) (λp=>by rw[aM,bd,aE];exact Or.comm),nO f,<-mB];exact c
 exact gen (arcs d) 0 _ _ (λa g=>(D.e1 a g).2) (λa g=>(D.w1 a g).2) (λp=>pG) rfl D.wo
def OF(D:EI d):dq (turned d)=mw (bR<|arcs d) (bR<|eA d):=by
 delta turned mw Tk;rw[<-Ba D];by_cases c:↑(circled d)<=Jn
 .rw[ac (by simpa using c),aa (by delta Jn at c;omega)];exact y' D ↑(circled d) 0 oM
 .rw[aa (by simpa using c),ac<|by delta Jn at c;omega,Nv D]
def PN(D:EI d):bR (downs d)=yZ (bR<|arcs d) (mw (bR<|arcs d) (bR<|eA d)):=by
 rw[<-OF D];delta downs;simp only[];apply cq;intro i;rw[yc];delta bR;rw[ak,ak,ak,uk];cases q:(arcs d)[i]? with
 |none=>rfl
 |some a=>
  simp only[bD,yO];by_cases c:(turned d).contains i=true
  .rw[ac c,ac (nA.mpr<|bB.mp c)];rfl
  .rw[aa c,aa (λh=>c<|bB.mpr<|nA.mp h)]
end Cr
namespace Cr
open Vadiaa (Diagram arcs wishArcs circled leastSet greedySet turned downs withoutSome breaks choose open_ Arc longest rankOf peel)
variable{d:Diagram}
def GF(a:¬i9 B)(h:∀p∈A,p∈B\/(p.1≠p.2/\Reach B p.1 p.2)):¬i9 A:=by
 rintro⟨S,h0,b,g⟩;let#[T,t0,t1,w,t3]:=i9.core ↑S S (aI _) h0 g;let conv:∀x y,Reach T x y->Reach B x y:=by
  intro x y r;induction r with
  |refl=>exact .refl
  |@step u v _ m c=>
   obtain z|z:=h _ (b _<|t1 _ m)
   .exact .step c z
   .exact c.trans z.2
 let#[p,f]:=iB _ t0;let r:=conv _ _ (t3 p f)
 let fin:∀q,q∈B->Reach B q.2 q.1->False:=by intro q i j;refine a ((su (A:=q::B) λz=>?_).mp ((nO a).mpr j));rw[aE];exact#[λz=>z.elim (λe=>e▸i) id,.inr]
 obtain z|⟨l,n⟩:=h p (b p<|t1 p f)
 .exact fin p z r
 .let:∀x,Reach B p.1 x->x=p.2->False:=by
   intro x o e;cases o with
   |refl=>exact l e
   |@step u v s m=>exact fin (u,x) m (by rw[<-e]at r;exact r.trans s)
  exact this _ n rfl
def mS(h:(arcs d)[i]?>a)(b:i∉s):a∈dQ d s:=by
 delta dQ;refine bf _ (dS.mpr #[(a,i),?_,?_])
 .grind
 .grind
def lw(h:a∈dQ d s):(∃i,(arcs d)[i]?>a/\i∉s)\/a∈eA d:=by
 delta dQ at h;obtain m|m:=aM.mp h
 .grind
 .exact .inr m
def Ap(D:EI d)(s):∀a∈dQ d s,a.2<↑d.boxes:=by
 intro a b;obtain⟨i,h,_⟩|h:=lw b
 .exact(D.e1 a<|ax h).2
 .exact(D.w1 a h).2
theorem A5(D:EI d)(s):breaks d s=true↔¬i9 (bR<|dQ d s):=by delta breaks;rw[qO (Ap D s),lB,<-i3,iL]
def qB:∀k c s,s∈choose k c->s.Sublist c/\↑s=k
 |0,c,s,h=>by delta choose at h;cases c<;>(simp at h;subst h;simp)
 |k+1,[],s,h=>by simp[choose]at h
 |k+1,x::r,s,h=>by
  delta choose at h;obtain m|m:=aM.mp h
  .obtain⟨t,e,rfl⟩:=a_.mp m;let#[a,b]:=qB k r t e;exact#[a.cons_cons x,by simp[b]]
  .let#[a,b]:=qB (k+1) r s m;exact#[a.cons x,b]
theorem vb:∀c s,s.Sublist c->s∈choose ↑s c
 |c,[],_=>by delta choose;cases c<;>simp
 |[],x::s,h=>by cases h
 |y::r,x::s,h=>by
  rw[aQ];delta choose;cases h with
  |cons _ h=>exact bE _ (vb r (x::s) h)
  |cons_cons _ h=>exact bf _ (a_.mpr #[s,vb r s h,rfl])
def wF(D:EI d)(c):∀n k,n+k=↑c+1->(∀s,s.Sublist c->↑s<k->breaks d s=false)->
  ∀s,s.Sublist c->↑s<↑(mL d c n k)->breaks d s=false
 |0,k,h,b,s,f,a=>gR
 |n+1,k,h,b,s,f,a=>by
  delta mL at a;cases q:(choose k c).find? (breaks d)with
  |some t=>
   rw[q]at a;let:=qB k c t<|ph q;simp only[]at a;exact b s f oM
  |none=>
   rw[q]at a;simp only[]at a;refine wF D c n (k+1) oM (λt g i=>?_) s f a;by_cases e:↑t<k
   .exact b t g e
   .grind [vb]
def za(c):∀n k,(mL d c n k).Sublist c/\(breaks d c=true->breaks d (mL d c n k)=true)
 |0,k=>#[Z' _,id]
 |n+1,k=>by
  delta mL;cases q:(choose k c).find? (breaks d)with
  |some t=>exact#[(qB k c t<|ph q).1,λ_=>List.find?_some q]
  |none=>exact za c n (k+1)
def A_(D:EI d):breaks d (circled d)=true:=by
 rw[DO D];delta kW;rw[lB,<-i3,iL];let:restOf (bR<|arcs d) (dq<|circled d) (dq<|circled d)=[]:=by grind [restOf,dq,lE]
 rw[this];exact D.wo
def OG(D:EI d):¬i9 (bR<|dQ d<|turned d)/\∀i a,i∈turned d->(arcs d)[i]?>a->Reach (bR<|dQ d<|turned d) a.2 a.1:=by
 delta turned;by_cases c:Tk d=true
 .rw[ac c];let#[u,H]:=za (d:=d) (circled d) (↑(circled d)+1) 0;let f:=(A5 D _).mp (H<|A_ D);let v:=wF D (circled d) (↑(circled d)+1) 0 oM (λs _ h=>oM);generalize mL d (circled d) (↑(circled d)+1) 0=t at*;refine#[f,λi a g q=>?_];let S:t.Nodup:=u.nodup<|kM _ i6;let I:↑(t.erase i)<↑t:=gR;let hf:=v (t.erase i) ((List.erase_sublist).trans u) I;let J:i9 (bR<|dQ d<|t.erase i):=by grind [A5]
  let K:i9 (gn a::bR (dQ d t)):=J.mono λp w=>by
   let#[b,f,e]:=dD.mp w;obtain⟨j,T,U⟩|hw:=lw f
   .by_cases W:j=i
    .grind
    .refine .tail _ (dD.mpr #[b,mS T λm=>U ?_,e]);exact(Jf W).mpr m
   .exact .tail _ (dD.mpr #[b,by delta dQ;exact bE _ hw,e])
  exact(nO f).mp K
 .rw[aa c];let gen:∀(es:List Arc)(s:Nat)(x:List Arc×List Nat),(∀a∈es,a.2<↑d.boxes)->(∀a∈x.1,a.2<↑d.boxes)->¬i9 (bR x.1)->(∀i∈x.2,i<s)->
    let y:=(es.zipIdx s).foldl (λ(x:List Arc×List Nat) a=>if qg ↑d.boxes (a.1::x.1)=true then(a.1::x.1,x.2)else(x.1,x.2++[a.2])) x
    ¬i9 (bR y.1)/\(∀a∈x.1,a∈y.1)/\(∀i,i∈y.2->i∈x.2\/s<=i)/\(∀i∈x.2,i∈y.2)/\(∀a∈y.1,a∈x.1\/∃i,s<=i/\es[i-s]?>a/\i∉y.2)/\
     (∀(i:Nat)(a:Arc),s<=i->es[i-s]?>a->i∉y.2->a∈y.1)/\∀(i:Nat)(a:Arc),s<=i->i∈y.2->es[i-s]?>a->Reach (bR y.1) a.2 a.1:=by
   intro es;induction es with
   |nil=>
    intro s x _ _ E P;refine#[E,λ_ h=>h,λi h=>.inl h,λ_ h=>h,λa h=>.inl h,λi a _ h=>by simp at h,λi a _ _ h=>by simp at h]
   |cons a r Q=>
    intro s x u H E P;simp only[fb,cy];let X:=qO (n:=↑d.boxes) (l:=a::x.1) (λb f=>gR);let o:qg ↑d.boxes (a::x.1)=true↔¬i9 (bR<|a::x.1):=by rw[X,lB,<-i3,iL]
    by_cases co:qg ↑d.boxes (a::x.1)=true
    .rw[ac co];let#[L,F,R,G,M,Y,Z]:=Q (s+1) (a::x.1,x.2) (λb f=>u b<|.tail _ f) (λb f=>gR) (o.mp co) (λi g=>by let:=P i g;omega);let hs:s∉((r.zipIdx<|s+1).foldl (λ(x:List Arc×List Nat) a=>if qg ↑d.boxes (a.1::x.1)=true then(a.1::x.1,x.2)else(x.1,x.2++[a.2])) (a::x.1,x.2)).2:=gR;refine#[L,λb f=>F b<|.tail _ f,λi g=>(R i g).imp id oM,G,λb f=>?_,λi b A B C=>?_,λi b A B C=>?_]
     .obtain z|⟨i,z1,N,O⟩:=M b f
      .grind
      .grind
     .grind
     .grind
    .rw[aa co];let#[L,F,R,G,M,Y,Z]:=Q (s+1) (x.1,x.2++[s]) (λb f=>u b<|.tail _ f) H E (λi g=>gR);let hs:s∈((r.zipIdx<|s+1).foldl (λ(x:List Arc×List Nat) a=>if qg ↑d.boxes (a.1::x.1)=true then(a.1::x.1,x.2)else(x.1,x.2++[a.2])) (x.1,x.2++[s])).2:=G s sP;refine#[L,F,λi g=>?_,λi g=>G i<|bf _ g,λb f=>?_,λi b A B C=>?_,λi b A B C=>?_]
     .grind
     .obtain z|⟨i,z1,N,O⟩:=M b f
      .exact .inl z
      .grind
     .grind
     .by_cases e:i=s
      .subst e;simp at C;subst C;let J:i9 (bR<|a::x.1):=c7 λn=>co<|o.mpr n;exact((nO E).mp J).mono λp w=>by let#[z,hz,e]:=dD.mp w;exact dD.mpr #[z,F z hz,e]
      .grind
  let#[g1,g2,g3,g4,g5,g6,g7]:=gen (arcs d) 0 (eA d,[]) (λa q=>(D.e1 a q).2) (λa q=>(D.w1 a q).2) D.wo (λi g=>by simp at g);let same:∀p,p∈bR (dQ d<|D0 d)↔p∈bR (((arcs d).zipIdx 0).foldl (λ(x:List Arc×List Nat) a=>if qg ↑d.boxes (a.1::x.1)=true then(a.1::x.1,x.2)else(x.1,x.2++[a.2])) (eA d,[])).1:=by
   intro p;rw[dD,dD];refine exists_congr λa=>and_congr_left λ_=>#[λh=>?_,λh=>?_]
   .obtain⟨i,A,B⟩|h:=lw h
    .exact g6 i a oM (by simpa using A) B
    .exact g2 a h
   .obtain z|⟨i,_,N,O⟩:=g5 a h
    .delta dQ;exact bE _ z
    .exact mS (by simpa using N) O
  refine#[λc=>g1<|(su same).mp c,λi a g q=>?_];exact(g7 i a oM g<|by simpa using q).mono λp w=>(same p).mpr w
def DV(d:Diagram)(i):(downs d)[i]?=((arcs d)[i]?).map λa=>if i∈turned d then(a.2,a.1)else a:=by
 delta downs;simp only[];rw[ak,uk];cases(arcs d)[i]? with
 |none=>rfl
 |some a=>
  simp only[bD,yO,bB]
def Bd(D:EI d)(g:∀a∈arcs d,a.1≠a.2):¬i9 (bR<|downs d++eA d):=by
 let#[h,n]:=OG D;refine GF h λp j=>?_;let#[b,l,e]:=dD.mp j;obtain m|m:=aM.mp l
 .let#[i,f]:=iH m;rw[DV]at f;cases q:(arcs d)[i]? with
  |none=>rw[q]at f;simp at f
  |some a=>
   rw[q]at f;simp only[bD]at f;injection f with f;by_cases c:i∈turned d
   .grind [gn]
   .rw[aa c]at f;left;rw[<-f]at e;exact dD.mpr #[a,mS q c,e]
 .left;exact dD.mpr #[b,by delta dQ;exact bE _ m,e]
def vc(D:EI d):∀a∈downs d++eA d,a.1<↑d.boxes/\a.2<↑d.boxes:=by
 intro b f;obtain m|m:=aM.mp f
 .let#[i,e]:=iH m;rw[DV]at e;cases q:(arcs d)[i]? with
  |none=>rw[q]at e;simp at e
  |some a=>
   rw[q]at e;simp only[bD]at e;injection e with e;let:=D.e1 a<|ax q;by_cases c:i∈turned d
   .grind
   .grind
 .exact D.w1 b m
end Cr
namespace Cr
open Vadiaa (Diagram arcs wishArcs turned downs open_ Arc longest rankOf peel place pass settled total packed rankCount)
def roundF(n:Nat)(l:List Arc)(rs:List Nat):List Nat:=(ay n).map λv=>((l.filter λa=>a.2==v).map λa=>bv rs a.1+1).foldl j9 0
def wI(n)(l):∀k rs,longest n l (k+1) rs=roundF n l (longest n l k rs)
 |0,rs=>rfl
 |k+1,rs=>by
  conv=>lhs;unfold longest
  rw[show(ay n).map (λv=>((l.filter λa=>a.2==v).map λa=>bv rs a.1+1).foldl j9 0)=roundF n l rs from rfl];rw[wI n l k (roundF n l rs)];rfl
def ja:∀(l:List Nat) m,m<=l.foldl j9 m/\∀x∈l,x<=l.foldl j9 m
 |[],m=>#[aI _,λ_ h=>by simp at h]
 |a::l,m=>by
  rw[cy];let#[d,c]:=ja l<|j9 m a;let e:m<=j9 m a:=Tg _ _;let f:a<=j9 m a:=Sx _ _;refine#[oM,λx b=>?_];obtain rfl|b:=aE.mp b
  .omega
  .exact c x b
def jV:∀(l:List Nat) m b,m<=b->(∀x∈l,x<=b)->l.foldl j9 m<=b
 |[],m,b,h,_=>h
 |a::l,m,b,h,c=>by rw[cy];exact jV l _ b (Nat.max_le.mpr #[h,c a<|.head _]) λx d=>c x (.tail _ d)
def wk:∀(l:List Nat) m,l.foldl pK m<=m/\∀x∈l,l.foldl pK m<=x
 |[],m=>#[aI _,λ_ h=>by simp at h]
 |a::l,m=>by
  rw[cy];let#[d,c]:=wk l<|pK m a;let e:pK m a<=m:=Nat.min_le_left _ _;let f:pK m a<=a:=Nat.min_le_right _ _;refine#[oM,λx b=>?_];obtain rfl|b:=aE.mp b
  .omega
  .exact c x b
def uH:∀(l:List Nat) m,l.foldl pK m=m\/l.foldl pK m∈l
 |[],m=>.inl rfl
 |a::l,m=>by
  rw[cy];obtain h|h:=uH l (pK m a)
  .grind
  .grind
def AR(l:List Arc)(rs:List Nat):Prop:=∀a∈l,bv rs a.1+1<=bv rs a.2
def Kp(n)(l)(rs):↑(roundF n l rs)=n:=by delta roundF;simp
def pY(h:v<n):bv (roundF n l rs) v=((l.filter λa=>a.2==v).map λa=>bv rs a.1+1).foldl j9 0:=by delta bv roundF;rw[ak,fj h];rfl
def fK(n:Nat)(l:List Arc)(k:Nat):List Nat:=longest n l k (cp n 0)
def qE(n)(l)(k):fK n l (k+1)=roundF n l (fK n l k):=wI n l k _
def sC(n)(l):∀k,↑(fK n l k)=n
 |0=>by simp[fK,longest]
 |k+1=>by rw[qE,Kp]
def wg(n)(l):∀k v,bv (fK n l k) v<=k
 |0,v=>by delta fK longest bv;rw[F4];split<;>simp
 |k+1,v=>by
  by_cases h:v<n
  .rw[qE,pY h];refine jV _ _ _ oM λx b=>?_;obtain⟨a,_,rfl⟩:=a_.mp b;let:=wg n l k a.1;omega
  .delta bv;rw[di (by rw[sC];omega)];simp
def LB(he:∀a∈l,a.1<n):∀m k vs,(∀v j,v<n->k<=j->bv (fK n l<|j+1) v≠bv (fK n l j) v->v∈vs)->
  ∀v j,v<n->k+m<=j->bv (fK n l<|j+1) v≠bv (fK n l j) v->v∈peel l m vs
 |0,k,vs,h,v,j,f,p,hd=>h v j f p hd
 |m+1,k,vs,h,v,j,f,p,hd=>by delta peel;refine LB he m (k+1) _ (λu i g r b=>?_) v j f oM hd;refine be.mpr #[h u i g oM b,?_];obtain⟨c,rfl⟩:∃c,i=c+1:=#[i-1,oM];refine c7 λq=>b ?_;rw[qE n l (c+1),qE n l c,pY g,pY g,<-qE];congr 1;refine bK λa d=>?_;let#[d,e]:=be.mp d;congr 1;refine c7 λo=>q ?_;rw[qr];exists a,d;rw[b_,bB];exact#[e,h a.1 c (he a d) oM o]
def LA(he:∀a∈l,a.1<n/\a.2<n)(e:¬i9 (bR l)):AR l (fK n l n):=by
 let f:peel l n (ay n)=[]:=by let:=qO (n:=n) (l:=l) λa b=>(he a b).2;rw[show ro (bR l)=false from by rw[<-i3,iL];exact e]at this;delta qg at this;simpa using this
 let fix:∀v,v<n->bv (fK n l<|n+1) v=bv (fK n l n) v:=by intro v g;refine c7 λc=>?_;let:=LB (λa b=>(he a b).1) n 0 (ay n) (λu j h _ _=>cb.mpr h) v n g oM c;rw[f]at this;simp at this
 intro a b;let#[i,d]:=he a b;rw[<-fix a.2 d,qE,pY d];exact(ja _ 0).2 _ (a_.mpr #[a,be.mpr #[b,sP],rfl])
def GR(hf:AR l rs):∀k v,bv (fK n l k) v<=bv rs v
 |0,v=>by let:=wg n l 0 v;omega
 |k+1,v=>by
  by_cases h:v<n
  .rw[qE,pY h];refine jV _ _ _ oM λx c=>?_;obtain⟨a,b,rfl⟩:=a_.mp c;let#[b,e]:=be.mp b;let e:a.2=v:=by simpa using e
   let:=GR (n:=n) hf k a.1;let:=hf a b;rw[e]at this;omega
  .let:bv (fK n l<|k+1) v=0:=by delta bv;rw[di (by rw[sC];omega)];rfl
   omega
def B1(c:↑a=↑b)(h:∀v,bv a v=bv b v):a=b:=by refine List.ext_getElem c λi d e=>?_;let:=h i;delta bv at this;rw[aq d,aq e]at this;exact this
def PY(a:↑rs=n)(hf:AR l rs)(b:∀v,bv rs v<=bv (fK n l n) v):rs=fK n l n:=
 B1 (by rw[a,sC]) λv=>Tf (b v) (GR hf n v)
def LR:∀l,l≠[]->rV l∈l/\∀x∈l,rV l<=x
 |[],h=>ae rfl h
 |[x],_=>#[by simp[rV],λy a=>by simp at a;subst a;simp[rV]]
 |x::y::l,_=>by
  let#[b,c]:=LR (y::l) sP;delta rV;split
  .grind
  .grind
def LQ:∀l,l≠[]->rT l∈l/\∀x∈l,x<=rT l
 |[],h=>ae rfl h
 |[x],_=>#[by simp[rT],λy a=>by simp at a;subst a;simp[rT]]
 |x::y::l,_=>by
  let#[b,c]:=LQ (y::l) sP;delta rT;split
  .grind
  .grind
theorem wN(rs)(v):(dq rs).getD v 0=(bv rs v:Int):=by delta dq bv;rw[bz,ak];cases rs[v]?<;>rfl
def eL(rs):↑(dq rs)=↑rs:=aj _
theorem Fx(rs)(v x:Nat):dq (rs.set v x)=(dq rs).set v (x:Int):=e_
def AE(h:dq a=dq b):a=b:=by grind [dq,vO]
theorem QQ(a):pick 1 (gn a)=(a.2:Int):=by delta pick;rw[aa oM];rfl
def aal(v:Nat)(es):ny 0 (v:Int) (bR es)=↑(es.filter λa=>a.1==v):=by grind [ny,bR,pick,gn,eB,aj,d4]
def aam(v:Nat)(es):ny 1 (v:Int) (bR es)=↑(es.filter λa=>a.2==v):=by grind [QQ,ny,bR,pick,gn,eB,aj,d4]
def ab3(v:Nat)(rs)(l):sel 0 1 (v:Int) (dq rs) (bR l)=dq ((l.filter λa=>a.1==v).map λa=>bv rs a.2):=by
 delta sel bR;rw[eB,aS];let:l.filter ((λp=>decide (pick 0 p=(v:Int)))∘gn)=l.filter λa=>a.1==v:=by refine d4 λa _=>?_;rw[b7];simp only[tV,pick,gn,if_true,decide_eq_true_eq,beq_iff_eq];omega
 rw[this];delta dq;rw[aS];refine bK λa _=>?_;let:=wN rs a.2;delta dq at this;simp only[tV,pick,gn];rw[aa oM,aT];exact this
def ab4(v:Nat)(rs)(l):sel 1 0 (v:Int) (dq rs) (bR l)=dq ((l.filter λa=>a.2==v).map λa=>bv rs a.1):=by
 delta sel bR;rw[eB,aS];let:l.filter ((λp=>decide (pick 1 p=(v:Int)))∘gn)=l.filter λa=>a.2==v:=by refine d4 λa _=>?_;rw[b7];show decide (pick 1 (gn a)=(v:Int))=true↔(a.2==v)=true;rw[decide_eq_true_iff,QQ,beq_iff_eq];omega
 rw[this];delta dq;rw[aS];refine bK λa _=>?_;let:=wN rs a.1;delta dq at this;simp only[tV,pick,gn];rw[ac trivial,aT];exact this
structure um(n:Nat)(l:List Arc)(rs:List Nat):Prop where
 len:↑rs=n
 zT:AR l rs
 bnd:∀v,bv rs v<=900
def jd(rs)(v x u)(h:v<↑rs):bv (rs.set v x) u=if u=v then x else bv rs u:=by
 delta bv;rw[d6];by_cases c:v=u
 .grind
 .grind
def jZ(es:List Arc)(rs:List Nat):Int:=(es.map λa=>(bv rs a.2:Int)-(bv rs a.1:Int)).sum
def Cv(rs:List Nat)(v x)(h:v<↑rs):∀es,jZ es (rs.set v x)=jZ es rs+((x:Int)-bv rs v)*(↑(es.filter λa=>a.2==v):Int)-((x:Int)-bv rs v)*(↑(es.filter λa=>a.1==v):Int)
 |[]=>by simp[jZ]
 |a::es=>by
  let d:=Cv rs v x h es;let e:jZ (a::es) (rs.set v x)=((bv (rs.set v x) a.2:Int)-(bv (rs.set v x) a.1:Int))+jZ es (rs.set v x):=by simp[jZ]
  let f:jZ (a::es) rs=((bv rs a.2:Int)-(bv rs a.1:Int))+jZ es rs:=by simp[jZ]
  rw[e,f,d,jd _ _ _ _ h,jd _ _ _ _ h,bJ,bJ];by_cases b:a.1=v<;>by_cases c:a.2=v
  .rw[ac b,ac c,ac<|by simp[c],ac<|by simp[b],b,c];simp only[aQ,kJ,CG,Lb,AT];omega
  .rw[ac b,aa c,aa<|by simp[c],ac<|by simp[b],b];simp only[aQ,kJ,CG,Lb,AT];omega
  .rw[aa b,ac c,ac<|by simp[c],aa<|by simp[b],c];simp only[aQ,kJ,CG,Lb,AT];omega
  .grind
def QR(J:∀a∈es,a∈l)(R:um n l rs)(O:v<n):
  dq (place es l rs v)=uX (bR es) (bR l) (dq rs) v/\um n l (place es l rs v)/\jZ es (place es l rs v)<=jZ es rs/\(place es l rs v≠rs->jZ es (place es l rs v)<jZ es rs):=by
 let d:v<↑rs:=by rw[R.len];exact O
 delta place uX pa;simp only[];rw[aal,aam,ab3,ab4];let same:rs.set v (bv rs v)=rs:=by
  refine B1 sP λu=>?_;rw[jd _ _ _ _ d];split
  .rename_i c;rw[c]
  .rfl
 by_cases D:↑(es.filter λa=>a.2==v)<↑(es.filter λa=>a.1==v)
 .rw[ac D,ac D];let j:(l.filter λa=>a.1==v).map (λa=>bv rs a.2)≠[]:=by let:0<↑(es.filter λa=>a.1==v):=oM;let#[a,f]:=mM this;let#[o,h]:=be.mp f;exact oE (a_.mpr #[a,be.mpr #[J a o,h],rfl])
  let m:∀x∈(l.filter λa=>a.1==v).map (λa=>bv rs a.2),bv rs v+1<=x/\x<=900:=by
   intro x g;obtain⟨a,f,rfl⟩:=a_.mp g;let#[o,h]:=be.mp f;let h:a.1=v:=by simpa using h
   let:=R.zT a o;rw[h]at this;exact#[this,R.bnd _]
  let hm:=wk ((l.filter λa=>a.1==v).map λa=>bv rs a.2) (bv rs v+1000);let r:((l.filter λa=>a.1==v).map λa=>bv rs a.2).foldl pK (bv rs v+1000)∈(l.filter λa=>a.1==v).map (λa=>bv rs a.2):=by
   obtain z|z:=uH ((l.filter λa=>a.1==v).map λa=>bv rs a.2) (bv rs v+1000)
   .let#[x,g]:=iB _ j;let:=hm.2 x g;let:=(m x g).2;omega
   .exact z
  generalize W:((l.filter λa=>a.1==v).map λa=>bv rs a.2).foldl pK (bv rs v+1000)=M at*;let P:=m M r;let s:rV (dq ((l.filter λa=>a.1==v).map λa=>bv rs a.2))=(M:Int):=by
   let i:dq ((l.filter λa=>a.1==v).map λa=>bv rs a.2)≠[]:=by intro e;exact j (AE e)
   let#[w,G]:=LR _ i;let a1:=G (M:Int) (nA.mpr r);delta dq at w;let#[x,g,e]:=a_.mp w;let a2:=hm.2 x g;let E:rV (dq ((l.filter λa=>a.1==v).map λa=>bv rs a.2))=(x:Int):=e.symm;rw[E]at a1|-;omega
  rw[s];let g:((M:Int)-1)=((M-1:Nat):Int):=oM;let A:=Cv rs v (M-1) d es;let hle:bv rs v<=M-1:=oM;refine#[by rw[Fx,g],#[by simp[R.len],λa f=>?_,λu=>?_],?_,λp=>?_]
  .rw[jd _ _ _ _ d,jd _ _ _ _ d];let f0:=R.zT a f;by_cases Q:a.1=v
   .grind
   .grind
  .rw[jd _ _ _ _ d];split
   .omega
   .exact R.bnd u
  .rw[A];let k:0<=((M-1:Nat):Int)-bv rs v:=oM;let q:(↑(es.filter λa=>a.2==v):Int)<=(↑(es.filter λa=>a.1==v):Int):=oM;let:=AS q k;omega
  .rw[A];let H:M-1≠bv rs v:=λe=>p (by rw[e,same]);let k:0<((M-1:Nat):Int)-bv rs v:=oM;let q:(↑(es.filter λa=>a.2==v):Int)<(↑(es.filter λa=>a.1==v):Int):=oM;let:=DA q k;omega
 .rw[aa D,aa D];by_cases K:↑(es.filter λa=>a.1==v)<↑(es.filter λa=>a.2==v)
  .rw[ac K,ac K];let j:(l.filter λa=>a.2==v).map (λa=>bv rs a.1)≠[]:=by let:0<↑(es.filter λa=>a.2==v):=oM;let#[a,f]:=mM this;let#[o,h]:=be.mp f;exact oE (a_.mpr #[a,be.mpr #[J a o,h],rfl])
   let m:∀x∈(l.filter λa=>a.2==v).map (λa=>bv rs a.1),x+1<=bv rs v:=by
    intro x g;obtain⟨a,f,rfl⟩:=a_.mp g;let#[o,h]:=be.mp f;let h:a.2=v:=by simpa using h
    let:=R.zT a o;rw[h]at this;exact this
   let B:rT (dq ((l.filter λa=>a.2==v).map λa=>bv rs a.1))+1=((((l.filter λa=>a.2==v).map λa=>bv rs a.1+1).foldl j9 0:Nat):Int):=by
    let i:dq ((l.filter λa=>a.2==v).map λa=>bv rs a.1)≠[]:=λe=>j (AE e);let#[w,G]:=LQ _ i;delta dq at w;let#[x,g,e]:=a_.mp w;let E:rT (dq ((l.filter λa=>a.2==v).map λa=>bv rs a.1))=(x:Int):=e.symm;let#[a,f,S]:=a_.mp g;let g1:=(ja ((l.filter λa=>a.2==v).map λa=>bv rs a.1+1) 0).2 (x+1) (a_.mpr #[a,f,by rw[S]]);let g2:((l.filter λa=>a.2==v).map λa=>bv rs a.1+1).foldl j9 0<=x+1:=by refine jV _ _ _ oM λy I=>?_;obtain⟨b,F,rfl⟩:=a_.mp I;let:=G (bv rs b.1:Int) (nA.mpr (a_.mpr #[b,F,rfl]));rw[E]at this;omega
    rw[E];omega
   rw[B];let L:((l.filter λa=>a.2==v).map λa=>bv rs a.1+1).foldl j9 0<=bv rs v:=by refine jV _ _ _ oM λy I=>?_;obtain⟨b,F,rfl⟩:=a_.mp I;exact m _ (a_.mpr #[b,F,rfl])
   let C:=(ja ((l.filter λa=>a.2==v).map λa=>bv rs a.1+1) 0).2;generalize((l.filter λa=>a.2==v).map λa=>bv rs a.1+1).foldl j9 0=M at*;let A:=Cv rs v M d es;refine#[by rw[Fx],#[by simp[R.len],λa f=>?_,λu=>?_],?_,λp=>?_]
   .rw[jd _ _ _ _ d,jd _ _ _ _ d];let f0:=R.zT a f;by_cases N:a.2=v
    .rw[ac N];let F:=C (bv rs a.1+1) (a_.mpr #[a,be.mpr #[f,by simp[N]],rfl]);by_cases Q:a.1=v
     .grind
     .grind
    .grind
   .rw[jd _ _ _ _ d];let:=R.bnd v;split
    .omega
    .exact R.bnd u
   .rw[A];let k:0<=(bv rs v:Int)-(M:Int):=oM;let q:(↑(es.filter λa=>a.1==v):Int)<=(↑(es.filter λa=>a.2==v):Int):=oM;let:=AS q k;let T:((M:Int)-bv rs v)*(↑(es.filter λa=>a.2==v):Int)=-(((bv rs v:Int)-M)*(↑(es.filter λa=>a.2==v):Int)):=by rw[<-AU];congr 1;omega
    let U:((M:Int)-bv rs v)*(↑(es.filter λa=>a.1==v):Int)=-(((bv rs v:Int)-M)*(↑(es.filter λa=>a.1==v):Int)):=by rw[<-AU];congr 1;omega
    omega
   .rw[A];let H:M≠bv rs v:=λe=>p (by rw[e,same]);let k:0<(bv rs v:Int)-(M:Int):=oM;let q:(↑(es.filter λa=>a.1==v):Int)<(↑(es.filter λa=>a.2==v):Int):=oM;let:=DA q k;let T:((M:Int)-bv rs v)*(↑(es.filter λa=>a.2==v):Int)=-(((bv rs v:Int)-M)*(↑(es.filter λa=>a.2==v):Int)):=by rw[<-AU];congr 1;omega
    let U:((M:Int)-bv rs v)*(↑(es.filter λa=>a.1==v):Int)=-(((bv rs v:Int)-M)*(↑(es.filter λa=>a.1==v):Int)):=by rw[<-AU];congr 1;omega
    omega
  .grind [wN,Fx]
def uK(es l:List Arc)(rs:List Nat)(i:Nat):List Nat:=(ay i).foldl (place es l) rs
def HG(b:∀a∈es,a∈l)(R:um n l rs):∀i,i<=n->
  dq (uK es l rs i)=gM (bR es) (bR l) (dq rs) i/\um n l (uK es l rs i)/\jZ es (uK es l rs i)<=jZ es rs/\(uK es l rs i≠rs->jZ es (uK es l rs i)<jZ es rs)
 |0,_=>#[rfl,R,ux _,λh=>ae rfl h]
 |i+1,o=>by
  let#[d,f,p,q]:=HG b R i oM;let#[g1,g2,g3,g]:=QR b f (v:=i) oM;let e:uK es l rs (i+1)=place es l (uK es l rs i) i:=by delta uK;rw[c_,d5];rfl
  let j:gM (bR es) (bR l) (dq rs) (i+1)=uX (bR es) (bR l) (gM (bR es) (bR l) (dq rs) i) i:=by delta gM;rw[c_,d5];rfl
  rw[e,j,<-d];refine#[g1,g2,oM,λm=>?_];by_cases c:place es l (uK es l rs i) i=uK es l rs i
  .grind
  .let:=g c;omega
theorem AH(b:∀a∈es,a∈l)(R:um n l rs):
  dq (pass n es l rs)=gM (bR es) (bR l) (dq rs) n/\um n l (pass n es l rs)/\(pass n es l rs≠rs->jZ es (pass n es l rs)<jZ es rs):=
 let h:=HG b R n (aI _)
 #[h.1,h.2.1,h.2.2.2]
theorem i8(hf:AR l rs):∀es,(∀a∈es,a∈l)->0<=jZ es rs
 |[],_=>ux _
 |a::es,h=>by
  let d:=i8 hf es λb c=>h b<|.tail _ c;let:=hf a<|h a<|.head _;let e:jZ (a::es) rs=((bv rs a.2:Int)-(bv rs a.1:Int))+jZ es rs:=by simp[jZ]
  omega
def MI(c:∀v,bv rs v<=b):∀es,jZ es rs<=(↑es*b:Nat)
 |[]=>by simp[jZ]
 |a::es=>by
  let d:=MI c es;let:=c a.2;let e:jZ (a::es) rs=((bv rs a.2:Int)-(bv rs a.1:Int))+jZ es rs:=by simp[jZ]
  rw[aQ,Nat.add_mul,Nat.one_mul];omega
def SF(n:Nat)(es l:List Arc)(rs:List Nat):List Nat:=settled n es l ((jZ es rs).toNat+1) rs
theorem qV(b:∀a∈es,a∈l):∀(k j:Nat) rs,um n l rs->jZ es rs<k->jZ es rs<j->settled n es l k rs=settled n es l j rs
 |0,j,rs,R,h,_=>by let:=i8 R.zT es b;omega
 |k+1,0,rs,R,_,h=>by let:=i8 R.zT es b;omega
 |k+1,j+1,rs,R,e,f=>by
  delta settled;simp only[];by_cases c:pass n es l rs=rs
  .grind
  .rw[aa c,aa c];let#[_,d,hd]:=AH b R;let:=hd c;exact qV b k j _ d oM oM
def Av(b:∀a∈es,a∈l)(R:um n l rs):SF n es l rs=if pass n es l rs=rs then rs else SF n es l (pass n es l rs):=by
 unfold SF;let h0:=i8 R.zT es b;conv=>lhs;unfold settled
 simp only[];by_cases c:pass n es l rs=rs
 .grind
 .grind [AH,i8,qV]
def Kv(b:∀a∈es,a∈l)(R:um n l rs)(c:∀v,bv rs v<=24)(he:↑es<=40):settled n es l SC rs=SF n es l rs:=by let h0:=i8 R.zT es b;let d:=MI c es;let:↑es*24<=40*24:=gS _ he;delta SF SC;exact qV b _ _ _ R oM oM
def VF(b:∀a∈es,a∈l):∀(m:Nat) rs,jZ es rs<=m->um n l rs->um n l (SF n es l rs)
 |m,rs,h,R=>by
  rw[Av b R];split
  .exact R
  .rename_i c;let#[_,d,hd]:=AH b R;let:=hd c;let:=i8 d.zT es b;match m with
   |0=>omega
   |m+1=>exact VF b m _ oM d
end Cr
namespace Cr
open Vadiab
def ind(p:Prop) [Decidable p]:Nat:=if p then 1 else 0
def fo{a:Type}(S:List a)(g:a->Nat):Nat:=(S.map g).sum
def pB{a:Type}(S:List a)(g:a->a->Nat):Nat:=fo S λx=>fo S λy=>g x y
theorem RJ{a:Type}(g:a->Nat):fo [] g=0:=rfl
theorem me(a:b)(S)(g:b->Nat):fo (a::S) g=g a+fo S g:=by simp[fo]
theorem Ix(S)(g h:c->Nat):fo S (λx=>g x+h x)=fo S g+fo S h:=by
 induction S with
 |nil=>rfl
 |cons a S b=>simp only[me,b];omega
theorem gB(S)(g h:a->Nat)(e:∀x∈S,g x=h x):fo S g=fo S h:=by delta fo;rw[bK e]
theorem Ew(S:List c):fo S (λ_=>0)=0:=by
 induction S with
 |nil=>rfl
 |cons a S b=>rw[me,b]
def Ev(S)(T)(g:c->d->Nat):fo S (λx=>fo T λy=>g x y)=fo T λy=>fo S λx=>g x y:=by
 induction S with
 |nil=>simp only[RJ,Ew]
 |cons a S b=>simp only[me,b,Ix]
def DW(S)(g:a->a->Nat):pB S (λx y=>g y x)=pB S g:=Ev S S λx y=>g y x
def wc(S)(g h:a->a->Nat):pB S (λx y=>g x y+h x y)=pB S g+pB S h:=by delta pB;simp only[Ix]
def Be(S)(g h:c->c->Nat)(e:∀x∈S,∀y∈S,g x y=h x y):pB S g=pB S h:=
 gB _ _ _ λx a=>gB _ _ _ λy b=>e x a y b
def BC(S)(p:c->Bool):↑(S.filter p)=fo S λx=>ind (p x=true):=by
 induction S with
 |nil=>rfl
 |cons a S b=>
  rw[me,bJ];by_cases h:p a=true
  .grind [ind]
  .grind [ind]
def zB(S)(p:c->Bool)(g:c->Nat):fo (S.filter p) g=fo S λx=>if p x=true then g x else 0:=by
 induction S with
 |nil=>rfl
 |cons a S b=>
  rw[me,bJ];by_cases h:p a=true
  .rw[ac h,me,b,ac h]
  .grind
theorem tO(S)(f:a->b)(g:b->Nat):fo (S.map f) g=fo S λx=>g (f x):=by delta fo;rw[aS];rfl
def RI(S)(p:Prop) [Decidable p](g:a->Nat):(if p then fo S g else 0)=fo S λx=>if p then g x else 0:=by
 by_cases h:p
 .simp only[ac h]
 .simp only[aa h,Ew]
def inv(S:List (Nat×Nat)):Nat:=pB S λx y=>ind (x.1<y.1/\y.2<x.2)
def Hb(S):inv (S.map λx=>(x.2,x.1))=inv S:=by delta inv pB;simp only[tO];rw[Ev];refine gB _ _ _ λx _=>gB _ _ _ λy _=>?_;delta ind;simp only[and_comm]
def N2(l:List (Nat×Nat×Nat))(hd:(l.map (·.1)).Nodup):
  ↑(l.flatMap λx=>(l.filter λy=>decide (x.1<y.1)&&cross x.2 y.2).map λy=>(x.1,y.1))=inv (l.map (·.2)):=by
 let b:↑(l.flatMap λx=>(l.filter λy=>decide (x.1<y.1)&&cross x.2 y.2).map λy=>(x.1,y.1))=pB l λx y=>ind ((decide (x.1<y.1)&&cross x.2 y.2)=true):=by rw[List.length_flatMap];delta pB;show fo l _=_;refine gB _ _ _ λx _=>?_;simp only[aj];rw[BC]
 let c:inv (l.map (·.2))=pB l λx y=>ind (x.2.1<y.2.1/\y.2.2<x.2.2):=by delta inv pB;simp only[tO]
 rw[b,c];let d:=DW l λx y=>ind<|(decide (x.1<y.1)&&cross x.2 y.2)=true;let e:=DW l λx y:Nat×Nat×Nat=>ind<|x.2.1<y.2.1/\y.2.2<x.2.2;let f:pB l (λx y=>ind ((decide (x.1<y.1)&&cross x.2 y.2)=true)+ind ((decide (y.1<x.1)&&cross y.2 x.2)=true))=pB l (λx y=>ind (x.2.1<y.2.1/\y.2.2<x.2.2)+ind (y.2.1<x.2.1/\x.2.2<y.2.2)):=by
  refine Be _ _ _ λx g y m=>?_;by_cases h:x.1=y.1
  .let:x=y:=by
    let:=fq.mp hd;obtain⟨i,n,rfl⟩:=j' g;obtain⟨j,o,rfl⟩:=j' m;let a:i=j:=by grind [Nat.lt_trichotomy,df]
    subst a;rfl
   subst this;delta ind;simp
  .delta ind cross;simp only[b_,g8,decide_eq_true_eq];split<;>split<;>split<;>split<;>omega
 rw[wc,wc,d,e]at f;omega
def KY(i u:Nat):Nat:=if u=i then i+1 else if u=i+1 then i else u
def LJ (S) (i) :
    inv (S.map fun x => (KY i x.1, x.2)) + between ((S.filter fun x => x.1 == i).map (·.2)) ((S.filter fun x => x.1 == i + 1).map (·.2)) =
      inv S + between ((S.filter fun x => x.1 == i + 1).map (·.2)) ((S.filter fun x => x.1 == i).map (·.2)) := by
  let a : ∀ p q, between ((S.filter fun x => x.1 == p).map (·.2)) ((S.filter fun x => x.1 == q).map (·.2)) = pB S fun x y => ind (x.1 = p ∧ y.1 = q ∧ y.2 < x.2) := by
    intro p q
    delta between pB
    show fo _ _ = _
    rw [tO, zB]
    refine gB _ _ _ fun x _ => ?_
    rw [BC, tO, zB, RI]
    refine gB _ _ _ fun y _ => ?_
    delta ind
    simp only [beq_iff_eq, decide_eq_true_eq]
    repeat' split
    all_goals simp_all
  rw [a, a]
  delta inv
  let e : pB (S.map fun x => (KY i x.1, x.2)) (fun x y => ind (x.1 < y.1 ∧ y.2 < x.2)) = pB S fun x y => ind (KY i x.1 < KY i y.1 ∧ y.2 < x.2) := by
    delta pB
    simp only [tO]
  rw [e, ← wc, ← wc]
  refine Be _ _ _ fun x _ y _ => ?_
  delta ind KY
  repeat' split
  all_goals omega
structure va(f:Frame):Prop where
 GP:∀a∈f.downs,a.1<↑f.ranks/\a.2<↑f.ranks/\bX f a.1<bX f a.2
 boxes:↑f.ranks=↑f.d.boxes
 below:∀r∈f.ranks,r<f.count
structure WF(f:Frame)(o:Order):Prop extends va f where
 len:↑o=f.count
 rows:∀r,r<f.count->(aL o r).Perm (ye f r)
theorem QS(h:l[q]?>z)(u:∀a,a<q->l[a]?≠some z):cU l z=q:=by delta cU;let#[b,e]:=aP.mp h;rw[List.findIdx_eq b];refine#[by rw[e];simp,λj d=>?_];let:=u j d;rw[aq oM]at this;simp only[beq_eq_false_iff_ne];intro c;exact this (by rw[c])
theorem oq(h:z∈l):l[cU l z]?>z:=by delta cU;let a:l.findIdx (λy=>y==z)<↑l:=xY #[z,h,sP];rw[aq a];let:=List.findIdx_getElem (p:=λy=>y==z) (w:=a);simp only[beq_iff_eq]at this;rw[this]
theorem mD(hd:l.Nodup)(h:l[q]?>z):cU l z=q:=by grind [QS,aP,df]
def mZ{a:Type}(l:List a)(i:Nat)(x y:a):List a:=(l.set i y).set (i+1) x
theorem Vh (i u) : KY i (KY i u) = u := by
  delta KY
  repeat' split
  all_goals omega
theorem RK(b:l[i]?>x)(c:l[i+1]?>y)(a):(mZ l i x y)[a]?=l[KY i a]?:=by grind [mZ,KY]
theorem q7:∀{l:List e}{i:Nat}{x y:e},l[i]?>x->l[i+1]?>y->(mZ l i x y).Perm l
 |a::b::l,0,x,y,c,d=>by simp at c d;subst c d;exact yL _ _ _
 |a::l,i+1,x,y,c,d=>by let:=q7 (l:=l) (i:=i) (x:=x) (y:=y) (by simpa using c) (by simpa using d);exact this.cons a
 |[],i,x,y,c,d=>by simp at c
 |[a],0,x,y,c,d=>by simp at d
def zk(hd:l.Nodup)(a:l[i]?>x)(b:l[i+1]?>y)(hz:z∈l):cU (mZ l i x y) z=KY i (cU l z):=by grind [oq,mD,q7,RK,Vh]
def zV(f:Frame)(r):(ye f r).Nodup:=by
 delta ye;rw[lH];exists ?_,?_
 .grind [fq,i6]
 .refine nJ (R:=λa b=>a≠b) _ ?_ i6;intro a b g x h y i e;subst e;let key:∀c z,(match itemAt f c r with|some (.pass e)=>some (.pass e)|_=>none)>z->itemAt f c r>z/\z=.pass c:=by
   intro c z hz;let j:∀e,itemAt f c r>.pass e->e=c:=by
    intro e he;delta itemAt at he;cases q:f.downs[c]? with
    |none=>rw[q]at he;simp at he
    |some a=>
     rw[q]at he;simp only[fQ]at he;split at he
     .simp at he
     .grind
   cases q:itemAt f c r with
   |none=>rw[q]at hz;simp at hz
   |some it=>
    cases it with
    |box v=>rw[q]at hz;simp at hz
    |pass e=>rw[q]at hz;simp at hz;subst hz;rw[j e q];exact#[rfl,rfl]
  let l:=(key a x h).2;let d:=(key b x i).2;rw[l]at d;injection d with d;exact g d
 .grind
def Dh(W:va f)(h:itemAt f e r>x):x∈ye f r:=by
 delta ye;rw[aM];let h0:=h;delta itemAt at h;cases q:f.downs[e]? with
 |none=>rw[q]at h;simp at h
 |some a=>
  rw[q]at h;simp only[fQ]at h;let#[he,b]:=aP.mp q;let hm:a∈f.downs:=by rw[<-b];exact cx he
  let c:=W.GP a hm;rw[W.boxes]at c;split at h
  .grind
  .grind
def kE(h:s∈b' f r):itemAt f s.edge r>s.up/\itemAt f s.edge (r+1)>s.down/\∃a,f.downs[s.edge]?>a/\bX f a.1<=r/\r<bX f a.2:=by
 delta b' at h;let#[e,_,h]:=dS.mp h;cases q:f.downs[e]? with
 |none=>rw[q]at h;simp at h
 |some a=>
  rw[q]at h;simp only[fQ]at h;split at h
  .rename_i d;cases b:itemAt f e r with
   |none=>rw[b]at h;simp at h
   |some x=>
    cases c:itemAt f e (r+1)with
    |none=>rw[b,c]at h;simp at h
    |some y=>
     rw[b,c]at h;simp at h;subst h;exact#[b,c,a,q,d]
  .simp at h
def Ek:((b' f r).map (·.edge)).Pairwise (·<·):=by
 rw[fq];delta b';refine nJ (R:=λa b=>a<b) _ ?_ gf;intro a b d x i y j;let key:∀c z,((f.downs[c]?).bind λa=>if bX f a.1<=r/\r<bX f a.2 then(itemAt f c r).bind λx=>(itemAt f c<|r+1).map λy=>(#[c,x,y]:Seg)else none)>z->z.edge=c:=by
  intro c z h;cases q:f.downs[c]? with
  |none=>rw[q]at h;simp at h
  |some a=>
   rw[q]at h;simp only[fQ]at h;split at h
   .cases e:itemAt f c r with
    |none=>rw[e]at h;simp at h
    |some x=>
     cases g:itemAt f c (r+1)with
     |none=>rw[e,g]at h;simp at h
     |some y=>rw[e,g]at h;simp at h;subst h;rfl
   .simp at h
 rw[key a x i,key b y j];exact d
theorem jj(f:Frame)(o)(c):l0 f o c=inv ((b' f c).map λs=>(cU (aL o c) s.up,cU (aL o<|c+1) s.down)):=by
 delta l0 pairsAt;let:=N2 (ends f o c) (by delta ends;rw[aS];exact(Ek (f:=f) (r:=c)).imp λh=>bT h)
 simp only[]at this|-;rw[this];delta ends;rw[aS];rfl
theorem jY(o)(r)(l)(c)(h:r<↑o):aL (o.set r l) c=if c=r then l else aL o c:=by
 delta aL;rw[d6];by_cases e:r=c
 .grind
 .grind
def Kl(W:va f)(h:a∈f.downs):bX f a.2<f.count:=by let:=(W.GP a h).2.1;delta bX;rw[aq this];exact W.below _ (cx this)
def El(W:va f)(h:f.count<=r+1):b' f r=[]:=by rw[List.eq_nil_iff_forall_not_mem];intro s b;let#[_,_,a,c,_,d]:=kE b;let:=Kl W<|ax c;omega
variable{f:Frame}{o:Order}
theorem kD(W:WF f o)(h:r<f.count):(aL o r).Nodup:=(W.rows r h).nodup_iff.mpr (zV f r)
def mo(W:WF f o)(h:r<f.count)(a:itemAt f e r>x):x∈aL o r:=(W.rows r h).mem_iff.mpr (Dh W.tova a)
def KO(W:WF f o)(a:r<f.count)(c:(aL o r)[i]?>x)(d:(aL o r)[i+1]?>y):
  l0 f (o.set r<|mZ (aL o r) i x y) r+between (around f o false r x) (around f o false r y)=l0 f o r+between (around f o false r y) (around f o false r x):=by
 rw[jj,jj];let e:r<↑o:=by rw[W.len];exact a
 rw[jY _ _ _ _ e,jY _ _ _ _ e,ac rfl,aa oM];let h:((b' f r).map λs=>(cU (mZ (aL o r) i x y) s.up,cU (aL o<|r+1) s.down))=(((b' f r).map λs=>(cU (aL o r) s.up,cU (aL o<|r+1) s.down))).map λp=>(KY i p.1,p.2):=by rw[aS];refine bK λs b=>?_;show _=(KY i<|cU (aL o r) s.up,_);rw[zk (kD W a) c d (mo W a (kE b).1)]
 let g:∀j z,(aL o r)[j]?>z->around f o false r z=((((b' f r).map λs=>(cU (aL o r) s.up,cU (aL o<|r+1) s.down))).filter λp=>p.1==j).map (·.2):=by
  intro j z hz;delta around;rw[aa sP,eB,aS];let:(b' f r).filter (λs=>s.up==z)=(b' f r).filter ((λp:Nat×Nat=>p.1==j)∘λs=>(cU (aL o r) s.up,cU (aL o<|r+1) s.down)):=by
   refine d4 λs b=>?_;let hm:=mo W a (kE b).1;let l:=oq hm;show(s.up==z)=(cU (aL o r) s.up==j);rw[b7,beq_iff_eq,beq_iff_eq];constructor
   .grind [mD,kD]
   .grind
  rw[this];rfl
 rw[h,g i x c,g (i+1) y d];exact LJ _ i
def KN(W:WF f o)(a:r+1<f.count)(c:(aL o<|r+1)[i]?>x)(d:(aL o<|r+1)[i+1]?>y):
  l0 f (o.set (r+1) (mZ (aL o<|r+1) i x y)) r+between (around f o true (r+1) x) (around f o true (r+1) y)=l0 f o r+between (around f o true (r+1) y) (around f o true (r+1) x):=by
 rw[jj,jj];let e:r+1<↑o:=by rw[W.len];exact a
 rw[jY _ _ _ _ e,jY _ _ _ _ e,ac rfl,aa oM];rw[<-Hb,<-Hb ((b' f r).map λs=>(cU (aL o r) s.up,cU (aL o<|r+1) s.down)),aS,aS];let h:((b' f r).map ((λx:Nat×Nat=>(x.2,x.1))∘λs=>(cU (aL o r) s.up,cU (mZ (aL o<|r+1) i x y) s.down)))=(((b' f r).map λs=>(cU (aL o<|r+1) s.down,cU (aL o r) s.up))).map λp=>(KY i p.1,p.2):=by rw[aS];refine bK λs b=>?_;show(cU (mZ (aL o<|r+1) i x y) s.down,cU (aL o r) s.up)=(KY i<|cU (aL o<|r+1) s.down,cU (aL o r) s.up);rw[zk (kD W a) c d (mo W a (kE b).2.1)]
 let l:((b' f r).map ((λx:Nat×Nat=>(x.2,x.1))∘λs=>(cU (aL o r) s.up,cU (aL o<|r+1) s.down)))=((b' f r).map λs=>(cU (aL o<|r+1) s.down,cU (aL o r) s.up)):=rfl;let g:∀j z,(aL o<|r+1)[j]?>z->around f o true (r+1) z=((((b' f r).map λs=>(cU (aL o<|r+1) s.down,cU (aL o r) s.up))).filter λp=>p.1==j).map (·.2):=by
  intro j z hz;delta around;rw[ac rfl,aa oM,eB,aS];simp only[OM];let:(b' f r).filter (λs=>s.down==z)=(b' f r).filter ((λp:Nat×Nat=>p.1==j)∘λs=>(cU (aL o<|r+1) s.down,cU (aL o r) s.up)):=by
   refine d4 λs b=>?_;let hm:=mo W a (kE b).2.1;let m:=oq hm;show(s.down==z)=(cU (aL o<|r+1) s.down==j);rw[b7,beq_iff_eq,beq_iff_eq];constructor
   .grind [mD,kD]
   .grind
  rw[this];rfl
 rw[h,l,g i x c,g (i+1) y d];exact LJ _ i
def zS(a:r<↑o)(b:c≠r)(d:c+1≠r):l0 f (o.set r l) c=l0 f o c:=by grind [jj,jY]
theorem ME(n)(g h:Nat->Nat)(r d e)(b:r<n)(i:g r+d=h r+e)(j:∀c,c<n->c≠r->g c=h c):fo (ay n) g+d=fo (ay n) h+e:=by
 induction n with
 |zero=>omega
 |succ n l=>
  let a:∀g,fo (ay<|n+1) g=fo (ay n) g+g n:=by grind [fo,c_,aJ,rX]
  rw[a,a];by_cases c:r=n
  .grind [gB,fo]
  .grind
theorem Jq(up)(a:r<↑o)(x):around f (o.set r l) up r x=around f o up r x:=by
 delta around;cases up with
 |true=>
  rw[ac rfl,ac rfl];by_cases h:r=0
  .grind
  .grind [jY]
 |false=>rw[aa sP,aa sP,jY _ _ _ _ a,aa oM]
def iM(f:Frame)(o:Order)(r:Nat)(x:Item):Spot:=#[x,around f o true r x,around f o false r x]
def Ir(f:Frame)(o)(r):spots f o r=(aL o r).map (iM f o r):=rfl
theorem Ck (W : WF f o)   (a : r < f.count) (d : (aL o r)[i]? = some x) (j : (aL o r)[i + 1]? = some y) :
    crossings f (o.set r (mZ (aL o r) i x y)) + worth (iM f o r x) (iM f o r y) = crossings f o + worth (iM f o r y) (iM f o r x) := by
  let l : r < ↑o := by rw [W.len]; exact a
  delta crossings channels worth iM
  show fo (ay (f.count - 1)) _ + _ = fo (ay (f.count - 1)) _ + _
  simp only []
  let B : ∀ g h, (∀ c, c < f.count - 1 → c + 1 ≠ r → c ≠ r → g c = h c) → (∀ c, c < f.count - 1 → c + 1 = r → g c + between (around f o true r x) (around f o true r y) = h c + between (around f o true r y) (around f o true r x)) →
      (∀ c, c < f.count - 1 → c = r → g c + between (around f o false r x) (around f o false r y) = h c + between (around f o false r y) (around f o false r x)) →
      fo (ay (f.count - 1)) g + (between (around f o true r x) (around f o true r y) + between (around f o false r x) (around f o false r y)) = fo (ay (f.count - 1)) h + (between (around f o true r y) (around f o true r x) + between (around f o false r y) (around f o false r x)) := by
    intro g h s u v
    let w : r = 0 → between (around f o true r x) (around f o true r y) = 0 ∧ between (around f o true r y) (around f o true r x) = 0 := by
      intro e
      let : ∀ z, around f o true r z = [] := fun z => by delta around; rw [ac rfl, ac e]
      rw [this, this]
      exact #[rfl, rfl]
    let A : f.count ≤ r + 1 → between (around f o false r x) (around f o false r y) = 0 ∧ between (around f o false r y) (around f o false r x) = 0 := by
      intro e
      let : ∀ z, around f o false r z = [] := fun z => by delta around; rw [aa sP, El W.tova e]; rfl
      rw [this, this]
      exact #[rfl, rfl]
    refine_lift(let k : Nat → Nat := fun c => if c = r then g c else h c;?_)
    let s1 : fo (ay (f.count - 1)) g + between (around f o true r x) (around f o true r y) = fo (ay (f.count - 1)) k + between (around f o true r y) (around f o true r x) := by
      by_cases e : r = 0
      · grind [gB, fo]
      · refine ME (f.count - 1) g k (r - 1) _ _ oM ?_ fun c b m => ?_
        · grind
        · grind
    let s2 : fo (ay (f.count - 1)) k + between (around f o false r x) (around f o false r y) = fo (ay (f.count - 1)) h + between (around f o false r y) (around f o false r x) := by grind [gB, ME, fo]
    omega
  refine B _ _ (fun c b n p => zS l p n) (fun c b q => ?_) (fun c b q => ?_)
  · subst q
    exact KN W a d j
  · subst q
    exact KO W a d j
def WF.Ku(W:WF f o)(b:r<f.count)(d:l.Perm (aL o r)):WF f (o.set r l):=by
 refine#[W.tova,by rw[ku,W.len],λc a=>?_];rw[jY _ _ _ _ (by rw[W.len];exact b)];by_cases q:c=r
 .subst q;rw[ac rfl];exact d.trans (W.rows c a)
 .rw[aa q];exact W.rows c a
def RE(a:r<↑o)(x):iM f (o.set r l) r x=iM f o r x:=by grind [Jq,iM]
theorem set_set(o:Order)(r)(a b):(o.set r a).set r b=o.set r b:=by rw[lI]
def vG(d:r<f.count):∀k i o n,WF f o->∃a n',Iy k i ((aL o r).map (iM f o r)) n=(a.map<|iM f o r,n')/\a.Perm (aL o r)/\n<=n'/\
  crossings f (o.set r a)+(n'-n)<=crossings f o/\(n'=n->a=aL o r)
 |0,i,o,n,W=>#[aL o r,n,rfl,fi _,aI _,by
   let:o.set r (aL o r)=o:=by
    delta aL;apply cq;intro j;rw[d6];by_cases q:r=j
    .grind
    .rw[aa q]
   rw[this];omega,λ_=>rfl]
 |k+1,i,o,n,W=>by
  let e:r<↑o:=by rw[W.len];exact d
  let same:o.set r (aL o r)=o:=by
   delta aL;apply cq;intro j;rw[d6];by_cases q:r=j
   .grind
   .rw[aa q]
  delta Iy;rw[ak,ak];cases g:(aL o r)[i]? with
  |none=>
   refine#[aL o r,n,?_,fi _,aI _,by rw[same];omega,λ_=>rfl];rfl
  |some x=>
   cases h:(aL o r)[i+1]? with
   |none=>
    refine#[aL o r,n,?_,fi _,aI _,by rw[same];omega,λ_=>rfl];rfl
   |some y=>
    simp only[bD];by_cases c:worth (iM f o r y) (iM f o r x)<worth (iM f o r x) (iM f o r y)
    .rw[ac c];let p:WF f (o.set r<|mZ (aL o r) i x y):=W.Ku d<|q7 g h;let b:aL (o.set r<|mZ (aL o r) i x y) r=mZ (aL o r) i x y:=by rw[jY _ _ _ _ e,ac rfl]
     let#[a,n',l,m,v,w,s]:=vG d k (i+1) (o.set r<|mZ (aL o r) i x y) (n+1) p;rw[b]at l m s;let u:(iM f (o.set r<|mZ (aL o r) i x y) r)=iM f o r:=funext λz=>RE e z;rw[u]at l;refine#[a,n',?_,m.trans<|q7 g h,oM,?_,oM]
     .grind [mZ,e_]
     .grind [set_set,Ck]
    .rw[aa c];exact vG d k (i+1) o n W
def set_same(W:WF f o)(a:r<f.count):o.set r (aL o r)=o:=by
 let b:r<↑o:=by rw[W.len];exact a
 delta aL;apply cq;intro j;rw[d6];by_cases q:r=j
 .grind
 .rw[aa q]
def jz(f:Frame)(q:Order×Nat)(r:Nat):Order×Nat:=
 let l:=spots f q.1 r
 let x:=Iy ↑l 0 l 0
 (q.1.set r<|x.1.map λy=>y.item,q.2+x.2)
def kC(f:Frame)(o:Order)(i:Nat):Order×Nat:=(ay i).foldl (jz f) (o,0)
theorem J_(f:Frame)(o:Order):kC f o 0=(o,0):=rfl
def BV(f:Frame)(o)(i):kC f o (i+1)=jz f (kC f o i) i:=by delta kC;rw[c_,d5];rfl
def Qx(l:List Item)(r):(l.map<|iM f o r).map (λy=>y.item)=l:=by rw[aS];let:((λy:Spot=>y.item)∘iM f o r)=id:=rfl;rw[this,kN]
def Ka(W:WF f o)(n)(c:r<f.count):∃a m,jz f (o,n) r=(o.set r a,n+m)/\a.Perm (aL o r)/\crossings f (o.set r a)+m<=crossings f o/\(m=0->a=aL o r):=by let#[a,n',b,d,h,e,g]:=vG c ↑(spots f o r) 0 o 0 W;refine#[a,n',?_,d,by simpa using e,g];delta jz;simp only[];rw[show spots f o r=(aL o r).map (iM f o r)from rfl]at b|-;rw[b,Qx]
def HI(W:WF f o):∀i,i<=f.count->WF f (kC f o i).1/\crossings f (kC f o i).1+(kC f o i).2<=crossings f o/\((kC f o i).2=0->(kC f o i).1=o)
 |0,_=>#[W,by simp[J_],λ_=>rfl]
 |i+1,g=>by let#[a,j,b]:=HI W i oM;let#[l,m,c,d,n,e]:=Ka a (kC f o i).2 (r:=i) oM;rw[BV];rw[show kC f o i=((kC f o i).1,(kC f o i).2)from rfl,c];refine#[a.Ku oM d,by simp only[];omega,λh=>?_];simp only[]at h|-;let:m=0:=oM;rw[e this,set_same a oM,b oM]
theorem mF(W:WF f o):WF f (lA f o).1/\crossings f (lA f o).1+(lA f o).2<=crossings f o/\((lA f o).2=0->(lA f o).1=o):=HI W f.count (aI _)
def fin(f:Frame)(o:Order):Order:=swapped f (crossings f o+1) o
theorem xI:∀k j o,WF f o->crossings f o<k->crossings f o<j->swapped f k o=swapped f j o
 |0,_,_,_,h,_=>oM
 |_+1,0,_,_,_,h=>oM
 |k+1,j+1,o,W,b,d=>by
  delta swapped;simp only[];by_cases c:(lA f o).2=0
  .grind
  .rw[aa c,aa c];let#[a,e,_]:=mF W;exact xI k j _ a oM oM
theorem PX(W:WF f o):fin f o=if(lA f o).2=0 then o else fin f (lA f o).1:=by
 unfold fin;conv=>lhs;unfold swapped
 simp only[];by_cases c:(lA f o).2=0
 .grind
 .grind [mF,xI]
def GV(W:WF f o):fin f o=if(lA f o).2=0 then(lA f o).1 else fin f (lA f o).1:=by grind [PX,mF]
end Cr
namespace Cr
open Vadiab
def uV{s:Type}(key:s->Nat):∀(A B:List s),A.Pairwise (λx y=>key x<=key y)->B.Pairwise (λx y=>key x<=key y)->
  (∀c,A.filter (λx=>key x==c)=B.filter (λx=>key x==c))->A=B
 |[],[],_,_,_=>rfl
 |[],b::B,_,_,h=>by let:=h<|key b;simp at this
 |a::A,[],_,_,h=>by let:=h<|key a;simp at this
 |a::A,b::B,i,j,h=>by
  let l:∀x∈a::A,key a<=key x:=by
   intro x d;obtain rfl|d:=aE.mp d
   .exact aI _
   .exact(dz.mp i).1 x d
  let m:∀x∈b::B,key b<=key x:=by
   intro x d;obtain rfl|d:=aE.mp d
   .exact aI _
   .exact(dz.mp j).1 x d
  let n:a∈b::B:=by let f:a∈(a::A).filter (λx=>key x==key a):=be.mpr #[.head _,sP];rw[h]at f;exact(be.mp f).1
  let o:b∈a::A:=by let f:b∈(b::B).filter (λx=>key x==key b):=be.mpr #[.head _,sP];rw[<-h]at f;exact(be.mp f).1
  let e:key a=key b:=Tf (l b o) (m a n);let g:=h<|key a;rw[bJ,bJ,ac sP,ac (by simp[e])]at g;injection g with p r;subst p;let:A=B:=uV key A B (dz.mp i).2 (dz.mp j).2 λc=>by
   let g:=h c;rw[bJ,bJ]at g;by_cases q:(key a==c)=true
   .grind
   .grind
  rw[this]
def y8(key:Item×List Nat->Nat)(x):∀L,(∀y∈L,AD x.2 y.2=decide (key x<key y))->L.Pairwise (λx y=>key x<=key y)->
  (qe x L).Pairwise (λx y=>key x<=key y)/\(qe x L).Perm (x::L)/\∀c,(qe x L).filter (λy=>key y==c)=L.filter (λy=>key y==c)++(if key x==c then[x]else[])
 |[],_,_=>#[by simp[qe],fi _,λc=>by simp[qe,bJ]]
 |y::r,hm,b=>by
  let e:=hm y<|.head _;delta qe;by_cases c:AD x.2 y.2=true
  .rw[ac c];rw[e]at c;let c:=ai c;let a:∀z∈y::r,key x<key z:=by grind [aE,bp,dz]
   refine#[dz.mpr #[λz hz=>fN<|a z hz,b],fi _,λd=>?_];rw[bJ];by_cases q:(key x==d)=true
   .grind [lE]
   .grind
  .rw[aa c];rw[e]at c;let c:¬key x<key y:=λh=>c<|ag h;let#[f,i,g]:=y8 key x r (λz hz=>hm z<|.tail _ hz) (dz.mp b).2;refine#[dz.mpr #[λz hz=>?_,f],?_,λd=>?_]
   .grind [aE,dz]
   .grind
   .rw[bJ,bJ,g];by_cases q:(key y==d)=true
    .grind
    .grind
def Oj(key:Item×List Nat->Nat)(l)(hm:∀x∈l,∀y∈l,AD x.2 y.2=decide (key x<key y)):
  (sortBy l).Pairwise (λx y=>key x<=key y)/\∀c,(sortBy l).filter (λy=>key y==c)=l.filter (λy=>key y==c):=by
 let gen:∀(b acc:List (Item×List Nat)),(∀x∈b,x∈l)->(∀x∈acc,x∈l)->acc.Pairwise (λx y=>key x<=key y)->
   (b.foldl (λa x=>qe x a) acc).Pairwise (λx y=>key x<=key y)/\∀c,(b.foldl (λa x=>qe x a) acc).filter (λy=>key y==c)=acc.filter (λy=>key y==c)++b.filter (λy=>key y==c):=by
  intro b;induction b with
  |nil=>intro acc _ _ h;exact#[h,λc=>sP]
  |cons x r e=>
   intro acc d f g;let#[a1,a2,i]:=y8 key x acc (λy j=>hm x (d x<|.head _) y (f y j)) g;let#[m,n]:=e (qe x acc) (λz hz=>d z<|.tail _ hz) (λz hz=>gR) a1;refine#[m,λc=>?_];rw[cy,n,i,cJ,bJ];by_cases q:(key x==c)=true
   .grind
   .grind
 let:=gen l [] (λ_ h=>h) (λ_ h=>by simp at h) .nil;exact#[this.1,λc=>by let:=this.2 c;rw[List.filter_nil,rW]at this;exact this]
def je:List (List Nat)->Nat->List Nat->List Nat
 |[],_,_=>[]
 |x::r,s,l=>if x.isEmpty=true then s::je r (s+1) l else match l with
  |y::m=>y::je r (s+1) m
  |[]=>s::je r (s+1) []
def oZ(g:Nat->Item):∀near s l,(je near s l).map g=refill ((near.zipIdx s).map λx=>(g x.2,x.1)) (l.map g)
 |[],_,_=>rfl
 |x::r,s,l=>by
  delta je;rw[fb,bb];delta refill;simp only[];by_cases c:x.isEmpty=true
  .rw[ac c,ac c,bb,oZ g r (s+1) l]
  .rw[aa c,aa c];cases l with
   |nil=>
    simp only[jh,bb];rw[oZ g r (s+1) []];rfl
   |cons y m=>
    simp only[bb];rw[oZ g r (s+1) m]
def cZ(near:List (List Nat))(s:Nat):List Nat:=((near.zipIdx s).filter λx=>!x.1.isEmpty).map (·.2)
def vv:∀near s,∀p∈cZ near s,s<=p/\p<s+↑near
 |[],s,p,h=>by simp[cZ]at h
 |x::r,s,p,h=>by grind [cZ]
def fill_eq:∀near s a pre,↑pre=s->↑a=↑(cZ near s)->
  ((cZ near s).zip a).foldl (λo p=>o.set p.1 p.2) (pre++kO s ↑near)=pre++je near s a
 |[],s,a,pre,_,_=>by simp[cZ,je]
 |x::r,s,a,pre,d,b=>by
  delta je cZ;delta cZ at b;rw[fb,bJ];rw[fb,bJ]at b;by_cases c:x.isEmpty=true
  .rw[aa (by simp[c]),ac c];rw[aa (by simp[c])]at b;let:=fill_eq r (s+1) a (pre++[s]) (by simp[d]) b;delta cZ at this;rw[cJ,cJ]at this;rw[aQ,j5];exact this
  .rw[ac (by simp[c]),aa c];rw[ac (by simp[c])]at b;cases a with
   |nil=>simp at b
   |cons m a=>
    rw[bb,List.zip_cons_cons,cy];let:=fill_eq r (s+1) a (pre++[m]) (by simp[d]) (by delta cZ;simpa using b);delta cZ at this;rw[cJ,cJ]at this;rw[aQ,j5];simp only[];rw[List.set_append_right _ _ oM,d,ox,vQ];exact this
def dR(near:List (List Nat)):Nat:=near.foldl (λc x=>c*max ↑x 1) 1
def zR(near):0<dR near/\∀x∈near,max ↑x 1∣dR near:=by
 delta dR;let gen:∀(near:List (List Nat))(c:Nat),0<c->0<near.foldl (λc x=>c*max ↑x 1) c/\c∣near.foldl (λc x=>c*max ↑x 1) c/\∀x∈near,max ↑x 1∣near.foldl (λc x=>c*max ↑x 1) c:=by
  intro near;induction near with
  |nil=>intro c b;exact#[b,Nat.dvd_refl _,λ_ h=>by simp at h]
  |cons a r f=>
   intro c b;let g:0<c*max ↑a 1:=Lf b oM;let#[i,e,j]:=f (c*max ↑a 1) g;refine#[i,WP (Nat.dvd_mul_right _ _) e,λx d=>?_];obtain rfl|d:=aE.mp d
   .exact WP (Nat.dvd_mul_left _ _) e
   .exact j x d
 let:=gen near 1 oM;exact#[this.1,this.2.2]
def kn(common:Nat)(x:List Nat):Nat:=x.sum*(common/max ↑x 1)
def NN(j:0<common)(l:x≠[])(m:y≠[])(f:max ↑x 1∣common)(g:max ↑y 1∣common):
  AD x y=decide (kn common x<kn common y):=by
 let n:0<↑x:=iY.mpr l;let i:0<↑y:=iY.mpr m;let ex:max ↑x 1=↑x:=oM;let o:max ↑y 1=↑y:=oM;delta AD kn;rw[ex]at f|-;rw[o]at g|-;obtain⟨p,rfl⟩:=f;let#[q,c]:=g;rw[Gk _ n];rw[c,Gk _ i];let r:0<p:=Nat.pos_of_mul_pos_left j|>λh=>gR
 let a:0<q:=gR;rw[decide_eq_decide];constructor
 .intro h;let b:x.sum*↑y*(p*q)<y.sum*↑x*(p*q):=CW h<|Lf r a;let d:x.sum*↑y*(p*q)=x.sum*p*(↑y*q):=by ac_rfl
  let e:y.sum*↑x*(p*q)=y.sum*q*(↑x*p):=by ac_rfl
  rw[d,e,c]at b;exact DC b
 .intro h;let b:x.sum*p*(↑y*q)<y.sum*q*(↑y*q):=CW h<|Lf i a;let d:x.sum*p*(↑y*q)=x.sum*↑y*(p*q):=by ac_rfl
  let e:y.sum*q*(↑y*q)=y.sum*↑x*(p*q):=by rw[<-c];ac_rfl
  rw[d,e]at b;exact DC b
def zF{a:Type}(d:a):∀(l:List a) s x,x∈l.zipIdx s->s<=x.2/\l[x.2-s]?>x.1:=gR
def E1(f:Frame)(o)(up)(r)(near)(i:near=(aL o r).map (around f o up r))(b)
  (l:b.Pairwise λp q=>kn (dR near) (near.getD p [])<=kn (dR near) (near.getD q []))
  (hf:∀c,b.filter (λp=>kn (dR near) (near.getD p [])==c)=(cZ near 0).filter (λp=>kn (dR near) (near.getD p [])==c)):
  Zp f o up r=(je near 0 b).map λp=>(aL o r).getD p (.box 0):=by
 let m:((aL o r).map λx=>(x,around f o up r x))=(near.zipIdx 0).map λx=>((aL o r).getD x.2 (.box 0),x.1):=by
  apply cq;intro j;rw[ak,ak,uk,i,ak];cases q:(aL o r)[j]? with
  |none=>rfl
  |some x=>simp[bz,q]
 delta Zp;simp only[];rw[m,oZ];congr 1;let g:((near.zipIdx 0).map λx=>((aL o r).getD x.2 (.box 0),x.1)).filter (λx=>!x.2.isEmpty)=(cZ near 0).map λp=>((aL o r).getD p (.box 0),near.getD p []):=by
  delta cZ;rw[eB,aS];refine bK λx d=>?_;let:=zF [] near 0 x (be.mp d).1;show((aL o r).getD x.2 (.box 0),x.1)=((aL o r).getD x.2 (.box 0),near.getD x.2 []);let n:near[x.2]?>x.1:=this.2;let s:near.getD x.2 []=x.1:=by rw[bz,n];rfl
  rw[s]
 let u:=zR near;let a:∀x∈(cZ near 0).map (λp=>((aL o r).getD p (.box 0),near.getD p [])),x.2≠[]/\max ↑x.2 1∣dR near:=gR;let#[s1,s2]:=Oj (λx=>kn (dR near) x.2) _ (λx d y h=>NN u.1 (a x d).1 (a y h).1 (a x d).2 (a y h).2);rw[g];let e:sortBy ((cZ near 0).map λp=>((aL o r).getD p (.box 0),near.getD p []))=b.map λp=>((aL o r).getD p (.box 0),near.getD p []):=by refine uV (λx=>kn (dR near) x.2) _ _ s1 (fq.mpr l) λc=>?_;rw[s2,eB,eB];let:=hf c;show Tc _ ((cZ near 0).filter (λp=>kn (dR near) (near.getD p [])==c))=Tc _ (b.filter<|λp=>kn (dR near) (near.getD p [])==c);rw[this]
 rw[e,aS];rfl
def mr(wt:Nat->Nat->Nat)(q:List Nat×Nat)(i:Nat):List Nat×Nat:=
 let x:=q.1.getD i 0
 let y:=q.1.getD (i+1) 0
 if wt y x<wt x y then((q.1.set i y).set (i+1) x,q.2+1)else q
def FJ(a:Nat->Nat->Nat)(q)(i)(h:i+1<↑q.1):(mr a q i).1.Perm q.1:=by
 delta mr;simp only[];split
 .grind
 .grind
def vF(sp:Nat->Spot):∀m k i ord n,i+m+1=↑ord->m<k->
  Iy k i (ord.map sp) n=(((kO i m).foldl (mr λx y=>worth (sp x) (sp y)) (ord,n)).1.map sp,((kO i m).foldl (mr λx y=>worth (sp x) (sp y)) (ord,n)).2)
 |0,0,_,_,_,_,h=>oM
 |m+1,0,_,_,_,_,h=>oM
 |0,k+1,i,ord,n,h,_=>by delta Iy;rw[ak,ak];rw[di (show ↑ord<=i+1 by omega)];cases ord[i]?<;>rfl
 |m+1,k+1,i,ord,n,h,d=>by
  delta Iy;rw[ak,ak];rw[aq (show i<↑ord by omega),aq (show i+1<↑ord by omega)];simp only[bD];rw[j5,cy];let a:ord.getD i 0=ord[i]:=by rw[bz,aq oM];rfl
  let b:ord.getD (i+1) 0=ord[i+1]:=by rw[bz,aq oM];rfl
  let e:mr (λx y=>worth (sp x) (sp y)) (ord,n) i=if worth (sp ord[i+1]) (sp ord[i])<worth (sp ord[i]) (sp ord[i+1])then((ord.set i ord[i+1]).set (i+1) ord[i],n+1)else(ord,n):=by delta mr;simp only[];rw[a,b]
  rw[e];by_cases c:worth (sp ord[i+1]) (sp ord[i])<worth (sp ord[i]) (sp ord[i+1])
  .rw[ac c,ac c];rw[<-vF sp m k (i+1) _ (n+1) (by simp;omega) oM];rw[e_,e_]
  .rw[aa c,aa c];exact vF sp m k (i+1) _ n oM oM
def lc(wt:Nat->Nat->Nat)(n i:Nat):List Nat×Nat:=(ay i).foldl (mr wt) (ay n,0)
def qR(a:Nat->Nat->Nat)(n i):lc a n (i+1)=mr a (lc a n i) i:=by delta lc;rw[c_,d5];rfl
def qQ(a:Nat->Nat->Nat)(n):∀i,i+1<=n\/i=0->(lc a n i).1.Perm (ay n)
 |0,_=>fi _
 |i+1,h=>by let b:=qQ a n i oM;rw[qR];refine(FJ a _ i ?_).trans b;rw[b.length_eq,cr];omega
def J'(f:Frame)(o)(n r):
  jz f (o,n) r=(o.set r<|(lc (λx y=>worth (iM f o r<|(aL o r).getD x (.box 0)) (iM f o r<|(aL o r).getD y (.box 0))) ↑(aL o r) (↑(aL o r)-1)).1.map λp=>(aL o r).getD p (.box 0),
   n+(lc (λx y=>worth (iM f o r<|(aL o r).getD x (.box 0)) (iM f o r<|(aL o r).getD y (.box 0))) ↑(aL o r) (↑(aL o r)-1)).2):=by
 delta jz;simp only[];let a:spots f o r=(ay ↑(aL o r)).map λp=>iM f o r ((aL o r).getD p (.box 0)):=by
  rw[Ir];apply cq;intro j;rw[ak,ak];by_cases c:j<↑(aL o r)
  .grind
  .grind
 rw[a];cases q:↑(aL o r)with
 |zero=>rfl
 |succ m=>
  let:=vF (λp=>iM f o r<|(aL o r).getD p (.box 0)) m ↑((ay<|m+1).map λp=>iM f o r<|(aL o r).getD p (.box 0)) 0 (ay<|m+1) 0 sP sP;rw[this,<-iI];simp only[aS];rfl
def jU:Nat->List Nat->List (List Nat)
 |0,_=>[[]]
 |k+1,l=>l.flatMap λx=>(jU k (l.filter (·≠x))).map λw=>x::w
def jW(l:List Nat)(ws:List (List Nat)):List (List Nat):=ws.flatMap λw=>(l.filter λy=>decide<|y∉w).map λy=>w++[y]
def wh:∀k l,jU (k+1) l=jW l (jU k l)
 |0,l=>by
  delta jW;simp[jU];let:∀l:List Nat,l.flatMap (λx=>[[x]])=l.map λy=>[y]:=by
   intro l;induction l with
   |nil=>rfl
   |cons a r b=>rw[dw,b];rfl
  rw[this];congr 1;symm;rw[j_];intros;rfl
 |k+1,l=>by
  let b:∀x,jU (k+1) (l.filter (·≠x))=jW (l.filter (·≠x)) (jU k (l.filter (·≠x))):=λx=>wh k _;conv=>lhs;unfold jU
  conv=>rhs;unfold jU
  delta jW;rw[List.flatMap_assoc];congr 1;funext x;rw[b x];delta jW;rw[Pa,qw];congr 1;funext w;rw[aS,List.filter_filter];let:(l.filter λa=>(decide (a∉w)&&decide (a≠x)))=l.filter λy=>decide (y∉x::w):=gR;rw[this];rfl
def mz(n:Nat):Nat->List (List Nat)
 |0=>[[]]
 |k+1=>jW (ay n) (mz n k)
def Lj(n):∀k,mz n k=jU k (ay n)
 |0=>rfl
 |k+1=>by rw[wh,mz,Lj n k]
def mR:∀(l:List Nat) i x,l.Nodup->l[i]?>x->l.eraseIdx i=l.filter (·≠x)
 |a::l,0,x,hd,h=>by grind [List.eraseIdx_cons_zero,bJ,j_]
 |a::l,i+1,x,hd,h=>by
  rw[gZ,bJ];let h':l[i]?>x:=by simpa using h
  let hm:x∈l:=ax h';let b:a≠x:=λe=>(g9.mp hd).1 (e▸hm);rw[ac (by simpa using b),mR l i x (g9.mp hd).2 h']
 |[],i,x,_,h=>by simp at h
def wK{A:Type}(g:Nat->A):∀(l:List Nat) i,(l.map g).eraseIdx i=(l.eraseIdx i).map g
 |[],i=>rfl
 |a::l,0=>rfl
 |a::l,i+1=>by rw[bb,gZ,gZ,bb,wK g l i]
def wQ(g:Nat->A):∀k l,l.Nodup->k=↑l->perms k (l.map g)=(jU k l).map λw=>w.map g
 |0,l,_,_=>rfl
 |k+1,l,hd,f=>by
  delta perms jU;let d:l≠[]:=by intro e;subst e;simp at f
  rw[aa (by simpa using d),aj];let e:l.flatMap (λx=>(jU k (l.filter (·≠x))).map λw=>x::w)=(ay ↑l).flatMap λi=>match l[i]? with
    |some x=>(jU k (l.filter (·≠x))).map λw=>x::w
    |none=>[]:=by
   let:∀(c:List Nat)(h:Nat->List (List Nat)),c.flatMap h=(ay ↑c).flatMap λi=>match c[i]? with
    |some x=>h x
    |none=>[]:=by
    intro c h;induction c with
    |nil=>rfl
    |cons a r j=>
     rw[dw,j,aQ,List.range_succ_eq_map,dw,qw];rfl
   exact this l _
  rw[e,Pa];rw[O',O'];congr 1;refine bK λi b=>?_;let b:=cb.mp b;rw[ak,aq b];simp only[bD];rw[wK,mR l i l[i] hd (aq b)];rw[wQ g k _ (kM _ hd) (by let:=oC b;rw[mR l i l[i] hd (aq b)]at this;omega)]
  rw[aS,aS];rfl
def iO(wt:Nat->Nat->Nat)(w:List Nat):Nat:=fo w.zipIdx λx=>fo (w.take x.2) λy=>wt y x.1
def qD(wt:Nat->Nat->Nat)(w:List Nat)(i:Nat):Nat:=fo (w.take i).zipIdx λx=>fo (w.take x.2) λy=>wt y x.1
def tL(S T)(g:a->Nat):fo (S++T) g=fo S g+fo T g:=by delta fo;rw[aJ,rX]
def DU(sp:Nat->Spot):∀w x,cost ((w++[x]).map sp)=cost (w.map sp)+fo w λy=>worth (sp y) (sp x)
 |[],x=>by simp[cost,fo]
 |a::w,x=>by let b:=DU sp w x;rw[zJ,bb,bb];delta cost;rw[b,me,aJ,aJ,rX];simp;omega
def Bb(sp:Nat->Spot)(w):cost (w.map sp)=iO (λx y=>worth (sp x) (sp y)) w:=by
 let gen:∀n w,↑w=n->cost (w.map sp)=iO (λx y=>worth (sp x) (sp y)) w:=by
  intro n;induction n with
  |zero=>
   intro w hw;let:w=[]:=g0.mp hw;subst this;rfl
  |succ n c=>
   intro w hw;let a:w≠[]:=by intro e;subst e;simp at hw
   obtain⟨v,x,rfl⟩:∃v x,w=v++[x]:=#[w.dropLast,w.getLast a,(js a).symm];let d:↑v=n:=by simp at hw;exact hw
   rw[DU,c v d];delta iO;rw[kK,tL];let f:fo v.zipIdx (λb=>fo ((v++[x]).take b.2) λy=>worth (sp y) (sp b.1))=fo v.zipIdx λx=>fo (v.take x.2) λy=>worth (sp y) (sp x.1):=by grind [gB]
   rw[f];simp[fo]
 exact gen ↑w w rfl
def Jr(wt:Nat->Nat->Nat)(b:List Nat)(ws:List (List Nat)):List Nat×Nat:=ws.foldl (λa m=>if iO wt m<a.2 then(m,iO wt m)else a) (b,iO wt b)
def vZ(wt:Nat->Nat->Nat)(n:Nat):List Nat:=(Jr wt (ay n) (mz n n)).1
def Gz(f:Frame)(o)(r)(h:↑(aL o r)<=6):
  IU f o r>((vZ (λx y=>worth (iM f o r<|(aL o r).getD x (.box 0)) (iM f o r<|(aL o r).getD y (.box 0))) ↑(aL o r)).map λp=>(aL o r).getD p (.box 0)):=by
 let d:spots f o r=(ay ↑(aL o r)).map λp=>iM f o r ((aL o r).getD p (.box 0)):=by
  rw[Ir];apply cq;intro j;rw[ak,ak];by_cases c:j<↑(aL o r)
  .grind
  .grind
 delta IU vZ Jr;simp only[];rw[d,aj,cr,aa (by delta FEW;omega)];rw[wQ _ _ _ i6 sP,<-Lj];let b:=List.foldl_hom (l:=mz ↑(aL o r) ↑(aL o r)) (init:=(ay ↑(aL o r),iO (λx y=>worth (iM f o r<|(aL o r).getD x (.box 0)) (iM f o r<|(aL o r).getD y (.box 0))) (ay ↑(aL o r))))
  (λa:List Nat×Nat=>(a.1.map λp=>iM f o r<|(aL o r).getD p (.box 0),a.2))
  (g₁:=λa m=>if iO (λx y=>worth (iM f o r<|(aL o r).getD x (.box 0)) (iM f o r<|(aL o r).getD y (.box 0))) m<a.2 then(m,iO (λx y=>worth (iM f o r<|(aL o r).getD x (.box 0)) (iM f o r<|(aL o r).getD y (.box 0))) m)else a)
  (g₂:=λa m=>if cost (m.map λp=>iM f o r<|(aL o r).getD p (.box 0))<a.2 then(m.map λp=>iM f o r<|(aL o r).getD p (.box 0),cost<|m.map λp=>iM f o r<|(aL o r).getD p (.box 0))else a) (by intro a m;rw[Bb];simp only[];split<;>rfl)
 rw[Ta,Bb];rw[b];simp only[];rw[aS];rfl
end Cr
namespace Cr
open Vadiaa (Diagram arcs wishArcs turned downs Arc rankOf packed rankCount)
def vd:∀(a b:List Nat),a.Pairwise (·<·)->b.Pairwise (·<·)->(∀x,x∈a↔x∈b)->a=b
 |[],[],_,_,_=>rfl
 |[],y::b,_,_,h=>by let:=(h y).mpr (.head _);simp at this
 |x::a,[],_,_,h=>by let:=(h x).mp (.head _);simp at this
 |x::a,y::b,c,f,h=>by
  let#[a1,a2]:=dz.mp c;let#[i,g]:=dz.mp f;let e:x=y:=by
   obtain e|m:=aE.mp ((h x).mp (.head _))
   .exact e
   .obtain e|j:=aE.mp ((h y).mpr (.head _))
    .exact e.symm
    .grind
  subst e;rw[vd a b a2 g λz=>?_];constructor
  .grind
  .grind
def mW(r)(p:Nat->Bool):((ay r).filter p).Pairwise (·<·):=kM _ gf
def yr{rs taken:List Nat}(a:taken.Pairwise (·<·))(hm:∀x,x∈taken↔x∈rs)(h:taken[j]?>r):↑((ay r).filter λk=>rs.contains k)=j:=by
 let#[b,e]:=aP.mp h;let:(ay r).filter (λk=>rs.contains k)=taken.take j:=by
  refine vd _ _ (mW _ _) (rg a) λx=>?_;rw[be,cb,bB,<-hm,pi];constructor
  .grind [j',Y',df]
  .grind [df,cx]
 rw[this,bN];omega
def vz(rs):↑(packed rs)=↑rs:=by delta packed;simp
def zg(h:v<↑rs):bv (packed rs) v=↑((ay<|bv rs v).filter λk=>rs.contains k):=by delta bv packed;rw[ak,aq h];rfl
def N1(c:u<↑rs)(f:v<↑rs)(h:bv rs u<bv rs v):bv (packed rs) u<bv (packed rs) v:=by
 rw[zg c,zg f];let hm:bv rs u∈rs:=by delta bv;rw[aq c];exact cx c
 generalize bv rs u=a at*;generalize bv rs v=b at*;let e:ay b=ay a++(a::(kO (a+1) (b-a-1))):=by rw[iI,iI,<-j5];let:=List.range'_append_1 (s:=0) (m:=a) (n:=b-a-1+1);rw[yO]at this;rw[this];congr 1;omega
 rw[e,cF,aW,bJ,ac<|bB.mpr hm,aQ];omega
def J6{rs taken:List Nat}(a:taken.Pairwise (·<·))(hm:∀x,x∈taken↔x∈rs)(k):k∈packed rs↔k<↑taken:=by
 delta packed;rw[a_];constructor
 .rintro⟨r,c,e⟩;let#[j,b]:=iH<|(hm r).mpr c;rw[yr a hm b]at e;let:=gl b;omega
 .intro h;exact#[taken[k],(hm _).mp (cx h),yr a hm<|aq h]
def FH(h:∀k,k∈l↔k<m):uf l=m:=by
 delta uf;let c:(l.map λr=>r+1).foldl j9 0<=m:=by refine jV _ _ _ oM λx a=>?_;obtain⟨r,b,rfl⟩:=a_.mp a;let:=(h r).mp b;omega
 obtain e|e:=Nat.eq_zero_or_pos m
 .omega
 .let:=(ja (l.map λr=>r+1) 0).2 m (a_.mpr #[m-1,(h<|m-1).mpr oM,oM]);omega
def Bc{l t:List Nat}(h:∀k,k∈l↔k<m)(a:t.Pairwise (·<·))(hm:∀x,x∈t↔x∈l):t=ay m:=
 vd _ _ a gf λx=>by rw[hm,h,cb]
def E_(rs:List Nat):∃t:List Nat,t.Pairwise (·<·)/\∀x,x∈t↔x∈rs:=by refine#[(ay<|rs.foldl j9 0+1).filter λk=>rs.contains k,mW _ _,λx=>?_];rw[be,cb,bB];refine#[λh=>h.2,λh=>#[?_,h]];let:=(ja rs 0).2 x h;omega
variable{d:Diagram}
def B2(D:EI d)(b:∀a∈arcs d,a.1≠a.2)(g:↑d.boxes<=24)(he:↑(downs d)<=40):
  let l:=downs d++eA d
  let n:=↑d.boxes
  um n l (fK n l n)/\(∀v,bv (fK n l n) v<=24)/\gG d=packed (SF n (downs d) l (fK n l n))/\um n l (SF n (downs d) l (fK n l n)):=by
 intro l n;let hf:AR l (fK n l n):=LA (λa c=>vc D a c) (Bd D b);let e:∀v,bv (fK n l n) v<=24:=λv=>bu (wg n l n v) g;let R:um n l (fK n l n):=#[sC n l n,hf,λv=>bu (e v) oM];let f:∀a∈downs d,a∈l:=λa c=>bf _ c;refine#[R,e,?_,VF f (jZ (downs d) (fK n l n)).toNat _ oM R];delta gG Vadiaa.longRanks;simp only[];rw[show Vadiaa.longest ↑d.boxes (downs d++eA d) ↑d.boxes (cp ↑d.boxes 0)=fK n l n from rfl];rw[Kv f R e he]
def Sk(D:EI d)(b:∀a∈arcs d,a.1≠a.2)(g:↑d.boxes<=24)(he:↑(downs d)<=40):va (bZ d):=by
 let#[R,i,e,R2]:=B2 D b g he;let hlen:↑(gG d)=↑d.boxes:=by rw[e,vz,R2.len]
 refine#[λa c=>?_,hlen,λr h=>?_]
 .let f:=vc D a<|bf _ c;refine#[by show a.1<↑(gG d);omega,by show a.2<↑(gG d);omega,?_];show bv (gG d) a.1<bv (gG d) a.2;rw[e];exact N1 (by rw[R2.len];exact f.1) (by rw[R2.len];exact f.2) (R2.zT a<|bf _ c)
 .show r<uf (gG d);delta uf;exact(ja ((gG d).map λr=>r+1) 0).2 (r+1) (a_.mpr #[r,h,rfl])
def count_le(D:EI d)(b:∀a∈arcs d,a.1≠a.2)(i:↑d.boxes<=24)(he:↑(downs d)<=40):(∀k,k∈gG d↔k<(bZ d).count)/\(bZ d).count<=24:=by
 let#[R,l,e,R2]:=B2 D b i he;let#[t,t1,c]:=E_<|SF ↑d.boxes (downs d) (downs d++eA d) (fK ↑d.boxes (downs d++eA d) ↑d.boxes);let f:∀k,k∈gG d↔k<↑t:=by rw[e];exact J6 t1 c
 let g:(bZ d).count=↑t:=FH f;refine#[by rw[g];exact f,?_];rw[g];let:↑t<=↑(SF ↑d.boxes (downs d) (downs d++eA d) (fK ↑d.boxes (downs d++eA d) ↑d.boxes)):=
  eM (t1.imp λh=>bT h) λx j=>(c x).mp j
 rw[R2.len]at this;omega
def GW(D:EI d)(b:∀a∈arcs d,a.1≠a.2)(c:↑d.boxes<=24)(he:↑(downs d)<=40):WF (bZ d) (cE<|bZ d):=by refine#[Sk D b c he,by delta cE;simp,λr e=>?_];delta Tl cE;rw[ak,fj e];exact fi _
end Cr
namespace Cr
open VadiBase
def ff(b:Bytes):List Int:=b.map λc=>(c.toNat:Int)
def BL(b:Bytes)(s):ff (b.drop s)=(ff b).drop s:=mI
def HD(b:Bytes)(s):ff (b.take s)=(ff b).take s:=iQ
theorem dU(b:Bytes):↑(ff b)=↑b:=aj _
theorem FZ{a b:UInt8}(h:a.toNat=b.toNat):a=b:=UInt8.toNat_inj.mp h
def Fw(h:ff a=ff b):a=b:=by grind [FZ,ff,vO]
def wM(b:Bytes)(i:Nat):(ff b)[i]?=(b[i]?).map λc=>(c.toNat:Int):=ak ..
def Hc(c:UInt8):qJ (c.toNat:Int)=qf c:=by delta qJ qf;rw[b7];simp only[g8,b_,decide_eq_true_eq];omega
def wC(c:UInt8):ip (c.toNat:Int)=isDigit c:=by delta ip isDigit;rw[b7];simp only[b_,decide_eq_true_eq];omega
def px(c:UInt8)(n)(a:n<256):(c==gO n)=decide (c.toNat=n):=by
 rw[b7,beq_iff_eq,decide_eq_true_iff];constructor
 .intro h;rw[h,oy];omega
 .intro h;apply FZ;rw[oy,h];omega
def Bv(c:UInt8):k6 (c.toNat:Int)=CM c:=by delta k6 CM;rw[show(32:UInt8)=gO 32 from rfl,show(9:UInt8)=gO 9 from rfl,show(10:UInt8)=gO 10 from rfl,px c 32 oM,px c 9 oM,px c 10 oM];rw[b7];simp only[g8,decide_eq_true_eq];omega
def Du(p:Int->Bool)(q:UInt8->Bool)(h:∀c,p (c.toNat:Int)=q c)(b:Bytes):(ff b).takeWhile p=ff (b.takeWhile q):=by delta ff;rw[List.takeWhile_map];congr 1;congr 1;funext c;exact h c
def ug(p:Int->Bool)(q:UInt8->Bool)(h:∀c,p (c.toNat:Int)=q c)(b:Bytes)(s):ic p (ff b) s=s+↑((b.drop s).takeWhile q):=by delta ic;rw[<-BL,Du p q h,dU]
def DZ:∀l(n:Nat),(∀c∈l,isDigit c=true)->(ff l).foldl (λv b=>v*10+b-48) (n:Int)=((l.foldl (λn b=>10*n+(b.toNat-48)) n:Nat):Int)
 |[],n,_=>rfl
 |c::l,n,h=>by let a:=h c<|.head _;delta isDigit at a;rw[decide_eq_true_iff]at a;delta ff;rw[bb,cy,cy];let e:(n:Int)*10+(c.toNat:Int)-48=((10*n+(c.toNat-48):Nat):Int):=oM;rw[e];exact DZ l _ λx d=>h x (.tail _ d)
def takeWhile_all(q:UInt8->Bool):∀(l:Bytes),∀c∈l.takeWhile q,q c=true
 |[],c,h=>by simp at h
 |a::l,c,h=>by
  rw[eF]at h;split at h
  .rename_i b;obtain rfl|h:=aE.mp h
   .exact b
   .exact takeWhile_all q l c h
  .simp at h
def tP(q:UInt8->Bool)(l:Bytes):l.take ↑(l.takeWhile q)=l.takeWhile q:=by
 induction l with
 |nil=>rfl
 |cons a l b=>
  rw[eF];split
  .grind
  .rfl
def Si(b:Bytes)(s):yF (ff b) s (ic ip (ff b) s)=(decimal ((b.drop s).takeWhile isDigit):Int):=by rw[ug ip isDigit wC];delta yF decimal;rw[rh,<-BL,<-HD,tP];exact DZ _ 0 (takeWhile_all _ _)
def foldl_ge:∀(l:Bytes) n,n*10^↑l<=l.foldl (λn b=>10*n+(b.toNat-48)) n
 |[],n=>sP
 |c::l,n=>by
  rw[cy,aQ,IL];let:=foldl_ge l<|10*n+(c.toNat-48);let a:(10*n)*10^↑l<=(10*n+(c.toNat-48))*10^↑l:=gS _ oM;let e:n*(10^↑l*10)=10*n*10^↑l:=by ac_rfl
  omega
def HB(a:isDigit c=true)(f:∀x∈r,isDigit x=true):
  numberOf (c::r)=if decimal (c::r)>1000000000\/(c.toNat=48/\↑(c::r)>1)then none else some (decimal<|c::r):=by
 delta numberOf;let g:((c::r).head?=some 48)↔c.toNat=48:=by
  rw[List.head?_cons,gE];constructor
  .intro h;rw[h];rfl
  .intro h;exact FZ h
 by_cases q:decimal (c::r)>1000000000\/(c.toNat=48/\↑(c::r)>1)
 .rw[ac q,if_pos];obtain q|q:=q
  .exact .inr (.inr<|.inr q)
  .grind
 .rw[aa q,if_neg];intro h;obtain h|h|h|h:=h
  .simp at h
  ·
   let d:¬decimal (c::r)>1000000000:=λz=>q<|.inl z;let e:¬(c.toNat=48/\↑(c::r)>1):=λz=>q<|.inr z;let hlen:10<=↑r:=by rw[aQ]at h;omega
   let b:c.toNat≠48:=λz=>e #[z,by rw[aQ];omega];delta isDigit at a;rw[decide_eq_true_iff]at a;apply d;delta decimal;rw[cy];let i:=foldl_ge r<|10*0+(c.toNat-48);let j:10^10<=10^↑r:=uA oM hlen;let l:1*10^↑r<=(10*0+(c.toNat-48))*10^↑r:=gS _ oM;omega
  .grind
  .exact q (.inl h)
def MH(b:qf c=false)(a:isDigit c=true):
  token (c::r)=if decimal ((c::r).takeWhile isDigit)>1000000000\/(c.toNat=48/\↑((c::r).takeWhile isDigit)>1)then none else some (.num<|decimal<|(c::r).takeWhile isDigit,↑((c::r).takeWhile isDigit)):=by
 delta token;simp only[];rw[aa (by rw[b];simp),ac a];let e:(c::r).takeWhile isDigit=c::r.takeWhile isDigit:=by rw[eF,ac a]
 rw[e,HB a (takeWhile_all _ _)];split<;>rfl
def IB(a:qf c=true):
  token (c::r)=if 16<↑((c::r).takeWhile λc=>qf c||isDigit c)then none else some (.name<|(c::r).takeWhile λc=>qf c||isDigit c,↑((c::r).takeWhile λc=>qf c||isDigit c)):=by
 delta token;simp only[];rw[ac a];rfl
def Cu(b:qf c=false)(d:isDigit c=false):
  token (c::r)=if c.toNat=123 then some (.sign 123,1)else if c.toNat=125 then some (.sign 125,1)else if c.toNat=59 then some (.sign 59,1)else if c.toNat=58 then some (.sign 58,1)
   else if c.toNat=45/\(r.head?.map λx=>x.toNat)=some 62 then some (.sign 256,2)else none:=by
 delta token;simp only[];rw[aa (by rw[b];simp),aa (by rw[d];simp)];rw[show(45:UInt8)=gO 45 from rfl,px c 45 oM];let e:SIGNS.contains c=(decide (c.toNat=123)||(decide (c.toNat=125)||(decide (c.toNat=59)||decide (c.toNat=58)))):=by delta SIGNS;rw[jf,jf,jf,jf,List.contains_nil];rw[show(123:UInt8)=gO 123 from rfl,show(125:UInt8)=gO 125 from rfl,show(59:UInt8)=gO 59 from rfl,show(58:UInt8)=gO 58 from rfl];rw[px c 123 oM,px c 125 oM,px c 59 oM,px c 58 oM,Vl]
 let f:(r.head?=some 62)↔(r.head?.map λx=>x.toNat)=some 62:=by
  cases r.head? with
  |none=>simp
  |some x=>
   simp only[gE,bD];constructor
   .intro h;rw[h];rfl
   .intro h;exact FZ h
 rw[e];by_cases a:c.toNat=45
 .let g:¬c.toNat=123:=oM;let i:¬c.toNat=125:=oM;let j:¬c.toNat=59:=oM;let l:¬c.toNat=58:=oM;rw[ac (by simpa using a),aa g,aa i,aa j,aa l];by_cases q:r.head?=some 62
  .rw[ac q,ac #[a,f.mp q]];rfl
  .grind
 .grind
def AL(h:token l>x):0<x.2/\x.2<=↑l:=by
 let g:∀(q:UInt8->Bool)(l:Bytes),↑(l.takeWhile q)<=↑l:=by
  intro q l;induction l with
  |nil=>simp
  |cons a l f=>
   rw[eF];split
   .simp;exact f
   .simp
 cases l with
 |nil=>simp[token]at h
 |cons c r=>
  cases b:qf c with
  |true=>
   rw[IB b]at h;split at h
   .simp at h
   .grind [eF]
  |false=>
   cases d:isDigit c with
   |true=>
    rw[MH b d]at h;split at h
    .simp at h
    .grind [eF]
   |false=>
    rw[Cu b d]at h;let two:c.toNat=45/\(r.head?.map λx=>x.toNat)=some 62->2<=↑(c::r):=by
     rintro⟨_,e⟩;cases r with
     |nil=>simp at e
     |cons a r=>simp
    repeat' (split at h)
    all_goals first
     |(injection h with h;subst h;exists sP;first|(simp;done)|(rename_i z;exact two z))
     |simp at h
theorem pU:∀n m at_ l,↑l<n->↑l<m->lex n at_ l=lex m at_ l
 |0,m,at_,l,h,_=>oM
 |n+1,0,at_,l,_,h=>oM
 |n+1,m+1,at_,[],_,_=>rfl
 |n+1,m+1,at_,b::r,a,c=>by
  delta lex;rw[aQ]at a c;split
  .exact pU n m _ _ oM oM
  .split
   .let:(r.dropWhile (·!=10)).length<=↑r:=(Gg _).length_le;exact pU n m _ _ oM oM
   .cases q:token (b::r)with
    |none=>rfl
    |some x=>
     let:=AL q;let e:lex n (at_+x.2) ((b::r).drop x.2)=lex m (at_+x.2) ((b::r).drop x.2):=pU n m _ _ (by rw[cw,aQ];omega) (by rw[cw,aQ];omega);simp only[];rw[e]
def Hk(n at_:Nat)(b:UInt8)(r:Bytes):lex (n+1) at_ (b::r)=if CM b=true then lex n (at_+1) r
  else if b==35 then lex n (at_+1+(r.takeWhile (·!=10)).length) (r.dropWhile (·!=10))
  else match token (b::r)with
   |none=>.error #[2,at_]
   |some x=>(lex n (at_+x.2) ((b::r).drop x.2)).map λl=>#[at_,x.1]::l:=rfl
def k8(b:Bytes)(s:Nat):Except Fault Toks:=lex (↑b+1) s (b.drop s)
def rc(h:↑b<=4096):tokens b=k8 b 0:=by delta tokens k8;rw[aa (by delta TEXT;omega)];rfl
def NK(b:Bytes)(h:↑b<=s):k8 b s=.ok [#[s,.last]]:=by delta k8;rw[rJ h];rfl
def vp{b:Bytes}{s:Nat}{c:UInt8}(h:b[s]?>c):k8 b s=
  if CM c=true then k8 b (s+1)else if c.toNat=35 then k8 b (ic (λb=>decide<|b≠10) (ff b) s)
  else match token (b.drop s)with
   |none=>.error #[2,s]
   |some x=>(k8 b<|s+x.2).map λl=>#[s,x.1]::l:=by
 let#[m,e]:=aP.mp h;let hd:b.drop s=c::b.drop (s+1):=by rw[<-e];exact(de m)
 unfold k8;let r:↑(b.drop s)=↑b-s:=cw;let n:↑(b.drop<|s+1)=↑b-(s+1):=cw;conv=>lhs;rw[hd,Hk]
 rw[show(35:UInt8)=gO 35 from rfl,px c 35 oM];by_cases g:CM c=true
 .grind [pU]
 .rw[aa g,aa g];by_cases d:c.toNat=35
  .rw[ac (by simpa using d),ac d];let i:∀x:UInt8,decide ((x.toNat:Int)≠10)=(x !=10):=by intro x;rw[show(x !=10)=!(x==gO 10)from rfl,px x 10 oM];rw[b7];simp;omega
   let o:ic (λb=>decide<|b≠10) (ff b) s=s+1+((b.drop<|s+1).takeWhile (·!=10)).length:=by rw[ug _ (·!=10) i,hd,eF,ac<|by rw[<-i c];simp;omega,aQ];omega
   rw[o];let f:(b.drop<|s+1).dropWhile (·!=10)=b.drop (s+1+((b.drop<|s+1).takeWhile (·!=10)).length):=by
    rw[<-i4 (j:=s+1)];let gen:∀l:Bytes,l.dropWhile (·!=10)=l.drop (l.takeWhile (·!=10)).length:=by
     intro l;induction l with
     |nil=>rfl
     |cons a l u=>
      rw[List.dropWhile_cons,eF];split
      .grind
      .rfl
    exact gen _
   rw[f];let:(b.drop (s+1+((b.drop<|s+1).takeWhile (·!=10)).length)).length<=↑b-(s+1):=by rw[cw];omega
   exact pU _ _ _ _ oM oM
  .rw[aa (by simpa using d),aa d,<-hd];cases q:token (b.drop s)with
   |none=>rfl
   |some x=>
    let:=AL q;simp only[];rw[i4];let p:=pU ↑b (↑b+1) (s+x.2) (b.drop<|s+x.2) (by rw[cw];omega) (by rw[cw];omega);rw[p]
def oV(b:Bytes):∀n s,k8 b (lm (ff b) n s)=k8 b s
 |0,s=>rfl
 |n+1,s=>by
  delta lm;rw[wM];cases q:b[s]? with
  |none=>rfl
  |some c=>
   simp only[bD];rw[Bv];rw[vp q];by_cases d:c.toNat=35
   .let nb:CM c=false:=by rw[<-Bv,d];rfl
    rw[ac oM,oV b n,aa<|by rw[nb];simp,ac d]
   .rw[aa oM];by_cases a:CM c=true
    .rw[ac a,ac a,oV b n]
    .rw[aa a,aa a,aa d];rw[vp q,aa a,aa d]
end Cr
namespace Cr
open Vadiab
variable{f:Frame}{o:Order}
def lT(l:List (Nat×Nat))(n:Nat):List (List Nat):=(ay n).map λj=>(l.filter λp=>p.1==j).map (·.2)
theorem BJ(h:j<n):(lT l n)[j]?>(l.filter λp=>p.1==j).map (·.2):=by grind [lT]
def J0(l)(n j v):lT (l++[(j,v)]) n=(lT l n).set j (((l.filter λp=>p.1==j).map (·.2))++[v]):=by
 apply cq;intro i;rw[d6];by_cases c:i<n
 .grind [BJ,lT]
 .grind [lT]
def Ly(W:WF f o)(a:r+1<f.count)(h:e∈ends f o r):e.2.1<↑(aL o r)/\e.2.2<↑(aL o<|r+1):=by delta ends at h;obtain⟨s,b,rfl⟩:=a_.mp h;let#[c,d,_]:=kE b;let g:=oq<|mo W (show r<f.count by omega) c;let i:=oq<|mo W a d;exact#[(gl g),(gl i)]
def Fs{a:Type}(row:List Item)(F:Item->a)(G:Nat->a)(h:∀j z,row[j]?>z->F z=G j):(ay ↑row).map G=row.map F:=by
 apply cq;intro j;rw[ak,ak];by_cases c:j<↑row
 .grind
 .grind
def NS(W:WF f o)(b:r+1<f.count):lT ((ends f o r).map λe=>(e.2.1,e.2.2)) ↑(aL o r)=(aL o r).map (around f o false r):=by
 delta lT;refine Fs _ _ _ λj z hz=>?_;delta around ends;rw[aa sP,aS,eB,aS];let:(b' f r).filter (λs=>s.up==z)=(b' f r).filter ((λp:Nat×Nat=>p.1==j)∘((λe:Nat×Nat×Nat=>(e.2.1,e.2.2))∘λs=>(s.edge,cU (aL o r) s.up,cU (aL o<|r+1) s.down))):=by
  refine d4 λs a=>?_;let hm:=mo W (show r<f.count by omega) (kE a).1;let c:=oq hm;show(s.up==z)=(cU (aL o r) s.up==j);rw[b7,beq_iff_eq,beq_iff_eq];constructor
  .grind [mD,kD]
  .grind
 rw[this];rfl
def T9(W:WF f o)(a:r+1<f.count):lT ((ends f o r).map λe=>(e.2.2,e.2.1)) ↑(aL o<|r+1)=(aL o<|r+1).map (around f o true<|r+1):=by
 delta lT;refine Fs _ _ _ λj z hz=>?_;delta around ends;rw[ac rfl,aa oM,aS,eB,aS];simp only[OM];let:(b' f r).filter (λs=>s.down==z)=(b' f r).filter ((λp:Nat×Nat=>p.1==j)∘((λe:Nat×Nat×Nat=>(e.2.2,e.2.1))∘λs=>(s.edge,cU (aL o r) s.up,cU (aL o<|r+1) s.down))):=by
  refine d4 λs b=>?_;let hm:=mo W a (kE b).2.1;let c:=oq hm;show(s.down==z)=(cU (aL o<|r+1) s.down==j);rw[b7,beq_iff_eq,beq_iff_eq];constructor
  .grind [mD,kD]
  .grind
 rw[this];rfl
def NU(W:va f)(up)(h:if up=true then r=0 else f.count<=r+1)(x):around f o up r x=[]:=by
 delta around;cases up with
 |true=>
  let h:r=0:=by simpa using h
  rw[ac rfl,ac h]
 |false=>
  let h:f.count<=r+1:=by simpa using h
  rw[aa sP,El W h];rfl
def iq(f:Frame)(o:Order)(up:Bool)(r:Nat):List (List Nat):=(aL o r).map (around f o up r)
def ko(f:Frame)(o)(up)(r):↑(iq f o up r)=↑(aL o r):=by delta iq;simp
def oj(f:Frame)(o)(up)(h:p<↑(aL o r)):(iq f o up r).getD p []=around f o up r ((aL o r).getD p (.box 0)):=by grind [iq]
def O1(nu nd:List (List Nat))(x y:Nat):Nat:=between (nu.getD x []) (nu.getD y [])+between (nd.getD x []) (nd.getD y [])
def WB(f:Frame)(o)(a:x<↑(aL o r))(b:y<↑(aL o r)):O1 (iq f o true r) (iq f o false r) x y=worth (iM f o r<|(aL o r).getD x (.box 0)) (iM f o r<|(aL o r).getD y (.box 0)):=by delta O1 worth iM;rw[oj f o true a,oj f o true b,oj f o false a,oj f o false b]
def Iu(near:List (List Nat))(s:Nat):List Nat:=((near.zipIdx s).filter λx=>x.1.isEmpty).map (·.2)
def qU:∀near s a,↑a=↑(cZ near s)->(je near s a).Perm (Iu near s++a)
 |[],s,a,h=>by let:a=[]:=g0.mp h;subst this;exact fi _
 |x::r,s,a,h=>by
  delta je Iu;delta cZ at h;rw[fb,bJ]at h|-;by_cases c:x.isEmpty=true
  .rw[aa (by simp[c])]at h;rw[ac c,ac c,bb];exact(qU r (s+1) a h).cons s
  .rw[ac (by simp[c])]at h;rw[aa c,aa c];cases a with
   |nil=>simp at h
   |cons m a=>
    simp only[];refine((qU r (s+1) a (by delta cZ;simpa using h)).cons m).trans ?_;exact List.perm_middle.symm
def zA:∀near s,(Iu near s++cZ near s).Perm (kO s ↑near)
 |[],s=>by simp[Iu,cZ]
 |x::r,s=>by
  let a:=zA r<|s+1;delta Iu cZ at a|-;rw[fb,bJ,bJ,aQ,j5];by_cases c:x.isEmpty=true
  .grind
  .grind
def FI(near)(h:a.Perm (cZ near 0)):(je near 0 a).Perm (ay ↑near):=by refine(qU near 0 a h.length_eq).trans ((h.append_left _).trans ?_);rw[iI];exact zA near 0
def qF(near:List (List Nat))(ms:List Nat)(i:Nat):List Nat:=(((cZ near 0).zip ms).take i).foldl (λo p=>o.set p.1 p.2) (ay ↑near)
def JA(near)(h:↑a=↑(cZ near 0)):qF near a ↑(cZ near 0)=je near 0 a:=by delta qF;rw[cz (by simp;omega),iI];let:=fill_eq near 0 a [] rfl h;simpa using this
def GU(near)(b:(cZ near 0)[i]?>p)(c:a[i]?>m):qF near a (i+1)=(qF near a i).set p m:=by grind [qF,cZ,aN,List.getElem?_zip_eq_some,d5]
def C_(l:List (Nat×Nat))(o:List Nat):↑(l.foldl (λo p=>o.set p.1 p.2) o)=↑o:=by
 induction l generalizing o with
 |nil=>rfl
 |cons a l b=>rw[cy,b];simp
def JB(near)(a)(i):↑(qF near a i)=↑near:=by delta qF;rw[C_];simp
def p'(f:Frame)(up:Bool)(q:Order)(r:Nat):Order:=q.set r (Zp f q up r)
def ik(n:Nat)(down:Bool):List Nat:=if down=true then(ay<|n-1).map (·+1)else(ay<|n-1).reverse
def RL(f:Frame)(o)(d):sweep f o d=(ik f.count d).foldl (p' f d) o:=by
 delta sweep ik;cases d with
 |true=>rw[ac rfl,ac rfl,Ta];rfl
 |false=>rw[aa sP,aa sP];rfl
def Km(h:r∈ik n d):r<n:=by grind [ik]
def rO:List Bool:=[true,false,true,false,true,false,true,false]
def setStep(f:Frame)(q:Order×Order)(d:Bool):Order×Order:=(sweep f q.1 d,better f q.2<|sweep f q.1 d)
def Of(f:Frame)(o):rounds f ROUNDS o o=(rO.foldl (setStep f) (o,o)).2:=rfl
def vV(n):∀k,∀w∈mz n k,↑w=k/\w.Nodup/\∀x∈w,x<n
 |0,w,h=>by grind [mz]
 |k+1,w,h=>by
  delta mz jW at h;let#[v,a,b]:=i5.mp h;obtain⟨y,c,rfl⟩:=a_.mp b;let#[e,g]:=be.mp c;let d:=vV n k v a;refine#[by simp[d.1],?_,λx i=>?_]
  .grind
  .grind
def Ke{w:List Nat}(d:↑w=n)(b:w.Nodup)(e:∀x∈w,x<n):w.Perm (ay n):=by
 rw[List.perm_ext_iff_of_nodup b i6];intro a;constructor
 .grind
 .intro h;apply c7;intro c;let:↑(a::w)<=↑(ay n):=eM (g9.mpr #[c,b]) λx g=>gR;simp at this;omega
def zc(n)(ws):↑(jW (ay n) ws)<=↑ws*n:=by
 delta jW;induction ws with
 |nil=>simp
 |cons a r b=>
  rw[dw,aW,aj,aQ,IM,II];let:=ca (λy=>decide<|y∉a) (ay n);rw[cr]at this;omega
def Gu(h:n<=6):∀k,↑(mz n k)<=6^k
 |0=>by simp[mz]
 |k+1=>by let a:=Gu h k;let:=zc n<|mz n k;delta mz;rw[IL];exact bu this (uz a h)
def h_(wt:Nat->Nat->Nat)(a:List Nat×Nat)(m:List Nat):List Nat×Nat:=if iO wt m<a.2 then(m,iO wt m)else a
def x_(a:Nat->Nat->Nat)(b)(ws):Jr a b ws=ws.foldl (h_ a) (b,iO a b):=rfl
def M4(b:Nat->Nat->Nat)(n):(vZ b n).Perm (ay n):=by
 delta vZ;rw[x_];let gen:∀(ws:List (List Nat))(a:List Nat×Nat),(∀w∈ws,w.Perm<|ay n)->a.1.Perm (ay n)->(ws.foldl (h_ b) a).1.Perm (ay n):=by
  intro ws;induction ws with
  |nil=>intro a _ h;exact h
  |cons w r c=>
   intro a hw d;rw[cy];refine c _ (λv e=>hw v<|aR _ e) ?_;delta h_;split
   .grind
   .exact d
 refine gen _ _ (λw hw=>?_) (fi _);let:=vV n n w hw;exact Ke this.1 this.2.1 this.2.2
def GI(a:Nat->Nat->Nat)(w):qD a w 0=0:=by delta qD;simp[fo]
def yI{w:List Nat}(h:w[i]?>r):(w.take<|i+1).zipIdx=(w.take i).zipIdx++[(r,i)]:=by grind [aN,dj,kK]
def GH(a:Nat->Nat->Nat)(h:w[i]?>r):qD a w (i+1)=qD a w i+fo (w.take i) λy=>a y r:=by delta qD;rw[yI h,tL];simp[fo]
def Jv(a:Nat->Nat->Nat)(w):qD a w ↑w=iO a w:=by delta qD iO;rw[br]
def Oq(l)(x:a)(g:a->Nat):fo (l++[x]) g=fo l g+g x:=by rw[tL];simp[fo]
def yX(h:∀x y,x<n->y<n->a x y=wt' x y)(hw:∀x∈w,x<n):iO a w=iO wt' w:=by delta iO;refine gB _ _ _ λx b=>gB _ _ _ λy c=>?_;let:=zF 0 w 0 x b;exact h _ _ (hw y<|eW c) (hw _<|ax this.2)
def Gy(h:∀x y,x<n->y<n->b x y=wt' x y):vZ b n=vZ wt' n:=by
 delta vZ;rw[x_,x_,yX h (w:=ay n) λx c=>cb.mp c];congr 1;let gen:∀(ws:List (List Nat))(a:List Nat×Nat),(∀w∈ws,∀x∈w,x<n)->ws.foldl (h_ b) a=ws.foldl (h_ wt') a:=by
  intro ws;induction ws with
  |nil=>intro a _;rfl
  |cons w r d=>
   intro a hw;rw[cy,cy];let e:h_ b a w=h_ wt' a w:=by delta h_;rw[yX h (hw w<|aZ ..)]
   rw[e];exact d _ λv g=>hw v (aR _ g)
 exact gen _ _ λw hw=>(vV n n w hw).2.2
def zi(h:∀x y,x<n->y<n->c x y=wt' x y):∀i,i+1<=n\/i=0->lc c n i=lc wt' n i
 |0,_=>rfl
 |i+1,e=>by
  rw[qR,qR,zi h i oM];let b:=qQ wt' n i oM;let d:=b.length_eq;rw[cr]at d;let a:∀j,j<n->(lc wt' n i).1.getD j 0<n:=λj g=>by rw[bz,aq oM];exact cb.mp (b.mem_iff.mp<|cx _)
  delta mr;simp only[];rw[h _ _ (a (i+1) oM) (a i oM),h _ _ (a i oM) (a (i+1) oM)]
def jE(f:Frame)(o:Order)(r:Nat):Nat->Nat->Nat:=O1 (iq f o true r) (iq f o false r)
def vA(f:Frame)(o)(n r):jz f (o,n) r=(o.set r<|(lc (jE f o r) ↑(aL o r) (↑(aL o r)-1)).1.map λp=>(aL o r).getD p (.box 0),n+(lc (jE f o r) ↑(aL o r) (↑(aL o r)-1)).2):=by rw[J',zi (wt':=jE f o r) (λx y a b=>(WB f o a b).symm) _ oM]
def GA(f:Frame)(o)(r)(h:↑(aL o r)<=6):IU f o r>((vZ (jE f o r) ↑(aL o r)).map λp=>(aL o r).getD p (.box 0)):=by rw[Gz f o r h,Gy (wt':=jE f o r) (λx y a b=>(WB f o a b).symm)]
def C4(f:Frame)(o)(r)(h:6<↑(aL o r)):IU f o r=none:=by delta IU spots;simp only[];rw[ac (by rw[aj];exact h)]
def HH(a:Nat->Nat->Nat)(n):(lc a n<|n-1).1.Perm (ay n):=qQ a n (n-1) oM
def NW(h:l.Nodup):(dq l).Nodup:=by grind [dq]
def zj:∀{a s:List Int},a.Nodup->(∀x∈a,x∈s)->↑a=↑s->a.Perm s
 |[],s,_,_,h=>gR
 |x::a,s,b,sub,h=>by
  let c:=sub x<|aZ ..;let#[g,d]:=g9.mp b;let e:=Jg c;refine(Lc x<|zj d (λy i=>?_) ?_).trans e.symm
  .grind
  .grind
def Uw(c:s.Perm l)(e:s.Pairwise (·<=·)):isPerm n l=decide (s=dq (ay n)):=by
 rw[b7,decide_eq_true_eq];delta isPerm;rw[b_,beq_iff_eq,eZ];constructor
 .rintro⟨d,g⟩;let j:(dq<|ay n).Perm s:=by
   let m:(dq<|ay n).Nodup:=NW i6;let sub:∀x∈dq (ay n),x∈s:=λx p=>by grind [dq]
   let hlen:↑(dq<|ay n)=↑s:=by delta dq;simp[c.length_eq,d]
   exact zj m sub hlen
  refine(List.Perm.eq_of_pairwise (le:=λa b:Int=>a<=b) (λa b _ _ d g=>oM) ?_ e j).symm;delta dq;rw[fq];exact gf.imp λh=>oM
 .rintro rfl;refine#[?_,λi q=>?_]
  .rw[<-c.length_eq];delta dq;simp
  .grind [dq]
def Uv(b:s.Perm l)(e:s=dq (ay n)):l=dq (l.map ig)/\(l.map ig).Perm (ay n):=by
 let h0:∀x∈l,0<=x:=λx a=>by grind [dq]
 exists ?_
 .unfold dq;rw[aS];conv=>lhs;rw[<-kN l]
  refine bK λx a=>?_;let:=h0 x a;simp;omega
 .let:=(b.map ig).symm;rw[e]at this;refine this.trans ?_;delta dq;rw[aS];let:(ay n).map (ig∘λ(n:Nat)=>(n:Int))=ay n:=by
   conv=>rhs;rw[<-kN (ay n)]
   refine bK λx _=>?_;simp
  rw[this]
def HM(h:∀x∈l,x.toNat<↑row):permuted row l=(l.map ig).map λp=>row.getD p (.box 0):=by
 delta permuted;induction l with
 |nil=>rfl
 |cons a l c=>
  let b:=h a<|aZ ..;rw[iX,aq b,bb,bb,c λx d=>h x (aR _ d)];simp[bz,b]
open VadiBase in
def sT (parts:List Bytes):Bytes:=(parts.flatMap λp=>p++[32])++[59,10]
def xw(b):f_ b=sT [bn "box",b.name.name,pr b.w,pr b.h]:=by delta f_ Gr sT;let e1:bn "box "=bn "box"++[32]:=dC;let e2:bn " "=[32]:=dC;let e3:bn " ;"=[32,59]:=dC;rw[e1,e2,e3];simp[cJ]
def Dm(e):fC e=sT ([bn "edge",e.src.name,bn "->",e.dst.name]++match e.label with|some l=>[bn ":",l]|none=>[]):=by
 delta fC Gr sT;let e1:bn "edge "=bn "edge"++[32]:=dC;let e2:bn " -> "=[32]++bn "->"++[32]:=dC;let e3:bn " ;"=[32,59]:=dC;let e4:bn " : "=[32]++bn ":"++[32]:=dC;rw[e1,e2,e3];cases e.label with
 |none=>simp[cJ]
 |some l=>simp[e4,cJ]
def uU(x):ji x=sT [bn "above",x.1.name,x.2.name]:=by delta ji Gr sT;let e1:bn "above "=bn "above"++[32]:=dC;let e2:bn " "=[32]:=dC;let e3:bn " ;"=[32,59]:=dC;rw[e1,e2,e3];simp[cJ]
end Cr
namespace Cr
def eS(p:Nat):Nat:=[0,0,1,0,1,1,1,0,0,0,3,1].getD p 0
def zn(p:Nat):Nat:=[1,0,0,0,0,1,0,0,0,0,0,0].getD p 0
def Rb(h:hJ p>(n,k)):∃q:Nat,q<12/\p=(q:Int)/\n=eS q/\k=zn q:=by
 delta hJ at h;by_cases c0:p=0
 .rw[ac c0]at h;cases h;exact#[0,dC,c0,rfl,rfl]
 rw[aa c0]at h;by_cases c:p=1
 .rw[ac c]at h;cases h;exact#[1,dC,c,rfl,rfl]
 rw[aa c]at h;by_cases d:p=2
 .rw[ac d]at h;cases h;exact#[2,dC,d,rfl,rfl]
 rw[aa d]at h;by_cases e:p=3
 .rw[ac e]at h;cases h;exact#[3,dC,e,rfl,rfl]
 rw[aa e]at h;by_cases f:p=4
 .rw[ac f]at h;cases h;exact#[4,dC,f,rfl,rfl]
 rw[aa f]at h;by_cases g:p=5
 .rw[ac g]at h;cases h;exact#[5,dC,g,rfl,rfl]
 rw[aa g]at h;by_cases i:p=6
 .rw[ac i]at h;cases h;exact#[6,dC,i,rfl,rfl]
 rw[aa i]at h;by_cases j:p=7
 .rw[ac j]at h;cases h;exact#[7,dC,j,rfl,rfl]
 rw[aa j]at h;by_cases l:p=8
 .rw[ac l]at h;cases h;exact#[8,dC,l,rfl,rfl]
 rw[aa l]at h;by_cases m:p=9
 .rw[ac m]at h;cases h;exact#[9,dC,m,rfl,rfl]
 rw[aa m]at h;by_cases a:p=10
 .rw[ac a]at h;cases h;exact#[10,dC,a,rfl,rfl]
 rw[aa a]at h;by_cases b:p=11
 .rw[ac b]at h;cases h;exact#[11,dC,b,rfl,rfl]
 rw[aa b]at h;cases h
structure Z3(l:List Int)(a:Nat)(c:List (List Int))(q:Nat)(nums row:List Int)(nx:Nat):Prop where
 lt:q<12
 num:l[a]?>(q:Int)
 Ea:(l.drop (a+1)).take (eS q)=nums
 XY:↑nums=eS q
 ab1:zn q=1->∃m:Nat,l[a+1+eS q]?>(m:Int)/\(l.drop (a+2+eS q)).take m=row/\↑row=m/\nx=a+2+eS q+m
 ab0:zn q≠1->row=[]/\nx=a+1+eS q
 nxl:nx<=↑l
 lt2:a<nx
 ec:c=if zn q=1 then[(q:Int)::nums,row]else[(q:Int)::nums]
def B5(q):zn q=0\/zn q=1:=by
 delta zn;match q with
 |0|1|2|3|4|5|6|7|8|9|10|11=>simp
 |n+12=>simp
theorem Tr(h:VB hJ (l.drop a)>(c,t)):∃q nums row nx,Z3 l a c q nums row nx/\t=l.drop nx:=by
 cases e:l.drop a with
 |nil=>rw[e]at h;cases h
 |cons p r=>
  rw[e]at h;let u:l[a]?>p:=by let:=af (λx=>x[0]?) e;simpa using this
  let j:r=l.drop (a+1):=by let:=af (λx=>x.drop 1) e;simpa[i4,II]using this.symm
  let B:a<↑l:=gl u;delta VB at h;simp only[]at h;cases v:hJ p with
  |none=>rw[v]at h;simp at h
  |some C=>
   let#[n,k]:=C;rw[v]at h;simp only[]at h;obtain⟨q,y,rfl,rfl,rfl⟩:=Rb v;split at h
   .cases h
   .rename_i hlen;let w:eS q<=↑(l.drop<|a+1):=by rw[<-j];omega
    rw[cw]at w;obtain z|z:=B5 q
    .rw[z]at h;simp only[Gn,gE,ul]at h;obtain⟨rfl,rfl⟩:=h;exists q,(l.drop<|a+1).take (eS q),[],a+1+eS q,#[y,u,rfl,?_,λA=>oM,λ_=>#[rfl,rfl],oM,oM,?_]
     .grind
     .grind
     .rw[j,i4]
    .rw[z]at h;delta Gn PyFlat.row at h;cases f:r.drop (eS q)with
     |nil=>rw[f]at h;simp at h
     |cons m s=>
      rw[f]at h;simp only[]at h;split at h
      .cases h
      .rename_i xs F b;split at b
       .cases b
       .rename_i x s2 o;simp only[Gn]at b;cases b;split at o
        .rename_i hm;simp only[gE,ul]at o h;obtain⟨rfl,rfl⟩:=o;obtain⟨rfl,rfl⟩:=h;obtain⟨d,rfl⟩:∃d:Nat,m=(d:Int):=#[m.toNat,oM];rw[aT]at hm|-;rw[j,i4]at f;let g:l[a+1+eS q]?>(d:Int):=by let:=af (λx=>x[0]?) f;simpa using this
         let i:s=l.drop (a+2+eS q):=by let:=af (λx=>x.drop 1) f;rw[i4]at this;simp at this;rw[<-this];congr 1;omega
         let D:d<=↑l-(a+2+eS q):=gR;let E:=gl g;exists q,(l.drop<|a+1).take (eS q),s.take d,a+2+eS q+d,#[y,u,rfl,?_,λ_=>#[d,g,by rw[i],?_,rfl],λA=>ae z A,oM,oM,?_]
         .grind
         .grind
         .rw[ac z,j]
         .rw[i,i4]
        .cases o
def Pz(h:jR hJ b (l.drop a)>g):
  (↑l<=a/\g=[])\/∃c f q nums row nx d,g=c::f/\Z3 l a c q nums row nx/\jR hJ d (l.drop nx)>f:=by
 cases e:l.drop a with
 |nil=>
  rw[e]at h;let:g=[]:=by cases b<;>(simp only[jR]at h;exact(aO h).symm)
  exact .inl #[by simpa using e,this]
 |cons p r=>
  let i:=e;rw[e]at h;cases b with
  |zero=>simp[jR]at h
  |succ n=>
   delta jR at h;rw[<-i]at h;split at h
   .cases h
   .grind [Tr]
def toCall(q:Nat)(nums row:List Int):yS:=match q,nums with
 |0,_=>.load (oQ row)
 |1,_=>.shown
 |2,[k]=>.rank k
 |3,_=>.crossings
 |4,[k]=>.pairs k
 |5,[k]=>.put k row
 |6,[d]=>.sweep d
 |7,_=>.swaps
 |8,_=>.settle
 |9,_=>.anew
 |10,[k,i,s]=>.middle k i s
 |11,[k]=>.best k
 |_,_=>.shown
def len0{l:List Int}(h:↑l=0):l=[]:=g0.mp h
def yo{l:List Int}(h:↑l=1):∃a,l=[a]:=List.length_eq_one_iff.mp h
def XR{l:List Int}(h:↑l=3):∃a b c,l=[a,b,c]:=by
 match l,h with
 |[a,b,c],_=>exact#[a,b,c,rfl]
def OA(D:Z3 l a c q nums row nx)(e:q=0->mi row=true):kR (jB c)>toCall q nums row:=by
 let f:=D.lt;let d:=D.XY;let b:=D.ec;match q,f,d,b,e with
 |0,_,d,b,e=>
  rw[len0 d]at b;subst b;show kR [[0],row]=_;delta kR;simp only[];rw[ac (e rfl)];rfl
 |1,_,d,b,_=>rw[len0 d]at b;subst b;rfl
 |2,_,d,b,_=>obtain⟨k,rfl⟩:=yo d;subst b;rfl
 |3,_,d,b,_=>rw[len0 d]at b;subst b;rfl
 |4,_,d,b,_=>obtain⟨k,rfl⟩:=yo d;subst b;rfl
 |5,_,d,b,_=>obtain⟨k,rfl⟩:=yo d;subst b;rfl
 |6,_,d,b,_=>obtain⟨k,rfl⟩:=yo d;subst b;rfl
 |7,_,d,b,_=>rw[len0 d]at b;subst b;rfl
 |8,_,d,b,_=>rw[len0 d]at b;subst b;rfl
 |9,_,d,b,_=>rw[len0 d]at b;subst b;rfl
 |10,_,d,b,_=>obtain⟨k,i,s,rfl⟩:=XR d;subst b;rfl
 |11,_,d,b,_=>obtain⟨k,rfl⟩:=yo d;subst b;rfl
def yT(s:A0)(cs:List (List<|List Int)):List Int:=VC (SA rn s<|cs.map jB)
def M0(s):yT s []=[]:=rfl
def Jp(s)(c)(a)(h:kR (jB c)>k):
  yT s (c::a)=([(↑(cW (bP s k).2):Int)]++cW (bP s k).2)++yT (bP s k).1 a:=by
 delta yT VC;rw[bb,SA,dw];let e:rn s (jB c)=((bP s k).1,cW (bP s k).2):=by delta rn;rw[h]
 rw[e];rfl
def Gx(h:pM l=true):∃a,jR hJ ↑l l>a/\(∀c∈a,pC (jB c)=true)/\lJ l=yT none a/\↑(yT none a)<=10000000:=by
 delta pM at h;cases q:jR hJ ↑l l with
 |none=>rw[q]at h;cases h
 |some raw=>
  rw[q]at h;simp only[b_]at h;obtain⟨⟨⟨⟨_,_⟩,_⟩,b⟩,d⟩:=h;let e:lJ l=yT none raw:=by delta lJ PyVadiab.calls;rw[q];rfl
  exists raw,rfl,λc f=>?_,e
  .delta Zm at b;simp only[b_]at b;exact eZ.mp b.1 _ (fk f)
  .rw[<-e];exact ai d
def M2(D:Z3 l a c q nums row nx)(h:pC (jB c)=true):
  (q=0->mi row=true/\↑row<=8192)/\(q=5->↑row<=2000):=by
 let d:=D.XY;let b:=D.ec;refine#[λe=>?_,λe=>?_]
 .subst e;rw[len0 d]at b;subst b;let h:((row.all λz=>zN z 8)&&decide (↑row<=8192))=true:=h;rw[b_,eZ,decide_eq_true_eq]at h;refine#[?_,h.2];delta mi;rw[eZ];intro x f;let:=h.1 x f;delta zN at this;rw[b_,decide_eq_true_eq,decide_eq_true_eq]at this|-;omega
 .subst e;obtain⟨k,rfl⟩:=yo d;subst b;let h:(zO k&&(row.all zO&&decide (↑row<=2000)))=true:=h;simp only[b_,decide_eq_true_eq]at h;exact h.2.2
def M8(h:mi row=true):row=ff (oQ row):=by
 unfold ff oQ;rw[aS];conv=>lhs;rw[<-kN row]
 refine bK λx a=>?_;let:=eZ.mp h x a;rw[b_,decide_eq_true_eq,decide_eq_true_eq]at this;show x=((gO x.toNat).toNat:Int);rw[oy];omega
open Vadiab
variable{f:Frame}{o:Order}
def kg(o:Order):List Nat:=o.map λl=>↑l
def yY(g:Nat->Nat)(m):∀n,(∀v,v<n->g v<m)->((ay m).map λr=>↑((ay n).filter λv=>g v==r)).sum=n
 |0,_=>by
  let:∀l:List Nat,(l.map λr=>↑((ay 0).filter λv=>g v==r)).sum=0:=by
   intro l;induction l with
   |nil=>rfl
   |cons a l b=>rw[bb,gc,b];rfl
  exact this _
 |n+1,h=>by
  let b:=yY g m n λv j=>h v oM;let e:∀l:List Nat,(l.map λr=>↑((ay<|n+1).filter λv=>g v==r)).sum=(l.map λr=>↑((ay n).filter λv=>g v==r)).sum+↑(l.filter λr=>g n==r):=by
   intro l;induction l with
   |nil=>rfl
   |cons a l b=>
    rw[bb,gc,b,bb,gc,c_,cF,aW,bJ];by_cases c:(g n==a)=true
    .grind
    .grind
  rw[e,b];let d:=h n oM;let:(ay m).filter (λr=>g n==r)=[g n]:=by
   let i:∀m,g n<m->(ay m).filter (λr=>g n==r)=[g n]:=by
    intro m;induction m with
    |zero=>intro h;omega
    |succ m b=>
     intro h;rw[c_,cF];by_cases c:g n<m
     .grind
     .let hm:g n=m:=oM;let h0:(ay m).filter (λr=>g n==r)=[]:=by grind [lE,cb]
      rw[h0];simp[hm]
   exact i m d
  rw[this];rfl
def Ex:∀(l:List Nat)(g h:Nat->Nat),(∀x∈l,g x<=h x)->(l.map g).sum<=(l.map h).sum
 |[],_,_,_=>aI _
 |a::l,g,h,H=>by rw[bb,bb,gc,gc];let:=Ex l g h λx b=>H x<|aR _ b;let:=H a<|aZ ..;omega
def Kq(W:WF f o):↑f.d.boxes<=(kg o).sum:=by
 let e:kg o=(ay f.count).map λr=>↑(aL o r):=by
  delta kg;apply cq;intro j;rw[ak,ak];by_cases c:j<f.count
  .rw[fj c,aq (by rw[W.len];exact c)];delta aL;rw[bD,bD,aq (by rw[W.len];exact c)];rfl
  .rw[di (by rw[W.len];omega),di (by simp;omega)];rfl
 rw[e];let a:=yY (bX f) f.count ↑f.d.boxes λv b=>by refine W.below _ ?_;delta bX;rw[aq (by rw[W.boxes];exact b)];exact cx _
 conv=>lhs;rw[<-a]
 refine Ex _ _ _ λr g=>?_;rw[(W.rows r<|cb.mp g).length_eq];delta ye;rw[aW,aj];omega
def Ng(n):∀c∈IN 10 n,c.toNat<256:=λc a=>by let:=Nat.isDigit_of_mem_toDigits oM oM a;delta Char.isDigit at this;simp only[b_,decide_eq_true_eq]at this;let b:c.val.toNat<=57:=this.2;show c.val.toNat<256;omega
def Do(n):(IN 10 n).map (λc=>(c.toNat:Int))=ff (pr n):=by delta ff pr;rw[aS];refine bK λc a=>?_;let:=Ng n c a;show(c.toNat:Int)=((gO c.toNat).toNat:Int);rw[oy];omega
def UZ(n:Nat):(toString (n:Int)).toList=IN 10 n:=by show(Nat.repr n).toList=_;simp[Nat.repr]
def ze(near:List (List Nat))(m:Nat):List Nat:=(ay m).filter λp=>decide (0<↑(near.getD p []))
def BG(near)(m):ze near (m+1)=ze near m++(if 0<↑(near.getD m [])then[m]else[]):=by grind [ze,c_,cF]
def NO(near)(m):↑(ze near m)<=m:=by grind [ze]
def NP(near):cZ near 0=ze near ↑near:=by
 let gen:∀l s,cZ l s=(kO s ↑l).filter λp=>decide (0<↑(l.getD (p-s) [])):=by
  intro l;induction l with
  |nil=>intro s;rfl
  |cons x r b=>
   intro s;let h:=b<|s+1;delta cZ at h|-;rw[fb,bJ,aQ,j5,bJ];let e:(kO (s+1) ↑r).filter (λp=>decide<|0<↑((x::r).getD (p-s) []))=(kO (s+1) ↑r).filter λp=>decide (0<↑(r.getD (p-(s+1)) [])):=by grind [d4,List.mem_range'_1,List.getD_cons_succ]
   rw[e,<-h];rw[ox,List.getD_cons_zero];cases x with
   |nil=>simp
   |cons a l=>simp
 let:=gen near 0;rw[this,<-iI];delta ze;simp
def DT(near:List (List Nat))(i:Nat):Nat:=dR (near.take i)
def Ju(h:near[i]?>x):DT near (i+1)=DT near i*max ↑x 1:=by delta DT dR;rw[aN,h,dj,d5];rfl
def Na(near):DT near ↑near=dR near:=by delta DT;rw[br]
theorem HQ(l)(x):cU l x<=↑l:=List.findIdx_le_length
def Fu(n)(c:∀r,↑(aL o r)<=n)(up)(r):∀l∈iq f o up r,∀x∈l,x<=n:=λl a x b=>by
 delta iq at a;obtain⟨y,_,rfl⟩:=a_.mp a;delta around at b;split at b
 .grind [HQ]
 .grind [HQ]
def sum_bound:∀(l:List Nat) n,(∀x∈l,x<=n)->l.sum<=↑l*n
 |[],n,_=>sP
 |a::l,n,h=>by let:=sum_bound l n λx b=>h x<|aR _ b;let:=h a<|aZ ..;rw[gc,aQ,IM];omega
def T7(near)(h:p<↑near):(near.map<|kn<|dR near).getD p 0=kn (dR near) (near.getD p []):=gR
end Cr
namespace Cr
open VadiBase Vadiaa
def iD{A B E:Type}{x:Except E A}{f:A->Except E B}{y:B}(h:x.bind f=.ok y):∃a,x=.ok a/\f a=.ok y:=by
 cases x with
 |error e=>cases h
 |ok a=>exact#[a,rfl,h]
def wd{A B E:Type}{x:Except E A}{f:A->B}{y:B}(h:x.map f=.ok y):∃a,x=.ok a/\f a=y:=by
 cases x with
 |error e=>cases h
 |ok a=>exact#[a,rfl,i_ h]
def ka(l:Toks):Prop:=∀t∈l,∀w,t.tok=.name w->↑w<=16
def ka.drop(h:ka l)(n):ka (l.drop n):=λt a=>h t (mO a)
def ka.tail(h:ka (t::l)):ka l:=λu a=>h u (aR _ a)
theorem KZ(h:token l>(.name w,k)):↑w<=16:=by
 delta token at h;split at h
 .cases h
 .split at h
  .simp only[]at h;split at h
   .cases h
   .rename_i a;simp only[gE,ul,Tok.name.injEq]at h;rw[<-h.1];delta NAME at a;omega
  .split at h
   .rename_i b r _ _;cases q:IR ((b::r).takeWhile isDigit)with
    |none=>rw[q]at h;cases h
    |some n=>rw[q]at h;simp at h
   .grind
def Fp:∀n at_ b l,lex n at_ b=.ok l->ka l
 |0,at_,b,l,h=>by
  delta lex at h;let:=i_ h;subst this;intro t a w hw;let:t=#[at_,.last]:=by simpa using a
  subst this;cases hw
 |n+1,at_,[],l,h=>by
  delta lex at h;let:=i_ h;subst this;intro t a w hw;let:t=#[at_,.last]:=by simpa using a
  subst this;cases hw
 |n+1,at_,b::r,l,h=>by
  delta lex at h;split at h
  .exact Fp n _ _ l h
  .split at h
   .exact Fp n _ _ l h
   .split at h
    .cases h
    .rename_i x d;obtain⟨m,hm,rfl⟩:=wd h;let c:=Fp n _ _ m hm;intro t a w hw;obtain rfl|a:=aE.mp a
     .grind [KZ]
     .exact c t a w hw
def kH(T:ka l)(h:hG l=.ok x):↑x.1.name<=16/\ka x.2:=by
 delta hG at h;split at h
 .rename_i p b r;split at h
  .cases h
  .let:=i_ h;subst this;exact#[T #[p,.name b] (aZ ..) b rfl,T.tail]
 .cases h
def Cs(T:ka l)(h:takeNum lo a l=.ok x):x.1<=a/\ka x.2:=by
 delta takeNum at h;split at h
 .rename_i q n r;split at h
  .cases h
  .rename_i b;let:=i_ h;subst this;exact#[by simp only[];omega,T.tail]
 .cases h
def mG(T:ka l)(h:fA c l=.ok r):ka r:=by
 delta fA taken at h;split at h
 .let:=i_ h;subst this;exact T.drop 1
 .cases h
def O3(b:Box):Prop:=↑b.name.name<=16/\b.w<=30/\b.h<=9
def Vn(e:Edge):Prop:=∀l,e.label>l->↑l<=16
def KW(T:ka l)(h:takeBox l=.ok x):O3 x.1/\ka x.2:=by
 delta takeBox at h;let#[a,d,h]:=iD h;let#[b,c]:=kH T d;split at h
 .let:=i_ h;subst this;exact#[#[b,by simp only[];omega,by simp only[];omega],c.drop 1]
 .let#[w,e,h]:=iD h;let#[f,g]:=Cs c e;let#[o,i,h]:=iD h;let#[j,T3]:=Cs g i;obtain⟨m,n,rfl⟩:=wd h;exact#[#[b,f,j],mG T3 n]
def Iz(T:ka l)(h:takeEdge l=.ok x):Vn x.1/\ka x.2:=by
 delta takeEdge at h;let#[a,f,h]:=iD h;let#[r,g]:=kH T f;let#[b,i,h]:=iD h;let j:=mG g i;let#[c,n,h]:=iD h;let#[s,T3]:=kH j n;split at h
 .let#[z,o,h]:=iD h;let#[p,q]:=kH (T3.drop 1) o;obtain⟨m,d,rfl⟩:=wd h;refine#[λl e=>?_,mG q d];let:=aO e;subst this;exact p
 .obtain⟨m,d,rfl⟩:=wd h;exact#[λl e=>(by cases e),mG T3 d]
def IA(T:ka l)(h:takeWish l=.ok x):ka x.2:=by delta takeWish at h;let#[a,c,h]:=iD h;let#[i,d]:=kH T c;let#[b,e,h]:=iD h;let#[j,f]:=kH d e;obtain⟨m,g,rfl⟩:=wd h;exact mG f g
structure MV(d:Diagram):Prop where
 bx:∀b∈d.boxes,O3 b
 ed:∀e∈d.edges,Vn e
def q_:∀n d l d',ka l->MV d->takeAll n d l=.ok d'->MV d'
 |0,d,l,d',_,_,h=>by delta takeAll at h;cases h
 |n+1,d,l,d',T,S,h=>by
  delta takeAll at h;split at h
  .rename_i q w m;let e:=T.tail;split at h
   .split at h
    .cases h
    .let#[x,c,h]:=iD h;let#[g,f]:=KW e c;refine q_ n {d with boxes:=d.boxes++[x.1]} x.2 d' f #[λb a=>?_,S.ed] h;obtain a|a:=aM.mp a
     .exact S.bx b a
     .grind
   .split at h
    .split at h
     .cases h
     .let#[x,c,h]:=iD h;let#[g,f]:=Iz e c;refine q_ n {d with edges:=d.edges++[x.1]} x.2 d' f #[S.bx,λb a=>?_] h;obtain a|a:=aM.mp a
      .exact S.ed b a
      .grind
    .split at h
     .split at h
      .cases h
      .let#[x,c,h]:=iD h;exact q_ n {d with wishes:=d.wishes++[x.1]} x.2 d' (IA e c) #[S.bx,S.ed] h
     .cases h
  .split at h
   .grind
   .cases h
def sj(d:Diagram)(x:lY):Prop:=∃b,d.boxes[dG d x]?>b/\b.name.name=x.name
structure Th(d:Diagram):Prop where
 ed:∀e∈d.edges,sj d e.src/\sj d e.dst
 wi:∀x∈d.wishes,sj d x.1/\sj d x.2
def NQ(h:(boxNo d x.name).isNone=false):sj d x:=by
 delta sj dG;cases q:boxNo d x.name with
 |none=>rw[q]at h;cases h
 |some i=>
  delta boxNo at q;let#[a,b,_]:=iw.mp q;exact#[d.boxes[i],by simp[a],by simpa using b]
def UM(h:gj b=.ok d):MV d/\Th d:=by
 delta gj at h;let#[l,c,h]:=iD h;let T:ka l:=by
  delta tokens at c;split at c
  .cases c
  .exact Fp _ _ _ _ c
 let#[g,i,h]:=iD h;let S:=q_ _ _ _ _ T #[by simp[empty],by simp[empty]] i;split at h
 .cases h
 .split at h
  .cases h
  .rename_i hf;split at h
   .cases h
   .split at h
    .cases h
    .let:=i_ h;subst this;let a:∀x∈namesIn g,sj g x:=λx f=>NQ (by let:=jg.mp hf x f;exact Bool.eq_false_iff.mpr this)
     refine#[S,λe he=>#[a _ ?_,a _ ?_],λx f=>#[a _ ?_,a _ ?_]]
     .delta namesIn;exact bf _ (i5.mpr #[e,he,sP])
     .delta namesIn;exact bf _ (i5.mpr #[e,he,sP])
     .delta namesIn;exact bE _ (i5.mpr #[x,f,sP])
     .delta namesIn;exact bE _ (i5.mpr #[x,f,sP])
end Cr
namespace Cr
open PySem PySem.Spec PyProof.Rows L2 XF
def dB:eE "len">.builtin "len":=dK
def EY:eE "max">.builtin "max":=dK
def W0:eE "min">.builtin "min":=dK
def EZ:eE "sum">.builtin "sum":=dK
def W1:eE "ord">.builtin "ord":=dK
def t8:eE "sorted">.builtin "sorted":=dK
def Pr:eE "str">.type "str":=dK
def i':eE "list">.type "list":=dK
def Ps:eE "tuple">.type "tuple":=dK
structure Txt(K:ao)(mg:Str->Option Value):Prop where
 len:mg "len"=none
 max:mg "max"=none
 min:mg "min"=none
 sum:mg "sum"=none
 ord:mg "ord"=none
 sorted:mg "sorted"=none
 str:mg "str"=none
 list:mg "list"=none
 tuple:mg "tuple"=none
 range:mg "range"=none
 enumerate:mg "enumerate"=none
 zip:mg "zip"=none
 Jj:∃t,mg "MOST_TRIED">.int 10 t
def HS(h:PE X e t)(he:∀whole,OX e X.env whole=(do let v<-whole;yB e.pos;holding [v] (truthy v)):=by intro _;rfl):PT X e (tB t):=Yh h he
def oY(hm:∃t,X.mg x>.int n t)(a:Gl X x:=by rfl)(hd:(x==("__debug__":Str))=false:=by decide):PE X (.Name x pos) (tC<|.int n):=by let#[t,hm]:=hm;exact LZ a hm #[t,rfl] hd
def aaj(N:List Str)(sc scope:Scope)(own:List (Str×Nat)):Bool:=
 (scope.kind==.function)&&(scope.names.all λy=>scope.names.lookup y.1==some y.2)&&(own.all λp=>N[p.2]?==some p.1)&&
 (scope.names.all λy=>!(y.2==.free)||(sc.names.lookup y.1==some .cell||sc.names.lookup y.1==some .free))&&
 (scope.names.all λy=>!(y.2==.local||y.2==.cell)||((own.map (·.1)).contains y.1||!(N.contains y.1)))
def pz(own)(h:aaj N sc scope own=true:=by rfl):Ga N sc scope own:=by
 delta aaj at h;simp only[b_,eZ,g8,lB,beq_iff_eq]at h;obtain⟨⟨⟨⟨a,b⟩,c⟩,d⟩,e⟩:=h;refine#[a,b,c,λy f hf=>?_,λy f hf=>?_]
 .grind
 .grind
section
variable(K:ao){X:Cx}
def j7(h:X.K=K:=by rfl):Z_ X (QW K):=h▸TV
def kL(h:X.K=K:=by rfl):Z_ X (N8 K):=h▸XD
def YC(h:X.K=K:=by rfl):SlR X (Yq K):=h▸UY
def inS(h:X.K=K:=by rfl):uB X (d7 .In) (rIn K false):=h▸NZ
def Fv(h:X.K=K:=by rfl):uB X (d7 .NotIn) (rIn K true):=h▸FA
def eqD(a:X.A.units+64<cLine)(h:X.K=K:=by rfl):uB X (d7 .Eq) (Yi K):=h▸X3 a
def neD(a:X.A.units+64<cLine)(h:X.K=K:=by rfl):uB X (d7 .NotEq) (Yo K):=h▸X5 a
def abw(K:ao):List V->Hp->VK->Prop:=λxs H Q=>∃p ys,xs=[.ref p]/\(bW K H p ys\/f9 K H p ys)/\Q (.int ↑ys) H
def ia(h:X.K=K:=by rfl):iN X (.builtin "len") (abw K):=h▸E2
def Md(K:ao):List V->Hp->VK->Prop:=λxs H Q=>∃p ys,xs=[.ref p]/\(bW K H p ys\/f9 K H p ys)/\∀l,H l=none->Q (.ref l) (upd H l<|.lst ys)
def listOf(h:X.K=K:=by rfl):iN X (.type "list") (Md K):=h▸E4
def Q1(K:ao):List V->Hp->VK->Prop:=λxs H Q=>∃p ys,xs=[.ref p]/\((bW K H p ys/\∀l,H l=none->Q (.ref l) (upd H l<|.tup ys))\/(f9 K H p ys/\Q (.ref p) H))
def acq(h:X.K=K:=by rfl):iN X (.type "tuple") (Q1 K):=h▸C5
def U1(a:X.calm=true)(h:X.K=K:=by rfl):iN X (.builtin "sum") (Yr K):=h▸W9 a
def aer(a:X.calm=true)(h:X.K=K:=by rfl):iN X (.builtin "max") (Ym K):=h▸W4 a
def aes(a:X.calm=true)(h:X.K=K:=by rfl):iN X (.builtin "min") (Yn K):=h▸W6 a
def qh{a l:fU}{tl:TE}(b:PE X l tl)(h:X.K=K:=by rfl):PI X a l (D3 K tl):=h▸Ur b
def piT{a l:fU}{tl:TE}(b:PE X l tl)(h:X.K=K:=by rfl):PI X a l (aa9 K tl):=h▸Yc b
def SR{e:fU}{c:TA}{p pos a:Pos}{b:List fU}{d:Nat}(hm:X.mg "enumerate"=none)(f:PA X [e] c)(h:X.K=K:=by rfl)(g:Gl X "enumerate":=by rfl)(i:bi [e] X.env=[(false,eval e X.env)]:=by rfl):
  PI X (.Tuple b d a) (.Call (.Name "enumerate" p) [e] [] pos) (VY K c):=h▸Uq g hm f i
def piZ{e a:fU}{f:TA}{p pos b:Pos}{c:List fU}{g:Nat}(hm:X.mg "zip"=none)(i:PA X [e,a] f)(h:X.K=K:=by rfl)(j:Gl X "zip":=by rfl)
  (l:bi [e,a] X.env=(false,eval e X.env)::bi [a] X.env:=by rfl)(d:(gW pos<|bi [a] X.env).any (·.1)=false:=by rfl):
  PI X (.Tuple c g b) (.Call (.Name "zip" p) [e,a] [] pos) (aba K f):=h▸Yd j hm i l d
def OY{es:List fU}{k:Nat}{pos:Pos}{t:VI}(n:Nat)(g:PGs X es t)(h:X.K=K:=by rfl)(b:X.calm=true:=by rfl)(c:↑(nM es X.env)=n:=by rfl)(a:(nM es X.env).findIdx? (·.1)=none:=by rfl):PG X (.Tuple es k pos) (Xf K n t):=h▸Ya b g c a
def pn(i)(a:X.N.Nodup)(b:X.N[i]?>x:=by rfl)(c:Loc X.env.scope x:=by first|exact lX rfl|exact mP rfl)(hf:X.fn x=true\/X.env.scope.names.lookup x>.local:=by first|exact .inl rfl|exact .inr rfl):PG X (.Name x pos) (pR i):=Up a b c hf
def fld{e:fU}{f:Str}{pos:Pos}{a:TE}(he:PE X e a)(h:X.K=K:=by rfl)(b:jT e f X.env (eval e X.env)=eval e X.env:=by rfl):PE X (.Attribute e f pos) (RV K a f):=h▸X_ he b
def md{o value:fU}{f:Str}{pos pos':Pos}{a b:TE}(c:PE X o a)(d:PE X value b)(h:X.K=K:=by rfl)(e:kG value (some<|.Attribute o f pos') pos.line X.env=pure false:=by rfl):PS X (.Assign [.Attribute o f pos'] value pos) (Yy K a b f):=h▸Ye c d e
def st(i)(a:X.N.Nodup)(he:PE X e b)(c:X.N[i]?>x:=by rfl)(d:Loc X.env.scope x:=by first|exact lX rfl|exact mP rfl)(f:kG e (some<|.Name x pos') pos.line X.env=pure false:=by rfl)
  (hf:X.fn x=true\/X.env.scope.names.lookup x>.local:=by first|exact .inl rfl|exact .inr rfl):PS X (.Assign [.Name x pos'] e pos) (RN b<|pR i):=Yf a c d he f hf
def bm{T:String}{name:Str}{id:String}{r:V->List V->Hp->VK->Prop}{o e:fU}{es:List fU}{apos a:Pos}{to:TE}{t:TA}(i:IP T)(slot:Slot T name id)(g:typeOf (.builtin id)=pure (.type "method_descriptor"))(hm:Y_ X id r)(j:PE X o to)(l:PA X (e::es) t)
  (h:X.K=K:=by rfl)(c:jT o name X.env (eval o X.env)=eval o X.env:=by rfl)
  (f:((gW a<|bi (e::es) X.env).all (λx=>!x.1)&&(tZ a<|l8 [] X.env).all (λx=>x.1.isSome)
   &&decide (↑(e::es)+↑([]:List OK)+(if([]:List OK).isEmpty then 0 else 1)<30))=true:=by rfl)
  (d:(apos.endLine==a.line)=true:=by rfl)(m:bi (e::es) X.env=(false,eval e X.env)::bi es X.env:=by rfl)(b:(gW a<|bi es X.env).any (·.1)=false:=by rfl):
  PE X (.Call (.Attribute o name apos) (e::es) [] a) (tBM K T r to t):=h▸abq i slot g hm j l c f d m b
def bm0{T:String}{name:Str}{id:String}{r:V->List V->Hp->VK->Prop}{o:fU}{apos a:Pos}{to:TE}(e:IP T)(slot:Slot T name id)(d:typeOf (.builtin id)=pure (.type "method_descriptor"))(hm:Y_ X id r)(f:PE X o to)
  (h:X.K=K:=by rfl)(b:jT o name X.env (eval o X.env)=eval o X.env:=by rfl)(c:(apos.endLine==a.line)=true:=by rfl):
  PE X (.Call (.Attribute o name apos) [] [] a) (YI K T r to):=h▸X8 e slot d hm f b c
def mtI(h:X.K=K:=by rfl):Y_ X "list.index" (Kh K):=h▸QA
end
section
theorem Vf(i):∀a H Q,lN i a H Q=(∃v,a[i]?>some v/\Q v H):=λ_ _ _=>rfl
theorem ach(v):∀a H Q,tC v a H Q=(Q v H):=λ_ _ _=>rfl
theorem acg(t):∀a H Q,tB t a H Q=(t a H λx H1=>∃c,x=.bl c/\Q c H1):=λ_ _ _=>rfl
theorem U3(t u):∀a H Q,ace t u a H Q=(t a H λc H1=>if c=true then u a H1 Q else Q false H1):=λ_ _ _=>rfl
theorem YV(t u):∀a H Q,tOr t u a H Q=(t a H λc H1=>if c=true then Q true H1 else u a H1 Q):=λ_ _ _=>rfl
theorem Va(t):∀a H Q,ack t a H Q=(t a H λc H1=>Q (!c) H1):=λ_ _ _=>rfl
theorem RM(a b):∀d H Q,Ws a b d H Q=(a d H λx H1=>∃c,x=.bl c/\if c=true then b d H1 Q else Q (.bl false) H1):=λ_ _ _=>rfl
theorem Vb(a b):∀d H Q,acl a b d H Q=(a d H λx H1=>∃c,x=.bl c/\if c=true then Q (.bl true) H1 else b d H1 Q):=λ_ _ _=>rfl
theorem YO(t)(a b):∀d H Q,tIf t a b d H Q=(t d H λc H1=>if c=true then a d H1 Q else b d H1 Q):=λ_ _ _=>rfl
theorem RZ:∀D a H,RY D a H=(D.nx a H):=λ_ _ _=>rfl
theorem Vd(t u):∀D a H,KU t u D a H=(t {D with nx:=u D} a H):=λ_ _ _=>rfl
theorem RU(a):∀D b H,Cn a D b H=(a b H λ_ H1=>D.nx b H1):=λ_ _ _=>rfl
theorem Vc(a):∀D b H,acm a D b H=(a b H D.rt):=λ_ _ _=>rfl
theorem U9(c)(t u):∀D a H,RW c t u D a H=(c a H λb H1=>if b=true then t D a H1 else u D a H1):=λ_ _ _=>rfl
theorem P3(i):∀v a H Q,pR i v a H Q=(Q (a.set i<|some v) H):=λ_ _ _ _=>rfl
theorem TB:∀vs a H Q,aax vs a H Q=(vs=[]/\Q a H):=λ_ _ _ _=>rfl
theorem P2(t:TG)(u:VI):∀vs b H Q,VO t u vs b H Q=(∃v r,vs=v::r/\t v b H λσ' a=>u r σ' a Q):=λ_ _ _ _=>rfl
theorem TD(K)(n)(t:VI):∀v b H Q,Xf K n t v b H Q=(∃a xs,v=.ref a/\f9 K H a xs/\↑xs=n/\t xs b H Q):=λ_ _ _ _=>rfl
theorem TC(to a)(t):∀v d H Q,aay to a t v d H Q=(to d H λo H1=>a d H1 λi b=>t o i v b λc=>Q d c):=λ_ _ _ _=>rfl
theorem U4(a)(g:TG):∀D b H,RN a g D b H=(a b H λx H1=>g x b H1 D.nx):=λ_ _ _=>rfl
theorem U5(i)(a)(b:TIp):∀D d H,acf i a b D d H=(∃x,d[i]?>some x/\a d H λy H1=>b x y H1 λz c=>D.nx (d.set i<|some z) c):=λ_ _ _=>rfl
theorem XA(f:Int->Int->Int):∀x y H Q,ipI f x y H Q=(∃i j,x=.int i/\y=.int j/\Q (.int<|f i j) H):=λ_ _ _ _=>rfl
theorem Q0:∀o i v H Q,V_ o i v H Q=(∃p xs k j,o=.ref p/\i=.int k/\H p>.lst xs/\Fm ↑xs k>j/\Q (upd H p<|.lst<|xs.set j v)):=λ_ _ _ _ _=>rfl
theorem Qj(a:TA):∀b H R,VZ a b H R=(a b H λvs H1=>∃j,vs=[.int j]/\-(2^62)<=j/\j<2^62/\R (Gf 0 j.toNat) H1):=λ_ _ _=>rfl
theorem Qk(a:TA):∀b H R,V0 a b H R=(a b H λvs H1=>∃i j,vs=[.int i,.int j]/\(-(2^62)<=i/\i<2^62/\-(2^62)<=j/\j<2^62)/\R (Gf i (j-i).toNat) H1):=λ_ _ _=>rfl
theorem YU(r:R2)(a b):∀d H Q,Ox r a b d H Q=(a d H λx H1=>b d H1 λy c=>r x y c Q):=λ_ _ _=>rfl
theorem Sa(r:V->Hp->VK->Prop)(a):∀b H Q,tUn r a b H Q=(a b H λx H1=>r x H1 Q):=λ_ _ _=>rfl
theorem abv(C:Int->Int->Prop)(g:Int->Int->V):∀x y H Q,rI C g x y H Q=(∃i j,x=.int i/\y=.int j/\C i j/\Q (g i j) H):=λ_ _ _ _=>rfl
theorem Yk(g:Int->Int->V):∀x y H Q,SS g x y H Q=(∃i j,x=.int i/\y=.int j/\Q (g i j) H):=λ_ _ _ _=>rfl
theorem V'(g:Int->V):∀x H Q,rU g x H Q=(∃i,x=.int i/\Q (g i) H):=λ_ _ _=>rfl
theorem Yj:∀x y H Q,rEq x y H Q=(UU x y=true/\Q (.bl<|decide<|x=y) H):=λ_ _ _ _=>rfl
theorem Yp:∀x y H Q,rNe x y H Q=(UU x y=true/\Q (.bl<|!decide (x=y)) H):=λ_ _ _ _=>rfl
theorem R_(t):∀b H Q,Cq t b H Q=(t b H λx a=>∃k,x=.bl k/\Q k a):=λ_ _ _=>rfl
theorem Os(r a:R2)(b c d):∀i H Q,KP r a b c d i H Q=(b i H λx H1=>c i H1 λy f=>r x y f λz e=>∃k,z=.bl k/\(if k=true then d i e λg h=>a y g h Q else Q (.bl false) e)):=λ_ _ _=>rfl
theorem U8(K)(b)(f):∀d H Q,RV K b f d H Q=(b d H λx H1=>∃a C c fs v,x=.ref a/\H1 a>.ins C c fs/\IF K C/\nU K C f/\fs.lookup f>v/\Q v H1):=λ_ _ _=>rfl
theorem UT(K)(b c)(f):∀D g H,Yy K b c f D g H=(c g H λy H1=>b g H1 λx d=>∃a C e fs,x=.ref a/\d a>.ins C e fs/\IF K C/\nU K C f/\↑fs<1000/\D.nx g (upd d a<|.ins C e<|iu f y fs)):=λ_ _ _=>rfl
theorem Ks(K)(d e)(rd:V->V->Hp->VK->Prop)(f):∀D j H,Mg K d e rd f D j H=(d j H λx H1=>∃a C h fs v,x=.ref a/\H1 a>.ins C h fs/\IF K C/\nU K C f/\fs.lookup f>v/\e j H1 λy i=>rd v y i λz g=>∃c b,g a>.ins C c b/\↑b<1000/\D.nx j (upd g a<|.ins C c<|iu f z b)):=λ_ _ _=>rfl
theorem Ux:∀x y H Q,abt x y H Q=(∃i j,x=.int i/\y=.int j/\Q (.int<|i+j) H):=λ_ _ _ _=>rfl
theorem U':∀a H Q,oG a H Q=(Q [] H):=λ_ _ _=>rfl
theorem RP(a)(b:TA):∀d H Q,jo a b d H Q=(a d H λx H1=>b d H1 λxs c=>Q (x::xs) c):=λ_ _ _=>rfl
theorem Ve(t:TA):∀a H Q,acn t a H Q=(t a H λxs H1=>↑xs<=sizeLine/\∀p,H1 p=none->Q (.ref p) (upd H1 p<|.tup xs)):=λ_ _ _=>rfl
theorem U_(t:TA):∀a H Q,YR t a H Q=(t a H λxs H1=>↑xs<=sizeLine/\∀p,H1 p=none->Q (.ref p) (upd H1 p<|.lst xs)):=λ_ _ _=>rfl
theorem YK(r:List V->Hp->VK->Prop)(t:TA):∀a H Q,tCB r t a H Q=(t a H λvs H1=>r vs H1 Q):=λ_ _ _=>rfl
theorem YW(r:V->Option Int->Option Int->Hp->VK->Prop)(a)(tl b:TO):∀e H Q,tSl r a tl b e H Q=(a e H λx H1=>tl e H1 λl c=>b e c λu d=>r x l u d Q):=λ_ _ _=>rfl
theorem KS:∀a H Q,MG a H Q=(Q none H):=λ_ _ _=>rfl
theorem R3(t):∀a H Q,Wx t a H Q=(t a H λx H1=>∃i,x=.int i/\Q (some i) H1):=λ_ _ _=>rfl
theorem UA(K):∀x y H Q,QW K x y H Q=(∃p xs i v,x=.ref p/\y=.int i/\bW K H p xs/\nj xs i>v/\Q v H):=λ_ _ _ _=>rfl
theorem UB(K):∀x y H Q,N8 K x y H Q=(∃p xs i v,x=.ref p/\y=.int i/\f9 K H p xs/\nj xs i>v/\Q v H):=λ_ _ _ _=>rfl
theorem UI(K):∀x lo b H Q,Yq K x lo b H Q=(∃a xs,x=.ref a/\bW K H a xs/\∀p,H p=none->Q (.ref p) (upd H p<|.lst<|rN xs lo b)):=λ_ _ _ _ _=>rfl
theorem Yl(K)(neg):∀x y H Q,rIn K neg x y H Q=(∃p xs,y=.ref p/\(bW K H p xs\/f9 K H p xs)/\lS x=true/\xs.all lS=true/\Q (.bl (if neg then !SM x xs else SM x xs)) H):=λ_ _ _ _=>rfl
theorem YJ(K)(T)(r:V->List V->Hp->VK->Prop)(to)(t:TA):∀b H Q,tBM K T r to t b H Q=(to b H λx H1=>tyV K T x H1/\t b H1 λxs a=>r x xs a Q):=λ_ _ _=>rfl
theorem U6(K)(T)(r:V->List V->Hp->VK->Prop)(to):∀a H Q,YI K T r to a H Q=(to a H λx H1=>tyV K T x H1/\r x [] H1 Q):=λ_ _ _=>rfl
theorem Kf:∀x vs H Q,Mc x vs H Q=(∃l xs y,x=.ref l/\vs=[y]/\H l>.lst xs/\↑xs<sizeLine/\Q .fP (upd H l<|.lst<|xs++[y])):=λ_ _ _ _=>rfl
theorem Kg:∀x vs H Q,FG x vs H Q=(∃l b xs zs,x=.ref l/\vs=[.ref b]/\H l>.lst xs/\H b>.lst zs/\↑xs+↑zs<=sizeLine/\Q .fP (upd H l<|.lst<|xs++zs)):=λ_ _ _ _=>rfl
theorem UG:∀x vs H Q,abx x vs H Q=(∃l xs y,x=.ref l/\vs=[]/\H l>.lst xs/\xs[↑xs-1]?>y/\Q y (upd H l<|.lst xs.dropLast)):=λ_ _ _ _=>rfl
theorem Uy:∀x y H Q,abu x y H Q=(∃l b xs zs,x=.ref l/\y=.ref b/\H l>.lst xs/\H b>.lst zs/\↑xs+↑zs<=sizeLine/\∀p,H p=none->Q (.ref p) (upd H p<|.lst<|xs++zs)):=λ_ _ _ _=>rfl
theorem UH:∀x y H Q,aby x y H Q=(∃l k xs,x=.ref l/\y=.int k/\H l>.lst xs/\-(2^63)<=k/\k<2^63/\↑xs*k.toNat<=sizeLine/\∀p,H p=none->Q (.ref p) (upd H p<|.lst (cp k.toNat xs).flatten)):=λ_ _ _ _=>rfl
theorem UJ(K):∀vs H Q,Yr K vs H Q=(∃(a:Addr)(ns:List Int),vs=[V.ref a]/\bW K H a (ns.map V.int)/\Q (.int ns.sum) H):=λ_ _ _=>rfl
theorem UD(K):∀vs H Q,Ym K vs H Q=(∃(a:Addr)(ns:List Int),vs=[V.ref a]/\bW K H a (ns.map V.int)/\0<↑ns/\∀m,m∈ns->(∀y,y∈ns->y<=m)->Q (.int m) H):=λ_ _ _=>rfl
theorem UE(K):∀vs H Q,Yn K vs H Q=(∃(a:Addr)(ns:List Int),vs=[V.ref a]/\bW K H a (ns.map V.int)/\0<↑ns/\∀m,m∈ns->(∀y,y∈ns->m<=y)->Q (.int m) H):=λ_ _ _=>rfl
theorem N7(K):∀x xs H Q,Kh K x xs H Q=(∃a ys y j z,x=V.ref a/\xs=[y]/\bW K H a ys/\lS y=true/\ys.all lS=true/\ys[j]?>z/\GQ z y=true/\(∀m b,m<j->ys[m]?>b->GQ b y=false)/\Q (.int (j:Nat)) H):=λ_ _ _ _=>rfl
theorem Uz(K):∀x y H Q,Yi K x y H Q=(∃d e,Dp K H x d/\Dp K H y e/\gL d=true/\gL e=true/\Q (.bl<|nV d e) H):=λ_ _ _ _=>rfl
theorem UF(K):∀x y H Q,Yo K x y H Q=(∃d e,Dp K H x d/\Dp K H y e/\gL d=true/\gL e=true/\Q (.bl<|!PyData.eqv d e) H):=λ_ _ _ _=>rfl
theorem Vg:∀a H Q,YY a H Q=(Q true H):=λ_ _ _=>rfl
theorem RQ(b ty):∀d H Q,Wu b ty d H Q=(b d H λx H1=>ty d H1 λy c=>∃a v,x=.ref a/\lW c a y (some v)/\Q v c):=λ_ _ _=>rfl
theorem U7(ty b):∀d H Q,aci ty b d H Q=(ty d H λy H1=>b d H1 λx c=>∃a o,x=.ref a/\lW c a y o/\Q (.bl o.isSome) c):=λ_ _ _=>rfl
theorem KQ(ty b):∀d H Q,FY ty b d H Q=(ty d H λy H1=>b d H1 λx c=>∃a o,x=.ref a/\lW c a y o/\Q (.bl<|!o.isSome) c):=λ_ _ _=>rfl
theorem Q3(b ty c):∀D g H,Wc b ty c D g H=(c g H λv H1=>b g H1 λx e=>ty g e λy f=>∃a d,x=.ref a/\AQ f a y v d/\D.nx g d):=λ_ _ _=>rfl
theorem Ot:∀a H Q,RR a H Q=(∀p,H p=none->Q (.ref p) (upd H p<|.dK [])):=λ_ _ _=>rfl
theorem Ou:∀a H Q,RS a H Q=(∀p,H p=none->Q (.ref p) (upd H p<|.dT [])):=λ_ _ _=>rfl
theorem RT(b):∀e H Q,Wv b e H Q=(∀p,H p=none->Co b e (upd H p<|.dK []) λps c=>c p>.dK []/\∃a,ps=a.map (λd=>(kV d.1,d.2))/\↑a<=15/\Q (.ref p) (upd c p<|.dK<|vt [] a)):=λ_ _ _=>rfl
theorem YM(sp)(E)(t:TA):∀a H Q,YL sp E t a H Q=(t a H λvs H1=>sp vs H1 Q E):=λ_ _ _=>rfl
theorem UC(K):∀xs H Q,abw K xs H Q=(∃p ys,xs=[.ref p]/\(bW K H p ys\/f9 K H p ys)/\Q (.int ↑ys) H):=λ_ _ _=>rfl
theorem Ki(K):∀xs H Q,Md K xs H Q=(∃p ys,xs=[.ref p]/\(bW K H p ys\/f9 K H p ys)/\∀l,H l=none->Q (.ref l) (upd H l<|.lst ys)):=λ_ _ _=>rfl
theorem Oa(K):∀xs H Q,Q1 K xs H Q=(∃p ys,xs=[.ref p]/\((bW K H p ys/\∀l,H l=none->Q (.ref l) (upd H l<|.tup ys))\/(f9 K H p ys/\Q (.ref p) H))):=λ_ _ _=>rfl
theorem Sb(C)(a)(f):∀c H Q,Wy C a f c H Q=(a c H λx H1=>∃e b fs v,x=.ref e/\H1 e>pQ e C b/\H1 b>.xd fs/\fs.lookup f>v/\Q v H1):=λ_ _ _=>rfl
theorem Q5(C)(c d)(f):∀D g H,We C c d f D g H=(d g H λy H1=>c g H1 λx b=>∃e,x=.ref e/\((b e>yw e C/\∀a,b a=none->a≠e->D.nx g (upd (upd b a (.xd [(f,y)])) e (oa e C a)))\/∃a fs,b e>oa e C a/\b a>.xd fs/\↑fs<1000/\D.nx g (upd (upd b a<|.xd<|iu f y fs) e (oa e C a)))):=λ_ _ _=>rfl
theorem Og(C)(E)(t):∀a c H,Kt C E t a c H=(t c H λv H1=>∃e b,v=.ref e/\H1 e>oa e C b/\E (.ref C) (some b) (upd H1 e<|pQ e C b)):=λ_ _ _=>rfl
theorem Ow(C)(sp)(t:TA):∀b H Q,KR C sp t b H Q=(t b H λvs H1=>∀e,H1 e=none->sp (.ref e::vs) (upd H1 e<|yw e C) (λv a=>v=.fP/\Q (.ref e) a) L2.E0):=λ_ _ _=>rfl
theorem Q4(C)(i j)(sp)(t:TA)(b:Addr->TS):∀D d H,Wd C i j sp t b D d H=(t d H λvs H1=>sp vs H1 (λv a=>D.nx (d.set i<|some v) a) (λ_ od a=>∃c,od>c/\∀e,a e>pQ e C c->b e {nx:=λ_ _=>False,rt:=D.rt} (d.set j<|some<|.ref e) a)):=λ_ _ _=>rfl
end
def XN{g:TG}{tt:TT}{n:TE}{o:Hp->Prop}(Pv:Nat->Hp->Prop)(h0:Pv 0 (upd H1 D<|.lst []))
  (r:∀i c H,z.cps[i]?>c->Pv i H->g (.str #[(List.toArray [c])]) (wipe w vs) H λσ2 j=>wipe σ2 vs=wipe w vs/\tt σ2 j λb d=>
   if b=true then n σ2 d λy f=>∃acc,f D>.lst acc/\↑acc<sizeLine/\Pv (i+1) (upd f D<|.lst<|acc++[y])else Pv (i+1) d)(hd:∀H,Pv z.cps.size H->o H):
  ∃W:Nat->Nat->Hp->Prop,(∃m,W 0 m<|upd H1 D<|.lst [])/\∀i m H,W i m H->
   ((Z7 z).stop i H/\o H)\/((Z7 z).go i H/\∃l:Hp->Prop,(∀a,l a->∃q,q<m/\W (i+1) q a)/\∀x a,(Z7 z).MJ i H x a->g x (wipe w vs) a λσ2 j=>wipe σ2 vs=wipe w vs/\tt σ2 j λb d=>
    if b=true then n σ2 d λy f=>∃acc,f D>.lst acc/\↑acc<sizeLine/\l (upd f D<|.lst<|acc++[y])else l d):=by
 exists λi m H=>m=z.cps.size-i/\i<=z.cps.size/\Pv i H,#[z.cps.size,sP,cP _,h0];rintro i m H ⟨rfl,v,p⟩;by_cases h:i<z.cps.size
 .refine .inr #[h,Pv<|i+1,λa s=>#[z.cps.size-(i+1),oM,rfl,h,s],λx a y=>?_];obtain⟨e,c,u,y⟩:=y;subst e y;exact r i c _ u p
 .let e:i=z.cps.size:=oM;subst e;exact .inl #[aI _,hd H p]
def zE:∀{xs:List V}{us:List Value},↑xs=↑us->(∀(i:Nat) x u,xs[i]?>x->us[i]?>u->RelV x u)->Vals xs us
 |[],[],_,_=>.nil
 |[],_::_,h,_=>by simp at h
 |_::_,[],h,_=>by simp at h
 |x::xs,u::us,h,k=>.cons (k 0 x u rfl rfl) (zE (by simpa using h) λi y v a b=>k (i+1) y v (by simpa using a) (by simpa using b))
def kq(a:Addr)(lo hi st:Int):HO:=.ext λh=>∃t u v,IsRange h a lo hi st t u v
section
variable{X:Cx}
def Ko{lo b st:Int}(r:IsRange h a lo b st t u v):eQ P w H h a (kq a lo b st):=
 #[#[t,u,v,r],#[_,r],λc d#[t,u,v,r] k=>#[t,u,v,k _ r]]
def V7:List V->Hp->VK->Prop:=λxs H Q=>∃j,xs=[.int j]/\∀p,H p=none->Q (.ref p) (upd H p<|kq p 0 j 1)
def V8:List V->Hp->VK->Prop:=λxs H Q=>∃i j,xs=[.int i,.int j]/\∀p,H p=none->Q (.ref p) (upd H p<|kq p i j 1)
def V9:List V->Hp->VK->Prop:=λxs H Q=>∃i j k,xs=[.int i,.int j,.int k]/\k≠0/\yJ (j-i) k=false/\∀p,H p=none->Q (.ref p) (upd H p<|kq p i j k)
def t_:iN X (.type "range") V7:=by intro aB s b H xs us Q I r h;obtain⟨j,rfl,q⟩:=h;obtain⟨u,rfl,t,rfl⟩:=vals1 r;exact call_range_1 #[.ref _,_,I.laid (a:=s.heap.objs.size) (o:=kq s.heap.objs.size 0 j 1) (λ_ _ e=>aF _ e) (aI _) (Ko<|xX ..),rfl,q _<|I.fm.fresh<|aI _]
def Nb:iN X (.type "range") V8:=by intro aB s c H xs us Q I r h;obtain⟨i,j,rfl,q⟩:=h;obtain⟨u,b,rfl,⟨t,rfl⟩,⟨t',rfl⟩⟩:=vals2 r;exact call_range_2 #[.ref _,_,I.laid (a:=s.heap.objs.size) (o:=kq s.heap.objs.size i j 1) (λ_ _ e=>aF _ e) (aI _) (Ko<|xX ..),rfl,q _<|I.fm.fresh<|aI _]
def Nc:iN X (.type "range") V9:=by
 intro aB s l H xs us Q I r h;obtain⟨i,j,k,rfl,b,hd,q⟩:=h;cases r with
 |cons c r=>
  cases r with
  |cons d r=>
   cases r with
   |cons f r=>
    cases r
    obtain⟨t1,rfl⟩:=c;obtain⟨g,rfl⟩:=d;obtain⟨t3,rfl⟩:=f;exact call_range_3 b #[.ref _,_,I.laid (a:=s.heap.objs.size) (o:=kq s.heap.objs.size i j k) (λ_ _ e=>aF _ e) (aI _) (Ko<|xX ..),rfl,q _<|I.fm.fresh<|aI _] (.inl hd)
def HU:List V->Hp->VK->Prop:=λxs H Q=>∃p a b c n,xs=[.ref p]/\H p>kq p a b c/\lC a b c=true/\jP a b c=((n:Nat):Int)/\n<=1000/\
 ∀l,H l=none->Q (.ref l) (upd H l<|.lst<|(ay n).map λ(i:Nat)=>V.int<|a+i*c)
def lZ(z:X.calm=true):iN X (.type "list") HU:=by
 intro aB s L H xs us Q I r h;obtain⟨p,a,b,c,n,rfl,A,l,B,K,q⟩:=h;obtain⟨u,rfl,C⟩:=vals1 r;cases C;let#[#[t,u,v,D],_,_]:=(show eQ X.prog X.w H s.heap p (kq p a b c)from I.fm p _ A);refine PySem.call_list_range (I.ok.hd z) D l B oM λh' tk d E k e g=>?_;refine#[.ref s.heap.objs.size,_,I.laid (a:=s.heap.objs.size) (o:=.lst<|(ay n).map λ(i:Nat)=>V.int<|a+i*c) (t':=tk) k (aI _) ?_,rfl,q _<|I.fm.fresh<|aI _];refine#[by rw[aj,cr,aK];omega,d.toList,E,?_,by rw[IE];exact e];let#[hsz,hit]:=g;refine zE (by simp[hsz]) λi x u f F=>?_;let m:d[i]?>u:=by rw[<-dv];exact F
 let#[t',G]:=hit i u m;rw[ak]at f;cases y:(ay n)[i]? with
 |none=>rw[y]at f;simp at f
 |some j=>
  rw[y]at f;simp only[bD]at f;injection f with f;let J:j=i:=gR;subst J;rw[<-f,G];exact#[t',rfl]
def Kk(K:ao):List V->Hp->VK->Prop:=λvs H Q=>∃(a:Addr)(ns:List Int),vs=[V.ref a]/\bW K H a (ns.map V.int)/\∀(J2:List Int)(p:Addr),J2.Perm ns->J2.Pairwise (·<=·)->H p=none->Q (.ref p) (upd H p<|.lst<|J2.map V.int)
def PH:iN X (.builtin "sorted") (Kk X.K):=by
 intro aB s p H vs us Q I r h;obtain⟨a,ns,rfl,i,q⟩:=h;let#[c,f,j,hz]:=I.list i;rw[Vals.Oc r];let l:=f.ints;let d:↑c<=sizeLine:=by rw[<-↑f];exact hz
 refine PyProof.Rows.sorted_intsAny j.isList l d λout b m g n=>?_;let#[o,e]:=PyProof.Rows.sortedAll_at s.heap c out;let hlen:↑(b.map V.int)<=sizeLine:=by rw[aj,g.length_eq];rw[aj]at hz;exact hz
 exact#[.ref _,upd H (s.heap.objs.size+1) (.lst<|b.map V.int),I.laid (t':=s.toks) (λ_ _=>PyProof.Rows.sortedAll_old) (pJ _) #[hlen,out.toList,o,nF m,e],rfl,q b _ g n<|I.fm.fresh<|pJ _]
def ab7(K)(h:X.K=K:=by rfl):iN X (.builtin "sorted") (Kk K):=h▸PH
end
def wP:∀{D a:List Int},D.Nodup->↑a=↑D->(∀k,k∈a↔k∈D)->a.Perm D
 |[],a,_,h,_=>gR
 |d::D,a,hd,h,hm=>by
  let#[g,i]:=g9.mp hd;let f:d∈a:=(hm d).mpr (.head _);let j:a.Perm (d::a.erase d):=Jg f;let c:∀k∈D,k∈a.erase d:=λk b=>(Jf<|λe:k=d=>g<|by rw[<-e];exact b).mpr ((hm k).mpr (.tail _ b));let hlen:↑(a.erase d)=↑D:=by rw[List.length_erase_of_mem f,h];simp
  refine j.trans<|Lc d<|wP i hlen λk=>#[λb=>?_,c k];by_cases e:k=d
  .subst e;exfalso;let l:↑(k::D)<=↑(a.erase k):=eM hd λx m=>gR;simp at l;omega
  .grind
def oe(val:Nat->Int):∀i,(ke val i).Nodup
 |0=>by rw[firstMet_zero];exact Td
 |i+1=>by
  rw[LC];delta step_dedup;split
  .exact oe val i
  .rename_i c;rw[lH];refine#[oe val i,sP,λa d b f e=>c ?_];rw[bd.mp f]at e;rw[qr];exact#[a,d,by simp[e]]
section
variable{prog:a7}{w:bS}{A:dZ}{E:Value->bq->Prop}
def KD(r:A.handled=none)(u:nX prog w s.heap S F n)(z:n<=4000)
  (v:∀d vs D c h' tk d',rG vs d->d.Pairwise (·<=·)->↑d=n->(∀k,k∈d↔F k=true)->(∀b o,s.heap.get? b>o->h'.get? b>o)->s.heap.objs.size<=D->
   h'.get? D>seqObj "list" vs.toArray c->Q (.ref D) {s with heap:=h',toks:=tk,drawn:=d'}):
  bj (model prog w) A (call (.builtin "sorted") [.ref S]) Q E s:=by
 refine Calls.call_function_entry kind_sorted plain_sorted entry_sorted (args_sorted1 _) ?_;delta Builtin.«sorted»;refine aA (m:=checkCount "sorted" 1 1 _) (aU ?_);refine aA (GG (A:=A.in1) r u λd vs h' tk d' l hlen f p g=>?_);let i:↑vs=n:=by rw[↑l,hlen]
 let hz:↑vs<=sizeLine:=by rw[i,aK];omega
 refine aA<|wpAny_newList ?_ hz;let a:(h'.push<|seqObj "list" vs.toArray 0).get? h'.objs.size>seqObj "list" vs.toArray 0:=bw _ rfl;refine aA (j0 (jr slot_list_sort #[_,a,rfl] entry_list_sort (list_sort_treeAny a l hz λout j a1 a2 x=>#[_,rfl,?_]) (args_list_sort _)));let#[c,y]:=sortedHeap_at (h:=h'.push<|seqObj "list" vs.toArray 0) (vs:=vs) (out:=out) a;refine aU #[_,rfl,v j out.toList h'.objs.size c _ tk d' a1 x (by rw[a2.length_eq,hlen]) (λk=>by rw[a2.mem_iff,f]) (λb o e=>?_) g (by rw[IE];exact y)];let q:=a9<|p b o e;rw[sortedHeap_old (bT q) (by rw[dh];exact g_ q)];exact aF _ (p b o e)
end
def An(P:a7)(w:bS)(a:Addr)(D:List Int):HO:=.ext λh=>nX P w h a (λk=>D.any (·==k)) ↑D
def UW(x:nX P w h a (λk=>D.any (·==k)) ↑D):eQ P w H h a (An P w a D):=
 #[x,let#[o,_,_,_,e,_]:=x;#[o,e],λ_ _ y k=>y.keep k]
section
variable{X:Cx}
def Kj(P:a7)(w:bS)(K:ao):List V->Hp->VK->Prop:=λxs H Q=>∃(p:Addr)(ns:List Int),xs=[.ref p]/\bW K H p (ns.map V.int)/\↑ns<=4000/\∀(l:Addr)(D:List Int),D.Nodup->(∀k,k∈D↔k∈ns)->H l=none->Q (.ref l) (upd H l<|An P w l D)
def PF(hc:X.calm=true):iN X (.type "set") (Kj X.prog X.w X.K):=by
 intro aB s d H xs us Q I r h;obtain⟨p,ns,rfl,hs,hl,q⟩:=h;obtain⟨lL,rv,TM,hz⟩:=I.list hs;rw[Vals.Oc r];let hi:=rv.ints;let hlen:↑lL=↑ns:=↑hi;refine Pu (I.ok.hd hc) TM.isList (by simpa using hi) (by rw[bA];delta scanBound;omega) λh' tk hS hk=>?_;refine#[.ref _,_,I.laid (a:=s.heap.objs.size) (o:=An X.prog X.w s.heap.objs.size (ke (λi=>ns.getD i 0) lL.toArray.size)) (t':=tk) (λb o e=>hk b o (a9 e) e) (aI _) (UW hS),rfl,q _ _ (oe _ _) (λk=>?_) (I.fm.fresh (aI _))];let h1:=firstMet_any (λi=>ns.getD i 0) lL.toArray.size k;let e2:((ay lL.toArray.size).map λi=>ns.getD i 0)=ns:=by
  rw[bA,hlen];apply cq;intro j;rw[ak];by_cases c:j<↑ns
  .grind
  .grind
 rw[e2]at h1;let m1:∀l:List Int,(l.any (·==k))=true↔k∈l:=λl=>gR;rw[<-m1,<-m1,h1]
def Jw(v:X.calm=true):iN X (.builtin "sorted") (λxs H Q=>∃(p:Addr)(D:List Int),xs=[.ref p]/\H p>An X.prog X.w p D/\D.Nodup/\↑D<=4000/\∀l(e:List Int),e.Pairwise (·<·)->(∀k,k∈e↔k∈D)->H l=none->Q (.ref l) (upd H l<|.lst<|e.map V.int)):=by
 intro aB s L H xs us Q I r h;obtain⟨p,D,rfl,x,j,y,q⟩:=h;rw[Vals.Oc r];let#[z,_,_]:=(show eQ X.prog X.w H s.heap p (An X.prog X.w p D)from I.fm p _ x);refine KD (I.ok.hd v) z y λf vs i c h' tk d' B C hlen m F n G=>?_;let J:∀k,(D.any (·==k))=true↔k∈D:=λk=>gR;let d:∀k,k∈f↔k∈D:=λk=>by rw[m,J]
 let g:=wP j hlen d;let u:f.Nodup:=g.nodup_iff.mpr j;let o:f.Pairwise (·<·):=(Y7 C u).imp λ{a b} h=>gR;let ok:eQ X.prog X.w (upd H i<|.lst<|f.map V.int) h' i (.lst<|f.map V.int):=#[by rw[aj,hlen,aK];omega,vs,c,nF B,G];refine#[.ref i,upd H i<|.lst<|f.map V.int,?_,rfl,q i f o d<|I.fm.fresh n];let K:Inv X aB L H {s with drawn:=d'}:=by
  cases I
  constructor<;>assumption
 exact K.laid (a:=i) (t':=tk) F n ok
def setOf(K)(P)(w)(a:X.calm=true)(h:X.K=K:=by rfl)(b:X.prog=P:=by rfl)(hw:X.w=w:=by rfl):iN X (.type "set") (Kj P w K):=h▸b▸hw▸PF a
end
def Pq:eE "set">.type "set":=dK
def pO:eE "range">.type "range":=dK
structure qy(K:ao)(mg:Str->Option Value):Prop where
 set:mg "set"=none
 aah:∃t,mg "WORDS">.ref t/\∀H,f9 K H t [.str "box",.str "edge",.str "above",.str "group"]
 SIGNS:∃t,mg "SIGNS">.ref t/\∀H,f9 K H t [.str "{",.str "}",.str ";",.str ":",.str "->"]
 Jh:∃t,mg "MOST_BOXES">.int 24 t
 Ji:∃t,mg "MOST_EDGES">.int 40 t
 Gj:∃t,mg "MOST_WISHES">.int 16 t
 WW:∃t,mg "WIDEST">.int 30 t
 O_:∃t,mg "LOWEST">.int 3 t
 SY:∃t,mg "HIGHEST">.int 9 t
 vN:∃t,mg "LONGEST_TEXT">.int 4096 t
 BOX:∃t,mg "BOX">.int 0 t
 Lg:∃t,mg "PASSING">.int 1 t
 O2:∃t,mg "ABOVE">.int 0 t
 ZZ:∃t,mg "BELOW">.int 1 t
 ac2:∃t,mg "DOWN">.int 0 t
 UP:∃t,mg "UP">.int 1 t
 xZ:∃t,mg "ROUNDS_TO_SETTLE">.int 4 t
 ac4:∃t,mg "LOAD">.int 0 t
 aad:∃t,mg "SHOWN">.int 1 t
 aac:∃t,mg "RANK">.int 2 t
 Dx:∃t,mg "CROSSINGS">.int 3 t
 Vz:∃t,mg "PAIRS">.int 4 t
 PUT:∃t,mg "PUT">.int 5 t
 aaf:∃t,mg "SWEEP">.int 6 t
 aae:∃t,mg "SWAPS">.int 7 t
 WS:∃t,mg "SETTLE">.int 8 t
 acz:∃t,mg "ANEW">.int 9 t
 WN:∃t,mg "MIDDLE">.int 10 t
 zL:∃t,mg "NUMBERS_OF_CALL">.ref t/\∀H,f9 K H t [.int 0,.int 0,.int 1,.int 0,.int 1,.int 1,.int 1,.int 0,.int 0,.int 0,.int 3,.int 1]
 EN:∃t,mg "ROWS_OF_CALL">.ref t/\∀H,f9 K H t [.int 1,.int 0,.int 0,.int 0,.int 0,.int 1,.int 0,.int 0,.int 0,.int 0,.int 0,.int 0]
 si:∃t,mg "MOST_PLACES_FOR_BEST">.int 6 t
section
variable{X:Cx}
def HX(P:a7)(w:bS):List V->Hp->VK->Prop:=λxs H Q=>∃(p:Addr)(D:List Int),xs=[.ref p]/\H p>An P w p D/\D.Nodup/\↑D<=4000/\∀(l:Addr)(J2:List Int),J2.Pairwise (·<·)->(∀k,k∈J2↔k∈D)->H l=none->Q (.ref l) (upd H l<|.lst<|J2.map V.int)
def Mr(P)(w)(a:X.calm=true)(b:X.prog=P:=by rfl)(hw:X.w=w:=by rfl):iN X (.builtin "sorted") (HX P w):=by subst b hw;exact Jw a
def nT(P:a7)(w:bS)(K:ao)(mg:Str->Option Value)(aD:Heap)(CX:OI)(k:Nat)(C:Addr)(m:Str)(ps:List Str)(sp:Sp):Prop:=
 ∃f fd,IF K C/\Meth K C m f/\Binds K fd ps []/\j4 P w K mg aD CX k f fd ps sp
def tM(C:Addr)(m:Str)(sp:Sp)(E:XK)(ta:TE)(t:TA):TE:=λb H Q=>ta b H λx H1=>∃a dx fs,x=.ref a/\H1 a>.ins C dx fs/\fs.lookup m=none/\t b H1 λvs H2=>sp (x::vs) H2 Q E
def Ww:MF C m sp [] E a t=tM C m sp E a t:=by delta MF tM;funext b H Q;congr 1;funext x H1;simp only[c8]
variable{C:Addr}{m:Str}{CX:OI}{k:Nat}{ps:List Str}{sp:Sp}{E:XK}{o e:fU}{es:List fU}{ta:TE}{t:TA}{apos pos:Pos}{x:Str}{p:Pos}
def pm  (G : nT X.prog X.w X.K X.mg X.aD CX k C m ps sp) (he : PE X o g) (h : i7 k X.A) (i : mQ CX X E) (j : PA X (e :: es) t)
    (a : bi (e :: es) X.env = (false, eval e X.env) :: bi es X.env := by rfl) (b : (gW pos (bi es X.env)).any (·.1) = false := by rfl)
    (l : eval (.Call (.Attribute o m apos) (e :: es) [] pos) X.env = (do
      let d ← eval o X.env
      yB apos.atName
      let (f, first) ← holding [d] (ub d m pl)
      CJ pos f first (gW pos (bi (e :: es) X.env)) (tZ pos (l8 [] X.env))) := by rfl) :
    PE X (.Call (.Attribute o m apos) (e :: es) [] pos) (tM C m sp E g t) := by
  let #[f, fd, c, hm, n, F] := G
  exact Ww ▸ Uo he c hm F h n .nil i j a b l
def ZQ  (G : nT X.prog X.w X.K X.mg X.aD CX k C m ps sp) (he : PE X o b) (d : i7 k X.A) (g : mQ CX X E)
    (h : eval (.Call (.Attribute o m apos) [] [] pos) X.env = (do
      let a ← eval o X.env
      yB apos.atName
      let (f, first) ← holding [a] (ub a m pl)
      CJ pos f first (gW pos (bi [] X.env)) (tZ pos (l8 [] X.env))) := by rfl) :
    PE X (.Call (.Attribute o m apos) [] [] pos) (tM C m sp E b oG) := by
  let #[f, fd, c, hm, i, F] := G
  exact Ww ▸ QN he c hm F d i .nil g h
def abr(G:GoodC X.prog X.w X.K X.mg X.aD k x C ps sp)(b:i7 (k+1) X.A)(c:Gl X x:=by rfl)(a:(x==("__debug__":Str))=false:=by decide):PE X (.Call (.Name x p) [] [] pos) (YS C sp oG):=by
 let#[f,fd,hm,M,d,F]:=G;let z:PE X (.Call (.Name x p) [] [] pos) (zC C sp [] L2.E0 oG):=QM M F b c hm d .nil wO a;intro aB s i H Q I h;refine z aB s i H Q I ?_;let g:zC C sp [] L2.E0 oG i H Q=YS C sp oG i H Q:=by delta zC YS;congr 1;funext vs H1;rw[c8]
 rw[g];exact h
def ipM:TIp:=λx y H Q=>∃i j,x=.int i/\y=.int j/\O4 i j/\Q (.int<|i*j) H
def XC:PIp X .Mult ipM:=by intro aB s g H x y v u Q I a b h;let#[i,j,c,d,f,q]:=h;subst c;subst d;obtain⟨t,rfl⟩:=a;obtain⟨t',rfl⟩:=b;exact imul_int #[.int _,H,I.tok _,#[_,rfl],q] f.ok
end
theorem XB:∀x y H Q,ipM x y H Q=(∃i j,x=.int i/\y=.int j/\O4 i j/\Q (.int<|i*j) H):=λ_ _ _ _=>rfl
theorem QX:∀xs H Q,V7 xs H Q=(∃j,xs=[.int j]/\∀p,H p=none->Q (.ref p) (upd H p<|kq p 0 j 1)):=λ_ _ _=>rfl
theorem QY:∀xs H Q,V8 xs H Q=(∃i j,xs=[.int i,.int j]/\∀p,H p=none->Q (.ref p) (upd H p<|kq p i j 1)):=λ_ _ _=>rfl
theorem QZ:∀xs H Q,V9 xs H Q=(∃i j k,xs=[.int i,.int j,.int k]/\k≠0/\yJ (j-i) k=false/\∀p,H p=none->Q (.ref p) (upd H p<|kq p i j k)):=λ_ _ _=>rfl
theorem HV:∀xs H Q,HU xs H Q=(∃p a b c n,xs=[.ref p]/\H p>kq p a b c/\lC a b c=true/\jP a b c=((n:Nat):Int)/\n<=1000/\∀l,H l=none->Q (.ref l) (upd H l<|.lst<|(ay n).map λ(i:Nat)=>V.int<|a+i*c)):=λ_ _ _=>rfl
theorem N_(K):∀vs H Q,Kk K vs H Q=(∃(a:Addr)(ns:List Int),vs=[V.ref a]/\bW K H a (ns.map V.int)/\∀(b:List Int) p,b.Perm ns->b.Pairwise (·<=·)->H p=none->Q (.ref p) (upd H p<|.lst<|b.map V.int)):=λ_ _ _=>rfl
theorem N9(P)(w)(K):∀xs H Q,Kj P w K xs H Q=(∃(p:Addr)(ns:List Int),xs=[.ref p]/\bW K H p (ns.map V.int)/\↑ns<=4000/\∀l D,D.Nodup->(∀k,k∈D↔k∈ns)->H l=none->Q (.ref l) (upd H l<|An P w l D)):=λ_ _ _=>rfl
theorem HY(P)(w):∀xs H Q,HX P w xs H Q=(∃(p:Addr)(D:List Int),xs=[.ref p]/\H p>An P w p D/\D.Nodup/\↑D<=4000/\∀l(a:List Int),a.Pairwise (·<·)->(∀k,k∈a↔k∈D)->H l=none->Q (.ref l) (upd H l<|.lst<|a.map V.int)):=λ_ _ _=>rfl
theorem acj(C)(m)(sp)(E)(b)(t:TA):∀f H Q,tM C m sp E b t f H Q=(b f H λx H1=>∃a c fs,x=.ref a/\H1 a>.ins C c fs/\fs.lookup m=none/\t f H1 λvs d=>sp (x::vs) d Q E):=λ_ _ _=>rfl
def k4{K:ao}{g:TG}{f:TS}{D:Ends}(Pv:Nat->L2.St->Hp->Prop)(h0:Pv 0 s H)(j:∀i s H,i<=↑xs->Pv i s H->bW K H a xs)
  (l:∀i x s H T,xs[i]?>x->Pv i s H->H T=none->g (.ref T) s (upd H T (.tup [.int (i:Nat),x])) λσ2 d=>f {D with nx:=Pv<|i+1,ct:=Pv<|i+1,bk:=D.nx} σ2 d)(hd:∀s H,Pv ↑xs s H->D.nx s H):
  ∃W:Nat->Nat->L2.St->Hp->Prop,(∃m,W 0 m s H)/\∀i m s H,W i m s H->
   ((Vr K a).stop i H/\D.nx s H)\/((Vr K a).go i H/\∃N,(∀σ' b,N σ' b->∃h,h<m/\W (i+1) h σ' b)/\∀x b,(Vr K a).MJ i H x b->g x s b λσ2 d=>f {D with nx:=N,ct:=N,bk:=D.nx} σ2 d):=by
 exists λi m s H=>m=↑xs-i/\i<=↑xs/\Pv i s H,#[↑xs,sP,cP _,h0];rintro i m s H ⟨rfl,n,p⟩;let q:=j i s H n p;by_cases c:i<↑xs
 .refine .inr #[#[xs,xs[i],q,by simp[c]],Pv<|i+1,λσ' b o=>#[↑xs-(i+1),oM,rfl,c,o],λx b y=>?_];obtain⟨T,z,rfl,r,rfl,hz⟩:=y;exact l i z s H T (hz xs q) p r
 .let e:i=↑xs:=oM;subst e;exact .inl #[#[xs,q,aI _],hd s H p]
def TZ{K:ao}{g:TG}{tt:TT}{n:TE}{o:Hp->Prop}(Pv:Nat->Hp->Prop)(h0:Pv 0 (upd H1 D<|.lst []))(s:∀i H,i<=↑xs->Pv i H->bW K H a xs)
  (u:∀i x H T,xs[i]?>x->Pv i H->H T=none->g (.ref T) (wipe B vs) (upd H T (.tup [.int (i:Nat),x])) λσ2 j=>wipe σ2 vs=wipe B vs/\tt σ2 j λb d=>
   if b=true then n σ2 d λy f=>∃acc,f D>.lst acc/\↑acc<sizeLine/\Pv (i+1) (upd f D<|.lst<|acc++[y])else Pv (i+1) d)(hd:∀H,Pv ↑xs H->o H):
  ∃W:Nat->Nat->Hp->Prop,(∃m,W 0 m<|upd H1 D<|.lst [])/\∀i m H,W i m H->
   ((Vr K a).stop i H/\o H)\/((Vr K a).go i H/\∃l:Hp->Prop,(∀c,l c->∃r,r<m/\W (i+1) r c)/\∀x c,(Vr K a).MJ i H x c->g x (wipe B vs) c λσ2 j=>wipe σ2 vs=wipe B vs/\tt σ2 j λb d=>
    if b=true then n σ2 d λy f=>∃acc,f D>.lst acc/\↑acc<sizeLine/\l (upd f D<|.lst<|acc++[y])else l d):=by
 exists λi m H=>m=↑xs-i/\i<=↑xs/\Pv i H,#[↑xs,sP,cP _,h0];rintro i m H ⟨rfl,v,p⟩;let q:=s i H v p;by_cases h:i<↑xs
 .refine .inr #[#[xs,xs[i],q,by simp[h]],Pv<|i+1,λc w=>#[↑xs-(i+1),oM,rfl,h,w],λx c y=>?_];obtain⟨T,z,rfl,A,rfl,hz⟩:=y;exact u i z H T (hz xs q) p A
 .let e:i=↑xs:=oM;subst e;exact .inl #[#[xs,q,aI _],hd H p]
def LG{K:ao}{g:TG}{l:TS}{D:Ends}(Pv:Nat->L2.St->Hp->Prop)(he:↑xs=↑ys)(h0:Pv 0 A H)(o:∀i A H,i<=↑xs->Pv i A H->bW K H a xs/\bW K H b ys)
  (r:∀i x y A H T,xs[i]?>x->ys[i]?>y->Pv i A H->H T=none->g (.ref T) A (upd H T (.tup [x,y])) λσ2 f=>l {D with nx:=Pv<|i+1,ct:=Pv<|i+1,bk:=D.nx} σ2 f)(hd:∀A H,Pv ↑xs A H->D.nx A H):
  ∃W:Nat->Nat->L2.St->Hp->Prop,(∃m,W 0 m A H)/\∀i m A H,W i m A H->
   ((Z9 K a b).stop i H/\D.nx A H)\/((Z9 K a b).go i H/\∃N,(∀σ' c,N σ' c->∃n,n<m/\W (i+1) n σ' c)/\∀x c,(Z9 K a b).MJ i H x c->g x A c λσ2 f=>l {D with nx:=N,ct:=N,bk:=D.nx} σ2 f):=by
 exists λi m A H=>m=↑xs-i/\i<=↑xs/\Pv i A H,#[↑xs,sP,cP _,h0];rintro i m A H ⟨rfl,s,p⟩;let#[q,h]:=o i A H s p;by_cases d:i<↑xs
 .refine .inr #[#[xs,ys,xs[i],ys[i]'oM,q,h,by simp[d],by rw[aq]],Pv<|i+1,λσ' c u=>#[↑xs-(i+1),oM,rfl,d,u],λx c y=>?_];obtain⟨T,z,v,rfl,w,rfl,hz,j⟩:=y;exact r i z v A H T (hz xs q) (j ys h) p w
 .let e:i=↑xs:=oM;subst e;exact .inl #[#[xs,ys,q,h,.inl<|aI _],hd A H p]
local macro_rules | `(tactic| lia) => `(tactic| simp only [Vf,ach,acg,U3,YV,Va,RM,Vb,YO,RZ,Vd,RU,Vc,U9,P3,TB,P2,TD,TC,U4,U5,XA,Q0,Qj,Qk,YU,Sa,abv,Yk,V',Yj,Yp,R_,Os,U8,UT,Ks,Ux,U',RP,Ve,U_,YK,YW,KS,R3,UA,UB,UI,Yl,YJ,U6,Kf,Kg,UG,Uy,UH,UJ,UD,UE,N7,Uz,UF,Vg,RQ,U7,KQ,Q3,Ot,Ou,RT,YM,UC,Ki,Oa,Sb,Q5,Og,Ow,Q4,Co,L2.start,bb,jh,aQ,c9,ox,List.replicate_zero,gi,c8,zJ,rW,Nat.reduceAdd,Nat.reduceSub,vQ,vP,List.getElem?_cons_zero,List.getElem?_cons_succ,gE,exists_eq_left',exists_and_left,exists_eq_left,exists_eq_right,V.int.injEq,V.bl.injEq,V.ref.injEq,V.str.injEq,List.cons.injEq,and_true,true_and,exists_const,if_true,eV,if_false,wipe,Sa,V',and_assoc,YT,XB,QX,QY,QZ,HV,N_,N9,HY,acj])
section
variable{P:a7}{w:bS}{K:ao}{mg:Str->Option Value}{aD:Heap}
def OB(k v p b:V):List (Str×V):=[("kind",k),("value",v),("place",p),("behind",b)]
def qY(C:Addr):Sp:=λvs H Q _=>∃x dx k v p b,vs=[.ref x,k,v,p,b]/\H x>.ins C dx []/\Q .fP (upd H x<|.ins C dx<|OB k v p b)
def Dk(F:xW K "__init__" "Token.__init__" wU f fd)(c:fW K C ["kind","value","place","behind"]):j4 P w K mg aD dO 1 f fd ["self","kind","value","place","behind"] (qY C):=by
 refine F.gk ["self","kind","value","place","behind"] λd A outer s H vs Q E n o h=>?_;obtain⟨x,a,k,v,p,b,rfl,g,q⟩:=h;exists _,(aw (md K v0 v1) (aw (md K v0 v2) (aw (md K v0 v3) (aC<|md K v0 v4))));lia;let i:iu "kind" k []=[(("kind":Str),k)]:=rfl;let j:iu "value" v [(("kind":Str),k)]=([("kind",k),("value",v)]:List (Str×V)):=by rfl
 let l:iu "place" p ([("kind",k),("value",v)]:List (Str×V))=([("kind",k),("value",v),("place",p)]:List (Str×V)):=by rfl
 let m:iu "behind" b ([("kind",k),("value",v),("place",p)]:List (Str×V))=OB k v p b:=by rfl
 exists C,a,[],g,c.cl,c.no _ sP,dC;rw[i];exists C,a,_,au,c.cl,c.no _ sP,(by show 1<1000;decide);rw[j,hH];exists C,a,_,au,c.cl,c.no _ sP,(by show 2<1000;decide);rw[l,hH];exists C,a,_,au,c.cl,c.no _ sP,(by show 3<1000;decide);rw[m,hH];exact q
def Fa(c p:Int):List (Str×V):=[("code",.int c),("place",.int p)]
def yA(C:Addr):Sp:=λvs H Q _=>∃e c p,vs=[.ref e,.int c,.int p]/\H e>yw e C/\∀dx,H dx=none->dx≠e->Q .fP (upd (upd H dx<|.xd<|Fa c p) e (oa e C dx))
def Dj(F:xW K "__init__" "Fault.__init__" lj f fd)(c:C2 K C N f)(j:Sz K N "code")(l:Sz K N "place"):j4 P w K mg aD dO 1 f fd ["self","code","place"] (yA C):=by
 refine F.gk ["self","code","place"] λm A outer s H vs Q E v y h=>?_;obtain⟨e,g,p,rfl,he,q⟩:=h;exists _,(aw (Mb c j v0 v1 rfl) (aC<|Mb c l v0 v2 rfl));lia;refine .inl #[he,λa i d=>.inr #[a,au,_,(by rw[aH d,au]),(by show 1<1000;decide),?_]];let n:iu "place" (V.int p) [(("code":Str),V.int g)]=Fa g p:=by rfl
 rw[n];let o:upd (upd (upd (upd H a (.xd [("code",V.int g)])) e (oa e C a)) a (.xd<|Fa g p)) e (oa e C a)=upd (upd H a<|.xd<|Fa g p) e (oa e C a):=by funext b;delta upd;by_cases r:b=e<;>by_cases u:b=a<;>simp[r,u,d]
 rw[o];exact q a i d
def GX{E:XK}(h:∀e a,H e=none->H a=none->a≠e->E (.ref C) (some a) (upd (upd H a<|.xd<|Fa c p) e (pQ e C a))):
  ∀e,H e=none->yA C [.ref e,.int c,.int p] (upd H e<|yw e C) (λv g=>v=.fP/\∃a,g e>oa e C a/\E (.ref C) (some a) (upd g e<|pQ e C a)) L2.E0:=λe he=>by
 refine#[e,c,p,rfl,au,λa f d=>#[rfl,a,au,?_]];let hd:H a=none:=by rw[aH d]at f;exact f
 let i:upd (upd (upd (upd H e<|yw e C) a (.xd<|Fa c p)) e (oa e C a)) e (pQ e C a)=upd (upd H a<|.xd<|Fa c p) e (pQ e C a):=by funext b;delta upd;by_cases j:b=e<;>by_cases l:b=a<;>simp[j,l,d]
 rw[i];exact h e a he hd d
def lD(C:Addr)(H:Hp)(c p:Int)(E:XK):Prop:=∀H' dx,a8 H H'->H' dx>(.xd<|Fa c p)->E (.ref C) (some dx) H'
structure ZY(H:Hp)(a:Addr)(arcs:List (Int×Int))(ts:List Addr):Prop where
 lst:H a>.lst (ts.map V.ref)
 len:↑ts=↑arcs
 at_:∀(i:Nat)(p:Int×Int),arcs[i]?>p->∃t,ts[i]?>t/\H t>.tup [.int p.1,.int p.2]
def keys(l:List Int):List (Key×V):=l.map λi=>(gz i,V.bl true)
def vq(arcs:List (Int×Int))(wl l:List Int):Nat:=2*↑(arcs.filter λp=>!l.contains p.2)+↑wl
structure sk(arcs:List (Int×Int))(s:Int)(ae0:List (Int×Int))(wl l:List Int):Prop where
 start:s∈l
 sound:∀v∈l,Reach arcs s v
 sub:∀v∈wl,v∈l
 closed:∀u v,u∈l->(u,v)∈arcs->u∈wl\/v∈l\/(u,v)∈ae0
 sz:↑l+↑(arcs.filter λp=>!l.contains p.2)<=↑arcs+1
 ms:vq arcs wl l<=2*↑arcs+1
def sk.init:sk arcs s [] [s] [s]:=
 #[sP,λv h=>by simp at h;subst h;exact .refl,λv h=>h,λu v h _=>.inl h,by let:=ca (λp:Int×Int=>!([s]:List Int).contains p.2) arcs;simp at this|-;omega,
  by delta vq;let:=ca (λp:Int×Int=>!([s]:List Int).contains p.2) arcs;simp at this|-;omega]
def sk.done(I:sk arcs s [] [] l):∀v,v∈l↔Reach arcs s v:=λv=>by
 refine#[I.sound v,λr=>?_];induction r with
 |refl=>exact I.start
 |step _ m a=>
  obtain z|z|z:=I.closed _ _ a m
  .cases z
  .exact z
  .cases z
def sk.pop(I:sk arcs s [] (wl++[b]) l):sk arcs s ((arcs.drop 0).filter λp=>p.1==b) wl l:=by
 exists I.start,I.sound,λv h=>I.sub v<|bf _ h,λu v a hm=>?_,I.sz
 .obtain z|z|z:=I.closed u v a hm
  .grind
  .exact .inr (.inl z)
  .cases z
 .let:=I.ms;delta vq at this|-;rw[aW]at this;simp at this|-;omega
def filter_lt{arcs:List (Int×Int)}:(u,v)∈arcs->v∉l->↑(arcs.filter λp=>!(l++[v]).contains p.2)+1<=↑(arcs.filter λp=>!l.contains p.2):=by
 induction arcs with
 |nil=>intro h;cases h
 |cons q r a=>
  intro h b;let mono:∀r:List (Int×Int),↑(r.filter λp=>!(l++[v]).contains p.2)<=↑(r.filter λp=>!l.contains p.2):=λr=>by
   induction r with
   |nil=>simp
   |cons q r a=>
    simp only[bJ];by_cases c:q.2∈l
    .grind
    .grind
  obtain z|z:=aE.mp h
  .grind
  .grind
def sk.push(I:sk arcs s ((arcs.drop i).filter λp=>p.1==b) wl l)(j:arcs[i]?>p)(n:p.1=b)(c:b∈l)(o:p.2∉l):
  sk arcs s ((arcs.drop<|i+1).filter λp=>p.1==b) (wl++[p.2]) (l++[p.2])/\vq arcs (wl++[p.2]) (l++[p.2])<vq arcs wl l:=by
 let hm:(p.1,p.2)∈arcs:=ax j;let f:=filter_lt hm o;let a:vq arcs (wl++[p.2]) (l++[p.2])<vq arcs wl l:=by delta vq;rw[aW,gw];omega
 refine#[#[bf _ I.start,λv d=>?_,λv d=>?_,λu v q g=>?_,?_,bu (fN a) I.ms],a]
 .obtain z|z:=aM.mp d
  .exact I.sound v z
  .let e:v=p.2:=by simpa using z
   rw[e];exact .step (I.sound b c) (by rw[<-n];exact hm)
 .obtain z|z:=aM.mp d
  .exact bf _ (I.sub v z)
  .grind
 .obtain z|z:=aM.mp q
  .obtain y|y|y:=I.closed u v z g
   .grind
   .grind
   .let#[m,x]:=be.mp y;let r:arcs.drop i=p::arcs.drop (i+1):=by let#[h,e]:=aP.mp j;rw[de h,e]
    rw[r]at m;obtain w|w:=aE.mp m
    .grind
    .grind
  .grind
 .let:=I.sz;rw[aW,gw];omega
def sk.skip(I:sk arcs s ((arcs.drop i).filter λp=>p.1==b) wl l)(f:arcs[i]?>p)(j:p.1=b->p.2∈l):
  sk arcs s ((arcs.drop<|i+1).filter λp=>p.1==b) wl l:=by
 refine#[I.start,I.sound,I.sub,λu v g a=>?_,I.sz,I.ms];obtain y|y|y:=I.closed u v g a
 .exact .inl y
 .exact .inr (.inl y)
 .let#[d,m]:=be.mp y;let h:arcs.drop i=p::arcs.drop (i+1):=by let#[c,e]:=aP.mp f;rw[de c,e]
  rw[h]at d;obtain w|w:=aE.mp d
  .grind
  .grind
def sM(l)(v):(oH (keys l) (gz v:Key)).isSome=decide (v∈l):=by
 rw[<-tS];delta keys;rw[List.any_map];induction l with
 |nil=>rfl
 |cons a l b=>
  rw[kj,b];by_cases h:a=v
  .simp[h]
  .grind
def Hg(l)(v)(h:v∉l):putK (keys l) (gz v:Key) (V.bl true)=keys (l++[v]):=by
 rw[B0]
 .delta keys;rw[aJ];rfl
 .let e:=sM l v;rw[ah h]at e;cases q:oH (keys l) (gz v:Key)with
  |none=>rfl
  |some x=>rw[q]at e;cases e
def Qy:vq arcs wl l<vq arcs (wl++[b]) l:=by delta vq;rw[aW];simp
structure iA(H:Hp)(a:Addr)(ii:List (Addr×Int×Int)):Prop where
 lst:H a>.lst (ii.map λx=>V.ref x.1)
 tup:∀x∈ii,H x.1>.tup [.int x.2.1,.int x.2.2]
def iA.mono(A:iA H a b)(s:a8 H c):iA c a b:=#[s _ _ A.lst,λx d=>s _ _<|A.tup x d]
def iA.old(A:iA H a b):ZY H a (b.map (·.2)) (b.map (·.1)):=by
 refine#[by rw[aS];exact A.lst,sP,λi p c=>?_];rw[ak]at c;cases q:b[i]? with
 |none=>rw[q]at c;cases c
 |some x=>
  rw[q]at c;let e:x.2=p:=aO c;refine#[x.1,by rw[ak,q];rfl,?_];rw[<-e];exact A.tup x (ax q)
def En:Sp:=λvs H Q _=>∃a ii s,vs=[.ref a,.int s]/\iA H a ii/\↑ii<=1000/\
 ∀H' d l,a8 H H'->H d=none->H' d>(.dK<|keys l)->(∀v,v∈l↔Reach (ii.map (·.2)) s v)->Q (.ref d) H'
def Fi(T:Txt K mg)(h:iW K mg "reached" Ei f fd):Good P w K mg aD dO 1 "reached" ["arcs","start"] En:=by
 refine h.gd ["arcs","start","found","waiting","box","arc"] λoz A outer s H vs Q E Z hr h=>?_;obtain⟨a,G,s0,rfl,hA0,I,k⟩:=h;let J:=hA0.old;let hlen:(G.map (·.2)).length<=1000:=by rw[aj];exact I
 generalize G.map (·.2)=arcs at J hlen k;generalize G.map (·.1)=ts at J;let hu:=ky hr;exists _,
  (aw (st 2 Z<|Uk (QT v1 uL Ut) rfl rfl dC dC)
   (aw (st 3 Z<|dr<|da v1)
   (aw (jm aY (bG om (bO (ia K) rfl T.len dB (da v3)) aV (b9 _)) (aw (st 4 Z<|bm0 K aX PySem.F.slot_list_pop PySem.F.type_list_pop XX v3)
   (aC<|dM aY rfl (qh K v0) (pn 5 Z) (aC<|dI (PW.pt<|yu (bG il (bM (kL K) v5 aV (λ_ _=>rfl)) v4 (b9 _)) (ue<|FE<|Eb hu (bM (kL K) v5 aV (λ_ _=>rfl)) v2)) (aw (AJ hu v2 (bM (kL K) v5 aV (λ_ _=>rfl)) uL rfl)
   (aC<|cO<|bm K aX bU bV fT v3<|da<|bM (kL K) v5 aV (λ_ _=>rfl))) cg))))
   (aC<|bC v2))))
  
 lia;intro d hd;refine#[au,[(gz s0,V.bl true)],rfl,(by show 1<=15;decide),dC,λq O=>?_];rw[hH]at O|-;let e0:vt [] [((gz s0:Key),V.bl true)]=keys [s0]:=rfl;rw[e0]at O|-;let C:q≠d:=λz=>by rw[z,au]at O;cases O
 let L:H q=none:=by rw[aH C]at O;exact O
 let s1:a8 H (upd (upd H d<|.dK<|keys [s0]) q (.lst [V.int s0])):=λb o e=>by rw[aH (cQ e L),aH (cQ e hd)];exact e
 exists λm σ H1=>∃wl l b5 b6,m=vq arcs wl l/\σ=[~~~.ref a,~~~.int s0,~~~.ref d,~~~.ref q,b5,b6]/\a8 H H1/\H1 d>(.dK<|keys l)/\H1 q>(.lst<|wl.map V.int)/\sk arcs s0 [] wl l,
  #[_,[s0],[s0],none,none,rfl,rfl,s1,(by rw[aH C.symm,au]),au,sk.init]
 rintro m σ H1 ⟨wl,l,b5,b6,rfl,rfl,s1,R,M,hI⟩;lia;exists _,.inl<|bW.of M;rw[aj];by_cases hw:wl=[]
 .subst hw;simp only[c9,Int.ofNat_zero,Int.lt_irrefl,decide_false,eV,if_false];exact k H1 d l s1 hd R (sk.done hI)
 .let S:decide ((0:Int)<(↑wl:Int))=true:=by let:0<↑wl:=iY.mpr hw;exact ag oM
  rw[S];refine rR #[_,λ_ _ z=>z,?_];obtain⟨n,b,rfl⟩:∃n b,wl=n++[b]:=#[wl.dropLast,wl.getLast hw,(js hw).symm];exists .inl #[rfl,_,bW.of M],_,M,V.int b,?_
  .grind
  let e1:((n++[b]).map V.int).dropLast=n.map V.int:=gR;rw[e1];let s2:a8 H (upd H1 q<|.lst<|n.map V.int):=λc o e=>by rw[aH (cQ e L)];exact s1 c o e
  let U:d≠q:=C.symm;refine#[_,rfl,a,rfl,#[_,bW.of<|s2 _ _ J.lst],eH (K:=K) (a:=a) (xs:=ts.map V.ref)
   (λi σ D=>∃g r N,σ=[~~~.ref a,~~~.int s0,~~~.ref d,~~~.ref q,~~~.int b,N]/\a8 H D/\D d>(.dK<|keys r)/\D q>(.lst<|g.map V.int)/\
    sk arcs s0 ((arcs.drop i).filter λp=>p.1==b) g r/\vq arcs g r<vq arcs (n++[b]) l/\b∈r)
   #[n,l,b6,rfl,s2,by rw[aH U];exact R,au,hI.pop,Qy,hI.sub b sP] (λi σ D _#[_,_,_,_,z,_]=>bW.of<|z _ _ J.lst) ?_ ?_]
  .rintro i x σ D hi ⟨g,r,N,rfl,s3,u,v,j,y,B⟩;let#[p,hp]:∃p,arcs[i]?>p:=by
    let:i<↑arcs:=by let z:=gl hi;rw[aj,J.len]at z;exact z
    exact#[_,aq this]
   let#[t,ht,hT]:=J.at_ i p hp;let ex:x=V.ref t:=gR;subst ex;lia;exists _,f9.of<|s3 _ _ hT,_,rfl,rfl;by_cases hb:p.1=b
   .refine(ac<|by simp[hb]).mpr #[_,f9.of<|s3 _ _ hT,_,rfl,_,lW.k (k:=gz p.2) u,?_];rw[sM];by_cases X:p.2∈r
    .rw[ag X];exact wD #[s3,_,_,u,v,j.skip hp<|λ_=>X,y,B]
    .rw[ah X];let hsz:=j.sz;let hms:=j.ms;let z1:↑(keys r)<sizeLine:=by delta keys;rw[aj,aK];omega
     let z2:↑(g.map V.int)<sizeLine:=by rw[aj,aK];delta vq at hms;omega
     refine rR #[_,f9.of<|s3 _ _ hT,_,rfl,_,AQ.k (k:=gz p.2) u z1,?_];rw[Hg r p.2 X];let Y:upd D d (.dK<|keys<|r++[p.2]) q>(.lst<|g.map V.int):=by rw[aH C];exact v
     let s4:a8 H (upd D d<|.dK<|keys<|r++[p.2]):=λc o e=>by rw[aH (cQ e hd)];exact s3 c o e
     let#[i1,i2]:=j.push hp hb B X;refine#[.inl #[rfl,_,bW.of Y],_,f9.of<|s4 _ _ hT,_,rfl,_,Y,z2,λc o e=>?_,g++[p.2],r++[p.2],?_,?_,i1,IK i2 y,bf _ B]
     .rw[aH (cQ e L)];exact s4 c o e
     .rw[aH U,au]
     .rw[au,aJ];rfl
   .refine(aa<|by simp[hb]).mpr ?_;exact#[s3,_,_,u,v,j.skip hp<|λz=>ae z hb,y,B]
  .rintro σ D ⟨g,r,N,rfl,s3,u,v,j,y,B⟩;rw[aj,J.len,zK]at j;exact#[_,y,g,r,rfl,_,_,rfl,s3,u,v,j]
end
def lay(s:a8 H H1)(h:H q=none):a8 H (upd H1 q o):=λc u e=>by rw[aH (cQ e h)];exact s c u e
def lay0{H:Hp}{q:Addr}{o:HO}(h:H q=none):a8 H (upd H q o):=lay (a8.refl _) h
section
variable{P:a7}{w:bS}{K:ao}{mg:Str->Option Value}{aD:Heap}
def xA:Sp:=λvs H Q _=>∃t a u v ii,vs=[.ref t,.ref a]/\H t>.tup [.int u,.int v]/\iA H a ii/\↑ii<=1000/\
 ∀H',a8 H H'->Q (.bl (closes (u,v) (ii.map (·.2)))) H'
def vi(T:Txt K mg)(h:iW K mg "closes_circle" rB f fd)(b:Good P w K mg aD dO 1 "reached" ["arcs","start"] En):
  Good P w K mg aD dO 2 "closes_circle" ["arc","arcs"] xA:=by
 refine h.gd ["arc","arcs"] λj A outer s H vs Q E x g h=>?_;obtain⟨t,a,u,v,c,rfl,i,m,n,k⟩:=h;let o:=ky g;exists _,(aC<|bC<|X9<|Kb o (bM (kL K) v0 aV (λ_ _=>rfl)) (p0 b g<|ir v1<|bM (kL K) v0 aV (λ_ _=>rfl)));lia;exists _,f9.of i,_,rfl,_,f9.of i,_,rfl;refine#[a,c,v,rfl,m,n,λp d l s1 hd r hm=>?_];exists d,rfl,_,lW.k (k:=gz u) r;rw[sM];let e:decide (u∈l)=closes (u,v) (c.map (·.2)):=by
  delta closes;by_cases q:u∈l
  .grind
  .grind
 rw[e];exact k p s1
def WM(H:Hp)(a:Addr)(ii:List (Addr×Int×Int))(m:Nat)(c:L2.St)(H1:Hp):Prop:=
 ∃(b:Addr)(DP:List (Addr×Int×Int))(fw:Bool)(b3 b4 b5:Option V),m=(if fw then ↑DP+1 else 0)/\c=[~~~.ref a,~~~.ref b,~~~.bl fw,b3,b4,b5]/\a8 H H1/\iA H1 b DP/\(∀x∈DP,x∈ii)/\↑DP<=1000/\
  (∀S:List (Int×Int),(∀p∈S,p∈ii.map (·.2))->(∀p∈S,∃q∈S,q.2=p.1)->∀p∈S,p∈DP.map (·.2))/\(fw=false->∀x∈DP,∃y∈DP,y.2.2=x.2.1)
def NI(l)(v):putK (keys l) (gz v:Key) (V.bl true)=keys (if v∈l then l else l++[v]):=by
 by_cases h:v∈l
 .rw[ac h];delta putK;let e:=sM l v;rw[ag h,<-tS]at e;rw[ac e];delta keys;rw[aS];refine bK λx _=>?_;show(if(gz x:Key)=gz v then((gz x:Key),V.bl true)else(gz x,V.bl true))=_;split<;>rfl
 .rw[aa h];exact Hg l v h
def Wn:Sp:=λvs H Q _=>∃a ii,vs=[.ref a]/\iA H a ii/\↑ii<=1000/\∀H',a8 H H'->Q (.bl (ro (ii.map (·.2)))) H'
def z7(T:Txt K mg)(h:iW K mg "has_circle" w8 f fd):Good P w K mg aD dO 1 "has_circle" ["arcs"] Wn:=by
 refine h.gd ["arcs","left","fewer","ends","arc","kept"] λoz A outer s H vs Q E u hr h=>?_;obtain⟨a,B,rfl,hA,hl,k⟩:=h;let hu:=ky hr;exists _,(aw (st 1 u v0)
  (aw (st 2 u uL)
  (aw (jm aY (HS v2) (aw (st 3 u QK)
  (aw (dM aY rfl (qh K v1) (pn 4 u) (aC<|AJ hu v3 (bM (kL K) v4 aV (λ_ _=>rfl)) uL rfl))
  (aw (li (i:=5) rfl u rfl rfl (nE rfl rfl rfl rfl) (qh K v1) (pz [("arc",4)]) (λ_ _ _ _ _=>(pn 4 u)) (λ_ _ _ _ _=>(mq<|FE<|Kb hu (bM (kL K) v4 aV (λ_ _=>rfl)) v3)) (λ_ _ _ _ _=>v4))
  (aw (st 2 u<|qS kz (bO (ia K) rfl T.len dB (da v5)) (bO (ia K) rfl T.len dB (da v1)) (b9 _))
  (aC<|st 1 u v5))))))
  (aC<|bC<|qS om (bO (ia K) rfl T.len dB (da v1)) aV (b9 _)))))
 lia;exists WM H a B,#[_,a,B,true,none,none,none,rfl,rfl,a8.refl _,hA,λx h=>h,hl,λS h _=>h,λz=>by cases z];rintro m σ H1 ⟨b,g,fw,b3,b4,b5,rfl,rfl,s1,o,I,hlb,X,Y⟩;lia;cases fw with
 |false=>
  refine wD #[_,.inl<|bW.of o.lst,?_];let e:ro (B.map (·.2))=decide ((0:Int)<(↑(g.map λx=>V.ref x.1):Int)):=by
   refine PB ?_;rw[decide_eq_true_iff,aj];constructor
   .intro z;let Z:g≠[]:=λq=>by rw[q]at z;simp at z
    refine#[g.map (·.2),by simpa using Z,λp r=>?_,λp r=>?_]
    .grind
    .obtain⟨x,j,rfl⟩:=a_.mp r;let#[y,C,e]:=Y rfl x j;exact#[y.2,a_.mpr #[y,C,rfl],e]
   .rintro⟨S,h0,O,J⟩;cases S with
    |nil=>exact ae rfl h0
    |cons p S=>
     let:=X _ O J p aZ;let:g≠[]:=λq=>by rw[q]at this;cases this
     let:=iY.mpr this;omega
  rw[<-e];exact k H1 s1
 |true=>
  refine rR #[_,λ_ _ z=>z,?_];intro d hd;let s2:a8 H1 (upd H1 d<|.dK []):=lay0 hd;let hdH:H d=none:=s1.free hd;let#[Pv,n]:=oh λi σ G=>∃l F,σ=[~~~.ref a,~~~.ref b,~~~.bl true,~~~.ref d,F,b5]/\a8 H1 G/\G d>(.dK<|keys l)/\(∀v,v∈l↔∃x∈g.take i,x.2.2=v)/\↑l<=i;refine#[_,rfl,b,rfl,#[_,bW.of<|s2 _ _ o.lst],eH (K:=K) (a:=b) (xs:=g.map λx=>V.ref x.1) Pv
   (n.mpr #[[],b4,rfl,s2,au,sP,sP]) (λi σ G _ z=>by let#[_,_,_,z,_]:=n.mp z;exact bW.of<|z _ _ o.lst) ?_ ?_]
  .intro i x σ G hi r;obtain⟨l,F,rfl,s3,R,hm,hll⟩:=n.mp r;obtain⟨y,q,rfl⟩:=gm hi;let C:=ax q;let G8:=gl q;lia;let z1:↑(keys l)<sizeLine:=by delta keys;rw[aj,aK];omega
   exists _,f9.of<|s3 _ _<|o.tup y C,_,rfl,_,AQ.k (k:=gz y.2.2) R z1;rw[NI];refine n.mpr #[_,_,rfl,lay s3 hd,au,λv=>?_,?_]
   .let tk:g.take (i+1)=g.take i++[y]:=by rw[aN,q];rfl
    rw[tk];by_cases L:y.2.2∈l
    .rw[ac L];constructor
     .intro z;let#[x,j,e]:=(hm v).mp z;exact#[x,bf _ j,e]
     .grind
    .rw[aa L];constructor
     .intro z;obtain z|z:=aM.mp z
      .let#[x,j,e]:=(hm v).mp z;exact#[x,bf _ j,e]
      .grind
     .grind
   .grind
  .intro σ G r;obtain⟨l,F,rfl,s3,R,hm,hll⟩:=n.mp r;rw[aj,br]at hm;lia;refine#[_,rfl,b,rfl,#[_,bW.of<|s3 _ _ o.lst],λD U=>?_];let SH:H1 D=none:=s3.free U;let ndD:d≠D:=cQ R U;refine jy (K:=K) (a:=b) (xs:=g.map λx=>V.ref x.1) (λi M=>a8 G M/\M D>(.lst<|((g.take i).filter λx=>decide<|x.2.1∈l).map λx=>V.ref x.1)) #[lay0 U,au] (λi M _ z=>bW.of<|z.1 _ _<|s3 _ _ o.lst) ?_ ?_
   .rintro i x M hi ⟨s4,N⟩;obtain⟨y,q,rfl⟩:=gm hi;let C:=ax q;let tk:g.take (i+1)=g.take i++[y]:=by rw[aN,q];rfl
    lia;exists _,f9.of<|s4 _ _<|s3 _ _<|o.tup y C,_,rfl,_,lW.k (k:=gz y.2.1) (s4 _ _ R);rw[sM];by_cases L:y.2.1∈l
    .rw[ag L];refine rR #[_,N,?_,lay s4 U,?_]
     .rw[aj];let z:=ca (λx:Addr×Int×Int=>decide<|x.2.1∈l) (g.take i);rw[bN]at z;rw[aK];omega
     .rw[au,tk,cF,aJ];simp[L]
    .grind
   .rintro M ⟨s4,N⟩;rw[aj,br]at N;let s5:=s3.trans s4;exists _,rfl,_,.inl<|bW.of N,_,.inl<|bW.of<|s5 _ _ o.lst,_,?_,D,g.filter<|λx=>decide<|x.2.1∈l,_,_,_,_,rfl,rfl,s1.trans s5,#[N,λx j=>s5 _ _<|o.tup x (be.mp j).1],λx j=>I x (be.mp j).1,?_,?_
    .grind
    .grind
    .intro S O J p r;let#[x,j,e]:=a_.mp<|X S O J p r;let#[p2,Xr,e2]:=J p r;let#[x2,ZL,e3]:=a_.mp<|X S O J p2 Xr;refine a_.mpr #[x,be.mpr #[j,ag ((hm _).mpr #[x2,ZL,?_])],e];rw[e3,e2,e]
    .intro c x j;let c':=of_decide_eq_false c;rw[aj,aj]at c';let z:=ca (λx:Addr×Int×Int=>decide<|x.2.1∈l) g;let all:g.filter (λx=>decide<|x.2.1∈l)=g:=j_.mpr<|lG.mp oM;rw[all]at j|-;let Xw:x.2.1∈l:=ai<|j_.mp all x j;let#[y,C,e]:=(hm _).mp Xw;exact#[y,C,e]
structure ER(H:Hp)(a:Addr)(zs:List (Addr×List Int)):Prop where
 lst:H a>.lst (zs.map λz=>V.ref z.1)
 at_:∀z∈zs,z.1≠a/\H z.1>.lst (z.2.map V.int)
def ER.mono(A:ER H a zs)(s:a8 H b):ER b a zs:=#[s _ _ A.lst,λz hz=>#[(A.at_ z hz).1,s _ _ (A.at_ z hz).2]]
def Ik:Sp:=λvs H Q _=>∃a b zs nums,vs=[.ref a,.ref b]/\ER H a zs/\H b>(.lst<|nums.map V.int)/\↑zs<=2000/\↑nums<=100/\(∀z∈zs,↑z.2<=100)/\
 ∀H' r ys,a8 H H'->H r=none->ER H' r ys->(∀y∈ys,H y.1=none)->ys.map (·.2)=jb (zs.map (·.2)) nums->Q (.ref r) H'
def Z6(H:Hp)(a b r:Addr)(x3 x4:Option V)(done:List (List Int))(most:Nat)(c:L2.St)(H2:Hp):Prop:=
 c=[~~~.ref a,~~~.ref b,~~~.ref r,x3,x4]/\a8 H H2/\∃ys,ER H2 r ys/\(∀y∈ys,H y.1=none)/\ys.map (·.2)=done/\↑ys<=most
def qK(c nums:List Int)(i)(n)(h:nums[i]?>n):jx c (nums.take<|i+1)=jx c (nums.take i)++(if grows c n then[c++[n]]else[]):=by
 delta jx;rw[aN,h,cF,aJ];by_cases g:grows c n=true
 .simp[g]
 .simp[g]
def Po:nj (xs++[v]) (-1)>v:=by
 let e:Fm ↑(xs++[v]) (-1)>↑xs:=by delta Fm;rw[aa dC,aW,gw,ac oM];congr 1;omega
 delta nj;rw[e];simp
def Em(s3:a8 H f)(m:H r=none)(h:ER f r vs)(i:f p=none)(b:upd f p (.lst [V.int n]) d=none):
  a8 H (upd (upd (upd f p<|.lst [V.int n]) d (.lst<|c.map V.int++[V.int n])) r (.lst<|(vs.map λz=>V.ref z.1)++[V.ref d]))/\
  ER (upd (upd (upd f p<|.lst [V.int n]) d (.lst<|c.map V.int++[V.int n])) r (.lst<|(vs.map λz=>V.ref z.1)++[V.ref d])) r (vs++[(d,c++[n])]):=by
 let o:d≠p:=λz=>by rw[z,au]at b;cases b
 let a:f d=none:=by rw[aH o]at b;exact b
 let j:d≠r:=(cQ h.lst a).symm;refine#[lay (lay (lay s3<|s3.free i) (s3.free a)) m,#[?_,λz hz=>?_]]
 .rw[au,aJ];rfl
 .obtain q|q:=aM.mp hz
  .let#[l,g]:=h.at_ z q;exists l;rw[aH l,aH<|cQ g a,aH (cQ g i)];exact g
  .let e:z=(d,c++[n]):=by simpa using q
   subst e;exists j;rw[aH j,au,aJ];rfl
def Ac(T:Txt K mg)(h:iW K mg "one_larger" xm f fd):Good P w K mg aD dO 1 "one_larger" ["chosen_sets","numbers"] Ik:=by
 refine h.gd ["chosen_sets","numbers","larger","chosen","number"] λoz A outer s H vs Q E nd hr h=>?_;obtain⟨a,b,zs,nums,rfl,hA,hB,NA,ZE,O,k⟩:=h;let hu:=ky hr;exists _,(aw (st 2 nd<|dr ib)
  (aw (dM aY rfl (qh K v0) (pn 3 nd) (aC<|dM aY rfl (qh K v1) (pn 4 nd) (aC<|dI (PW.pt<|zm (bG il (bO (ia K) rfl T.len dB (da v3)) aV (b9 _)) (s_<|bG om v4 (bM (j7 K) v3 (oX ls aV) (λ_ _=>rfl)) (b9 _))) (aC<|cO<|bm K aX bU bV fT v2<|da<|fV qM v3<|dr<|da v4) cg)))
  (aC<|bC v2)))
 lia;refine#[dC,λr C=>?_];let s1:a8 H (upd H r<|.lst []):=lay0 C;refine#[_,rfl,a,rfl,#[_,bW.of<|s1 _ _ hA.lst],eH (K:=K) (a:=a) (xs:=zs.map λz=>V.ref z.1)
  (λi F R=>∃x3 I,Z6 H a b r x3 I (jb ((zs.take i).map (·.2)) nums) (i*100) F R)
  #[none,none,rfl,s1,[],#[au,λz hz=>by cases hz],(λz hz=>by cases hz),rfl,cP _] (λi F R _#[_,_,_,z,_]=>bW.of<|z _ _ hA.lst) ?_ ?_]
 .rintro i x F R hi ⟨x3,I,rfl,s2,ys,hY,J,D,S⟩;obtain⟨z,q,rfl⟩:=gm hi;let hz:=ax q;let m:=(hA.at_ z hz).2;let U:=gl q;let tk:zs.take (i+1)=zs.take i++[z]:=by rw[aN,q];rfl
  lia;refine#[_,rfl,b,rfl,#[_,bW.of<|s2 _ _ hB],eH (K:=K) (a:=b) (xs:=nums.map V.int)
   (λj F N=>∃I,Z6 H a b r (some<|.ref z.1) I (jb ((zs.take i).map (·.2)) nums++jx z.2 (nums.take j)) (i*100+j) F N)
   #[I,rfl,s2,ys,hY,J,by rw[D];simp[jx],S] (λj F N _#[_,_,w,_]=>bW.of<|w _ _ hB) ?_ ?_]
  .rintro j x F N hj ⟨I,rfl,s3,vs,o,B,v,hvl⟩;obtain⟨n,q2,rfl⟩:=gm hj;let hjl:=gl q2;lia;exists _,.inl<|bW.of<|s3 _ _ m,rfl;by_cases h0:z.2=[]
   .let X:grows z.2 n=true:=by rw[h0];rfl
    refine(ac<|by simp[h0]).mpr ?_;refine#[.inl #[rfl,_,bW.of o.lst],dC,λp L=>#[_,by rw[aH (cQ (s3 _ _ m) L)];exact s3 _ _ m,_,au,by rw[aj,aK];let:=O z hz;simp;omega,λM d=>?_]];let n1:M≠p:=λz=>by rw[z,au]at d;cases d
    let g:N M=none:=by rw[aH n1]at d;exact d
    let#[w1,w2]:=Em (c:=z.2) s3 C o L d;refine#[_,by rw[aH (cQ o.lst g),aH (cQ o.lst L)];exact o.lst,by rw[aj,aK];let:=gS 100<|fN U;omega,_,rfl,w1,_,w2,?_,?_,by rw[aW,gw];omega]
    .intro y hy;obtain u|u:=aM.mp hy
     .exact B y u
     .let ey:y=(M,z.2++[n]):=by simpa using u
      rw[ey];exact s3.free g
    .rw[aJ,v,qK z.2 nums j n q2,ac X,cJ];rfl
   .let#[Y,l,e]:∃Y l,z.2=Y++[l]:=#[z.2.dropLast,z.2.getLast h0,(js h0).symm];let Z:grows z.2 n=decide (l<n):=by delta grows;rw[e];simp
    refine(aa<|by simp[h0]).mpr #[_,bW.of<|s3 _ _ m,V.int l,?_,l,rfl,?_]
    .rw[e,aJ];exact Po
    by_cases G:l<n
    .let X:grows z.2 n=true:=by rw[Z];exact ag G
     rw[ag G];refine rR ?_;refine#[.inl #[rfl,_,bW.of o.lst],dC,λp L=>#[_,by rw[aH (cQ (s3 _ _ m) L)];exact s3 _ _ m,_,au,by rw[aj,aK];let:=O z hz;simp;omega,λM d=>?_]];let n1:M≠p:=λz=>by rw[z,au]at d;cases d
     let g:N M=none:=by rw[aH n1]at d;exact d
     let#[w1,w2]:=Em (c:=z.2) s3 C o L d;refine#[_,by rw[aH (cQ o.lst g),aH (cQ o.lst L)];exact o.lst,by rw[aj,aK];let:=gS 100<|fN U;omega,_,rfl,w1,_,w2,?_,?_,by rw[aW,gw];omega]
     .intro y hy;obtain u|u:=aM.mp hy
      .exact B y u
      .let ey:y=(M,z.2++[n]):=by simpa using u
       rw[ey];exact s3.free g
     .rw[aJ,v,qK z.2 nums j n q2,ac X,cJ];rfl
    .let X:grows z.2 n=false:=by rw[Z];exact ah G
     rw[ah G];refine wD ?_;refine#[_,rfl,s3,vs,o,B,?_,oM];rw[v,qK z.2 nums j n q2,aa<|by rw[X];decide,c8]
  .rintro F N ⟨I,rfl,s3,vs,o,B,v,hvl⟩;rw[aj,br]at v;exists _,_,rfl,s3,vs,o,B,?_
   .rw[v,tk];delta jb;simp
   .grind
 .rintro F R ⟨x3,I,rfl,s2,ys,hY,J,D,S⟩;rw[aj,br]at D;lia;exact k R r ys s2 C hY J D
def nats(l:List Nat):List V:=l.map λ(n:Nat)=>V.int (n:Int)
def Rq:Sp:=λvs H Q _=>∃a b ii AO,vs=[.ref a,.ref b]/\iA H a ii/\iA H b AO/\↑ii<=100/\↑AO<=100/\
 ∀H' r,a8 H H'->H r=none->H' r>.lst (nats (oU (ii.map (·.2)) (AO.map (·.2))).2)->Q (.ref r) H'
def uq(T:Txt K mg)(h:iW K mg "edges_not_kept" p8 f fd)(c:Good P w K mg aD dO 2 "closes_circle" ["arc","arcs"] xA):
  Good P w K mg aD dO 3 "edges_not_kept" ["edges","wishes"] Rq:=by
 refine h.gd ["edges","wishes","kept","others","edge","arc"] λoz A outer s H vs Q E M X h=>?_;obtain⟨a,b,d,g,rfl,N,Y,NA,O,k⟩:=h;let hu:=ky X;exists _,(aw (st 2 M<|dL (listOf K) rfl T.list i' (da v1))
  (aw (st 3 M<|dr ib)
  (aw (dM aY rfl (SR K T.enumerate<|da v0) (OY K 2<|eJ (pn 4 M) (eJ (pn 5 M) kf)) (aC<|dI (HS<|p0 c X<|ir v5 v2) (aC<|cO<|bm K aX bU bV fT v3<|da v4) (aC<|cO<|bm K aX bU bV fT v2<|da v5)))
  (aC<|bC v3))))
 lia;refine#[_,.inl<|bW.of Y.lst,λG Z=>#[dC,λr o=>?_]];let p:r≠G:=λz=>by rw[z,au]at o;cases o
 let C:H r=none:=by rw[aH p]at o;exact o
 let s1:a8 H (upd (upd H G<|.lst<|g.map λx=>V.ref x.1) r (.lst [])):=lay (lay0 Z) C;let#[Pv,m]:∃Pv:Nat->L2.St->Hp->Prop,∀i F n,Pv i F n↔∃(j:List (Addr×Int×Int))(R S:Option V),F=[~~~.ref a,~~~.ref b,~~~.ref G,~~~.ref r,R,S]/\a8 H n/\iA n G j/\↑j<=100+i/\
   j.map (·.2)=(oU ((d.map (·.2)).take i) (g.map (·.2))).1/\n r>.lst (nats (oU ((d.map (·.2)).take i) (g.map (·.2))).2)/\↑(oU ((d.map (·.2)).take i) (g.map (·.2))).2<=i:=#[_,λ_ _ _=>pG]
 refine#[_,rfl,a,_,rfl,bW.of<|s1 _ _ N.lst,k4 (K:=K) (a:=a) (xs:=d.map λx=>V.ref x.1) Pv
  ((m _ _ _).mpr #[g,none,none,rfl,s1,#[by rw[aH p.symm,au],λx I=>s1 _ _<|Y.tup x I],O,rfl,au,aI _]) (λi F n _ z=>by let#[_,_,_,_,z,_]:=(m _ _ _).mp z;exact bW.of<|z _ _ N.lst) ?_ ?_]
 .intro i x F n t hi J ht;obtain⟨j,R,S,rfl,s2,B,U,u,l,L⟩:=(m _ _ _).mp J;obtain⟨y,q,rfl⟩:=gm hi;let hy:=ax q;let G8:=gl q;let J:(d.map (·.2))[i]?>y.2:=by rw[ak,q];rfl
  let D:=Bm (d.map (·.2)) (g.map (·.2)) i y.2 J;let s3:a8 n (upd n t (.tup [.int (i:Nat),.ref y.1])):=lay0 ht;lia;exists _,f9.of au,rfl;lia;refine#[y.1,G,y.2.1,y.2.2,j,rfl,s3 _ _<|s2 _ _<|N.tup y hy,B.mono s3,oM,λH4 s4=>?_];let s5:=s3.trans s4;rw[u];let hT:H4 y.1>.tup [.int y.2.1,.int y.2.2]:=s5 _ _<|s2 _ _<|N.tup y hy;by_cases v:closes y.2 (oU ((d.map (·.2)).take i) (g.map (·.2))).1=true
  .refine#[_,rfl,(ac v).mpr #[.inl #[rfl,_,bW.of<|s5 _ _ l],_,s5 _ _ l,?_,(m _ _ _).mpr #[j,_,_,rfl,lay (s2.trans s5) C,?_,oM,?_,?_,?_]]]
   .delta nats;rw[aj,aK];omega
   .refine#[by rw[aH p.symm];exact s5 _ _ B.lst,λx I=>?_];let z:=s5 _ _<|B.tup x I;rw[aH (eI z (s5 _ _ l) (by intro q;cases q))];exact z
   .rw[D];delta sJ;rw[ac v];exact u
   .rw[au,D];delta sJ;rw[ac v];delta nats;rw[aJ];rfl
   .rw[D];delta sJ;rw[ac v,aW,gw];omega
  .let VT:closes y.2 (oU ((d.map (·.2)).take i) (g.map (·.2))).1=false:=by simpa using v
   refine#[_,rfl,(aa v).mpr #[.inl #[rfl,_,bW.of<|s5 _ _ B.lst],_,s5 _ _ B.lst,?_,(m _ _ _).mpr #[j++[y],_,_,rfl,lay (s2.trans s5) Z,?_,?_,?_,?_,?_]]]
   .rw[aj,aK];omega
   .refine#[by rw[au,aJ];rfl,λx I=>?_];let z:H4 x.1>.tup [.int x.2.1,.int x.2.2]:=by
     obtain w|w:=aM.mp I
     .exact s5 _ _ (B.tup x w)
     .grind
    rw[aH (eI z (s5 _ _ B.lst) (by intro q;cases q))];exact z
   .grind
   .rw[D];delta sJ;rw[aa v,aJ,u];rfl
   .rw[aH p,D];delta sJ;rw[aa v];exact s5 _ _ l
   .rw[D];delta sJ;rw[aa v];exact Nat.le_succ_of_le L
 .intro F n J;obtain⟨j,R,S,rfl,s2,B,U,u,l,L⟩:=(m _ _ _).mp J;lia;let e:(d.map (·.2)).take ↑(d.map λx=>V.ref x.1)=d.map (·.2):=by rw[aj];exact cz sP
  rw[e]at l;exact k n r s2 C l
def wB(n):∀l:List Int,SM (.int n) (l.map V.int)=decide (n∈l)
 |[]=>by simp[SM]
 |a::l=>by
  let b:=wB n l;delta SM at b|-;rw[bb,kj,b];by_cases h:n=a
  .subst h;simp[GQ]
  .let h':¬a=n:=λz=>h z.symm;simp[GQ,h,h']
def DY(l:List Int):(l.map V.int).all lS=true:=by rw[List.all_map,eZ];intro x _;rfl
def Bj{g i:Type}{p:i->Bool}{f:g->i}:∀{l:List g}{j:Nat}{z:g},l[j]?>z->p (f z)=true->(∀y∈l.take j,p (f y)=false)->(l.map f).find? p>f z
 |[],j,z,h,_,_=>by simp at h
 |a::l,0,z,h,b,_=>gR
 |a::l,j+1,z,h,b,c=>by let d:p (f a)=false:=c a sP;rw[bb,fJ,d];exact Bj (j:=j) (by simpa using h) b λy e=>c y (by simp[e])
def rp(ii:List (Addr×Int×Int))(nums A9:List Int):List (Addr×Int×Int):=(nums.filter λn=>decide<|n∉A9).filterMap λn=>ii[n.toNat]?
def Od(b)(nums a):(rp b nums a).map (·.2)=restOf (b.map (·.2)) nums a:=by delta rp restOf;rw[MR];congr 1;funext n;rw[ak]
def B3(b)(nums a:List Int)(i)(n)(h:nums[i]?>n):rp b (nums.take<|i+1) a=rp b (nums.take i) a++(if n∈a then[]else(b[n.toNat]?).toList):=by
 delta rp;rw[aN,h,cF,r_];congr 1;by_cases g:n∈a
 .simp[g]
 .grind
def Oe(h:x∈rp b nums a):x∈b:=by delta rp at h;let#[n,_,e]:=dS.mp h;exact ax e
def Ee(b)(nums a):↑(rp b nums a)<=↑nums:=
 bu (iP _ _) (ca _ _)
def Mx:Sp:=λvs H Q _=>∃a b c ii AO nums,vs=[.ref a,.ref b,.ref c]/\iA H a ii/\iA H b AO/\H c>(.lst<|nums.map V.int)/\↑ii<=100/\↑AO<=100/\↑nums<=10/\nums.Pairwise (·<·)/\(∀n,n∈nums->0<=n/\n<(↑ii:Int))/\
 ∀H' r,a8 H H'->(r=c\/H r=none)->H' r>.lst ((wJ (ii.map (·.2)) (AO.map (·.2)) nums ↑nums 0).map V.int)->Q (.ref r) H'
def Bp(T:Txt K mg)(h:iW K mg "least_set" zu f fd)(g:Good P w K mg aD dO 1 "has_circle" ["arcs"] Wn)(l:Good P w K mg aD dO 1 "one_larger" ["chosen_sets","numbers"] Ik):
  Good P w K mg aD dO 2 "least_set" ["edges","wishes","on_circle"] Mx:=by
 refine h.gd ["edges","wishes","on_circle","chosen_sets","size","chosen","rest","edge"] λoz A outer s H vs Q E X hr h=>?_;obtain⟨a,b,c,d,o,nums,rfl,hA,hB,hC,NA,ZE,hl3,ad2,aed,k⟩:=h;let hu:=ky hr;exists _,(aw (st 3 X<|dr<|da<|dr ib)
  (aw (dM aY rfl (jq rfl T.range<|da<|bO (ia K) rfl T.len dB (da v2)) (pn 4 X) (aw (dM aY rfl (qh K v3) (pn 5 X) (aw (li (i:=6) rfl X rfl rfl (nE rfl rfl rfl rfl) (qh K v2) (pz [("edge",7)]) (λ_ _ _ _ _=>(pn 7 X)) (λ_ _ _ _ _=>(mq<|bG (Fv K) v7 v5 (by with_unfolding_all rfl))) (λ_ _ _ _ _=>(bM (j7 K) v0 v7 (λ_ _=>rfl))))
  (aC<|dI (Yg<|HS<|p0 g hr<|da<|fV qM v6 v1) (aC<|bC v5) cg)))
  (aC<|st 3 X<|p0 l hr<|ir v3 v2)))
  (aC<|bC v2)))
 lia;refine#[dC,λe he=>#[dC,λr F=>?_]];let L:r≠e:=λz=>by rw[z,au]at F;cases F
 let hrH:H r=none:=by rw[aH L]at F;exact F
 let s1:a8 H (upd (upd H e<|.lst []) r (.lst [V.ref e])):=lay (lay0 he) hrH;let#[Pv,G]:∃Pv:Nat->L2.St->Hp->Prop,∀i σ M,Pv i σ M↔∃(J:Addr)(zs:List (Addr×List Int))(x4 Y Z x7:Option V),σ=[~~~.ref a,~~~.ref b,~~~.ref c,~~~.ref J,x4,Y,Z,x7]/\a8 H M/\ER M J zs/\(∀z∈zs,H z.1=none)/\zs.map (·.2)=fG i nums/\
   wJ (d.map (·.2)) (o.map (·.2)) nums ↑nums 0=wJ (d.map (·.2)) (o.map (·.2)) nums (↑nums-i) i:=#[_,λ_ _ _=>pG]
 refine#[_,rfl,_,_,rfl,.inl<|bW.of<|s1 _ _ hC,_,rfl,?_,?_,l5 (n:=(↑(nums.map V.int):Int).toNat) Pv
  ((G _ _ _).mpr #[r,[(e,[])],none,none,none,none,rfl,s1,#[au,λz hz=>?_],?_,(by simp[fG]),rfl]) ?_ ?_]
 .grind
 .grind
 .let ez:z=(e,[]):=by simpa using hz
  subst ez;exact#[L.symm,by rw[aH L.symm,au];rfl]
 .grind
 .intro i σ M hi N;obtain⟨J,zs,x4,Y,Z,x7,rfl,s2,hZ,hZn,v,B⟩:=(G _ _ _).mp N;rw[aj,aT]at hi;lia;let#[Pj,C]:=oh λj σ H3=>∃(Y Z x7:Option V),σ=[~~~.ref a,~~~.ref b,~~~.ref c,~~~.ref J,some<|.int<|0+i,Y,Z,x7]/\a8 M H3/\∀z∈zs.take j,kW (d.map (·.2)) (o.map (·.2)) nums z.2=false;refine#[_,rfl,J,rfl,#[_,bW.of hZ.lst],eH (K:=K) (a:=J) (xs:=zs.map λz=>V.ref z.1) Pj (C.mpr #[Y,Z,x7,rfl,a8.refl _,λz hz=>by cases hz])
   (λj σ H3 _ z=>by let#[_,_,_,_,z,_]:=C.mp z;exact bW.of<|z _ _ hZ.lst) ?_ ?_]
  .intro j x σ H3 hj N;obtain⟨y5,y6,y7,rfl,s3,I⟩:=C.mp N;obtain⟨z,q,rfl⟩:=gm hj;let hz:=ax q;let tk:zs.take (j+1)=zs.take j++[z]:=by rw[aN,q];rfl
   let s4:=s2.trans s3;let hzH:H3 z.1>(.lst<|z.2.map V.int):=s3 _ _ (hZ.at_ z hz).2;lia;refine#[_,rfl,c,rfl,#[_,bW.of<|s4 _ _ hC],λD hD=>?_];let#[Pk,u]:=Ft λm O=>a8 H3 O/\O D>(.lst<|(rp d (nums.take m) z.2).map λx=>V.ref x.1);refine jy (K:=K) (a:=c) (xs:=nums.map V.int) Pk (u.mpr #[lay0 hD,au]) (λm O _ w=>bW.of<|(u.mp w).1 _ _ (s4 _ _ hC)) ?_ ?_
   .intro m x O hm R;let#[s5,h5]:=u.mp R;obtain⟨n,q2,rfl⟩:=gm hm;let#[r0,r1]:=aed n<|ax q2;let#[y,S]:∃y,d[n.toNat]?>y:=#[_,aq oM];lia;exists _,.inl<|bW.of<|s5 _ _ hzH,rfl,DY _;rw[wB];by_cases hc:n∈z.2
    .rw[ag hc];refine wD (u.mpr #[s5,?_]);rw[h5,B3 d nums z.2 m n q2,ac hc,c8]
    .rw[ah hc];refine rR #[_,bW.of<|s5 _ _<|s4 _ _ hA.lst,V.ref y.1,at_of (j:=n.toNat) oM (by rw[ak,S];rfl),_,h5,?_,u.mpr #[lay s5 hD,?_]]
     .let w:=Ee d (nums.take m) z.2;rw[bN]at w;rw[aj,aK];omega
     .rw[au,B3 d nums z.2 m n q2,aa hc,S,aJ];rfl
   .intro O R;let#[s5,h5]:=u.mp R;rw[aj,br]at h5;let s6:=s4.trans s5;lia;let wl:=Ee d nums z.2;refine#[_,h5,_,s6 _ _ hB.lst,sZ,λp Qh=>?_];let s7:a8 O (upd O p<|.lst<|(rp d nums z.2).map (λx=>V.ref x.1)++o.map λx=>V.ref x.1):=lay0 Qh;refine#[p,rp d nums z.2++o,rfl,#[by rw[au,aJ],λx hx=>?_],by rw[aW];omega,λH5 s8=>#[_,rfl,?_]]
    .obtain w|w:=aM.mp hx
     .exact s7 _ _ (s6 _ _<|hA.tup x<|Oe w)
     .exact s7 _ _ (s6 _ _<|hB.tup x w)
    let s9:=(s5.trans s7).trans s8;let eb:(!ro ((rp d nums z.2++o).map (·.2)))=kW (d.map (·.2)) (o.map (·.2)) nums z.2:=by delta kW;rw[aJ,Od]
    rw[eb];by_cases U:kW (d.map (·.2)) (o.map (·.2)) nums z.2=true
    .rw[ac U];refine k H5 z.1 (s4.trans s9) (.inr<|hZn z hz) ?_;let ef:=Bj (f:=λz:Addr×List Int=>z.2) q U I;let en:↑nums-i=(↑nums-i-1)+1:=oM;rw[B,en];delta wJ;rw[<-v,ef];exact s9 _ _ hzH
    .rw[aa U];refine C.mpr #[_,_,_,rfl,s3.trans s9,λy S=>?_];rw[tk]at S;obtain w|w:=aM.mp S
     .exact I y w
     .grind
  .intro σ H3 N;obtain⟨y5,y6,y7,rfl,s3,I⟩:=C.mp N;rw[aj,br]at I;lia;let zl:↑zs<=1024:=by let e:=af ck v;rw[aj]at e;rw[e];exact bu (ss i nums) (uA dC hl3)
   let s4:=s2.trans s3;refine#[J,c,zs,nums,rfl,hZ.mono s3,s4 _ _ hC,oM,oM,λz hz=>?_,λH5 r5 ys s5 _ hY hYn hys=>?_]
   .let hm:z.2∈fG i nums:=by rw[<-v];exact a_.mpr #[z,hz,rfl]
    let:=(jK i nums z.2 hm).2;omega
   .refine(G _ _ _).mpr #[r5,ys,_,_,_,_,rfl,s4.trans s5,hY,λy S=>s4.free<|hYn y S,by rw[hys,v,mn nums i ad2],?_];let en:↑nums-i=(↑nums-(i+1))+1:=oM;rw[B,en];conv=>lhs;unfold wJ
    let ef:(fG i nums).find? (kW (d.map (·.2)) (o.map (·.2)) nums)=none:=gR;rw[ef]
 .intro σ M N;obtain⟨J,zs,x4,Y,Z,x7,rfl,s2,hZ,hZn,v,B⟩:=(G _ _ _).mp N;rw[aj,aT,ox]at B;lia;refine k M c s2 (.inl rfl) ?_;rw[B];exact s2 _ _ hC
def Iq:Sp:=λvs H Q _=>∃a b ii AO,vs=[.ref a,.ref b]/\iA H a ii/\iA H b AO/\↑ii<=100/\↑AO<=100/\
 ∀H' r,a8 H H'->H r=none->H' r>.lst ((mw (ii.map (·.2)) (AO.map (·.2))).map V.int)->Q (.ref r) H'
def wz(T:Txt K mg)(h:iW K mg "turned_edges" tG f fd)(g:Good P w K mg aD dO 2 "closes_circle" ["arc","arcs"] xA)
  (e:Good P w K mg aD dO 3 "edges_not_kept" ["edges","wishes"] Rq)(j:Good P w K mg aD dO 2 "least_set" ["edges","wishes","on_circle"] Mx):Good P w K mg aD dO 4 "turned_edges" ["edges","wishes"] Iq:=by
 refine h.gd ["edges","wishes","arcs","on_circle","edge","arc"] λoz A outer s H vs Q E M N h=>?_;obtain⟨a,b,c,d,rfl,v,O,F,G,k⟩:=h;let hu:=ky N;exists _,(aw (st 2 M<|fV qM v0 v1)
  (aw (li (i:=3) rfl M rfl rfl (nE rfl rfl rfl rfl) (SR K T.enumerate<|da v0) (pz [("edge",4),("arc",5)]) (λ_ _ _ _ _=>(OY K 2<|eJ (pn 4 M) (eJ (pn 5 M) kf))) (λ_ _ _ _ _=>(mq<|HS<|p0 g N<|ir v5 v2)) (λ_ _ _ _ _=>v4))
  (aw (dI (bG om (bO (ia K) rfl T.len dB (da v3)) (oY T.Jj) (b9 _)) (aC<|bC<|p0 e N<|ir v0 v1) cg)
  (aC<|bC<|p0 j N<|AF v0 v1 v3))))
 lia;refine#[_,v.lst,_,O.lst,sZ,λp hp=>?_];let s1:a8 H (upd H p<|.lst<|c.map (λx=>V.ref x.1)++d.map λx=>V.ref x.1):=lay0 hp;let I:iA (upd H p<|.lst<|c.map (λx=>V.ref x.1)++d.map λx=>V.ref x.1) p (c++d):=#[by rw[au,aJ],λx hx=>by
  obtain q|q:=aM.mp hx
  .exact s1 _ _ (v.tup x q)
  .exact s1 _ _<|O.tup x q]
 generalize hH1:upd H p (.lst<|c.map (λx=>V.ref x.1)++d.map λx=>V.ref x.1)=H1 at s1 I;refine#[_,rfl,a,_,rfl,bW.of<|s1 _ _ v.lst,λD S=>?_];let#[Pk,l]:=Ft λm B=>a8 H1 B/\B D>.lst (nats ((ay m).filter λi=>match(c.map (·.2))[i]? with|some p=>closes p (c.map (·.2)++d.map (·.2))|none=>false));refine TZ (K:=K) (a:=a) (xs:=c.map λx=>V.ref x.1) Pk (l.mpr #[lay0 S,au]) (λm B _ w=>bW.of<|(l.mp w).1 _ _ (s1 _ _ v.lst)) ?_ ?_
 .intro m x B t hm C ht;let#[s5,J]:=l.mp C;obtain⟨y,q,rfl⟩:=gm hm;let hy:=ax q;let hml:=gl q;let o:a8 B (upd B t (.tup [.int (m:Nat),.ref y.1])):=lay0 ht;let u:=s5.trans o;lia;exists _,f9.of au,rfl;lia;refine#[y.1,p,y.2.1,y.2.2,c++d,rfl,u _ _<|s1 _ _<|v.tup y hy,I.mono u,by rw[aW];omega,λR U=>#[_,rfl,?_]];let e5:(c.map (·.2))[m]?>y.2:=by rw[ak,q];rfl
  rw[aJ];let h6:=U _ _<|o _ _ J;by_cases hc:closes y.2 (c.map (·.2)++d.map (·.2))=true
  .refine(ac hc).mpr #[_,h6,?_,l.mpr #[lay (u.trans U) S,?_]]
   .delta nats;rw[aj];let:=ca (λi=>match(c.map (·.2))[i]? with|some p=>closes p (c.map (·.2)++d.map (·.2))|none=>false) (ay m);rw[cr]at this;rw[aK];omega
   .rw[au,c_,cF];delta nats;rw[aJ];let X:([m]:List Nat).filter (λi=>match(c.map (·.2))[i]? with|some p=>closes p (c.map (·.2)++d.map (·.2))|none=>false)=[m]:=gR;rw[X];rfl
  .refine(aa hc).mpr (l.mpr #[u.trans U,?_]);rw[h6,c_,cF];let X:([m]:List Nat).filter (λi=>match(c.map (·.2))[i]? with|some p=>closes p (c.map (·.2)++d.map (·.2))|none=>false)=[]:=gR;rw[X,c8]
 .intro B C;let#[s5,J]:=l.mp C;let e7:(ay ↑(c.map λx=>V.ref x.1)).filter (λi=>match(c.map (·.2))[i]? with|some p=>closes p (c.map (·.2)++d.map (·.2))|none=>false)=fS (c.map (·.2)) (d.map (·.2)):=by delta fS;rw[aj,aj]
  rw[e7]at J;let o:=s1.trans s5;lia;exists _,.inl<|bW.of J;let en:(nats (fS (c.map (·.2)) (d.map (·.2)))).length=(fS (c.map (·.2)) (d.map (·.2))).length:=by delta nats;rw[aj]
  let eo:nats (fS (c.map (·.2)) (d.map (·.2)))=(dq (fS (c.map (·.2)) (d.map (·.2)))).map V.int:=by delta nats dq;rw[aS];rfl
  rw[en];by_cases L:10<(fS (c.map (·.2)) (d.map (·.2))).length
  .refine(ac<|ag oM).mpr #[a,b,c,d,rfl,v.mono o,O.mono o,F,G,λR r u Y Z=>k R r (o.trans u) (o.free Y) ?_];rw[Z];delta mw;rw[ac L];delta nats dq;rw[aS];rfl
  .refine(aa<|by simp;omega).mpr #[a,b,D,c,d,dq (fS (c.map (·.2)) (d.map (·.2))),rfl,v.mono o,O.mono o,by rw[J,eo],F,G,?_,E5 _ _,λn hn=>?_,λR r u Y Z=>k R r (o.trans u) ?_ ?_]
   .grind
   .obtain⟨m,hm,rfl⟩:=a_.mp hn;let:=yW hm;rw[aj]at this;omega
   .obtain z|z:=Y
    .rw[z];exact s1.free S
    .exact o.free z
   .rw[Z];delta mw;rw[aa L];let:(dq (fS (c.map (·.2)) (d.map (·.2)))).length=(fS (c.map (·.2)) (d.map (·.2))).length:=by delta dq;rw[aj]
    rw[this]
def Rk:Sp:=λvs H Q _=>∃a b ii AO,vs=[.ref a,.ref b]/\iA H a ii/\iA H b AO/\↑ii<=100/\↑AO<=100/\
 ∀H' r dts,a8 H H'->H r=none->iA H' r dts->dts.map (·.2)=yZ (ii.map (·.2)) (mw (ii.map (·.2)) (AO.map (·.2)))->Q (.ref r) H'
def z6(T:Txt K mg)(h:iW K mg "going_down" w6 f fd)(c:Good P w K mg aD dO 4 "turned_edges" ["edges","wishes"] Iq):Good P w K mg aD dO 5 "going_down" ["edges","wishes"] Rk:=by
 refine h.gd ["edges","wishes","down","edge"] λoz A outer s H vs Q E nd hr h=>?_;obtain⟨a,b,g,D,rfl,F,hB,M,N,k⟩:=h;let hu:=ky hr;exists _,(aw (st 2 nd<|dL (listOf K) rfl T.list i' (da v0))
  (aw (dM aY rfl (qh K<|p0 c hr<|ir v0 v1) (pn 3 nd) (aC<|vC (jM<|ir (bM (kL K) (bM (j7 K) v0 v3 (λ_ _=>rfl)) aV (λ_ _=>rfl)) (bM (kL K) (bM (j7 K) v0 v3 (λ_ _=>rfl)) aV (λ_ _=>rfl))) (vB v2 v3 set_list)))
  (aC<|bC v2)))
 lia;refine#[_,.inl<|bW.of F.lst,λd hd=>?_];let s1:a8 H (upd H d<|.lst<|g.map λx=>V.ref x.1):=lay0 hd;refine#[_,rfl,_,rfl,a,b,g,D,rfl,F.mono s1,hB.mono s1,M,N,λH1 r s2 n2 O=>?_];let hR:=K2 (g.map (·.2)) (D.map (·.2));generalize mw (g.map (·.2)) (D.map (·.2))=I at O hR k;let R:H1 d>(.lst<|g.map λx=>V.ref x.1):=s2 _ _ au;let s3:=s1.trans s2;let S:r≠d:=λz=>by rw[z,au]at n2;cases n2
 let#[Pv,o]:=oh λi σ C=>∃l U,σ=[~~~.ref a,~~~.ref b,~~~.ref d,U]/\a8 H C/\C r>(.lst<|I.map V.int)/\iA C d l/\l.map (·.2)=yZ (g.map (·.2)) (I.take i);refine#[r,rfl,#[_,bW.of O],eH (K:=K) (a:=r) (xs:=I.map V.int) Pv (o.mpr #[g,none,rfl,s3,O,#[R,λx X=>s3 _ _<|F.tup x X],by rw[List.take_zero,Ni]])
  (λi σ C _ z=>by let#[_,_,_,_,z,_]:=o.mp z;exact bW.of z) ?_ ?_]
 .intro i x σ C hi Y;obtain⟨l,U,rfl,s4,Z,G,v⟩:=o.mp Y;obtain⟨n,q,rfl⟩:=gm hi;let#[r0,r1]:=hR n<|ax q;rw[aj]at r1;let#[y,hy]:∃y,g[n.toNat]?>y:=#[_,aq oM];let hym:=ax hy;lia;let hT:C y.1>.tup [.int y.2.1,.int y.2.2]:=s4 _ _<|F.tup y hym;let J:nj (g.map λx=>V.ref x.1) n>V.ref y.1:=at_of (j:=n.toNat) oM (by rw[ak,hy];rfl);refine#[_,bW.of<|s4 _ _ F.lst,_,J,_,rfl,_,f9.of hT,_,rfl,_,bW.of<|s4 _ _ F.lst,_,J,_,rfl,_,f9.of hT,_,rfl,dC,λp B=>?_];let L:d≠p:=cQ G.lst B;let hln:↑l=↑g:=by let e:=af ck v;delta yZ at e;simpa using e
  refine#[_,by rw[aH L];exact G.lst,n.toNat,?_,o.mpr #[l.set n.toNat (p,y.2.2,y.2.1),_,rfl,lay (lay s4<|s4.free B) hd,?_,#[?_,λx X=>?_],?_]]
  .delta Fm;rw[ac r0,ac (by rw[aj,hln];exact r1)]
  .rw[aH S,aH (cQ Z B)];exact Z
  .rw[au,e_]
  .obtain u|u:=gp X
   .let z:=G.tup x u;rw[aH (eI z G.lst<|by intro q;cases q),aH (cQ z B)];exact z
   .subst u;show upd _ d _ p=_;rw[aH L.symm,au]
  .rw[e_,v];apply cq;intro m;rw[d6,yc,yc];let tk:I.take (i+1)=I.take i++[n]:=by rw[aN,q];rfl
   let ey:(g.map (·.2))[n.toNat]?>y.2:=by rw[ak,hy];rfl
   rw[tk];by_cases hm:n.toNat=m
   .grind
   .grind
 .intro σ C Y;obtain⟨l,U,rfl,s4,Z,G,v⟩:=o.mp Y;rw[aj,br]at v;lia;exact k C d l s4 hd G v
end
structure MW(K:ao)(mg:Str->Option Value):Prop where
 MN:∃t,mg "LINE_FEED">.int 10 t
 Pd:∃t,mg "REMARK">.int 35 t
 aai:∃t,mg "ZERO">.int 48 t
 EJ:∃t,mg "LONGEST_NAME">.int 16 t
 zH:∃t,mg "GREATEST_NUMBER">.int 1000000000 t
 WD:∃t,mg "BLANKS">.ref t/\∀H,f9 K H t [.int 9,.int 10,.int 32]
section
variable{P:a7}{w:bS}{K:ao}{mg:Str->Option Value}{aD:Heap}
def pgr(hm:X.mg x>.ref a)(b:Gl X x:=by rfl)(hd:(x==("__debug__":Str))=false:=by decide):PE X (.Name x pos) (tC<|.ref a):=LZ b hm rfl hd
def z8(h:iW K mg "is_letter" zt f fd):Good P w K mg aD dO 1 "is_letter" ["byte"] (KF qJ):=by refine h.gd ["byte"] λa A outer s H vs Q E i j h=>?_;obtain⟨b,rfl,k⟩:=h;exists _,aC<|bC<|V6 (BY zf zf aV v0 aV) (Kc<|BY zf zf aV v0 aV);lia;delta qJ at k;by_cases c:97<=b<;>by_cases d:b<=122<;>by_cases e:65<=b<;>by_cases g:b<=90<;>simp[c,d,e,g]at k|-<;>first|exact k|omega
def C'(h:iW K mg "is_digit" B6 f fd):Good P w K mg aD dO 1 "is_digit" ["byte"] (KF ip):=by refine h.gd ["byte"] λa A outer s H vs Q E e g h=>?_;obtain⟨b,rfl,k⟩:=h;exists _,aC<|bC<|BY zf zf aV v0 aV;lia;delta ip at k;by_cases c:48<=b<;>by_cases d:b<=57<;>simp[c,d]at k|-<;>first|exact k|omega
def ma(h:∀b,bs[s]?>b->p b=false):ic p bs s=s:=by
 delta ic;cases q:bs[s]? with
 |none=>
  rw[rJ (fh.mp q)];rfl
 |some b=>
  let#[a,e]:=aP.mp q;rw[de a,eF,e,h b q];rfl
def wS(a:bs[s]?>b)(h:p b=true):ic p bs s=ic p bs (s+1):=by delta ic;let#[c,e]:=aP.mp a;rw[de c,eF,e,h];simp;omega
def pZ(h:s<=↑bs):s<=ic p bs s/\ic p bs s<=↑bs:=by delta ic;let:=(List.takeWhile_prefix (l:=bs.drop s) p).length_le;rw[cw]at this;omega
def Wq:Sp:=λvs H Q _=>∃a bs s,vs=[.ref a,.int (s:Nat)]/\H a>.lst (bs.map V.int)/\s<=↑bs/\Q (.int (ic (λb=>decide (b≠10)) bs s:Nat)) H
def Af(T:Txt K mg)(TT:MW K mg)(h:iW K mg "remark_end" xt f fd):Good P w K mg aD dO 1 "remark_end" ["text","start"] Wq:=by
 refine h.gd ["text","start","place"] λr A outer s H vs Q E l x h=>?_;obtain⟨a,bs,s0,rfl,n,u,k⟩:=h;exists _,(aw (st 2 l v1)
  (aw (jm aY (PW.pt<|yu (bG kz v2 (bO (ia K) rfl T.len dB (da v0)) (b9 _)) (ue<|bG LY (bM (j7 K) v0 v2 (λ_ _=>rfl)) (oY TT.MN) (b9 _))) (aC (qT (i:=2) l rfl (by first|exact lX rfl|exact mP rfl) aV sK)))
  (aC<|bC v2)))
 lia;let#[W,g]:=oh λm y H1=>∃s,m=↑bs-s/\s<=↑bs/\ic (λb=>decide<|b≠10) bs s0=ic (λb=>decide<|b≠10) bs s/\y=[~~~.ref a,some (.int (s0:Nat)),some (.int (s:Nat))]/\H1=H;exists W,#[_,g.mpr #[s0,rfl,u,rfl,rfl,rfl]];intro m y H1 hw;obtain⟨s,rfl,v,d,rfl,rfl⟩:=g.mp hw;lia;exists _,.inl<|bW.of n;rw[aj];cases q:bs[s]? with
 |none=>
  let o:↑bs<=s:=fh.mp q;refine(aa<|by simp;omega).mpr ?_;rw[d,ma (λb e=>by rw[q]at e;cases e)]at k;exact k
 |some b=>
  let o:=gl q;refine(ac<|ag oM).mpr #[_,bW.of n,V.int b,at_of (j:=s) rfl (by rw[ak,q];rfl),rfl,?_];by_cases e:b=10
  .refine(aa<|by simp[e]).mpr ?_;rw[d,ma (λc p=>by rw[q]at p;cases p;simp[e])]at k;exact k
  .refine(ac<|by simp[e]).mpr #[_,λ_ _ z=>z,?_];refine#[_,oM,g.mpr #[s+1,rfl,o,?_,?_,rfl]]
   .rw[d,wS q (by simp[e])]
   .simp
structure vS(P:a7)(w:bS)(K:ao)(mg:Str->Option Value)(aD:Heap)(C N f:Addr)(fd:ow):Prop where
 c:C2 K C N f
 F:j4 P w K mg aD dO 1 f fd ["self","code","place"] (yA C)
 b:Binds K fd ["self","code","place"] []
 mg:mg "Fault">.ref C
def OH(h:s<=e)(a:bs[e]?>b):yF bs s (e+1)=yF bs s e*10+b-48:=by
 delta yF;let c:e+1-s=(e-s)+1:=oM;let d:(bs.drop s)[e-s]?>b:=by rw[MQ,show s+(e-s)=e by omega];exact a
 rw[c,aN,d,d5];rfl
structure AV(C:Addr)(H:Hp)(x:Addr)(k v p b:V):Prop where
 at_:∃dx,H x>.ins C dx (OB k v p b)
def Rt(CT CF:Addr):Sp:=λvs H Q E=>∃a bs s,vs=[.ref a,.int (s:Nat)]/\H a>(.lst<|bs.map V.int)/\s<↑bs/\
 (if yF bs s (ic ip bs s)>1000000000\/(bs[s]?=some 48/\ic ip bs s-s>1)then lD CF H 2 s E
 else∀H' x,a8 H H'->H x=none->AV CT H' x (.str "number") (.int<|yF bs s<|ic ip bs s) (.int s) (.int (ic ip bs s:Nat))->Q (.ref x) H')
def wv(T:Txt K mg)(TT:MW K mg)(X:vS P w K mg aD o N fX VM)(l:GoodC P w K mg aD 1 "Token" r ["self","kind","value","place","behind"] (qY r))(h:iW K mg "number_token" tD f fd)
  (d:Good P w K mg aD dO 1 "is_digit" ["byte"] (KF ip)):Good P w K mg aD (nG P w o) 4 "number_token" ["text","place"] (Rt r o):=by
 refine h.JG ["text","place","behind","value"] λoz A outer s H vs Q E C u h=>?_;obtain⟨a,bs,s0,rfl,D,S,k⟩:=h;let hu:=ky u;exists _,(aw (st 2 C v1)
  (aw (st 3 C aV)
  (aw (jm eC (PW.pt<|yu (bG kz v2 (bO (ia K) rfl T.len dB (da v0)) (b9 _)) (ue<|HS<|p0 d u<|da<|bM (j7 K) v0 v2 (λ_ _=>rfl))) (aw (st 3 C<|fV qN (fV jL (fV QI v3 aV) (bM (j7 K) v0 v2 (λ_ _=>rfl))) (oY TT.aai))
  (aC (qT (i:=2) C rfl (by first|exact lX rfl|exact mP rfl) aV sK))))
  (aw (dI (PW.pt<|zm (bG om v3 (oY TT.zH) (b9 _)) (s_<|PW.pt<|yu (bG il (bM (j7 K) v0 v1 (λ_ _=>rfl)) (oY TT.aai) (b9 _)) (ue<|bG om (fV qN v2 v1) aV (b9 _)))) (aC (jl (E:=E) X.c u.hd (jk X.c X.F (u.mono dC) rfl X.mg X.b dC (ir aV v1)) (λ_ _ _ _ _ _=>jn))) cg)
  (aC<|bC<|Us l (u.mono dC) (J5 fM v3 v1 v2))))))
 lia;generalize hN:KU (RW _ _ _) _ _=NX;let#[W,J]:=oh λm σ H1=>∃s,m=↑bs-s/\s0<=s/\s<=↑bs/\ic ip bs s0=ic ip bs s/\σ=[~~~.ref a,some (.int (s0:Nat)),some (.int (s:Nat)),some (.int<|yF bs s0 s)]/\H1=H;exists W,#[_,J.mpr #[s0,rfl,aI _,fN S,rfl,?_,rfl]]
 .delta yF;simp
 intro m σ H1 hw;obtain⟨s,rfl,L,ZK,n,rfl,rfl⟩:=J.mp hw;let#[G,M]:∃G,bs[s0]?>G:=#[_,aq S];let fin:ic ip bs s0=s->NX [~~~.ref a,some (.int (s0:Nat)),some (.int (s:Nat)),some (.int<|yF bs s0 s)] H1:=λer=>by
  rw[<-hN];rw[er]at k;let rz:lD o H1 2 s0 E->∀e,H1 e=none->yA o [.ref e,.int 2,.int s0] (upd H1 e<|yw e o) (λv I=>v=.fP/\∃g,I e>oa e o g/\E (.ref o) (some g) (upd I e<|pQ e o g)) L2.E0:=λfe=>
   GX λe g he p y=>fe _ g (lay (lay0 p) he) (by rw[aH y,au])
  let mk:(∀O x,a8 H1 O->H1 x=none->AV r O x (.str "number") (.int<|yF bs s0 s) (.int s0) (.int (s:Nat))->Q (.ref x) O)->∀x g,H1 x=none->H1 g=none->g≠x->
    qY r [.ref x,.str<|eK "number",.int<|yF bs s0 s,.int s0,.int s] (upd (upd H1 g<|.own x) x (.ins r g [])) (λv I=>v=.fP/\Q (.ref x) I) L2.E0:=λkk x g R p y=>
   #[x,g,_,_,_,_,rfl,au,rfl,kk _ x (lay (lay (lay0 p) R) R) R #[g,au]]
  lia;by_cases h1:yF bs s0 s>1000000000
  .grind
  .refine(aa<|by simp;omega).mpr #[_,bW.of D,V.int G,at_of (j:=s0) rfl (by rw[ak,M];rfl),rfl,?_];by_cases h2:G=48
   .grind
   .grind
 lia;exists _,.inl<|bW.of D;rw[aj];cases q:bs[s]? with
 |none=>
  let U:↑bs<=s:=fh.mp q;refine(aa<|by simp;omega).mpr ?_;exact fin (by rw[n];exact ma λb Y=>by rw[q]at Y;cases Y)
 |some b=>
  let U:=gl q;refine(ac<|ag oM).mpr #[_,bW.of D,V.int b,at_of (j:=s) rfl (by rw[ak,q];rfl),b,rfl,_,rfl,?_];by_cases hd:ip b=true
  .rw[hd];refine rR #[_,λ_ _ z=>z,?_];refine#[.inr #[dC,dC],_,bW.of D,V.int b,at_of (j:=s) rfl (by rw[ak,q];rfl),b,rfl,_,?_,J.mpr #[s+1,rfl,oM,U,?_,?_,rfl]]
   .omega
   .rw[n,wS q hd]
   .rw[OH L q];simp
  .let B:ip b=false:=by simpa using hd
   rw[B];exact wD (fin<|by rw[n];exact ma λc Z=>by rw[q]at Z;cases Z;exact B)
def wT(a:bs[s]?>b)(h:p b=true):s<ic p bs s:=by rw[wS a h];let c:=gl a;let:=(pZ (p:=p) (bs:=bs) (s:=s+1) c).1;omega
def qX(bs):∀n m s,s<=↑bs->↑bs-s<n->↑bs-s<m->lm bs n s=lm bs m s
 |0,_,_,_,h,_=>oM
 |_,0,_,_,_,h=>oM
 |n+1,m+1,s,d,g,i=>by
  delta lm;cases q:bs[s]? with
  |none=>rfl
  |some b=>
   let e:=gl q;show(if b=35 then _ else _)=if b=35 then _ else _;by_cases a:b=35
   .rw[ac a,ac a];let z:=wT (p:=λb=>decide<|b≠10) q (by simp[a]);let f:=(pZ (p:=λb=>decide<|b≠10) d).2;exact qX bs n m _ f oM oM
   .rw[aa a,aa a];by_cases c:k6 b=true
    .rw[ac c,ac c];exact qX bs n m _ e oM oM
    .grind
def Kz(h:bs[s]?=none):ie bs s=s:=by delta ie lm;rw[h]
def KA(h:bs[s]?=some 35):ie bs s=ie bs (ic (λb=>decide<|b≠10) bs s):=by
 let a:=gl h;let z:=wT (p:=λb=>decide<|b≠10) h dC;let c:=(pZ (p:=λb=>decide<|b≠10) (fN a)).2;conv=>lhs;unfold ie lm
 rw[h];show(if(35:Int)=35 then _ else _)=_;rw[ac rfl];exact qX bs _ _ _ c oM oM
def Ky(h:bs[s]?>b)(a:b≠35)(c:k6 b=true):ie bs s=ie bs (s+1):=by
 let d:=gl h;conv=>lhs;unfold ie lm
 rw[h];show(if b=35 then _ else _)=_;rw[aa a,ac c];exact qX bs _ _ _ d oM oM
def Ij(h:bs[s]?>b)(a:b≠35)(c:k6 b=false):ie bs s=s:=by delta ie lm;rw[h];show(if b=35 then _ else _)=_;rw[aa a,aa (by rw[c];decide)]
def Rz:Sp:=λvs H Q _=>∃a bs s,vs=[.ref a,.int (s:Nat)]/\H a>(.lst<|bs.map V.int)/\s<=↑bs/\Q (.int (ie bs s:Nat)) H
def Nu(T:Txt K mg)(TT:MW K mg)(h:iW K mg "skip" Q_ f fd)(c:Good P w K mg aD dO 1 "remark_end" ["text","start"] Wq):Good P w K mg aD dO 2 "skip" ["text","start"] Rz:=by
 refine h.gd ["text","start","place"] λC A outer s H vs Q E u D h=>?_;obtain⟨a,bs,s0,rfl,g,F,k⟩:=h;let#[N,v,x]:=TT.WD;exists _,(aw (st 2 u v1)
  (aw (jm aY (PW.pt<|yu (bG kz v2 (bO (ia K) rfl T.len dB (da v0)) (b9 _)) (ue<|PW.pt<|zm (bG (inS K) (bM (j7 K) v0 v2 (λ_ _=>rfl)) (pgr v) (by with_unfolding_all rfl)) (s_<|bG il (bM (j7 K) v0 v2 (λ_ _=>rfl)) (oY TT.Pd) (b9 _)))) (aC<|dI (bG il (bM (j7 K) v0 v2 (λ_ _=>rfl)) (oY TT.Pd) (b9 _)) (aC<|st 2 u<|p0 c D<|ir v0 v2) (aC (qT (i:=2) u rfl (by first|exact lX rfl|exact mP rfl) aV sK))))
  (aC<|bC v2)))
 lia;let#[W,o]:=oh λm O H1=>∃s,m=↑bs-s/\s<=↑bs/\ie bs s0=ie bs s/\O=[~~~.ref a,some (.int (s0:Nat)),some (.int (s:Nat))]/\H1=H;exists W,#[_,o.mpr #[s0,rfl,F,rfl,rfl,rfl]];intro m O H1 hw;obtain⟨s,rfl,n,d,rfl,rfl⟩:=o.mp hw;lia;exists _,.inl<|bW.of g;rw[aj];cases q:bs[s]? with
 |none=>
  let B:↑bs<=s:=fh.mp q;refine(aa<|by simp;omega).mpr ?_;rw[d,Kz q]at k;exact k
 |some b=>
  let B:=gl q;let r:nj (bs.map V.int) (s:Int)>V.int b:=at_of (j:=s) rfl (by rw[ak,q];rfl);let G:SM (V.int b) [V.int 9,V.int 10,V.int 32]=k6 b:=by let:=wB b [9,10,32];simp only[bb,jh]at this;rw[this];delta k6;by_cases I:b=9<;>by_cases J:b=10<;>by_cases L:b=32<;>simp[I,J,L]
  refine(ac<|ag oM).mpr #[_,bW.of g,V.int b,r,_,.inr<|x H1,rfl,rfl,?_];rw[G];by_cases l:k6 b=true
  .let e:b≠35:=λz=>by rw[z]at l;revert l;decide
   refine(ac l).mpr #[_,λ_ _ z=>z,_,bW.of g,V.int b,r,rfl,(aa<|by simp[e]).mpr #[_,?_,o.mpr #[s+1,rfl,B,by rw[d,Ky q e l],sP,rfl]]];omega
  .let y:k6 b=false:=by simpa using l
   refine(aa l).mpr #[_,bW.of g,V.int b,r,rfl,?_];by_cases e:b=35
   .subst e;let z:=wT (p:=λb=>decide<|b≠10) q dC;let M:=(pZ (p:=λb=>decide<|b≠10) n).2;refine(ac sP).mpr #[_,λ_ _ z=>z,_,bW.of g,V.int 35,r,rfl,(ac sP).mpr #[a,bs,s,rfl,g,n,_,?_,o.mpr #[_,rfl,M,by rw[d,KA q],rfl,rfl]]];omega
   .refine(aa<|by simp[e]).mpr ?_;rw[d,Ij q e y]at k;exact k
def ek(z:Str):List Int:=z.cps.toList.map λ(c:Nat)=>(c:Int)
def ua{l:List Int}(h:bW K H a (l.map V.int)):Dp K H (.ref a) (.list<|l.map iK):=by
 refine .lst h ?_;clear h;induction l with
 |nil=>exact .nil
 |cons i l ih=>exact .cons (.int i) ih
def lay_ints(l:List Int):Lh (l.map iK)=true/\OP (l.map iK)<=1:=by
 induction l with
 |nil=>exact#[rfl,cP _]
 |cons i l a=>
  rw[bb];exists ?_
  .delta Lh;rw[a.1];rfl
  .delta OP;let:vR (.int i)<=1:=by simp[vR]
   omega
def shaped_ints(l:List Int):gL (.list<|l.map iK)=true:=by let#[a,b]:=lay_ints l;delta gL;rw[b_,decide_eq_true_iff];exists a;delta vR;omega
def sy:∀l m:List Int,pk (l.map iK) (m.map iK)=decide (l=m)
 |[],[]=>by simp[pk]
 |[],b::m=>by simp[pk]
 |a::l,[]=>by simp[pk]
 |a::l,b::m=>by rw[bb,bb];delta pk;rw[sy l m,b7];simp[nV]
def Bh(l m:List Int):nV (.list<|l.map iK) (.list<|m.map iK)=decide (l=m):=by delta nV;exact sy l m
def xB:Sp:=λvs H Q _=>∃z,vs=[.str z]/\z.cps.size<=1000/\∀H' r,a8 H H'->H r=none->H' r>(.lst<|(ek z).map V.int)->Q (.ref r) H'
def JI(T:Txt K mg)(h:iW K mg "codes" Mj f fd):Good P w K mg aD dO 1 "codes" ["written"] xB:=by
 refine h.gd ["written","sign"] λo A outer s H vs Q E l q h=>?_;obtain⟨z,rfl,hz,k⟩:=h;exists _,(aC (bC (oW rfl l (Yb v0) (pz [("sign",1)]) (λ_ _ _ _ _=>(pn 1 l)) (λ_ _ _ _ _=>jX) (λ_ _ _ _ _=>(bO Py rfl T.ord W1 (da v1))))));show RX _ _ _ _ [1] [~~~V.str z,none] H Q;refine#[_,rfl,z,rfl,λD e=>?_];let#[p,a]:=Ft λm b=>a8 H b/\b D>.lst (((ek z).take m).map V.int);refine XN p (a.mpr #[lay0 e,au]) ?_ ?_
 .intro i c b n g;let#[s4,d]:=a.mp g;let r:=(cY.mp n).1;lia;refine#[rfl,_,d,?_,a.mpr #[lay s4 e,?_]]
  .rw[aj,bN,aK];omega
  .rw[au];let j:(ek z)[i]?>(c:Int):=by delta ek;rw[ak,dv,n];rfl
   rw[aN,j,aJ];rfl
 .intro b g;let#[s4,d]:=a.mp g;let j:(ek z).take z.cps.size=ek z:=cz (by delta ek;simp);rw[j]at d;exact k b D s4 e d
open VadiBase in
def kindS:u9->Str
 |.name b=>if b=word "box" then"box" else if b=word "edge" then"edge" else if b=word "above" then"above" else if b=word "group" then"group" else"name"
 |.num _=>"number"
 |.sign c=>if c=123 then"{" else if c=125 then"}" else if c=59 then";" else if c=58 then":" else if c=256 then"->" else"?"
 |.last=>"end"
open VadiBase in
def uF (H:Hp):u9->V->Prop
 |.name b,v=>if RESERVED.contains b=true then v=.fP else∃a,v=.ref a/\H a>.tup ((ff b).map V.int)
 |.num n,v=>v=.int n
 |_,v=>v=.fP
open VadiBase in
def nY (C:Addr) (H:Hp) (x:Addr) (t:u9) (p q:Nat):Prop:=∃v,AV C H x (.str (kindS t)) v (.int p) (.int q)/\uF H t v
open VadiBase in
def Ep (CT CF:Addr) (pre:UInt8->Prop):Sp:=λvs H Q E=>∃(a:Addr)(b:Bytes)(s:Nat)(c:UInt8),vs=[.ref a,.int (s:Nat)]/\H a>.lst ((ff b).map V.int)/\b[s]?>c/\↑b<=4096/\pre c/\
 match token (b.drop s)with
 |none=>lD CF H 2 s E
 |some x=>∀(H':Hp)(r:Addr),a8 H H'->H r=none->nY CT H' r x.1 s (s+x.2)->Q (.ref r) H'
def sx:ek "box"=ff (bn "box")/\ek "edge"=ff (bn "edge")/\ek "above"=ff (bn "above")/\ek "group"=ff (bn "group"):=dK
def Lq(b)(s e:Nat)(hs:s<=↑b)(he:s<=e):rN ((ff b).map V.int) (some (s:Int)) (some (e:Int))=(ff<|(b.drop s).take (e-s)).map V.int:=by
 delta rN;rw[HT.uh,HT.uh,aj,dU,iJ hs,HD,BL,iQ,mI];obtain c|c:=IJ e ↑b
 .grind
 .rw[Sy c,cz<|by rw[cw,aj,dU];exact aI _,cz (by rw[cw,aj,dU];omega)]
def qW:List Str:=["{","}",";",":","->"]
def Vj(j:Nat):u9:=.sign ([123,125,59,58,256].getD j 0)
def Kx:∀j z,qW[j]?>z->kindS (Vj j)=z/\↑z=z.cps.size/\z.cps.size<=2/\↑(ek z)=z.cps.size
 |0,z,h=>by injection h with h;subst h;decide+kernel
 |1,z,h=>by injection h with h;subst h;decide+kernel
 |2,z,h=>by injection h with h;subst h;decide+kernel
 |3,z,h=>by injection h with h;subst h;decide+kernel
 |4,z,h=>by injection h with h;subst h;decide+kernel
 |j+5,z,h=>by simp[qW]at h
def Kw:ek "{"=[123]/\ek "}"=[125]/\ek ";"=[59]/\ek ":"=[58]/\ek "->"=[45,62]:=dK
def Cd:("{":Str).cps.size=1/\("}":Str).cps.size=1/\(";":Str).cps.size=1/\(":":Str).cps.size=1/\("->":Str).cps.size=2:=dK
def Cc:∀(j:Nat) z,qW[j]?>z->(ff ((c::r).take z.cps.size)=ek z↔(match j with|0=>c.toNat=123|1=>c.toNat=125|2=>c.toNat=59|3=>c.toNat=58|_=>c.toNat=45/\(r.head?.map λx=>x.toNat)=some 62)):=by
 let#[a,b,e,f,g]:=Kw;let#[i,l,m,n,o]:=Cd;intro j z h;match j,h with
 |0,h=>injection h with h;subst h;rw[a,i];simp[ff];omega
 |1,h=>injection h with h;subst h;rw[b,l];simp[ff];omega
 |2,h=>injection h with h;subst h;rw[e,m];simp[ff];omega
 |3,h=>injection h with h;subst h;rw[f,n];simp[ff];omega
 |4,h=>
  injection h with h;subst h;rw[g,o];cases r with
  |nil=>simp[ff]
  |cons d r=>simp[ff];omega
 |j+5,h=>simp[qW]at h
def Rc(a:dg c=false)(b:cf c=false)(h:qW[j]?>z)(hm:ff ((c::r).take z.cps.size)=ek z):jC (c::r)>(Vj j,z.cps.size):=by
 let m:=(Cc (c:=c) (r:=r) j z h).mp hm;let#[d,e,f,g,i]:=Cd;rw[Cu a b];match j,h,m with
 |0,h,m=>injection h with h;subst h;let m:c.toNat=123:=m;rw[d,ac m];rfl
 |1,h,m=>injection h with h;subst h;let m:c.toNat=125:=m;rw[e,aa oM,ac m];rfl
 |2,h,m=>injection h with h;subst h;let m:c.toNat=59:=m;rw[f,aa oM,aa oM,ac m];rfl
 |3,h,m=>injection h with h;subst h;let m:c.toNat=58:=m;rw[g,aa oM,aa oM,aa oM,ac m];rfl
 |4,h,m=>injection h with h;subst h;let m:c.toNat=45/\(r.head?.map λx=>x.toNat)=some 62:=m;rw[i,aa oM,aa oM,aa oM,aa oM,ac m];rfl
 |j+5,h,m=>simp[qW]at h
def Oi(a:dg c=false)(b:cf c=false)(h:∀j z,j<5->qW[j]?>z->ff ((c::r).take z.cps.size)≠ek z):jC (c::r)=none:=by rw[Cu a b];let m:=λj z d hz=>(not_congr (Cc (c:=c) (r:=r) j z hz)).mp (h j z d hz);let m0:¬c.toNat=123:=m 0 _ oM rfl;let e:¬c.toNat=125:=m 1 _ oM rfl;let f:¬c.toNat=59:=m 2 _ oM rfl;let g:¬c.toNat=58:=m 3 _ oM rfl;let i:¬(c.toNat=45/\(r.head?.map λx=>x.toNat)=some 62):=m 4 _ oM rfl;rw[aa m0,aa e,aa f,aa g,aa i]
def Qz{Q:VK}(g:∀c x,a8 H1 c->H1 x=none->AV f c x k v p b->Q (.ref x) c):∀x a,H1 x=none->H1 a=none->a≠x->
  qY f [.ref x,k,v,p,b] (upd (upd H1 a<|.own x) x (.ins f a [])) (λv h=>v=.fP/\Q (.ref x) h) L2.E0:=λx a d e i=>
 #[x,a,_,_,_,_,rfl,au,rfl,g _ x (lay (lay (lay0 e) d) d) d #[a,au]]
def ot(h:lD a H1 c p E):∀e,H1 e=none->yA a [.ref e,.int c,.int p] (upd H1 e<|yw e a) (λv g=>v=.fP/\∃b,g e>oa e a b/\E (.ref a) (some b) (upd g e<|pQ e a b)) L2.E0:=
 GX λe b he d f=>h _ b (lay (lay0 d) he) (by rw[aH f,au])
def lD.mono(a:lD b H c p E)(s:a8 H H1):lD b H1 c p E:=λd f g e=>a d f (s.trans g) e
def Ag(T:Txt K mg)(TT:MW K mg)(U:qy K mg)(X:vS P w K mg aD CF N fX VM)(Ar:GoodC P w K mg aD 1 "Token" CT ["self","kind","value","place","behind"] (qY CT))(h:iW K mg "sign_token" xu f fd)
  (TF:Good P w K mg aD dO 1 "codes" ["written"] xB):Good P w K mg aD (nG P w CF) 4 "sign_token" ["text","place"] (Ep CT CF λc=>dg c=false/\cf c=false):=by
 refine h.JG ["text","place","sign","behind"] λoz A outer s H vs Q E nd hr h=>?_;obtain⟨a,b,s0,c,rfl,hA,hc,hb,⟨NA,ZE⟩,k⟩:=h;let hu:=ky hr;let#[Tq,TJ,Mh]:=U.SIGNS;exists _,(aw (dM eC rfl (piT K<|pgr TJ) (pn 2 nd) (aw (st 3 nd<|fV jL v1<|bO E3 rfl T.len dB<|da v2)
  (aC<|dI (bG (eqD K hr.units) (oo (YC K) v0 (lh v1) (lh v3)) (p0 TF hr<|da v2) (b9 _)) (aC<|bC<|Us Ar (hr.mono dC) (J5 v2 sX v1 v3)) cg)))
  (aC (jl (E:=E) X.c hr.hd (jk X.c X.F (hr.mono dC) rfl X.mg X.b dC (ir aV v1)) (λ_ _ _ _ _ _=>jn))))
 let#[hs0,ec]:=aP.mp hc;let hd:b.drop s0=c::b.drop (s0+1):=by rw[<-ec];exact de hs0
 let#[Pv,TH]:=oh λi d H1=>∃x2 x3,d=[~~~.ref a,some (.int (s0:Nat)),x2,x3]/\a8 H H1/\∀j z,j<i->qW[j]?>z->ff ((b.drop s0).take z.cps.size)≠ek z;lia;refine#[Tq,rfl,#[_,Mh _],wm (xs:=qW.map V.str) Pv (TH.mpr #[none,none,rfl,a8.refl _,λj z h=>oM]) (λ_ _ _ _ _=>Mh _) ?_ ?_]
 .intro i x d H1 hi hp;obtain⟨x2,x3,rfl,s1,VW⟩:=TH.mp hp;obtain⟨z,q,rfl⟩:=gm hi;let#[f1,f2,f3,f4]:=Kx i z q;lia;let e1:((s0:Nat):Int)+((↑z:Nat):Int)=((s0+z.cps.size:Nat):Int):=by rw[f2];omega
  rw[e1];refine#[by rw[f2,aK];omega,_,bW.of<|s1 _ _ hA,λp1 Qi=>?_];rw[Lq b s0 (s0+z.cps.size) oM oM,rh];refine#[z,rfl,oM,λH2 r2 s2 TQ h2=>?_];let ad8:=s2 p1 _ au;exists _,ua<|bW.of ad8,_,ua<|bW.of h2,shaped_ints _,shaped_ints _;let s3:a8 H H2:=(lay s1<|by
   cases qq:H p1 with
   |none=>rfl
   |some o=>have:=s1 p1 o qq;rw[Qi]at this;cases this).trans s2
  rw[Bh];by_cases hm:ff ((b.drop s0).take z.cps.size)=ek z
  .refine(ac<|ag hm).mpr (Qz λH' r s4 hr4 ht=>?_);rw[hd]at hm k;rw[Rc NA ZE q hm]at k;refine k H' r (s3.trans s4) ?_ #[.fP,?_,?_]
   .cases qq:H r with
    |none=>rfl
    |some o=>have:=s3 r o qq;rw[hr4]at this;cases this
   .rw[f1];exact ht
   .show uF H' (Vj i) V.fP;delta Vj;rfl
  .grind
 .intro d H1 hp;obtain⟨x2,x3,rfl,s1,VW⟩:=TH.mp hp;lia;rw[hd]at k VW;rw[Oi NA ZE λj z hj hz=>VW j z hj hz]at k;exact ot (k.mono s1)
def bh(s:a8 H H1)(h:H1 r=none):H r=none:=by
 cases q:H r with
 |none=>rfl
 |some o=>have:=s r o q;rw[h]at this;cases this
def uF.res(h:bI.contains b=true):uF H (.name b) .fP:=by show(if bI.contains b=true then _ else _);rw[ac h]
theorem uF.name(h:bI.contains b=false)(e:H a>(.tup<|(ff b).map V.int)):uF H (.name b) (.ref a):=by show(if bI.contains b=true then _ else _);rw[aa (by rw[h];simp)];exact#[a,rfl,e]
def K7:List Str:=["box","edge","above","group"]
def EE(j:Nat):fZ:=[bn "box",bn "edge",bn "above",bn "group"].getD j []
def K6:∀j z,K7[j]?>z->ek z=ff (EE j)/\z.cps.size<=10/\kindS (.name<|EE j)=z/\bI.contains (EE j)=true
 |0,z,h=>by injection h with h;subst h;decide+kernel
 |1,z,h=>by injection h with h;subst h;decide+kernel
 |2,z,h=>by injection h with h;subst h;decide+kernel
 |3,z,h=>by injection h with h;subst h;decide+kernel
 |j+4,z,h=>by simp[K7]at h
def T'(h:∀j,j<4->b≠EE j):kindS (.name b)="name"/\bI.contains b=false:=by
 let h0:b≠bn "box":=h 0 oM;let a:b≠bn "edge":=h 1 oM;let c:b≠bn "above":=h 2 oM;let d:b≠bn "group":=h 3 oM;constructor
 .simp only[kindS,aa h0,aa a,aa c,aa d]
 .rw[<-i3,bB];delta bI;simp[h0,a,c,d]
def nameP(b:Int):Bool:=qJ b||ip b
def QB(c:UInt8):nameP (c.toNat:Int)=(dg c||cf c):=by delta nameP;rw[Hc,wC]
def Ab(T:Txt K mg)(TT:MW K mg)(U:qy K mg)(X:vS P w K mg aD CF N fX VM)(g:GoodC P w K mg aD 1 "Token" CT ["self","kind","value","place","behind"] (qY CT))(h:iW K mg "name_token" xj f fd)
  (u:Good P w K mg aD dO 1 "codes" ["written"] xB)(e:Good P w K mg aD dO 1 "is_letter" ["byte"] (KF qJ))(n:Good P w K mg aD dO 1 "is_digit" ["byte"] (KF ip)):
  Good P w K mg aD (nG P w CF) 4 "name_token" ["text","place"] (Ep CT CF λc=>dg c=true):=by
 refine h.JG ["text","place","behind","name","word"] λoz A outer s H vs Q E nd D h=>?_;obtain⟨a,b,s0,c,rfl,hA,hc,hb,NA,k⟩:=h;let hu:=ky D;let#[v,y,o]:=U.aah;let#[O,ec]:=aP.mp hc;let hd:b.drop s0=c::b.drop (s0+1):=by rw[<-ec];exact de O
 let B:ic nameP (ff b) s0=s0+↑((b.drop s0).takeWhile λc=>dg c||cf c):=ug nameP _ QB b s0;let k2:jC (b.drop s0)=if 16<↑((b.drop s0).takeWhile λc=>dg c||cf c)then none else some (.name<|(b.drop s0).takeWhile λc=>dg c||cf c,↑((b.drop s0).takeWhile λc=>dg c||cf c)):=by rw[hd];exact IB NA
 let R:(b.drop s0).take ↑((b.drop s0).takeWhile λc=>dg c||cf c)=(b.drop s0).takeWhile λc=>dg c||cf c:=tP _ _;generalize((b.drop s0).takeWhile λc=>dg c||cf c)=p at B k2 R;exists _,(aw (st 2 nd v1)
  (aw (jm eC (PW.pt<|yu (bG kz v2 (bO (ia K) rfl T.len dB (da v0)) (b9 _)) (ue<|PW.pt<|zm (HS<|p0 e D<|da<|bM (j7 K) v0 v2 (λ_ _=>rfl)) (s_<|HS<|p0 n D<|da<|bM (j7 K) v0 v2 (λ_ _=>rfl)))) (aC (qT (i:=2) nd rfl (by first|exact lX rfl|exact mP rfl) aV sK)))
  (aw (dI (bG om (fV qN v2 v1) (oY TT.EJ) (b9 _)) (aC (jl (E:=E) X.c D.hd (jk X.c X.F (D.mono dC) rfl X.mg X.b dC (ir aV v1)) (λ_ _ _ _ _ _=>jn))) cg)
  (aw (st 3 nd<|oo (YC K) v0 (lh v1) (lh v2))
  (aw (dM eC rfl (piT K<|pgr y) (pn 4 nd) (aC<|dI (bG (eqD K D.units) v3 (p0 u D<|da v4) (b9 _)) (aC<|bC<|Us g (D.mono dC) (J5 v4 sX v1 v2)) cg))
  (aC<|bC<|Us g (D.mono dC) (J5 fM (dL (acq K) rfl T.tuple Ps (da v3)) v1 v2)))))))
 lia;generalize hN:KU (RW _ _ _) _ _=NX;let#[W,hW]:=oh λm σ H1=>∃s,m=↑b-s/\s0<=s/\s<=↑b/\ic nameP (ff b) s0=ic nameP (ff b) s/\σ=[~~~.ref a,some (.int (s0:Nat)),some (.int (s:Nat)),none,none]/\H1=H;exists W,#[_,hW.mpr #[s0,rfl,aI _,fN O,rfl,rfl,rfl]];intro m σ H1 hw;obtain⟨s,rfl,hs1,ZK,C,rfl,rfl⟩:=hW.mp hw;let fin:ic nameP (ff b) s0=s->NX [~~~.ref a,some (.int (s0:Nat)),some (.int (s:Nat)),none,none] H1:=λer=>by
  rw[<-hN];let es:s=s0+↑p:=by rw[<-er,B]
  rw[k2]at k;lia;by_cases S:16<↑p
  .rw[ac S]at k;exact(ac<|ag oM).mpr (ot k)
  .rw[aa S]at k;refine(aa<|by simp;omega).mpr #[_,bW.of hA,λp1 Qi=>?_];rw[Lq b s0 s oM oM,es,rh,R];rw[<-es];let#[Pv,G]:=oh λi σ Y=>∃x4,σ=[~~~.ref a,some (.int (s0:Nat)),some (.int (s:Nat)),~~~.ref p1,x4]/\a8 H1 Y/\Y p1>(.lst<|(ff p).map V.int)/\∀j,j<i->p≠EE j;refine#[v,rfl,#[_,o _],wm (xs:=K7.map V.str) Pv (G.mpr #[none,rfl,lay0 Qi,au,λj h=>oM]) (λ_ _ _ _ _=>o _) ?_ ?_]
   .intro i x σ Y hi Z;obtain⟨x4,rfl,s2,I,VW⟩:=G.mp Z;obtain⟨z,q,rfl⟩:=gm hi;let#[f1,f2,f3,f4]:=K6 i z q;lia;refine#[z,rfl,oM,λH3 r3 s3 hr3 h3=>?_];exists _,ua<|bW.of<|s3 _ _ I,_,ua<|bW.of h3,shaped_ints _,shaped_ints _;rw[Bh,f1];let s4:=s2.trans s3;by_cases hm:p=EE i
    .refine(ac<|ag<|by rw[hm]).mpr (Qz λM r s5 J ht=>?_);refine k M r (s4.trans s5) (bh s4 J) #[.fP,?_,?_]
     .show AV CT M r (.str<|kindS<|.name p) .fP (.int s0) (.int ((s0+↑p:Nat):Int));rw[<-es,hm,f3];exact ht
     .show uF M (.name p) .fP;rw[hm];exact .res f4
    .refine(aa<|by simp only[decide_eq_true_eq];exact λz=>hm<|Fw z).mpr (G.mpr #[~~~.str z,rfl,s4,s3 _ _ I,λj hj=>?_]);by_cases ej:j=i
     .subst ej;exact hm
     .grind
   .intro σ Y Z;obtain⟨x4,rfl,s2,I,VW⟩:=G.mp Z;let#[g1,g2]:=T' (b:=p) λj hj=>VW j hj;lia;refine#[_,.inl #[bW.of I,λl hl=>Qz λM r s5 J ht=>?_]];let s6:a8 H1 (upd Y l<|.tup<|(ff p).map V.int):=lay s2<|bh s2 hl;refine k M r (s6.trans s5) (bh s6 J) #[.ref l,?_,?_]
    .show AV CT M r (.str<|kindS<|.name p) (.ref l) (.int s0) (.int ((s0+↑p:Nat):Int));rw[g1,<-es];exact ht
    .exact .name g2 (s5 _ _ au)
 lia;exists _,.inl<|bW.of hA;rw[aj,dU];cases q:b[s]? with
 |none=>
  let hl:↑b<=s:=fh.mp q;refine(aa<|by simp;omega).mpr ?_;exact fin (by rw[C];exact ma λx hx=>by rw[wM,q]at hx;cases hx)
 |some d=>
  let hl:=gl q;let qi:(ff b)[s]?>(d.toNat:Int):=by rw[wM,q];rfl
  let ha:nj ((ff b).map V.int) (s:Int)>V.int (d.toNat:Int):=at_of (j:=s) rfl (by rw[ak,qi];rfl);let go:nameP (d.toNat:Int)=true->W (↑b-(s+1)) [~~~.ref a,some (.int (s0:Nat)),some (.int ((s:Nat)+1:Int)),none,none] H1:=λZ=>hW.mpr #[s+1,rfl,oM,hl,by rw[C,wS qi Z],sP,rfl];refine(ac<|ag oM).mpr #[_,bW.of hA,_,ha,_,rfl,_,rfl,?_];by_cases h1:qJ (d.toNat:Int)=true
  .rw[h1];refine rR #[_,λ_ _ z=>z,_,?_,go<|by delta nameP;rw[h1];rfl];omega
  .let L:qJ (d.toNat:Int)=false:=by simpa using h1
   rw[L];refine wD #[_,bW.of hA,_,ha,_,rfl,_,rfl,?_];by_cases I:ip (d.toNat:Int)=true
   .rw[I];refine rR #[_,λ_ _ z=>z,_,?_,go<|by delta nameP;rw[I,L];rfl];omega
   .let Xh:ip (d.toNat:Int)=false:=by simpa using I
    rw[Xh];exact wD (fin<|by rw[C];exact ma λx hx=>by rw[qi]at hx;cases hx;delta nameP;rw[L,Xh];rfl)
def Dc(h:iW K mg "token_at" B9 f fd)(GZ:Good P w K mg aD dO 1 "is_letter" ["byte"] (KF qJ))(JE:Good P w K mg aD dO 1 "is_digit" ["byte"] (KF ip))
  (Fd:Good P w K mg aD (nG P w CF) 4 "name_token" ["text","place"] (Ep CT CF λc=>dg c=true))(Bk:Good P w K mg aD (nG P w CF) 4 "number_token" ["text","place"] (Rt CT CF))
  (Fe:Good P w K mg aD (nG P w CF) 4 "sign_token" ["text","place"] (Ep CT CF λc=>dg c=false/\cf c=false)):
  Good P w K mg aD (nG P w CF) 5 "token_at" ["text","place"] (Ep CT CF λ_=>True):=by
 refine h.JG ["text","place"] λoz A outer s H vs Q E nd hr h=>?_;obtain⟨a,b,s0,c,rfl,hA,hc,hb,-,k⟩:=h;let qi:(ff b)[s0]?>(c.toNat:Int):=by rw[wM,hc];rfl
 let ha:nj ((ff b).map V.int) (s0:Int)>V.int (c.toNat:Int):=at_of (j:=s0) rfl (by rw[ak,qi];rfl);let#[hs0,ec]:=aP.mp hc;let hd:b.drop s0=c::b.drop (s0+1):=by rw[<-ec];exact de hs0
 exists _,(aw (dI (HS<|p0 GZ hr<|da<|bM (j7 K) v0 v1 (λ_ _=>rfl)) (aC (bC (pc Fd (hr.mono dC) (E:=E) fL (ir v0 v1)))) cg)
  (aw (dI (HS<|p0 JE hr<|da<|bM (j7 K) v0 v1 (λ_ _=>rfl)) (aC (bC (pc Bk (hr.mono dC) (E:=E) fL (ir v0 v1)))) cg)
  (aC (bC (pc Fe (hr.mono dC) (E:=E) fL (ir v0 v1))))))
 lia;exists _,bW.of hA,_,ha,_,rfl,_,rfl;rw[Hc];by_cases h1:dg c=true
 .rw[h1];exact rR #[a,b,s0,c,rfl,hA,hc,hb,h1,k]
 .let h1':dg c=false:=by simpa using h1
  rw[h1'];refine wD #[_,bW.of hA,_,ha,_,rfl,_,rfl,?_];rw[wC];by_cases h2:cf c=true
  .rw[h2];refine rR #[a,ff b,s0,rfl,hA,by rw[dU];exact hs0,?_];rw[hd,MH h1' h2]at k;rw[Si,ug ip cf wC,hd];let e1:((((vT ((c::b.drop (s0+1)).takeWhile cf):Nat):Int)>1000000000)\/((ff b)[s0]?=some 48/\s0+↑((c::b.drop (s0+1)).takeWhile cf)-s0>1))↔(vT ((c::b.drop (s0+1)).takeWhile cf)>1000000000\/(c.toNat=48/\↑((c::b.drop (s0+1)).takeWhile cf)>1)):=gR;by_cases hg:(vT ((c::b.drop (s0+1)).takeWhile cf)>1000000000\/(c.toNat=48/\↑((c::b.drop (s0+1)).takeWhile cf)>1))
   .grind
   .rw[aa hg]at k;rw[aa (λz=>hg<|e1.mp z)];intro H' x s1 hx ht;exact k H' x s1 hx #[_,ht,rfl]
  .let Xh:cf c=false:=by simpa using h2
   rw[Xh];exact wD #[a,b,s0,c,rfl,hA,hc,hb,#[h1',Xh],k]
structure Toks(C:Addr)(H:Hp)(a:Addr)(ts:List (Addr×gA)):Prop where
 lst:H a>.lst (ts.map λx=>V.ref x.1)
 tok:∀x∈ts,∃q,nY C H x.1 x.2.tok x.2.place q
def nY.mono(h:nY C H x t p q)(s:a8 H g):nY C g x t p q:=by
 let#[v,#[i,e],f]:=h;exists v,#[#[i,s _ _ e]];cases t with
 |name b=>
  let d:(if bI.contains b=true then v=.fP else∃a,v=.ref a/\H a>(.tup<|(ff b).map V.int)):=f;show(if bI.contains b=true then v=.fP else∃a,v=.ref a/\g a>(.tup<|(ff b).map V.int));split
  .grind
  .rename_i c;rw[aa c]at d;let#[a,j,l]:=d;exact#[a,j,s _ _ l]
 |num n=>exact f
 |sign c=>exact f
 |last=>exact f
def Ry(CT CF:Addr):Sp:=λvs H Q E=>∃a b,vs=[.ref a]/\H a>(.lst<|(ff b).map V.int)/\↑b<=4096/\
 match k8 b 0 with
 |.error f=>lD CF H f.code f.place E
 |.ok ts=>∀H' r zD,a8 H H'->H r=none->Toks CT H' r zD->zD.map (·.2)=ts->Q (.ref r) H'
def ui(bs):∀n s,s<=↑bs->s<=lm bs n s/\lm bs n s<=↑bs
 |0,s,h=>#[aI _,h]
 |n+1,s,h=>by
  delta lm;cases q:bs[s]? with
  |none=>exact#[aI _,h]
  |some b=>
   let a:=gl q;dsimp only;split
   .let z:=pZ (p:=λb=>decide<|b≠10) h;let y:=ui bs n (ic (λb=>decide<|b≠10) bs s) z.2;omega
   .split
    .let y:=ui bs n (s+1) a;omega
    .grind
def Ce(h:s<=↑bs)(a:bs[ie bs s]?>b):b≠35/\k6 b=false:=by
 let gen:∀n s,s<=↑bs->↑bs-s<n->∀b,bs[lm bs n s]?>b->b≠35/\k6 b=false:=by
  intro n;induction n with
  |zero=>intro s _ h;omega
  |succ n f=>
   intro s g l b a;delta lm at a;cases q:bs[s]? with
   |none=>rw[q]at a;dsimp only at a;rw[q]at a;cases a
   |some c=>
    rw[q]at a;dsimp only at a;let i:=gl q;by_cases d:c=35
    .rw[ac d]at a;let z:=wT (p:=λb=>decide<|b≠10) q (by rw[d];decide);let j:=(pZ (p:=λb=>decide<|b≠10) g).2;exact f _ j oM b a
    .rw[aa d]at a;by_cases e:k6 c=true
     .rw[ac e]at a;exact f _ i oM b a
     .rw[aa e,q]at a;injection a with a;subst a;exact#[d,by simpa using e]
 exact gen (↑bs+1) s h oM b a
def XW{Q:Addr->Hp->Prop}(g:∀c x,a8 H1 c->H1 x=none->AV f c x k v p b->Q x c):∀x a,H1 x=none->H1 a=none->a≠x->
  qY f [.ref x,k,v,p,b] (upd (upd H1 a<|.own x) x (.ins f a [])) (λv h=>v=.fP/\Q x h) L2.E0:=λx a d e i=>
 #[x,a,_,_,_,_,rfl,au,rfl,g _ x (lay (lay (lay0 e) d) d) d #[a,au]]
def Toks.add(h:Toks C H r i)(s:a8 H d)(D:nY C d x t.tok t.place q):Toks C (upd d r<|.lst<|i.map (λx=>V.ref x.1)++[V.ref x]) r (i++[(x,t)]):=by
 let l:=s _ _ h.lst;let keep:∀y,(∃q t p,nY C d y t p q)->∀p q t,nY C d y t p q->nY C (upd d r<|.lst<|i.map (λx=>V.ref x.1)++[V.ref x]) y t p q:=by
  intro y _ p q t j;let#[v,#[z,e],g]:=j;exists v,#[#[z,by rw[aH (eI e l sP)];exact e]];cases t with
  |name b=>
   let f:(if bI.contains b=true then v=.fP else∃a,v=.ref a/\d a>(.tup<|(ff b).map V.int)):=g;show(if bI.contains b=true then v=.fP else∃a,v=.ref a/\_);split
   .grind
   .rename_i c;rw[aa c]at f;let#[a,A,o]:=f;exact#[a,A,by rw[aH (eI o l sP)];exact o]
  |num n=>exact g
  |sign c=>exact g
  |last=>exact g
 refine#[by rw[au];simp,λy j=>?_];obtain m|m:=aM.mp j
 .let#[B,u]:=h.tok y m;exact#[B,keep _ #[_,_,_,u.mono s] _ _ _ (u.mono s)]
 .grind
def Nt(T:Txt K mg)(cT:fW K CT ["kind","value","place","behind"])(Ar:GoodC P w K mg aD 1 "Token" CT ["self","kind","value","place","behind"] (qY CT))(h:iW K mg "scan" Q9 f fd)
  (P4:Good P w K mg aD dO 2 "skip" ["text","start"] Rz)(JF:Good P w K mg aD (nG P w CF) 5 "token_at" ["text","place"] (Ep CT CF λ_=>True)):
  Good P w K mg aD (nG P w CF) 6 "scan" ["text"] (Ry CT CF):=by
 refine h.JG ["text","tokens","place","token"] λoz A outer s H vs Q E nd hr h=>?_;obtain⟨a,b,rfl,hA,hb,k⟩:=h;exists _,(aw (st 1 nd (dr ib))
  (aw (st 2 nd (p0 P4 hr (ir v0 aV)))
  (aw (jm eC (bG kz v2 (bO (ia K) rfl T.len dB (da v0)) (b9 _)) (aw (st 3 nd (pc JF (hr.mono dC) (E:=E) fL (ir v0 v2)))
  (aw (cO (bm K aX bU bV fT v1 (da v3)))
  (aC (st 2 nd (p0 P4 hr (ir v0 (fld K v3))))))))
  (aw (cO (bm K aX bU bV fT v1 (da (Us Ar (hr.mono dC) (J5 fM sX (bO (ia K) rfl T.len dB (da v0)) (bO (ia K) rfl T.len dB (da v0)))))))
  (aC (bC v1))))))
 lia;generalize hN:KU (Cn _) _ _=NX;refine#[cP _,λr ZH=>?_];let hAr:(upd H r (.lst [])) a>.lst ((ff b).map V.int):=lay0 ZH _ _ hA;exists a,ff b,0,rfl,hAr,cP _;obtain⟨W,hW⟩:∃W:Nat->L2.St->Hp->Prop,∀m e H1,W m e H1↔∃(s:Nat)(zD:List (Addr×gA))(x3:Option V),m=↑b-s/\s<=↑b/\↑zD<=s/\(∀c,(ff b)[s]?>c->c≠35/\k6 c=false)/\k8 b 0=(k8 b s).map (λl=>zD.map (·.2)++l)/\
   e=[~~~.ref a,~~~.ref r,some (.int (s:Nat)),x3]/\a8 H H1/\Toks CT H1 r zD:=#[_,λ_ _ _=>pG]
 let hsk:=ui (ff b) (↑(ff b)+1) 0 (cP _);exists W,#[_,(hW _ _ _).mpr #[ie (ff b) 0,[],none,rfl,by delta ie;let:=hsk.2;rw[dU]at this|-;exact this,cP _,λc hc=>Ce (cP _) hc,?_,rfl,lay0 ZH,#[au,λx hx=>by simp at hx]]]
 .let:=oV b (↑(ff b)+1) 0;rw[show ie (ff b) 0=lm (ff b) (↑(ff b)+1) 0 from rfl,this];cases k8 b 0<;>rfl
 intro m e H1 hw;obtain⟨s,zD,x3,rfl,ZK,hlen,hnb,Qd,rfl,s1,ht1⟩:=(hW _ _ _).mp hw;let Xj:=s1 _ _ hA;lia;exists _,.inl (bW.of Xj);rw[aj,dU];cases q:b[s]? with
 |none=>
  let hl:↑b<=s:=fh.mp q;let es:s=↑b:=oM;refine(aa (by simp;omega)).mpr ?_;rw[<-hN];rw[NK b hl]at Qd;rw[Qd]at k;lia;refine#[.inl #[rfl,_,bW.of ht1.lst],_,.inl (bW.of Xj),_,.inl (bW.of Xj),XW λH' x s5 ZM ht=>?_];refine#[_,s5 _ _ ht1.lst,by rw[aj,aK];omega,?_];rw[aj,dU,<-es]at ht;let ht2:nY CT H' x (#[s,.last]:gA).tok (#[s,.last]:gA).place s:=#[.fP,ht,rfl];refine k _ r (zD++[(x,#[s,.last])]) (lay (s1.trans s5) ZH) ZH (ht1.add s5 ht2) sP
 |some d=>
  let hl:=(aP.mp q).1;let qi:(ff b)[s]?>(d.toNat:Int):=by rw[wM,q];rfl
  obtain⟨nb1,nb2⟩:=hnb _ qi;let Qe:=vp q;rw[aa (by rw[<-Bv,nb2];simp),aa oM]at Qe;refine(ac (ag oM)).mpr #[_,λ_ _ z=>z,a,b,s,d,rfl,Xj,q,hb,trivial,?_];cases qt:jC (b.drop s)with
  |none=>
   rw[qt]at Qe;rw[Qe]at Qd;rw[show k8 b 0=.error #[2,s]from Qd]at k;exact lD.mono k s1
  |some x=>
   rw[qt]at Qe;dsimp only at Qe|-;obtain⟨tl1,tl2⟩:=AL qt;rw[cw]at tl2;intro H2 t2 s2 afj SL;let TQ:=s2 _ _ ht1.lst;obtain⟨v,⟨dx,et⟩,hv⟩:=id SL;refine#[.inl #[rfl,_,bW.of TQ],_,TQ,by rw[aj,aK];omega,?_];let net:t2≠r:=eI et TQ sP;exists t2,rfl,CT,dx,_,by rw[aH net];exact et,cT.cl,cT.no "behind" sP,_,rfl;let P_:=ht1.add (t:=#[s,x.1]) s2 SL;let hA2:(upd H2 r (.lst (zD.map (λx=>V.ref x.1)++[V.ref t2]))) a>.lst ((ff b).map V.int):=lay (s1.trans s2) ZH _ _ hA;let hle:s+x.2<=↑b:=oM;refine#[a,ff b,s+x.2,rfl,hA2,by rw[dU];exact hle,?_];let aa6:=ui (ff b) (↑(ff b)+1) (s+x.2) (by rw[dU];exact hle);rw[dU]at aa6;let aeg:s+x.2<=ie (ff b) (s+x.2)/\ie (ff b) (s+x.2)<=↑b:=by delta ie;rw[dU];exact aa6
   refine#[↑b-ie (ff b) (s+x.2),oM,(hW _ _ _).mpr #[ie (ff b) (s+x.2),zD++[(t2,#[s,x.1])],~~~.ref t2,rfl,aeg.2,by rw[aW];simp;omega,λc hc=>Ce (by rw[dU];exact hle) hc,?_,rfl,lay (s1.trans s2) ZH,P_]];let e3:=oV b (↑(ff b)+1) (s+x.2);rw[show ie (ff b) (s+x.2)=lm (ff b) (↑(ff b)+1) (s+x.2)from rfl,e3,Qd,Qe];cases k8 b (s+x.2)with
   |error f=>rfl
   |ok l=>simp[Except.map]
def a'(S:List Addr)(H H':Hp):Prop:=∀b o,b∉S->H b>o->H' b>o
def a'.refl(S)(H):a' S H H:=λ_ _ _ h=>h
theorem a'.trans(a:a' S H H1)(b:a' S H1 d):a' S H d:=λc o n h=>b c o n (a c o n h)
def a'.mono(a:a' S H H1)(h:∀b∈S,b∈S'):a' S' H H1:=λc o n e=>a c o (λm=>n<|h c m) e
def cX(a:a8 H H1):a' S H H1:=λc o _ e=>a c o e
def a'.upd{S:List Addr}{H H1:Hp}(a:a' S H H1){r:Addr}{o:HO}(h:r∈S):a' S H (upd H1 r o):=λc u n e=>by rw[aH (λz:c=r=>n (by rw[z];exact h))];exact a c u n e
def a'.same(a:a' S H H1)(b:a8 H1 d):a' S H d:=λc o n h=>b c o (a c o n h)
def a'.lay(a:a' S H H1)(h:H r=none):a' S H (L2.upd H1 r o):=λc u n e=>by rw[aH (λz=>by rw[z,h]at e;cases e)];exact a c u n e
def a'.nil(a:a' [] H H1):a8 H H1:=λc o e=>a c o sP e
def a'.drop(a:a' (r::S) H H1)(h:H r=none):a' S H H1:=λc o n e=>a c o (λm=>gR) e
def kT(S:List Addr)(C:Addr)(H:Hp)(c p:Int)(E:XK):Prop:=∀H' dx,a' S H H'->H' dx>(.xd<|Fa c p)->E (.ref C) (some dx) H'
def kT.mono(a:kT S C H c p E)(s:a' S H H1)(h:∀b∈S',b∈S):kT S' C H1 c p E:=λd f g e=>a d f (s.trans<|g.mono h) e
def kT.F9(a:kT S C H c p E):lD C H c p E:=λb d s e=>a b d (cX s) e
def NT(o:HO):Prop:=(∀xs,o≠.tup xs)/\∀C dx k v p b,o≠.ins C dx (OB k v p b)
def NT.lst(xs:List V):NT (.lst xs):=#[λ_ h=>(by cases h),λ_ _ _ _ _ _ h=>(by cases h)]
def uF.Hu(h:uF H t v)(k:∀a xs,H a>.tup xs->d a>.tup xs):uF d t v:=by
 cases t with
 |name b=>
  let e:(if bI.contains b=true then v=.fP else∃a,v=.ref a/\H a>(.tup<|(ff b).map V.int)):=h;show(if bI.contains b=true then v=.fP else∃a,v=.ref a/\_);split
  .grind
  .grind
 |num n=>exact h
 |sign c=>exact h
 |last=>exact h
def a'.tup{S:List Addr}{H c:Hp}(s:a' S H c)(d:∀b∈S,∀o,H b>o->NT o){a:Addr}{xs:List V}(h:H a>.tup xs):c a>.tup xs:=
 s a _ (λm=>(d a m _ h).1 _ rfl) h
def a'.tok(s:a' S H d)(c:∀b∈S,∀o,H b>o->NT o)(h:nY C H x t p q):nY C d x t p q:=by let#[v,#[f,e],g]:=h;exact#[v,#[#[f,s x _ (λm=>(c x m _ e).2 _ _ _ _ _ _ rfl) e]],g.Hu λa xs h=>s.tup c h]
def a'.toks(s:a' S H c)(d:∀b∈S,∀o,H b>o->NT o)(f:a∉S)(h:Toks C H a g):Toks C c a g:=
 #[s a _ f h.lst,λx i=>let#[q,e]:=h.tok x i;#[q,s.tok d e]]
def Ob(a:Addr)(n:Nat):List (Str×V):=[("tokens",.ref a),("at",.int (n:Int))]
def NT.rd(C b a)(n):NT (.ins C b<|Ob a n):=#[λ_ h=>(by cases h),λ_ _ _ _ _ _ h=>by injection h with _ _ h;delta Ob OB at h;injection h with h _;injection h with h _;exact ae h dK]
def nW(CT CR:Addr)(H:Hp)(x a:Addr)(l:List (Addr×gA)):Prop:=∃n zD dx,H x>(.ins CR dx<|Ob a n)/\Toks CT H a zD/\zD.drop n=l
def nW.head{b CR:Addr}(h:nW b CR H x a (t::r)):∃q,nY b H t.1 t.2.tok t.2.place q:=by let#[n,c,f,g,d,e]:=h;exact d.tok t (mO<|by rw[e];exact .head _)
def nW.Hu{d CR:Addr}(h:nW d CR H x a l)(s:a' S H e)(f:∀b∈S,∀o,H b>o->NT o)(g:x∉S)(i:a∉S):nW d CR e x a l:=by let#[n,c,j,m,p,q]:=h;exact#[n,c,j,s _ _ g m,s.toks f i p,q]
def nW.nt{b CR:Addr}(h:nW b CR H x a l):∀o,H x>o->NT o:=λo e=>by let#[n,c,f,d,_]:=h;rw[d]at e;injection e with e;subst e;exact NT.rd ..
def NT.one{H:Hp}(h:∀o,H x>o->NT o):∀b∈[x],∀o,H b>o->NT o:=λb a o e=>gR
def uj(CT CR:Addr):Sp:=λvs H Q _=>∃x a t r,vs=[.ref x]/\nW CT CR H x a (t::r)/\Q (.ref t.1) H
def QH{g CR f:Addr}(F:xW K "ahead" "Reader.ahead" tm f fd)(c:fW K CR ["tokens","at"]):j4 P w K mg aD dO 1 f fd ["self"] (uj g CR):=by
 refine F.gk ["self"] λi A outer s H vs Q E q u h=>?_;obtain⟨x,a,t,r,rfl,⟨n,b,d,e,m,o⟩,k⟩:=h;exists _,(aC<|bC<|bM (j7 K) (fld K v0) (fld K v0) (λ_ _=>rfl));lia;refine#[CR,d,_,e,c.cl,c.no "tokens" sP,_,rfl,CR,d,_,e,c.cl,c.no "at" sP,_,rfl,a,rfl,_,(n:Int),rfl,bW.of m.lst,_,?_,k];let p:b[n]?>t:=by let:=af (λl=>l[0]?) o;simp only[MQ,Nat.add_zero]at this;simpa using this
 exact at_of (j:=n) rfl (by rw[ak,p];rfl)
def vE(CT CR CF:Addr):Sp:=λvs H Q E=>∃x a z t r,vs=[.ref x,.str z]/\nW CT CR H x a (t::r)/\
 (if kindS t.2.tok=z then∀H',a' [x] H H'->nW CT CR H' x a r->Q (.ref t.1) H' else lD CF H 3 t.2.place E)
def Uf{e CR p N J f:Addr}(F:xW K "take" "Reader.take" uO f fd)(X:vS P w K mg aD p N J L)(B:fW K CR ["tokens","at"])(g:fW K e ["kind","value","place","behind"])
  (d:nT P w K mg aD dO 1 CR "ahead" ["self"] (uj e CR)):j4 P w K mg aD (nG P w p) 4 f fd ["self","kind"] (vE e CR p):=by
 refine F.gkX ["self","kind","token"] λM A outer s H vs Q E O u h=>?_;obtain⟨x,a,z,t,r,rfl,i,k⟩:=h;let#[q,v,#[C,D],T]:=i.head;let#[n,y,j,l,G,R]:=id i;exists _,(aw (st 2 O<|ZQ d v0 (u.mono dC) wO)
  (aw (dI (bG LY (fld K v2) v1 (b9 _)) (aC (jl (E:=E) X.c u.hd (jk X.c X.F (u.mono dC) rfl X.mg X.b dC (ir aV<|fld K v2)) (λ_ _ _ _ _ _=>jn))) cg)
  (aw (N6 v0 aV Xz)
  (aC<|bC v2))))
 lia;exists j,_,l,rfl,x,a,t,r,rfl,i,_,rfl,e,C,_,D,g.cl,g.no "kind" sP,_,rfl,rfl;by_cases o:kindS t.2.tok=z
 .rw[ac o]at k;refine(aa<|by simp[o]).mpr ?_;exists CR,j,_,l,B.cl,B.no "at" sP,_,rfl;exists _,rfl,_,_,l,(by show 2<1000;decide);let S:iu "at" (V.int ((n:Int)+1)) (Ob a n)=Ob a (n+1):=by rfl
  rw[S];let I:a' [x] H (upd H x<|.ins CR j<|Ob a<|n+1):=(a'.refl _ _).upd sP;refine k _ I #[n+1,y,j,au,I.toks (NT.one i.nt) (λm=>?_) G,?_]
  .let:=eI G.lst l sP;exact this (bd.mp m)
  .rw[<-i4,R];rfl
 .rw[aa o]at k;refine(ac<|by simp[o]).mpr #[_,rfl,e,C,_,D,g.cl,g.no "place" sP,_,rfl,ot k]
def nQ  (h : kindS t = "name") : ∃ b, t = .name b ∧ bI.contains b = false := by
  cases t with
  | name b =>
    refine #[b, rfl, ?_]
    rw [← i3, bB]
    intro hm
    delta bI at hm
    simp only [bb, jh, aE, cN, or_false]at hm
    obtain rfl | rfl | rfl | rfl:=hm<;> (revert h; decide +kernel)
  | num n => exact ae h (show ¬ (eK "number" = eK "name") by decide +kernel)
  | sign c =>
    exfalso
    simp only [kindS]at h
    repeat' (split at h)
    all_goals (revert h; decide +kernel)
  | last => exact ae h dK
def NR(h:bI.contains b=false):kindS (.name b)="name":=by
 let hm:b∉bI:=λm=>by rw[bB.mpr m]at h;cases h
 delta bI at hm;simp only[bb,jh,aE,cN,or_false,not_or]at hm;simp only[kindS,aa hm.1,aa hm.2.1,aa hm.2.2.1,aa hm.2.2.2]
def Hi  (h : kindS t = "number") : ∃ n, t = .num n := by
  cases t with
  | name b =>
    exfalso
    simp only [kindS]at h
    repeat' (split at h)
    all_goals (revert h; decide +kernel)
  | num n => exact #[n, rfl]
  | sign c =>
    exfalso
    simp only [kindS]at h
    repeat' (split at h)
    all_goals (revert h; decide +kernel)
  | last => exact ae h dK
def nR{z:Str}(hz:(c=59/\z=";")\/(c=58/\z=":")\/(c=256/\z="->")):kindS t=z↔t=.sign c:=by
 constructor
 .intro h;cases t with
  |name b=>
   exfalso;simp only[kindS]at h;obtain⟨_,rfl⟩|⟨_,rfl⟩|⟨_,rfl⟩:=hz<;>(repeat' (split at h))<;>(revert h;decide+kernel)
  |num n=>exfalso;obtain⟨_,rfl⟩|⟨_,rfl⟩|⟨_,rfl⟩:=hz<;>(revert h;simp only[kindS];decide+kernel)
  |sign d=>
   simp only[kindS]at h;obtain⟨rfl,rfl⟩|⟨rfl,rfl⟩|⟨rfl,rfl⟩:=hz
   .repeat' (split at h)
    all_goals first
     |(rename_i e;rw[e];done)
     |(exfalso;revert h;decide+kernel)
   .repeat' (split at h)
    all_goals first
     |(rename_i e;rw[e];done)
     |(exfalso;revert h;decide+kernel)
   .repeat' (split at h)
    all_goals first
     |(rename_i e;rw[e];done)
     |(exfalso;revert h;decide+kernel)
  |last=>exfalso;obtain⟨_,rfl⟩|⟨_,rfl⟩|⟨_,rfl⟩:=hz<;>(revert h;decide+kernel)
 .rintro rfl;obtain⟨rfl,rfl⟩|⟨rfl,rfl⟩|⟨rfl,rfl⟩:=hz<;>decide+kernel
def yn{z:Str}(hz:(b=bn "box"/\z="box")\/(b=bn "edge"/\z="edge")\/(b=bn "above"/\z="above")):kindS t=z↔t=.name b:=by
 constructor
 .intro h;cases t with
  |name b=>
   simp only[kindS]at h;obtain⟨rfl,rfl⟩|⟨rfl,rfl⟩|⟨rfl,rfl⟩:=hz
   .repeat' (split at h)
    all_goals first
     |(rename_i e;rw[e];done)
     |(exfalso;revert h;decide+kernel)
   .repeat' (split at h)
    all_goals first
     |(rename_i e;rw[e];done)
     |(exfalso;revert h;decide+kernel)
   .repeat' (split at h)
    all_goals first
     |(rename_i e;rw[e];done)
     |(exfalso;revert h;decide+kernel)
  |num n=>exfalso;obtain⟨_,rfl⟩|⟨_,rfl⟩|⟨_,rfl⟩:=hz<;>(revert h;simp only[kindS];decide+kernel)
  |sign d=>
   exfalso;simp only[kindS]at h;obtain⟨_,rfl⟩|⟨_,rfl⟩|⟨_,rfl⟩:=hz<;>(repeat' (split at h))<;>(revert h;decide+kernel)
  |last=>exfalso;obtain⟨_,rfl⟩|⟨_,rfl⟩|⟨_,rfl⟩:=hz<;>(revert h;decide+kernel)
 .rintro rfl;obtain⟨rfl,rfl⟩|⟨rfl,rfl⟩|⟨rfl,rfl⟩:=hz<;>decide+kernel
def Hh  : kindS t = "end" ↔ t = .last := by
  constructor
  · intro h
    cases t with
    | last => rfl
    | name b =>
      exfalso
      simp only [kindS]at h
      repeat' (split at h)
      all_goals (revert h; decide +kernel)
    | num n => exact ae h (show ¬ (eK "number" = eK "end") by decide +kernel)
    | sign c =>
      exfalso
      simp only [kindS]at h
      repeat' (split at h)
      all_goals (revert h; decide +kernel)
  · rintro rfl; rfl
open VadiBase (Toks wrong here)
def oI(l:List (Addr×gA)):Prop:=∃init e,l=init++[e]/\e.2.tok=.last/\∀t∈init,t.2.tok≠.last
def oI.tail(h:oI (t::r))(b:t.2.tok≠.last):oI r/\∃u m,r=u::m:=by
 let#[init,e,a,c,f]:=h;cases init with
 |nil=>simp at a;rw[a.1]at b;exact ae c b
 |cons i init=>
  rw[zJ]at a;injection a with a d;exists #[init,e,d,c,λt b=>f t<|.tail _ b];rw[d];cases init with
  |nil=>exact#[_,_,rfl]
  |cons j init=>exact#[_,_,rfl]
def jv(l:List (Addr×gA)):OR:=l.map (·.2)
def Ch(CT CR CF:Addr):Sp:=λvs H Q E=>∃x a lo hi t r,vs=[.ref x,.int (lo:Nat),.int (hi:Nat)]/\nW CT CR H x a (t::r)/\
 match ei lo hi (jv<|t::r)with
 |.error f=>kT [x] CF H f.code f.place E
 |.ok v=>v.2=jv r->∀H',a' [x] H H'->nW CT CR H' x a r->t.2.tok=.num v.1->Q (.int (v.1:Nat)) H'
def BQ{g CR l N J f:Addr}(F:xW K "take_within" "Reader.take_within" mE f fd)(X:vS P w K mg aD l N J L)(e:fW K g ["kind","value","place","behind"])
  (d:nT P w K mg aD (nG P w l) 4 CR "take" ["self","kind"] (vE g CR l)):j4 P w K mg aD (nG P w l) 5 f fd ["self","least","greatest"] (Ch g CR l):=by
 refine F.gkX ["self","least","greatest","token"] λM A outer s H vs Q E O z h=>?_;obtain⟨x,a,lo,m,t,r,rfl,o,k⟩:=h;let#[n,R,S,T,Z,h3]:=id o;exists _,(aw (st 3 O (pm d v0 (z.mono dC) (E:=E) fL (da fM)))
  (aw (dI (PW.pt<|zm (bG kz (fld K v3) v1 (b9 _)) (s_<|bG om (fld K v3) v2 (b9 _))) (aC (jl (E:=E) X.c z.hd (jk X.c X.F (z.mono dC) rfl X.mg X.b dC (ir aV<|fld K v3)) (λ_ _ _ _ _ _=>jn))) cg)
  (aC<|bC<|fld K v3)))
 lia;exists S,_,T,rfl,x,a,"number",t,r,rfl,o;by_cases p:kindS t.2.tok="number"
 .rw[ac p];intro H1 s1 B;let#[nn,u]:=Hi p;let#[q,C]:=o.head;let#[v,#[i,j],y]:=s1.tok (NT.one o.nt) C;rw[u]at y;let y:v=.int nn:=y;subst y;let D:ei lo m (jv<|t::r)=if nn<lo\/m<nn then .error #[7,t.2.place]else .ok (nn,jv r):=by delta jv;rw[bb];let#[U,Y,tt]:=t;dsimp only at u;subst u;rfl
  rw[D]at k;by_cases G:nn<lo\/m<nn
  .rw[ac G]at k;let I:=ot (kT.F9 (kT.mono (S':=[]) k s1 sP));exists _,rfl,g,i,_,j,e.cl,e.no "value" sP,_,rfl,_,rfl;by_cases h5:nn<lo
   .exact(ac<|ag oM).mpr #[_,rfl,g,i,_,j,e.cl,e.no "place" sP,_,rfl,I]
   .refine(aa<|by simp;omega).mpr #[_,rfl,g,i,_,j,e.cl,e.no "value" sP,_,rfl,_,rfl,?_];exact(ac<|ag oM).mpr #[_,rfl,g,i,_,j,e.cl,e.no "place" sP,_,rfl,I]
  .rw[aa G]at k;exists _,rfl,g,i,_,j,e.cl,e.no "value" sP,_,rfl,_,rfl;refine(aa<|by simp;omega).mpr #[_,rfl,g,i,_,j,e.cl,e.no "value" sP,_,rfl,_,rfl,?_];refine(aa<|by simp;omega).mpr #[_,rfl,g,i,_,j,e.cl,e.no "value" sP,_,rfl,?_];exact k rfl H1 s1 B u
 .rw[aa p];let D:ei lo m (jv<|t::r)=.error #[3,t.2.place]:=by
   delta jv;rw[bb];let#[U,Y,tt]:=t;cases tt with
   |num n=>exact ae rfl p
   |name b=>rfl
   |sign c=>rfl
   |last=>rfl
  rw[D]at k;exact kT.F9 k
end
section
variable{P:a7}{w:bS}{K:ao}{mg:Str->Option Value}{aD:Heap}
open VadiBase (PName takeName takeSign)
def tQ(h:u.2.tok=.name b)(c:bI.contains b=false):hG (jv<|u::m)=.ok (#[u.2.place,b],jv m):=by let#[a,p,t]:=u;dsimp only at h;subst h;show(if bI.contains b=true then _ else _)=_;rw[aa (by rw[c];simp)];rfl
def yE(h:kindS u.2.tok≠"name"):hG (jv<|u::m)=.error #[3,u.2.place]:=by
 let#[a,p,t]:=u;cases t with
 |name b=>
  show(if bI.contains b=true then _ else _)=_;by_cases c:bI.contains b=true
  .rw[ac c];rfl
  .exact ae (NR<|by simpa using c) h
 |num n=>rfl
 |sign c=>rfl
 |last=>rfl
def Ez(h:u.2.tok=.sign c):fA c (jv<|u::m)=.ok (jv m):=by let#[a,p,t]:=u;dsimp only at h;subst h;show(if(c==c)=true then _ else _)=_;rw[ac sP];rfl
def ud    : lR (.sign c) (jv (u :: m)) = true ↔ u.2.tok = .sign c := by
  let #[a, p, t] := u
  cases t with
  | sign d =>
    show (d == c) = true ↔ _
    rw [beq_iff_eq]
    exact #[fun h => by rw [h], fun h => by injection h]
  | _ => exact #[fun h => (by cases h), fun h => (by cases h)]
def Cw(h:u.2.tok≠.sign c):fA c (jv<|u::m)=.error #[3,u.2.place]:=by delta fA MX;rw[aa (λz=>h<|ud.mp z)];rfl
def Gm(CT:Addr)(H:Hp)(x:Addr)(p:lY):Prop:=(∃q,nY CT H x (.name p.name) p.place q)/\bI.contains p.name=false
def a'.nm(s:a' S H a)(c:∀b∈S,∀o,H b>o->NT o)(h:Gm d H x p):Gm d a x p:=#[let#[q,e]:=h.1;#[q,s.tok c e],h.2]
def DB(H:Hp)(v:V):Option fZ->Prop
 |none=>v=.fP
 |some b=>∃a,v=.ref a/\H a>(.tup<|(ff b).map V.int)
def a'.AC(s:a' S H c)(d:∀b∈S,∀o,H b>o->NT o)(h:DB H v o):DB c v o:=by
 cases o with
 |none=>exact h
 |some b=>exact let#[a,e,f]:=h;#[a,e,s.tup d f]
structure Gp where
 addr:Addr
 t1:Addr
 t2:Addr
 lq:List V
 n1:lY
 n2:lY
 AC:Option fZ
structure Ge(CT:Addr)(H:Hp)(e:Gp):Prop where
 tup:H e.addr>.tup ([.ref e.t1,.ref e.t2]++e.lq)
 a1:Gm CT H e.t1 e.n1
 a2:Gm CT H e.t2 e.n2
structure rL(CT:Addr)(H:Hp)(l:Addr)(es:List Gp):Prop where
 lst:H l>.lst (es.map λe=>V.ref e.addr)
 CO:∀e∈es,Ge CT H e
def a'.CO(s:a' S H c)(a:∀b∈S,∀o,H b>o->NT o)(h:Ge d H e):Ge d c e:=#[s.tup a h.tup,s.nm a h.a1,s.nm a h.a2]
def a'.xE(s:a' S H a)(c:∀b∈S,∀o,H b>o->NT o)(h:rL d H l es)(f:l∉S):rL d a l es:=#[s _ _ f h.lst,λe he=>s.CO c<|h.CO e he]
def NT.two{H:Hp}(h:∀o,H x>o->NT o)(c:H l>.lst xs):∀b∈[x,l],∀o,H b>o->NT o:=λb a o e=>by
 simp only[aE,cN,or_false]at a;obtain rfl|rfl:=a
 .exact h o e
 .rw[c]at e;injection e with e;subst e;exact NT.lst _
def NT.NL{H:Hp}(a:H l>.lst xs):∀b∈[l],∀o,H b>o->NT o:=λb c o e=>by rw[bd.mp c,a]at e;injection e with e;subst e;exact NT.lst _
def FU(CT CR CF:Addr):Sp:=λvs H Q E=>∃(x a l:Addr)(z:Str)(n m:Nat)(xs:List V)(t:Addr×gA)(r:List (Addr×gA)),vs=[.ref x,.str z,.ref l,.int (m:Nat)]/\nW CT CR H x a (t::r)/\kindS t.2.tok=z/\H l>.lst xs/\
 (if ↑xs=m then kT [x] CF H 4 t.2.place E else∀H':Hp,a' [x] H H'->nW CT CR H' x a r->Q .fP H')
def Bt(T:Txt K mg){g CR e N C f:Addr}(X:vS P w K mg aD e N C D)(u:fW K g ["kind","value","place","behind"])(h:iW K mg "take_word" zz f fd)
  (d:nT P w K mg aD (nG P w e) 4 CR "take" ["self","kind"] (vE g CR e)):Good P w K mg aD (nG P w e) 5 "take_word" ["reader","word","before","most"] (FU g CR e):=by
 refine h.JG ["reader","word","before","most","token"] λG A outer s H vs Q E I j h=>?_;obtain⟨x,a,l,z,n,m,xs,t,r,rfl,i,J,y,k⟩:=h;let#[n',L,M,B,U,Y]:=id i;exists _,(aw (st 4 I (pm d v0 (j.mono dC) (E:=E) fL (da v1)))
  (aC (dI (bG il (bO (ia K) rfl T.len dB (da v2)) v3 (b9 _)) (aC (jl (E:=E) X.c j.hd (jk X.c X.F (j.mono dC) rfl X.mg X.b dC (ir aV<|fld K v4)) (λ_ _ _ _ _ _=>jn))) cg)))
 lia;exists M,_,B,rfl,x,a,z,t,r,rfl,i;rw[ac J];intro H1 s1 O;let#[q,o]:=i.head;let#[v,#[R,S],Z]:=s1.tok (NT.one i.nt) o;let p:l∉[x]:=λm=>(eI y B sP) (bd.mp m);exists _,.inl<|bW.of<|s1 _ _ p y,rfl;by_cases c:↑xs=m
 .rw[ac c]at k;refine(ac<|by simp[c]).mpr #[_,rfl,g,R,_,S,u.cl,u.no "place" sP,_,rfl,ot (kT.F9 (kT.mono (S':=[]) k s1 sP))]
 .grind
def m9(h:kindS t=z)(hz:z≠"end"):t≠.last:=λe=>hz (by rw[<-h,e];rfl)
def D_{u:Addr×gA}(a:∃q,nY c H u.1 u.2.tok u.2.place q)(s:a' S H d)(f:∀b∈S,∀o,H b>o->NT o)(e:u.2.tok=.name b)(g:bI.contains b=false):Gm c d u.1 #[u.2.place,b]:=by let#[q,a]:=a;rw[e]at a;exact#[#[q,s.tok f a],g]
def rL.add(h:rL c H l es)(d:H p=none)(g:e.addr=p)(j:Gm c H e.t1 e.n1)(n:Gm c H e.t2 e.n2):
  rL c (upd (upd H p (.tup ([.ref e.t1,.ref e.t2]++e.lq))) l (.lst<|es.map (λe=>V.ref e.addr)++[V.ref p])) l (es++[e]):=by
 let i:=h.lst;let a:p≠l:=λz=>by rw[z,i]at d;cases d
 let s1:a' [] H (upd H p (.tup ([.ref e.t1,.ref e.t2]++e.lq))):=(a'.refl _ _).lay d;let s2:a' [l] (upd H p (.tup ([.ref e.t1,.ref e.t2]++e.lq))) (upd (upd H p (.tup ([.ref e.t1,.ref e.t2]++e.lq))) l (.lst<|es.map (λe=>V.ref e.addr)++[V.ref p])):=(a'.refl _ _).upd sP;let f:∀b∈([]:List Addr),∀o,H b>o->NT o:=λb q=>by simp at q
 let n1:=NT.NL (H:=upd H p (.tup ([.ref e.t1,.ref e.t2]++e.lq))) (l:=l) (by rw[aH a.symm];exact i);refine#[by rw[au,aJ];simp[g],λy r=>?_];obtain m|m:=aM.mp r
 .exact s2.CO n1 (s1.CO f<|h.CO y m)
 .rw[bd.mp m];exact#[by rw[g,aH a,au],s2.nm n1<|s1.nm f j,s2.nm n1<|s1.nm f n]
def RD(CT CR CF:Addr):Sp:=λvs H Q E=>∃x a l es t r,vs=[.ref x,.ref l]/\nW CT CR H x a (t::r)/\oI (t::r)/\kindS t.2.tok="above"/\rL CT H l es/\l≠a/\↑es<=16/\
 (if ↑es=16 then kT [x,l] CF H 4 t.2.place E else match fD (jv r)with
  |.error f=>kT [x,l] CF H f.code f.place E
  |.ok v=>∀H' e r',a' [x,l] H H'->nW CT CR H' x a r'->oI r'->jv r'=v.2->rL CT H' l (es++[e])->(e.n1,e.n2)=v.1->e.lq=[]->Q .fP H')
def Bs(U:qy K mg){B CR v f:Addr}(h:iW K mg "read_wish" zy f fd)(d:Good P w K mg aD (nG P w v) 5 "take_word" ["reader","word","before","most"] (FU B CR v))
  (b:nT P w K mg aD (nG P w v) 4 CR "take" ["self","kind"] (vE B CR v)):Good P w K mg aD (nG P w v) 6 "read_wish" ["reader","wishes"] (RD B CR v):=by
 refine h.JG ["reader","wishes","first","second"] λoz A outer s H vs Q E nd T h=>?_;obtain⟨x,a,l,es,t,r,rfl,hR,hE,C,hS,Xo,hlen,k⟩:=h;let hx:=hR.nt;let D:l∉[x]:=λm=>by let#[n,zD,dx,h1,_]:=id hR;exact(eI hS.lst h1 sP) (bd.mp m)
 exists _,(aw (cO (pc d (T.mono dC) (E:=E) fL (J5 v0 fM v1<|oY U.Gj)))
  (aw (st 2 nd (pm b v0 (T.mono dC) (E:=E) fL (da fM)))
  (aw (st 3 nd (pm b v0 (T.mono dC) (E:=E) fL (da fM)))
  (aw (cO (pm b v0 (T.mono dC) (E:=E) fL (da fM)))
  (aC<|cO<|bm K aX bU bV fT v1<|da<|jM<|ir v2 v3)))))
 lia;exists x,a,l,"above",0,16,_,t,r,rfl,hR,C,hS.lst;rw[aj];by_cases c:↑es=16
 .rw[ac c]at k|-;exact kT.mono k (a'.refl _ _) sP
 .rw[aa c]at k|-;intro H1 s1 q;obtain⟨hE1,i,m1,rfl⟩:=hE.tail<|m9 C dK;let#[n1,ts1,dx1,g1,_]:=id q;let fail:∀G f,a' [x] H G->fD (jv<|i::m1)=.error f->lD v G f.code f.place E:=λG f s e=>by rw[e]at k;exact kT.F9 (kT.mono (S':=[]) k (s.mono sP) sP)
  exists dx1,_,g1,rfl,x,a,"name",i,m1,rfl,q;by_cases I:kindS i.2.tok="name";rotate_left
  .rw[aa I];exact fail H1 #[3,i.2.place] s1 (by delta fD;rw[yE I];rfl)
  rw[ac I];intro G s2 u;let#[X,Y,Z]:=nQ I;obtain⟨Zz,g,m2,rfl⟩:=hE1.tail<|m9 I dK;let#[n2,ts2,Zv,g2,_]:=id u;exists Zv,_,g2,rfl,x,a,"name",g,m2,rfl,u;by_cases J:kindS g.2.tok="name";rotate_left
  .rw[aa J];exact fail G #[3,g.2.place] (s1.trans s2) (by delta fD;rw[tQ Y Z];show(hG<|jv<|g::m2).bind _=_;rw[yE J];rfl)
  rw[ac J];intro H3 s3 L;let#[b2,e2,r2]:=nQ J;obtain⟨G7,o,m3,rfl⟩:=Zz.tail<|m9 J dK;let#[n3,ts3,dx3,g3,_]:=id L;exists dx3,_,g3,rfl,x,a,";",o,m3,rfl,L;let q3:kindS o.2.tok=";"↔o.2.tok=.sign 59:=nR (.inl #[rfl,rfl]);by_cases M:kindS o.2.tok=";";rotate_left
  .rw[aa M];refine fail H3 #[3,o.2.place] ((s1.trans s2).trans s3) ?_;delta fD;rw[tQ Y Z];show(hG<|jv<|g::o::m3).bind _=_;rw[tQ e2 r2];show(fA 59<|jv<|o::m3).map _=_;rw[Cw (λz=>M<|q3.mpr z)];rfl
  rw[ac M];intro y s4 hR4;obtain⟨ZA,N,O,rfl⟩:=G7.tail<|m9 M dK;let sA:=((s1.trans s2).trans s3).trans s4;let j:=sA.xE (NT.one hx) hS D;refine#[.inl #[rfl,_,bW.of j.lst],by show 2<=sizeLine;rw[aK];omega,λp R=>?_];let npl:l≠p:=λz=>by rw[<-z,j.lst]at R;cases R
  exists _,by rw[aH npl];exact j.lst,sZ;let kv:fD (jv<|i::g::o::N::O)=.ok ((#[i.2.place,X],#[g.2.place,b2]),jv<|N::O):=by delta fD;rw[tQ Y Z];show(hG<|jv<|g::o::N::O).bind _=_;rw[tQ e2 r2];show(fA 59<|jv<|o::N::O).map _=_;rw[Ez (q3.mp M)];rfl
  rw[kv]at k;let w1:Gm B y i.1 #[i.2.place,X]:=D_ q.head ((s2.trans s3).trans s4) (NT.one q.nt) Y Z;let w2:Gm B y g.1 #[g.2.place,b2]:=D_ u.head (s3.trans s4) (NT.one u.nt) e2 r2;let S:=j.add (e:=#[p,i.1,g.1,[],#[i.2.place,X],#[g.2.place,b2],none]) R rfl w1 w2;let sN:a' [x,l] y (upd (upd y p (.tup ([.ref i.1,.ref g.1]++[]))) l (.lst<|es.map (λe=>V.ref e.addr)++[V.ref p])):=(((a'.refl _ _).lay R)).upd sP;let sL:a' [l] y (upd (upd y p (.tup ([.ref i.1,.ref g.1]++[]))) l (.lst<|es.map (λe=>V.ref e.addr)++[V.ref p])):=(((a'.refl _ _).lay R)).upd sP;refine k _ #[p,i.1,g.1,[],#[i.2.place,X],#[g.2.place,b2],none] (N::O) ((sA.mono sP).trans sN) (hR4.Hu sL (NT.NL j.lst) (λm=>D<|by rw[bd.mp m];simp) (λm=>Xo (bd.mp m).symm)) ZA rfl S rfl rfl
def Rl(CT CR CF:Addr):Sp:=λvs H Q E=>∃x a l es t r,vs=[.ref x,.ref l]/\nW CT CR H x a (t::r)/\oI (t::r)/\kindS t.2.tok="edge"/\rL CT H l es/\l≠a/\↑es<=40/\
 (if ↑es=40 then kT [x,l] CF H 4 t.2.place E else match eT (jv r)with
  |.error f=>kT [x,l] CF H f.code f.place E
  |.ok v=>∀H' e lv r',a' [x,l] H H'->nW CT CR H' x a r'->oI r'->jv r'=v.2->rL CT H' l (es++[e])->(#[e.n1,e.n2,e.AC]:oK)=v.1->e.lq=[lv]->DB H' lv e.AC->Q .fP H')
def Br (U : qy K mg) {I CR T f : Addr}  (cT : fW K I ["kind", "value", "place", "behind"]) (h : iW K mg "read_edge" zx f fd) (i : Good P w K mg aD (nG P w T) 5 "take_word" ["reader", "word", "before", "most"] (FU I CR T))
    (d : nT P w K mg aD dO 1 CR "ahead" ["self"] (uj I CR)) (b : nT P w K mg aD (nG P w T) 4 CR "take" ["self", "kind"] (vE I CR T)) : Good P w K mg aD (nG P w T) 6 "read_edge" ["reader", "edges"] (Rl I CR T) := by
  refine h.JG ["reader", "edges", "first", "second", "label"] fun oz A outer s H vs Q E nd O h => ?_
  obtain ⟨x, a, l, es, t, r, rfl, hR, hE, SL, hS, Xo, hlen, k⟩ := h
  let hx := hR.nt
  let Xw : l ∉ [x] := fun m => by
    let #[n, zD, dx, h1, _] := id hR
    exact (eI hS.lst h1 sP) (bd.mp m)
  refine #[_, (aw (cO (pc i (O.mono dC) (E := E) fL (J5 v0 fM v1 (oY U.Ji))))
    (aw (st 2 nd (pm b v0 (O.mono dC) (E := E) fL (da fM)))
    (aw (cO (pm b v0 (O.mono dC) (E := E) fL (da fM)))
    (aw (st 3 nd (pm b v0 (O.mono dC) (E := E) fL (da fM)))
    (aw (st 4 nd sX)
    (aw (dI (bG il (fld K (ZQ d v0 (O.mono dC) wO)) fM (b9 _)) (aw (cO (pm b v0 (O.mono dC) (E := E) fL (da fM)))
    (aC (st 4 nd (fld K (pm b v0 (O.mono dC) (E := E) fL (da fM)))))) cg)
    (aw (cO (pm b v0 (O.mono dC) (E := E) fL (da fM)))
    (aC (cO (bm K aX bU bV fT v1 (da (jM (AF v2 v3 v4))))))))))))), ?_]
  generalize hN : KU (Cn (tM CR _ _ _ _ (jo (tC (V.str (eK ";"))) oG))) _ = NX
  lia
  refine #[x, a, l, "edge", 0, 40, _, t, r, rfl, hR, SL, hS.lst, ?_]
  rw [aj]
  by_cases c : ↑es = 40
  · rw [ac c]at k ⊢
    exact kT.mono k (a'.refl _ _) sP
  · rw [aa c]at k ⊢
    intro H1 s1 M
    obtain ⟨hE1, j, m1, rfl⟩ := hE.tail (m9 SL dK)
    let #[n1, ts1, dx1, g1, _] := id M
    let fail : ∀ H2 f, a' [x] H H2 → eT (jv (j :: m1)) = .error f → lD T H2 f.code f.place E := fun H2 f s e => by
      rw [e]at k
      exact kT.F9 (kT.mono (S' := []) k (s.mono sP) sP)
    refine #[dx1, _, g1, rfl, x, a, "name", j, m1, rfl, M, ?_]
    by_cases c1 : kindS j.2.tok = "name"
    rotate_left
    · rw [aa c1]
      exact fail H1 #[3, j.2.place] s1 (by delta eT; rw [yE c1]; rfl)
    rw [ac c1]
    intro H2 s2 hR2
    let #[b1, e1, r1] := nQ c1
    obtain ⟨Zz, J, m2, rfl⟩ := hE1.tail (m9 c1 dK)
    let #[n2, ts2, Zv, g2, _] := id hR2
    refine #[Zv, _, g2, rfl, x, a, "->", J, m2, rfl, hR2, ?_]
    let q2 : kindS J.2.tok = "->" ↔ J.2.tok = .sign 256 := nR (.inr (.inr #[rfl, rfl]))
    by_cases c2 : kindS J.2.tok = "->"
    rotate_left
    · rw [aa c2]
      refine fail H2 #[3, J.2.place] (s1.trans s2) ?_
      delta eT
      rw [tQ e1 r1]
      show (fA 256 (jv (J :: m2))).bind _ = _
      rw [Cw (fun z => c2 (q2.mpr z))]
      rfl
    rw [ac c2]
    intro H3 s3 N
    obtain ⟨G7, g, m3, rfl⟩ := Zz.tail (m9 c2 dK)
    let #[n3, ts3, dx3, g3, _] := id N
    refine #[dx3, _, g3, rfl, x, a, "name", g, m3, rfl, N, ?_]
    let R := (s1.trans s2).trans s3
    by_cases c3 : kindS g.2.tok = "name"
    rotate_left
    · rw [aa c3]
      refine fail H3 #[3, g.2.place] R ?_
      delta eT
      rw [tQ e1 r1]
      show (fA 256 (jv (J :: g :: m3))).bind _ = _
      rw [Ez (q2.mp c2)]
      show (hG (jv (g :: m3))).bind _ = _
      rw [yE c3]
      rfl
    rw [ac c3]
    intro H4 s4 C
    let #[b3, e3, r3] := nQ c3
    obtain ⟨ZA, y, L, rfl⟩ := G7.tail (m9 c3 dK)
    let #[n4, ts4, dx4, g4, _] := id C
    let v := R.trans s4
    let pre : ∀ X, eT (jv (j :: J :: g :: y :: L)) = X ↔ (if lR (.sign 58) (jv (y :: L)) = true then (hG ((jv (y :: L)).drop 1)).bind fun z => (fA 59 z.2).map fun m => ((#[#[j.2.place, b1], #[g.2.place, b3], some z.1.name] : oK), m)
        else (fA 59 (jv (y :: L))).map fun m => ((#[#[j.2.place, b1], #[g.2.place, b3], none] : oK), m)) = X := by
      intro X
      delta eT
      rw [tQ e1 r1]
      show (fA 256 (jv (J :: g :: y :: L))).bind _ = _ ↔ _
      rw [Ez (q2.mp c2)]
      show (hG (jv (g :: y :: L))).bind _ = _ ↔ _
      rw [tQ e3 r3]
      rfl
    let w1 : ∀ q, a' [x] H4 q → Gm I q j.1 #[j.2.place, b1] := fun q s5 => D_ M.head (((s2.trans s3).trans s4).trans s5) (NT.one M.nt) e1 r1
    let w3 : ∀ q, a' [x] H4 q → Gm I q g.1 #[g.2.place, b3] := fun q s5 => D_ N.head (s4.trans s5) (NT.one N.nt) e3 r3
    let fin : ∀ D q lv AC u m, D.nx = (fun _ H' => Q .fP H') → a' [x] H4 q → nW I CR q x a (u :: m) → oI (u :: m) → DB q lv AC →
        (eT (jv (j :: J :: g :: y :: L)) = (fA 59 (jv (u :: m))).map fun m => ((#[#[j.2.place, b1], #[g.2.place, b3], AC] : oK), m)) → NX D [~~~.ref x, some (.ref l), some (.ref j.1), some (.ref g.1), some lv] q := by
      intro D q lv AC u m hD s5 o Y JP hv
      let #[n5, ts5, Z, g5, _] := id o
      rw [← hN]
      lia
      refine #[Z, _, g5, rfl, x, a, ";", u, m, rfl, o, ?_]
      let q5 : kindS u.2.tok = ";" ↔ u.2.tok = .sign 59 := nR (.inl #[rfl, rfl])
      by_cases G : kindS u.2.tok = ";"
      rotate_left
      · rw [aa G]
        refine fail q #[3, u.2.place] (v.trans s5) ?_
        rw [hv, Cw (fun z => G (q5.mpr z))]
        rfl
      rw [ac G]
      intro H6 s6 hR6
      obtain ⟨hE6, u6, m6, rfl⟩ := Y.tail (m9 G dK)
      let sA := (v.trans s5).trans s6
      let B := sA.xE (NT.one hx) hS Xw
      refine #[.inl #[rfl, _, bW.of B.lst], by show 3 ≤ sizeLine; rw [aK]; omega, fun p hp => ?_]
      let npl : l ≠ p := fun z => by rw [← z, B.lst]at hp; cases hp
      refine #[_, by rw [aH npl]; exact B.lst, sZ, ?_]
      rw [hv, Ez (q5.mp G)]at k
      let P_ := B.add (e := #[p, j.1, g.1, [lv], #[j.2.place, b1], #[g.2.place, b3], AC]) hp rfl (w1 H6 (s5.trans s6)) (w3 H6 (s5.trans s6))
      let sL : a' [l] H6 (upd (upd H6 p (.tup ([.ref j.1, .ref g.1] ++ [lv]))) l (.lst (es.map (fun e => V.ref e.addr) ++ [V.ref p]))) := (((a'.refl _ _).lay hp)).upd sP
      rw [hD]
      exact k _ #[p, j.1, g.1, [lv], #[j.2.place, b1], #[g.2.place, b3], AC] lv (u6 :: m6) ((sA.mono sP).trans (sL.mono sP)) (hR6.Hu sL (NT.NL B.lst) (fun m => Xw (by rw [bd.mp m]; simp)) (fun m => Xo (bd.mp m).symm)) hE6 rfl P_ rfl rfl
        (sL.AC (NT.NL B.lst) (s6.AC (NT.one o.nt) JP))
    let #[q0, hq0] := C.head
    let #[v4, #[dt4, et4], hv4] := id hq0
    refine #[dx4, _, g4, rfl, x, a, y, L, rfl, C, _, rfl, I, dt4, _, et4, cT.cl, cT.no "kind" sP, _, rfl, rfl, ?_]
    let q4 : kindS y.2.tok = ":" ↔ y.2.tok = .sign 58 := nR (.inr (.inl #[rfl, rfl]))
    by_cases c4 : kindS y.2.tok = ":"
    rotate_left
    · refine (aa (by simp [c4])).mpr (fin _ H4 .fP none y L rfl (a'.refl _ _) C ZA rfl ?_)
      rw [pre, aa (fun z => c4 (q4.mpr (ud.mp z)))]
    refine (ac (by simp [c4])).mpr #[dx4, _, g4, rfl, x, a, ":", y, L, rfl, C, ?_]
    rw [ac c4]
    intro q s5 o
    obtain ⟨Y, u5, m5, rfl⟩ := ZA.tail (m9 c4 dK)
    let #[n5, ts5, Z, g5, _] := id o
    refine #[Z, _, g5, rfl, x, a, "name", u5, m5, rfl, o, ?_]
    let nxt : lR (.sign 58) (jv (y :: u5 :: m5)) = true := ud.mpr (q4.mp c4)
    by_cases G : kindS u5.2.tok = "name"
    rotate_left
    · rw [aa G]
      refine fail q #[3, u5.2.place] (v.trans s5) ?_
      rw [pre, ac nxt]
      show (hG (jv (u5 :: m5))).bind _ = _
      rw [yE G]
      rfl
    rw [ac G]
    intro H6 s6 hR6
    let #[b5, e5, r5] := nQ G
    obtain ⟨hE6, u6, m6, rfl⟩ := Y.tail (m9 G dK)
    obtain ⟨⟨q6, v6, ⟨dt6, et6⟩, hv6⟩, _⟩ := D_ o.head s6 (NT.one o.nt) e5 r5
    let S : (if bI.contains b5 = true then v6 = .fP else ∃ a, v6 = .ref a ∧ H6 a = some (.tup ((ff b5).map V.int))) := hv6
    rw [aa (by rw [r5]; simp)]at S
    refine #[_, rfl, I, dt6, _, et6, cT.cl, cT.no "value" sP, _, rfl, fin _ H6 v6 (some b5) u6 m6 rfl (s5.trans s6) hR6 hE6 S ?_]
    rw [pre, ac nxt]
    show (hG (jv (u5 :: u6 :: m6))).bind _ = _
    rw [tQ e5 r5]
    rfl
structure Gb where
 addr:Addr
 t:Addr
 nm:lY
 w:Nat
 h:Nat
structure O8(CT:Addr)(H:Hp)(e:Gb):Prop where
 tup:H e.addr>.tup [.ref e.t,.int (e.w:Int),.int (e.h:Int)]
 a1:Gm CT H e.t e.nm
structure Ss(CT:Addr)(H:Hp)(l:Addr)(es:List Gb):Prop where
 lst:H l>.lst (es.map λe=>V.ref e.addr)
 bx:∀e∈es,O8 CT H e
def a'.box(s:a' S H c)(a:∀b∈S,∀o,H b>o->NT o)(h:O8 d H e):O8 d c e:=#[s.tup a h.tup,s.nm a h.a1]
def a'.zQ(s:a' S H a)(c:∀b∈S,∀o,H b>o->NT o)(h:Ss d H l es)(f:l∉S):Ss d a l es:=#[s _ _ f h.lst,λe he=>s.box c<|h.bx e he]
def Ss.add(h:Ss d H l es)(c:H p=none)(f:e.addr=p)(n:Gm d H e.t e.nm):
  Ss d (upd (upd H p (.tup [.ref e.t,.int (e.w:Int),.int (e.h:Int)])) l (.lst<|es.map (λe=>V.ref e.addr)++[V.ref p])) l (es++[e]):=by
 let g:=h.lst;let a:p≠l:=λz=>by rw[z,g]at c;cases c
 let s1:a' [] H (upd H p (.tup [.ref e.t,.int (e.w:Int),.int (e.h:Int)])):=(a'.refl _ _).lay c;let s2:a' [l] (upd H p (.tup [.ref e.t,.int (e.w:Int),.int (e.h:Int)])) (upd (upd H p (.tup [.ref e.t,.int (e.w:Int),.int (e.h:Int)])) l (.lst<|es.map (λe=>V.ref e.addr)++[V.ref p])):=(a'.refl _ _).upd sP;let i:∀b∈([]:List Addr),∀o,H b>o->NT o:=λb q=>by simp at q
 let j:=NT.NL (H:=upd H p (.tup [.ref e.t,.int (e.w:Int),.int (e.h:Int)])) (l:=l) (by rw[aH a.symm];exact g);refine#[by rw[au,aJ];simp[f],λy r=>?_];obtain m|m:=aM.mp r
 .exact s2.box j (s1.box i<|h.bx y m)
 .rw[bd.mp m];exact#[by rw[f,aH a,au],s2.nm j<|s1.nm i n]
def Sc{lo d:Nat}(h:kindS u.2.tok≠"number"):ei lo d (jv<|u::m)=.error #[3,u.2.place]:=by
 let#[a,p,t]:=u;cases t with
 |num n=>exact ae rfl h
 |name b=>rfl
 |sign c=>rfl
 |last=>rfl
def Wj(CT CR CF:Addr):Sp:=λvs H Q E=>∃x a l es t r,vs=[.ref x,.ref l]/\nW CT CR H x a (t::r)/\oI (t::r)/\kindS t.2.tok="box"/\Ss CT H l es/\l≠a/\↑es<=24/\
 (if ↑es=24 then kT [x,l] CF H 4 t.2.place E else match gb (jv r)with
  |.error f=>kT [x,l] CF H f.code f.place E
  |.ok v=>∀H' e r',a' [x,l] H H'->nW CT CR H' x a r'->oI r'->jv r'=v.2->Ss CT H' l (es++[e])->(#[e.nm,e.w,e.h]:nZ)=v.1->Q .fP H')
def Db (T : Txt K mg) (U : qy K mg) {y CR J f : Addr}  (S : fW K y ["kind", "value", "place", "behind"]) (h : iW K mg "read_box" B8 f fd) (j : Good P w K mg aD (nG P w J) 5 "take_word" ["reader", "word", "before", "most"] (FU y CR J))
    (g : nT P w K mg aD dO 1 CR "ahead" ["self"] (uj y CR)) (d : nT P w K mg aD (nG P w J) 4 CR "take" ["self", "kind"] (vE y CR J)) (b : nT P w K mg aD (nG P w J) 5 CR "take_within" ["self", "least", "greatest"] (Ch y CR J)) :
    Good P w K mg aD (nG P w J) 6 "read_box" ["reader", "boxes"] (Wj y CR J) := by
  refine h.JG ["reader", "boxes", "name", "width", "height"] fun oz A outer s H vs Q E nd Y h => ?_
  obtain ⟨x, a, l, es, t, r, rfl, hR, hE, SL, hS, Xo, hlen, k⟩ := h
  let hx := hR.nt
  let Xw : l ∉ [x] := fun m => by
    let #[n, zD, dx, h1, _] := id hR
    exact (eI hS.lst h1 sP) (bd.mp m)
  refine #[_, (aw (cO (pc j (Y.mono dC) (E := E) fL (J5 v0 fM v1 (oY U.Jh))))
    (aw (st 2 nd (pm d v0 (Y.mono dC) (E := E) fL (da fM)))
    (aw (st 3 nd (fV jL (bO (ia K) rfl T.len dB (da (fld K v2))) aV))
    (aw (st 4 nd (oY U.O_))
    (aw (dI (bG il (fld K (ZQ g v0 (Y.mono dC) wO)) fM (b9 _)) (aw (st 3 nd (pm b v0 (Y.mono dC) (E := E) fL (ir (fV jL (bO (ia K) rfl T.len dB (da (fld K v2))) aV) (oY U.WW))))
    (aC (st 4 nd (pm b v0 (Y.mono dC) (E := E) fL (ir (oY U.O_) (oY U.SY)))))) cg)
    (aw (cO (pm d v0 (Y.mono dC) (E := E) fL (da fM)))
    (aC (cO (bm K aX bU bV fT v1 (da (jM (AF v2 v3 v4)))))))))))), ?_]
  generalize hN : KU (Cn (tM CR _ _ _ _ (jo (tC (V.str (eK ";"))) oG))) _ = NX
  lia
  refine #[x, a, l, "box", 0, 24, _, t, r, rfl, hR, SL, hS.lst, ?_]
  rw [aj]
  by_cases c : ↑es = 24
  · rw [ac c]at k ⊢
    exact kT.mono k (a'.refl _ _) sP
  · rw [aa c]at k ⊢
    intro H1 s1 L
    obtain ⟨hE1, o, m1, rfl⟩ := hE.tail (m9 SL dK)
    let #[n1, ts1, dx1, g1, _] := id L
    let fail : ∀ I f, a' [x] H I → gb (jv (o :: m1)) = .error f → kT [x] J I f.code f.place E := fun I f s e => by
      rw [e]at k
      exact kT.mono k (s.mono sP) sP
    refine #[dx1, _, g1, rfl, x, a, "name", o, m1, rfl, L, ?_]
    by_cases c1 : kindS o.2.tok = "name"
    rotate_left
    · rw [aa c1]
      exact kT.F9 (fail H1 #[3, o.2.place] s1 (by delta gb; rw [yE c1]; rfl))
    rw [ac c1]
    intro I s2 B
    let #[i, e1, r1] := nQ c1
    obtain ⟨Zz, q, v, rfl⟩ := hE1.tail (m9 c1 dK)
    let #[n2, ts2, Zv, g2, _] := id B
    let M := s1.trans s2
    let w1 : ∀ N, a' [x] I N → Gm y N o.1 #[o.2.place, i] := fun N s5 => D_ L.head (s2.trans s5) (NT.one L.nt) e1 r1
    obtain ⟨⟨q1, v1, ⟨Zt, Zw⟩, hv1⟩, _⟩ := w1 I (a'.refl _ _)
    let R : (if bI.contains i = true then v1 = .fP else ∃ a, v1 = .ref a ∧ I a = some (.tup ((ff i).map V.int))) := hv1
    rw [aa (by rw [r1]; simp)]at R
    obtain ⟨av, rfl, hav⟩ := R
    let pre : ∀ X, gb (jv (o :: q :: v)) = X ↔ (if lR (.sign 59) (jv (q :: v)) = true then Except.ok ((#[#[o.2.place, i], ↑i + 4, 3] : nZ), (jv (q :: v)).drop 1)
        else (ei (↑i + 2) 30 (jv (q :: v))).bind fun w => (ei 3 9 w.2).bind fun h => (fA 59 h.2).map fun m => ((#[#[o.2.place, i], w.1, h.1] : nZ), m)) = X := by
      intro X
      delta gb
      rw [tQ e1 r1]
      rfl
    let fin : ∀ D N ww O u m, D.nx = (fun _ H' => Q .fP H') → a' [x] I N → nW y CR N x a (u :: m) → oI (u :: m) →
        (gb (jv (o :: q :: v)) = (fA 59 (jv (u :: m))).map fun m => ((#[#[o.2.place, i], ww, O] : nZ), m)) → NX D [~~~.ref x, some (.ref l), some (.ref o.1), some (.int (ww : Int)), some (.int (O : Int))] N := by
      intro D N ww O u m hD s5 hR5 hE5 hv
      let #[n5, ts5, dx5, g5, _] := id hR5
      rw [← hN]
      lia
      refine #[dx5, _, g5, rfl, x, a, ";", u, m, rfl, hR5, ?_]
      let q5 : kindS u.2.tok = ";" ↔ u.2.tok = .sign 59 := nR (.inl #[rfl, rfl])
      by_cases c5 : kindS u.2.tok = ";"
      rotate_left
      · rw [aa c5]
        refine kT.F9 (fail N #[3, u.2.place] (M.trans s5) ?_)
        rw [hv, Cw (fun z => c5 (q5.mpr z))]
        rfl
      rw [ac c5]
      intro H6 s6 hR6
      obtain ⟨hE6, u6, m6, rfl⟩ := hE5.tail (m9 c5 dK)
      let sA := (M.trans s5).trans s6
      let C := sA.zQ (NT.one hx) hS Xw
      refine #[.inl #[rfl, _, bW.of C.lst], by show 3 ≤ sizeLine; rw [aK]; omega, fun p hp => ?_]
      let npl : l ≠ p := fun z => by rw [← z, C.lst]at hp; cases hp
      refine #[_, by rw [aH npl]; exact C.lst, sZ, ?_]
      rw [hv, Ez (q5.mp c5)]at k
      let P_ := C.add (e := #[p, o.1, #[o.2.place, i], ww, O]) hp rfl (w1 H6 (s5.trans s6))
      let sL : a' [l] H6 (upd (upd H6 p (.tup [.ref o.1, .int (ww : Int), .int (O : Int)])) l (.lst (es.map (fun e => V.ref e.addr) ++ [V.ref p]))) := (((a'.refl _ _).lay hp)).upd sP
      rw [hD]
      exact k _ #[p, o.1, #[o.2.place, i], ww, O] (u6 :: m6) ((sA.mono sP).trans (sL.mono sP)) (hR6.Hu sL (NT.NL C.lst) (fun m => Xw (by rw [bd.mp m]; simp)) (fun m => Xo (bd.mp m).symm)) hE6 rfl P_ rfl
    let lv : ↑((ff i).map V.int) = ↑i := by rw [aj, dU]
    refine #[_, rfl, y, Zt, _, Zw, S.cl, S.no "value" sP, _, rfl, av, rfl, _, .inr (.inl (.inl hav)), ?_]
    rw [lv]
    let #[q0, hq0] := B.head
    let #[v2, #[dt2, et2], hv2] := id hq0
    refine #[Zv, _, g2, rfl, x, a, q, v, rfl, B, _, rfl, y, dt2, _, et2, S.cl, S.no "kind" sP, _, rfl, rfl, ?_]
    let q2 : kindS q.2.tok = ";" ↔ q.2.tok = .sign 59 := nR (.inl #[rfl, rfl])
    by_cases c2 : kindS q.2.tok = "number"
    rotate_left
    · let ew : ((↑i : Nat) : Int) + 4 = ((↑i + 4 : Nat) : Int) := oM
      refine (aa (by simp [c2])).mpr ?_
      rw [ew]
      refine fin _ I (↑i + 4) 3 q v rfl (a'.refl _ _) B Zz ?_
      rw [pre]
      by_cases Z : lR (.sign 59) (jv (q :: v)) = true
      · rw [ac Z, Ez (ud.mp Z)]; rfl
      · rw [aa Z, Sc c2, Cw (fun z => Z (ud.mpr z))]; rfl
    let #[nn, en] := Hi c2
    let nxt : ¬ lR (.sign 59) (jv (q :: v)) = true := fun z => by rw [ud.mp z]at en; cases en
    let ew : ((↑i : Nat) : Int) + 2 = ((↑i + 2 : Nat) : Int) := oM
    refine (ac (by simp [c2])).mpr #[Zv, _, g2, rfl, _, rfl, y, Zt, _, Zw, S.cl, S.no "value" sP, _, rfl, av, rfl, _, .inr (.inl (.inl hav)), ?_]
    rw [lv, ew]
    refine #[x, a, ↑i + 2, 30, q, v, rfl, B, ?_]
    let G : ∀ X, gb (jv (o :: q :: v)) = X ↔ ((ei (↑i + 2) 30 (jv (q :: v))).bind fun w => (ei 3 9 w.2).bind fun h => (fA 59 h.2).map fun m => ((#[#[o.2.place, i], w.1, h.1] : nZ), m)) = X := fun X => by
      rw [pre, aa nxt]
    cases hw : ei (↑i + 2) 30 (jv (q :: v))with
    | error f =>
      refine fail I f M ?_
      rw [G, hw]; rfl
    | ok vw =>
      dsimp only
      intro ev H3 s3 VR et3
      obtain ⟨G7, u3, m3, rfl⟩ := Zz.tail (m9 c2 dK)
      let #[n3, ts3, dx3, g3, _] := id VR
      refine #[dx3, _, g3, rfl, x, a, 3, 9, u3, m3, rfl, VR, ?_]
      cases O : ei 3 9 (jv (u3 :: m3))with
      | error f =>
        refine fail H3 f (M.trans s3) ?_
        rw [G, hw]
        show (ei 3 9 vw.2).bind _ = _
        rw [ev, O]; rfl
      | ok vh =>
        dsimp only
        intro eh H4 s4 hR4 et4
        let Z : kindS u3.2.tok = "number" := by rw [et4]; rfl
        obtain ⟨ZA, u4, m4, rfl⟩ := G7.tail (m9 Z dK)
        refine fin _ H4 vw.1 vh.1 u4 m4 rfl (s3.trans s4) hR4 ZA ?_
        rw [G, hw]
        show (ei 3 9 vw.2).bind _ = _
        rw [ev, O]
        show (fA 59 vh.2).map _ = _
        rw [eh]
def yC(h:hG l=.ok v):↑v.2<↑l:=by
 delta hG at h;split at h
 .split at h
  .cases h
  .grind
 .cases h
def Cp(h:fA c l=.ok v):↑v<=↑l:=by
 delta fA MX at h;split at h
 .grind
 .cases h
def R'{lo a:Nat}(h:ei lo a l=.ok v):↑v.2<=↑l:=by
 delta ei at h;split at h
 .grind
 .cases h
def nw{b c:Type}{x:Except zM b}{f:b->Except zM c}{v:c}(h:x.bind f=.ok v):∃a,x=.ok a/\f a=.ok v:=by
 cases x with
 |error e=>cases h
 |ok a=>exact#[a,rfl,h]
def BF{b c:Type}{x:Except zM b}{f:b->c}{v:c}(h:x.map f=.ok v):∃a,x=.ok a/\f a=v:=by
 cases x with
 |error e=>cases h
 |ok a=>exact#[a,rfl,by injection h]
def RO(h:gb l=.ok v):↑v.2<=↑l:=by
 delta gb at h;let#[x,a,h]:=nw h;let e:=yC a;split at h
 .grind
 .let#[w,b,h]:=nw h;let#[y,c,h]:=nw h;let#[m,d,h]:=BF h;let:=R' b;let:=R' c;let:=Cp d;subst h;dsimp only;omega
def Ov(h:eT l=.ok v):↑v.2<=↑l:=by
 delta eT at h;let#[x,b,h]:=nw h;let#[f,c,h]:=nw h;let#[y,d,h]:=nw h;let:=yC b;let:=Cp c;let:=yC d;split at h
 .let#[z,e,h]:=nw h;let#[m,a,h]:=BF h;let:=yC e;let:=Cp a;subst h;dsimp only;simp only[cw]at*;omega
 .let#[m,a,h]:=BF h;let:=Cp a;subst h;dsimp only;omega
def Oy(h:fD l=.ok v):↑v.2<=↑l:=by delta fD at h;let#[x,a,h]:=nw h;let#[y,b,h]:=nw h;let#[m,c,h]:=BF h;let:=yC a;let:=yC b;let:=Cp c;subst h;dsimp only;omega
def Ph(h:t.2.tok=.last):dA (n+1) d (jv<|t::r)=.ok d:=by let#[a,p,k]:=t;dsimp only at h;subst h;rfl
def Lk(h:t.2.tok=.name (bn "box")):
  dA (n+1) d (jv<|t::r)=if 24<=↑d.boxes then .error #[4,t.2.place]else(gb<|jv r).bind λx=>dA n {d with boxes:=d.boxes++[x.1]} x.2:=by
 let#[a,p,k]:=t;dsimp only at h;subst h;rfl
def Gv(h:t.2.tok=.name (bn "edge")):
  dA (n+1) d (jv<|t::r)=if 40<=↑d.edges then .error #[4,t.2.place]else(eT<|jv r).bind λx=>dA n {d with edges:=d.edges++[x.1]} x.2:=by
 let#[a,p,k]:=t;dsimp only at h;subst h;rfl
def Gw(h:t.2.tok=.name (bn "above")):
  dA (n+1) d (jv<|t::r)=if 16<=↑d.wishes then .error #[4,t.2.place]else(fD<|jv r).bind λx=>dA n {d with wishes:=d.wishes++[x.1]} x.2:=by
 let#[a,p,k]:=t;dsimp only at h;subst h;rfl
def MZ(h0:t.2.tok≠.last)(e:t.2.tok≠.name (bn "box"))(f:t.2.tok≠.name (bn "edge"))(g:t.2.tok≠.name (bn "above")):
  dA (n+1) d (jv<|t::r)=.error #[3,t.2.place]:=by
 let#[a,p,k]:=t;cases k with
 |name b=>
  show(if b=bn "box" then _ else if b=bn "edge" then _ else if b=bn "above" then _ else _)=_;rw[aa (λz=>e<|by rw[z]),aa<|λz=>f<|by rw[z],aa (λz=>g<|by rw[z])];rfl
 |num n=>rfl
 |sign c=>rfl
 |last=>exact ae rfl h0
def Rw(C:Addr):Sp:=λvs H Q _=>∃x dx a,vs=[.ref x,.ref a]/\H x>.ins C dx []/\Q .fP (upd H x<|.ins C dx<|Ob a 0)
def BP(F:xW K "__init__" "Reader.__init__" uN f fd)(c:fW K C ["tokens","at"]):j4 P w K mg aD dO 1 f fd ["self","tokens"] (Rw C):=by refine F.gk ["self","tokens"] λd A outer s H vs Q E g i h=>?_;obtain⟨x,b,a,rfl,e,q⟩:=h;exists _,(aw (md K v0 v1) (aC<|md K v0 aV));lia;exists C,b,[],e,c.cl,c.no _ sP,dC,C,b,_,au,c.cl,c.no _ sP,(by show 1<1000;decide);rw[hH];exact q
def stF(p1 p2 p3:Addr):List (Str×V):=[("boxes",.ref p1),("edges",.ref p2),("wishes",.ref p3)]
def RB(C:Addr):Sp:=λvs H Q _=>∃x dx,vs=[.ref x]/\H x>.ins C dx []/\∀H' p1 p2 p3,a' [x] H H'->H p1=none->H p2=none->H p3=none->p1≠p2->p1≠p3->p2≠p3->H' p1>.lst []->H' p2>.lst []->H' p3>.lst []->H' x>(.ins C dx<|stF p1 p2 p3)->Q .fP H'
def vy(F:xW K "__init__" "Statements.__init__" o5 f fd)(c:fW K C ["boxes","edges","wishes"]):j4 P w K mg aD dO 1 f fd ["self"] (RB C):=by
 refine F.gk ["self"] λv A outer s H vs Q E G I h=>?_;obtain⟨x,r,rfl,u,q⟩:=h;exists _,(aw (md K v0<|dr ib)
  (aw (md K v0<|dr ib)
  (aC<|md K v0<|dr ib)))
 lia;refine#[cP _,λd e=>?_];let n:x≠d:=λz=>by rw[<-z,u]at e;cases e
 refine#[C,r,[],by rw[aH n];exact u,c.cl,c.no _ sP,dC,cP _,λg b=>?_];let y:iu "boxes" (V.ref d) []=[(("boxes":Str),V.ref d)]:=rfl;rw[y]at b|-;let o:x≠g:=λz=>by rw[<-z,au]at b;cases b
 rw[aH o.symm]at b;let i:d≠g:=λz=>by rw[<-z,au]at b;cases b
 rw[aH i.symm]at b;refine#[C,r,_,by rw[aH o,au],c.cl,c.no _ sP,(by show 1<1000;decide),cP _,λm a=>?_];let B:iu "edges" (V.ref g) [(("boxes":Str),V.ref d)]=([("boxes",.ref d),("edges",.ref g)]:List (Str×V)):=rfl;rw[B]at a|-;let p:x≠m:=λz=>by rw[<-z,au]at a;cases a
 rw[aH p.symm]at a;let j:g≠m:=λz=>by rw[<-z,au]at a;cases a
 rw[aH j.symm,aH p.symm]at a;let l:d≠m:=λz=>by rw[<-z,au]at a;cases a
 rw[aH l.symm]at a;exists C,r,_,by rw[aH p,au],c.cl,c.no _ sP,(by show 2<1000;decide);let D:iu "wishes" (V.ref m) ([("boxes",.ref d),("edges",.ref g)]:List (Str×V))=stF d g m:=rfl;rw[D];refine q _ d g m ?_ e b a i l j ?_ ?_ ?_ au
 .refine a'.upd (a'.lay (a'.upd (a'.lay (a'.upd (a'.lay (a'.refl _ _) e) sP) b) sP) a) sP
 .rw[aH n.symm,aH l,aH n.symm,aH i,aH n.symm,au]
 .rw[aH o.symm,aH j,aH o.symm,au]
 .rw[aH p.symm,au]
end
section
variable{P:a7}{w:bS}{K:ao}{mg:Str->Option Value}{aD:Heap}
open VadiBase (PName)
structure Told(CT CS:Addr)(H:Hp)(y bl el wl:Addr)(bs:List Gb)(es ws:List Gp):Prop where
 ins:∃dy,H y>.ins CS dy (stF bl el wl)
 bx:Ss CT H bl bs
 ed:rL CT H el es
 wi:rL CT H wl ws
 AC:∀e∈es,∃lv,e.lq=[lv]/\DB H lv e.AC
 w3:∀e∈ws,e.lq=[]
 n1:bl≠el
 n2:bl≠wl
 n3:el≠wl
 l1:↑bs<=24
 l2:↑es<=40
 l3:↑ws<=16
def pA(bs:List Gb)(es ws:List Gp):so:=#[bs.map λe=>#[e.nm,e.w,e.h],es.map λe=>#[e.n1,e.n2,e.AC],ws.map λe=>(e.n1,e.n2)]
def abz{H:Hp}(c:H x>(.ins C d<|Ob a n))(b:H y>(.ins e f<|stF g i j)):y≠x:=λz=>by rw[z,c]at b;injection b with b;injection b with _ _ h;delta stF Ob at h;injection h with h _;injection h with h _;exact ae h dK
def Rx(CT CS CF:Addr):Sp:=λvs H Q E=>∃a zD,vs=[.ref a]/\Toks CT H a zD/\oI zD/\↑zD<=5000/\
 match dA (↑zD+1) nh (jv zD)with
 |.error f=>lD CF H f.code f.place E
 |.ok d=>∀H' y bl el wl bs es ws,a8 H H'->H y=none->Told CT CS H' y bl el wl bs es ws->pA bs es ws=d->Q (.ref y) H'
def sI{T CR CS CF N fX f:Addr}(X:vS P w K mg aD CF N fX VM)(cT:fW K T ["kind","value","place","behind"])(cS:fW K CS ["boxes","edges","wishes"])(h:iW K mg "read_statements" o_ f fd)
  (O:GoodC P w K mg aD 1 "Reader" CR ["self","tokens"] (Rw CR))(B:GoodC P w K mg aD 1 "Statements" CS ["self"] (RB CS))(g:nT P w K mg aD dO 1 CR "ahead" ["self"] (uj T CR))
  (I:Good P w K mg aD (nG P w CF) 6 "read_box" ["reader","boxes"] (Wj T CR CF))(D:Good P w K mg aD (nG P w CF) 6 "read_edge" ["reader","edges"] (Rl T CR CF))(G:Good P w K mg aD (nG P w CF) 6 "read_wish" ["reader","wishes"] (RD T CR CF)):
  Good P w K mg aD (nG P w CF) 7 "read_statements" ["tokens"] (Rx T CS CF):=by
 refine h.JG ["tokens","reader","told","word"] λoz A outer s H vs Q E nd hr h=>?_;obtain⟨a,U,rfl,hT,hE,hlen,k⟩:=h;exists _,(aw (st 1 nd<|Us O (hr.mono dC) (da v0))
  (aw (st 2 nd<|abr B<|hr.mono dC)
  (aw (jm eC (bG LY (fld K<|ZQ g v1 (hr.mono dC) wO) fM (b9 _)) (aw (st 3 nd<|fld K<|ZQ g v1 (hr.mono dC) wO)
  (aC (dI (bG il v3 fM<|b9 _) (aC (cO (pc I (hr.mono dC) (E:=E) fL (ir v1<|fld K v2)))) (aC (dI (bG il v3 fM<|b9 _) (aC (cO (pc D (hr.mono dC) (E:=E) fL (ir v1<|fld K v2)))) (aC (dI (bG il v3 fM<|b9 _) (aC (cO (pc G (hr.mono dC) (E:=E) fL (ir v1<|fld K v2)))) (aC (jl (E:=E) X.c hr.hd (jk X.c X.F (hr.mono dC) rfl X.mg X.b dC (ir aV<|fld K<|ZQ g v1 (hr.mono dC) wO)) (λ_ _ _ _ _ _=>jn)))))))))))
  (aC<|bC v2))))
 lia;intro x dx hx Qa hnx;refine#[x,dx,a,rfl,au,rfl,λy dy hy hdy hny=>?_];rw[hH]at hy hdy|-;refine#[y,dy,rfl,au,λH1 bl el wl s1 TK VU NC n12 n13 n23 g1 g2 g3 gy=>#[rfl,?_]];let sa:a8 H (upd (upd H dx<|.own x) x (.ins CR dx<|Ob a 0)):=lay (lay0 Qa) hx;generalize hH0:upd (upd H dx<|.own x) x (.ins CR dx<|Ob a 0)=H0 at sa hy hdy s1 TK VU NC;let hx0:H0 x>(.ins CR dx<|Ob a 0):=by rw[<-hH0,au]
 let sb:a8 H0 (upd (upd H0 dy<|.own y) y (.ins CS dy [])):=lay (lay0 hdy) hy;let sab:=sa.trans sb;let yH:H y=none:=bh sa hy;let Y:=bh sab TK;let Z:=bh sab VU;let wlH:=bh sab NC;let xy:x∉[y]:=λm=>by rw[<-bd.mp m,hx0]at hy;cases hy
 let sH1:a8 H H1:=a'.nil<|a'.drop ((cX sab).trans s1) yH;let hx1:H1 x>(.ins CR dx<|Ob a 0):=s1 _ _ xy<|sb _ _ hx0;let abl:a≠bl:=λz=>by rw[<-z,hT.lst]at Y;cases Y
 let ael:a≠el:=λz=>by rw[<-z,hT.lst]at Z;cases Z
 let awl:a≠wl:=λz=>by rw[<-z,hT.lst]at wlH;cases wlH
 let n0:∀b∈([]:List Addr),∀o,H b>o->NT o:=λb R=>by simp at R
 let acp:Told T CS H1 y bl el wl [] [] []:=#[#[dy,gy],#[g1,λe he=>by simp at he],#[g2,λe he=>by simp at he],#[g3,λe he=>by simp at he],λe he=>by simp at he,λe he=>by simp at he,n12,n13,n23,sP,sP,sP];let#[W,hW]:∃W:Nat->L2.St->Hp->Prop,∀m σ H2,W m σ H2↔∃(l:List (Addr×gA))(n:Nat)(bs:List Gb)(es ws:List Gp)(x3:Option V),m=↑l/\↑l<n/\nW T CR H2 x a l/\oI l/\
   dA (↑U+1) nh (jv U)=dA n (pA bs es ws) (jv l)/\σ=[~~~.ref a,~~~.ref x,~~~.ref y,x3]/\a8 H H2/\Told T CS H2 y bl el wl bs es ws:=#[_,λ_ _ _=>pG]
 exists W,#[_,(hW _ _ _).mpr #[U,↑U+1,[],[],[],none,rfl,j8 _,#[0,U,dx,hx1,(cX sH1:a' [] H H1).toks n0 sP hT,rfl],hE,rfl,rfl,sH1,acp]];intro m σ H2 hw;obtain⟨l,n,bs,es,ws,x3,rfl,hln,hR,hEl,j,rfl,s2,d⟩:=(hW _ _ _).mp hw;obtain⟨t,r,rfl⟩:∃t r,l=t::r:=by
  let#[init,e,e1,_]:=hEl;cases init with
  |nil=>exact#[_,_,e1]
  |cons i init=>exact#[_,_,e1]
 obtain⟨n',rfl⟩:∃n',n=n'+1:=#[n-1,oM];let#[nr,tsr,dxr,gr,_]:=id hR;let#[q0,hq0]:=hR.head;let#[v0,#[dt,et],hv0]:=id hq0;let#[S,C]:=d.ins;let hl':↑r+1<n'+1:=by simpa using hln
 lia;exists dxr,_,gr,rfl,x,a,t,r,rfl,hR,_,rfl,T,dt,_,et,cT.cl,cT.no "kind" sP,_,rfl,rfl;by_cases c0:kindS t.2.tok="end"
 .refine(aa<|by simp[c0]).mpr ?_;rw[j,Ph (Hh.mp c0)]at k;exact k H2 y bl el wl bs es ws s2 yH d rfl
 let z0:t.2.tok≠.last:=λz=>c0<|Hh.mpr z;refine(ac<|by simp[c0]).mpr #[_,λ_ _ z=>z,dxr,_,gr,rfl,x,a,t,r,rfl,hR,_,rfl,T,dt,_,et,cT.cl,cT.no "kind" sP,_,rfl,rfl,?_];let k1:kindS t.2.tok="box"↔t.2.tok=.name (bn "box"):=yn (.inl #[rfl,rfl]);let k2:kindS t.2.tok="edge"↔t.2.tok=.name (bn "edge"):=yn (.inr (.inl #[rfl,rfl]));let k3:kindS t.2.tok="above"↔t.2.tok=.name (bn "above"):=yn (.inr (.inr #[rfl,rfl]));let p:∀(L:Addr),L≠x->H L=none->∀q,a' [x,L] H2 q->a8 H q:=λL _ hL q s3=>by let hxH:H x=none:=hx;let z:a' [x,L] H q:=(cX s2).trans s3;exact a'.nil (a'.drop (a'.drop z hxH) hL)
 let xbl:bl≠x:=eI d.bx.lst gr sP;let xel:el≠x:=eI d.ed.lst gr sP;let xwl:wl≠x:=eI d.wi.lst gr sP;let xyy:y≠x:=abz gr C;let ybl:y≠bl:=eI C d.bx.lst sP;let yel:y≠el:=eI C d.ed.lst sP;let ywl:y≠wl:=eI C d.wi.lst sP;by_cases c1:kindS t.2.tok="box"
 .refine(ac<|by simp[c1]).mpr #[CS,S,_,C,cS.cl,cS.no "boxes" sP,_,rfl,?_];exists x,a,bl,bs,t,r,rfl,hR,hEl,c1,d.bx,abl.symm,d.l1;rw[j,Lk (k1.mp c1)]at k;let eb:↑(pA bs es ws).boxes=↑bs:=by simp[pA]
  by_cases J:↑bs=24
  .rw[ac J];rw[ac oM]at k;exact λq u s3 e3=>k q u (p bl xbl Y q s3) e3
  .rw[aa J];let:=d.l1;rw[aa oM]at k;rw[Lk (k1.mp c1),aa oM]at j;cases R:gb (jv r)with
   |error f=>
    rw[R]at k;exact λq u s3 e3=>k q u (p bl xbl Y q s3) e3
   |ok v=>
    rw[R]at j;let lb:=RO R;dsimp only;intro q e r' s3 VR G7 M hB3 ev;let lr:↑r'<=↑r:=by rw[<-M]at lb;simpa[jv]using lb
    let nn:=NT.two hR.nt d.bx.lst;refine#[↑r',by first|omega|(simp;omega),(hW _ _ _).mpr #[r',n',bs++[e],es,ws,_,rfl,oM,VR,G7,?_,rfl,p bl xbl Y q s3,?_]]
    .rw[j,M];show dA n' _ v.2=_;rw[<-ev];simp[pA]
    .refine#[#[S,s3 _ _ (by simp[xyy,ybl]) C],hB3,s3.xE nn d.ed<|by simp[xel,d.n1.symm],s3.xE nn d.wi<|by simp[xwl,d.n2.symm],λe he=>?_,d.w3,d.n1,d.n2,d.n3,by simp;omega,d.l2,d.l3];let#[lv,q1,q2]:=d.AC e he;exact#[lv,q1,s3.AC nn q2]
 refine(aa<|by simp[c1]).mpr #[rfl,?_];by_cases c2:kindS t.2.tok="edge"
 .refine(ac<|by simp[c2]).mpr #[CS,S,_,C,cS.cl,cS.no "edges" sP,_,rfl,?_];exists x,a,el,es,t,r,rfl,hR,hEl,c2,d.ed,ael.symm,d.l2;rw[j,Gv (k2.mp c2)]at k;let eb:↑(pA bs es ws).edges=↑es:=by simp[pA]
  by_cases J:↑es=40
  .rw[ac J];rw[ac oM]at k;exact λq u s3 e3=>k q u (p el xel Z q s3) e3
  .rw[aa J];let:=d.l2;rw[aa oM]at k;rw[Gv (k2.mp c2),aa oM]at j;cases R:eT (jv r)with
   |error f=>
    rw[R]at k;exact λq u s3 e3=>k q u (p el xel Z q s3) e3
   |ok v=>
    rw[R]at j;let lb:=Ov R;dsimp only;intro q e lv0 r' s3 VR G7 M hB3 ev et0 JP;let lr:↑r'<=↑r:=by rw[<-M]at lb;simpa[jv]using lb
    let nn:=NT.two hR.nt d.ed.lst;refine#[↑r',by first|omega|(simp;omega),(hW _ _ _).mpr #[r',n',bs,es++[e],ws,_,rfl,oM,VR,G7,?_,rfl,p el xel Z q s3,?_]]
    .rw[j,M];show dA n' _ v.2=_;rw[<-ev];simp[pA]
    .refine#[#[S,s3 _ _ (by simp[xyy,yel]) C],s3.zQ nn d.bx<|by simp[xbl,d.n1],hB3,s3.xE nn d.wi<|by simp[xwl,d.n3.symm],λe' he=>?_,d.w3,d.n1,d.n2,d.n3,d.l1,by simp;omega,d.l3];obtain m|m:=aM.mp he
     .let#[lv,q1,q2]:=d.AC e' m;exact#[lv,q1,s3.AC nn q2]
     .grind
 refine(aa<|by simp[c2]).mpr #[rfl,?_];by_cases c3:kindS t.2.tok="above"
 .refine(ac<|by simp[c3]).mpr #[CS,S,_,C,cS.cl,cS.no "wishes" sP,_,rfl,?_];exists x,a,wl,ws,t,r,rfl,hR,hEl,c3,d.wi,awl.symm,d.l3;rw[j,Gw (k3.mp c3)]at k;let eb:↑(pA bs es ws).wishes=↑ws:=by simp[pA]
  by_cases J:↑ws=16
  .rw[ac J];rw[ac oM]at k;exact λq u s3 e3=>k q u (p wl xwl wlH q s3) e3
  .rw[aa J];let:=d.l3;rw[aa oM]at k;rw[Gw (k3.mp c3),aa oM]at j;cases R:fD (jv r)with
   |error f=>
    rw[R]at k;exact λq u s3 e3=>k q u (p wl xwl wlH q s3) e3
   |ok v=>
    rw[R]at j;let lb:=Oy R;dsimp only;intro q e r' s3 VR G7 M hB3 ev et0;let lr:↑r'<=↑r:=by rw[<-M]at lb;simpa[jv]using lb
    let nn:=NT.two hR.nt d.wi.lst;refine#[↑r',by first|omega|(simp;omega),(hW _ _ _).mpr #[r',n',bs,es,ws++[e],_,rfl,oM,VR,G7,?_,rfl,p wl xwl wlH q s3,?_]]
    .rw[j,M];show dA n' _ v.2=_;rw[<-ev];simp[pA]
    .refine#[#[S,s3 _ _ (by simp[xyy,ywl]) C],s3.zQ nn d.bx<|by simp[xbl,d.n2],s3.xE nn d.ed<|by simp[xel,d.n3],hB3,λe' he=>?_,λe' he=>?_,d.n1,d.n2,d.n3,d.l1,d.l2,by simp;omega]
     .let#[lv,q1,q2]:=d.AC e' he;exact#[lv,q1,s3.AC nn q2]
     .obtain m|m:=aM.mp he
      .exact d.w3 e' m
      .grind
 refine(aa<|by simp[c3]).mpr #[dxr,_,gr,rfl,x,a,t,r,rfl,hR,_,rfl,T,dt,_,et,cT.cl,cT.no "place" sP,_,rfl,ot ?_];rw[j,MZ z0 (λz=>c1<|k1.mpr z) (λz=>c2<|k2.mpr z) (λz=>c3<|k3.mpr z)]at k;exact lD.mono k s2
def vm(b:fZ):List Key:=(ff b).map gz
def AB(b):(vm b).map kV=(ff b).map V.int:=by delta vm;rw[aS];rfl
def Qo(h:vm a=vm b):a=b:=by delta vm at h;exact Fw ((vO<|λx y e=>by injection e).mp h)
def kvsOf(ns:List fZ):List (List Key×V):=ns.zipIdx.map λx=>(vm x.1,V.int (x.2:Int))
def LN(b):∀(ns:List fZ) s,oH ((ns.zipIdx s).map λx=>(vm x.1,V.int (x.2:Int))) (vm b)=(ns.findIdx? (·==b)).map λi=>V.int ((i+s:Nat):Int)
 |[],s=>rfl
 |n::ns,s=>by
  rw[fb,bb,MO];by_cases h:n=b
  .rw[tU (by rw[h]),ac (by simp[h])];simp
  .rw[tT (λz=>h<|Qo z),aa<|by simpa using h,LN b ns (s+1)];cases ns.findIdx? (·==b)with
   |none=>rfl
   |some i=>simp only[bD];congr 2;omega
def uc(ns)(b):oH (kvsOf ns) (vm b)=(ns.findIdx? (·==b)).map λi=>V.int ((i:Nat):Int):=LN b ns 0
def og(ns)(b):(oH (kvsOf ns) (vm b)).isSome=ns.contains b:=by rw[uc,jw,b7,bB];rw[List.findIdx?_isSome];simp
def JT(ns)(b)(h:b∉ns):putK (kvsOf ns) (vm b) (V.int (↑ns:Int))=kvsOf (ns++[b]):=by
 rw[B0]
 .delta kvsOf;rw[kK,aJ];simp
 .let e:=og ns b;cases q:oH (kvsOf ns) (vm b)with
  |none=>rfl
  |some x=>
   rw[q]at e;let:ns.contains b=true:=e.symm;exact ae (bB.mp this) h
def Gm.at(h:Gm f H x p):∃d c q,H x>.ins f d (OB (.str<|kindS<|.name p.name) (.ref c) (.int p.place) (.int (q:Nat)))/\H c>(.tup<|(ff p.name).map V.int):=by obtain⟨⟨q,v,⟨d,g⟩,i⟩,j⟩:=h;let b:(if bI.contains p.name=true then v=.fP else∃a,v=.ref a/\H a>(.tup<|(ff p.name).map V.int)):=i;rw[aa (by rw[j];simp)]at b;obtain⟨c,rfl,e⟩:=b;exact#[d,c,q,g,e]
def Ru(CT CF:Addr):Sp:=λvs H Q E=>∃l bs,vs=[.ref l]/\Ss CT H l bs/\↑bs<=24/\
 match kU [] (bs.map (·.nm))with
 |some q=>lD CF H 5 q E
 |none=>∀H' d,a8 H H'->H d=none->H' d>.dT (kvsOf (bs.map (·.nm.name)))->Q (.ref d) H'
def yh(T:Txt K mg)(X:vS P w K mg aD CF N fX VM)(n:fW K C ["kind","value","place","behind"])(h:iW K mg "box_numbers" uP f fd):
  Good P w K mg aD (nG P w CF) 4 "box_numbers" ["boxes"] (Ru C CF):=by
 refine h.JG ["boxes","numbers","number","box","name"] λoz A outer s H vs Q E D L h=>?_;obtain⟨l,bs,rfl,M,hlen,k⟩:=h;let hu:=ky L;exists _,(aw (st 1 D HL)
  (aw (dM eC rfl (SR K T.enumerate<|da v0) (OY K 2<|eJ (pn 2 D) (eJ (pn 3 D) kf)) (aw (st 4 D<|bM (kL K) v3 aV (λ_ _=>rfl))
  (aw (dI (FE<|Kb hu (fld K v4) v1) (aC (jl (E:=E) X.c L.hd (jk X.c X.F (L.mono dC) rfl X.mg X.b dC (ir aV<|fld K v4)) (λ_ _ _ _ _ _=>jn))) cg)
  (aC<|AJ hu v1 (fld K v4) v2 rfl))))
  (aC<|bC v1)))
 lia;intro d hd;let sd:=lay (o:=.dT []) (a8.refl H) hd;exists _,rfl,l,_,rfl,bW.of<|sd _ _ M.lst;let#[Pv,g]:=oh λi σ H1=>∃O R S,σ=[~~~.ref l,~~~.ref d,O,R,S]/\a8 H H1/\H1 d>.dT (kvsOf ((bs.take i).map (·.nm.name)))/\kU [] (bs.map (·.nm))=kU ((bs.take i).map (·.nm.name)) ((bs.drop i).map (·.nm));refine k4 (K:=K) (a:=l) (xs:=bs.map λe=>V.ref e.addr) Pv (g.mpr #[none,none,none,rfl,sd,au,rfl]) (λi σ H1 _ z=>?_) ?_ ?_
 .let#[_,_,_,_,s1,_]:=g.mp z;exact bW.of (s1 _ _ M.lst)
 .intro i x σ H1 T1 hi U p;obtain⟨O,R,S,rfl,s1,G,j⟩:=g.mp U;obtain⟨e,q,rfl⟩:=gm hi;let Y:=gl q;let r:=M.bx e<|ax q;let s2:=lay (o:=.tup [.int (i:Int),.ref e.addr]) s1 (bh s1 p);generalize u:upd H1 T1 (.tup [.int (i:Int),.ref e.addr])=I at s2;let Z:I T1>.tup [.int (i:Int),.ref e.addr]:=by rw[<-u,au]
  let hd2:I d>.dT (kvsOf ((bs.take i).map (·.nm.name))):=by rw[<-u];exact lay0 p _ _ G
  let#[dt,av,qq,v,ev]:=((cX s2:a' [] H I).nm (λb hb=>by simp at hb) r.a1).at;let J:kU [] (bs.map (·.nm))=if((bs.take i).map (·.nm.name)).contains e.nm.name=true then some e.nm.place else kU ((bs.take<|i+1).map (·.nm.name)) ((bs.drop<|i+1).map (·.nm)):=by
   rw[j,de Y];let ee:bs[i]=e:=(aP.mp q).2;rw[ee,bb];let v:bs.take (i+1)=bs.take i++[e]:=by rw[aN,q];rfl
   rw[v,aJ];rfl
  lia;exists _,f9.of Z,rfl;lia;let y:I av>(.tup<|(vm e.nm.name).map kV):=by rw[AB];exact ev
  exists _,f9.of<|s2 _ _ r.tup,_,rfl,_,rfl,C,dt,_,v,n.cl,n.no "value" sP,_,rfl,_,lW.t hd2 y;rw[og];by_cases c:((bs.take i).map (·.nm.name)).contains e.nm.name=true
  .rw[ac c]at J;rw[J]at k;refine(ac c).mpr #[_,rfl,C,dt,_,v,n.cl,n.no "place" sP,_,rfl,ot<|lD.mono k s2]
  .rw[aa c]at J;refine(aa c).mpr #[_,rfl,C,dt,_,v,n.cl,n.no "value" sP,_,rfl,_,AQ.t hd2 y ?_,?_]
   .rw[aK];delta kvsOf;simp;omega
   .let ZF:e.nm.name∉(bs.take i).map (·.nm.name):=λm=>c<|bB.mpr m;let et2:(bs.take<|i+1).map (·.nm.name)=(bs.take i).map (·.nm.name)++[e.nm.name]:=by rw[aN,q];simp
    let B:=JT _ _ ZF;rw[aj,bN,iJ oM]at B;refine g.mpr #[_,_,_,rfl,lay s2 hd,?_,J];rw[au,B,et2]
 .intro σ H1 U;obtain⟨O,R,S,rfl,s1,G,j⟩:=g.mp U;rw[aj,br]at G;rw[aj,zK]at j;rw[j]at k;lia;exact k H1 d s1 hd G
def a8.xE(s:a8 H a)(h:rL c H l es):rL c a l es:=(cX s:a' [] H a).xE (λb d=>by simp at d) h sP
def a8.CO(s:a8 H a)(h:Ge c H e):Ge c a e:=(cX s:a' [] H a).CO (λb d=>by simp at d) h
def Nk{a:Type}(p:a->Bool)(l)(x:a)(h:l.find? p=none):(l++[x]).find? p=if p x=true then some x else none:=gR
def DX{d:Type}{p:d->Bool}{l:List d}{x:d}(h:l[i]?>x)(a:(l.take i).find? p=none)(b:p x=true):l.find? p>x:=by
 let#[c,e]:=aP.mp h;let:l=l.take i++x::l.drop (i+1):=by rw[<-e,<-de c,sh]
 rw[this,jF,a,fJ,b];rfl
def dpT{a:Addr}{l:List Int}(h:f9 K H a (l.map V.int)):Dp K H (.ref a) (.tuple<|l.map iK):=by
 refine .tup h ?_;clear h;induction l with
 |nil=>exact .nil
 |cons i l ih=>exact .cons (.int i) ih
def Mq(l:List Int):gL (.tuple<|l.map iK)=true:=by let#[a,b]:=lay_ints l;delta gL;rw[b_,decide_eq_true_iff];exists a;delta vR;omega
def adh(l m:List Int):nV (.tuple<|l.map iK) (.tuple<|m.map iK)=decide (l=m):=by delta nV;exact sy l m
def Rm(CT CF:Addr):Sp:=λvs H Q E=>∃l es,vs=[.ref l]/\rL CT H l es/\
 match es.find? λe=>e.n1.name==e.n2.name with
 |some e=>lD CF H 8 e.n2.place E
 |none=>∀H',a8 H H'->Q .fP H'
def z4(X:vS P w K mg aD J N Z L)(n:fW K r ["kind","value","place","behind"])(h:iW K mg "check_ends" wY f fd):
  Good P w K mg aD (nG P w J) 4 "check_ends" ["statements"] (Rm r J):=by
 refine h.JG ["statements","statement"] λM A outer s H vs Q E O u h=>?_;obtain⟨l,es,rfl,v,k⟩:=h;let hu:=ky u;exists _,(aC<|dM eC rfl (qh K v0) (pn 1 O) (aC<|dI (bG (eqD K u.units) (fld K<|bM (kL K) v1 aV (λ_ _=>rfl)) (fld K<|bM (kL K) v1 aV (λ_ _=>rfl)) (b9 _)) (aC (jl (E:=E) X.c u.hd (jk X.c X.F (u.mono dC) rfl X.mg X.b dC (ir aV<|fld K<|bM (kL K) v1 aV (λ_ _=>rfl))) (λ_ _ _ _ _ _=>jn))) cg));let#[Pv,d]:=oh λi σ H1=>∃y,σ=[~~~.ref l,y]/\H1=H/\(es.take i).find? (λe=>e.n1.name==e.n2.name)=none;refine#[_,rfl,l,rfl,#[_,bW.of v.lst],eH (K:=K) (a:=l) (xs:=es.map λe=>V.ref e.addr) Pv (d.mpr #[none,rfl,rfl,rfl]) (λi σ H1 _ z=>?_) ?_ ?_]
 .obtain⟨_,_,rfl,_⟩:=d.mp z;exact bW.of v.lst
 .intro i x σ H1 R B;obtain⟨y,rfl,rfl,g⟩:=d.mp B;obtain⟨e,q,rfl⟩:=gm R;let m:=v.CO e<|ax q;let#[C,S,q1,D,G]:=m.a1.at;let#[o,T,q2,p,I]:=m.a2.at;lia;let a1:nj ([V.ref e.t1,V.ref e.t2]++e.lq) 1>V.ref e.t2:=at_of (j:=1) rfl rfl;let U:nj ([V.ref e.t1,V.ref e.t2]++e.lq) 0>V.ref e.t1:=at_of (j:=0) rfl rfl;exists _,f9.of m.tup,_,U,_,rfl,r,C,_,D,n.cl,n.no "value" sP,_,rfl,_,f9.of m.tup,_,a1,_,rfl,r,o,_,p,n.cl,n.no "value" sP,_,rfl,_,dpT<|f9.of G,_,dpT<|f9.of I,Mq _,Mq _;rw[adh];by_cases c:e.n1.name=e.n2.name
  .rw[DX q g (by simpa using c)]at k;refine(ac<|ag<|by rw[c]).mpr #[_,f9.of m.tup,_,a1,_,rfl,r,o,_,p,n.cl,n.no "place" sP,_,rfl,ot k]
  .refine(aa<|by simp only[decide_eq_true_eq];exact λz=>c<|Fw z).mpr (d.mpr #[_,rfl,rfl,?_]);let Y:es.take (i+1)=es.take i++[e]:=by rw[aN,q];rfl
   rw[Y,Nk _ _ _ g,aa (by simpa using c)]
 .intro σ H1 B;obtain⟨y,rfl,rfl,g⟩:=d.mp B;rw[aj,br]at g;rw[g]at k;exact k H1 (a8.refl _)
def My(CT CF:Addr):Sp:=λvs H Q E=>∃l d es ns,vs=[.ref l,.ref d]/\rL CT H l es/\H d>(.dT<|kvsOf ns)/\
 match(es.flatMap λe=>[e.n1,e.n2]).find? λx=>!ns.contains x.name with
 |some x=>lD CF H 6 x.place E
 |none=>∀H',a8 H H'->Q .fP H'
def yi(X:vS P w K mg aD v N fX VM)(C:fW K D ["kind","value","place","behind"])(h:iW K mg "check_names" uQ f fd):
  Good P w K mg aD (nG P w v) 4 "check_names" ["statements","numbers"] (My D v):=by
 refine h.JG ["statements","numbers","statement","name"] λoz A outer s H vs Q E nd M h=>?_;obtain⟨l,d,es,ns,rfl,G,hd,k⟩:=h;let hu:=ky M;exists _,(aC<|dM eC rfl (qh K v0) (pn 2 nd) (aC<|dM eC rfl (piT K<|jM<|ir (bM (kL K) v2 aV (λ_ _=>rfl)) (bM (kL K) v2 aV (λ_ _=>rfl))) (pn 3 nd) (aC (dI (FE<|Eb hu (fld K v3) v1) (aC (jl (E:=E) X.c M.hd (jk X.c X.F (M.mono dC) rfl X.mg X.b dC (ir aV<|fld K v3)) (λ_ _ _ _ _ _=>jn))) cg))));let#[Pv,u]:=oh λi σ H1=>∃x2 y,σ=[~~~.ref l,~~~.ref d,x2,y]/\a8 H H1/\((es.take i).flatMap λe=>[e.n1,e.n2]).find? (λx=>!ns.contains x.name)=none;refine#[_,rfl,l,rfl,#[_,bW.of G.lst],eH (K:=K) (a:=l) (xs:=es.map λe=>V.ref e.addr) Pv (u.mpr #[none,none,rfl,a8.refl _,rfl]) (λi σ H1 _ z=>?_) ?_ ?_]
 .let#[_,_,_,s1,_]:=u.mp z;exact bW.of (s1 _ _ G.lst)
 .intro i x σ H1 hi I;obtain⟨x2,y,rfl,s1,O⟩:=u.mp I;obtain⟨e,q,rfl⟩:=gm hi;let B:=a8.CO s1<|G.CO e<|ax q;let R:es.take (i+1)=es.take i++[e]:=by rw[aN,q];rfl
  let whole:∀p,p∈[e.n1,e.n2]->ns.contains p.name=false->(p≠e.n1->p=e.n2->ns.contains e.n1.name=true)->(es.flatMap λe=>[e.n1,e.n2]).find? (λx=>!ns.contains x.name)>p:=by
   intro p I hc J;let#[S,ee]:=aP.mp q;let:es=es.take i++e::es.drop (i+1):=by rw[<-ee,<-de S,sh]
   rw[this,dX,jF,O,dw,jF];simp only[Pc,fJ,CU];by_cases e1:p=e.n1
   .rw[<-e1,hc];rfl
   .grind
  let a1:nj ([V.ref e.t1,V.ref e.t2]++e.lq) 1>V.ref e.t2:=at_of (j:=1) rfl rfl;let a0:nj ([V.ref e.t1,V.ref e.t2]++e.lq) 0>V.ref e.t1:=at_of (j:=0) rfl rfl;refine#[_,rfl,_,_,_,_,rfl,rfl,f9.of B.tup,a0,_,rfl,_,_,_,_,rfl,rfl,f9.of B.tup,a1,by show 2<=sizeLine;rw[aK];omega,λp I=>#[p,rfl,#[_,f9.of au],?_]];let sp:=lay (o:=.tup [.ref e.t1,.ref e.t2]) s1 (bh s1 I);let#[L,g]:=oh λj σ n=>∃y,σ=[~~~.ref l,~~~.ref d,~~~.ref e.addr,y]/\n=upd H1 p (.tup [.ref e.t1,.ref e.t2])/\(1<=j->ns.contains e.n1.name=true)/\(2<=j->ns.contains e.n2.name=true);refine wm (K:=K) (a:=p) (xs:=[.ref e.t1,.ref e.t2]) L (g.mpr #[y,rfl,rfl,λh=>oM,λh=>oM]) (λj σ n _ z=>?_) ?_ ?_
  .obtain⟨_,_,rfl,_⟩:=g.mp z;exact f9.of au
  .intro j x σ n m T;obtain⟨U,rfl,Y,w1,w2⟩:=g.mp T;let s2:a8 H n:=by rw[Y];exact sp
   let hd2:=s2 _ _ hd;let step:∀t nm,x=.ref t->nm∈[e.n1,e.n2]->Gm D H t nm->(nm≠e.n1->nm=e.n2->ns.contains e.n1.name=true)->(ns.contains nm.name=true->L (j+1) [~~~.ref l,~~~.ref d,~~~.ref e.addr,~~~.ref t] n)->
     pR 3 x [~~~.ref l,~~~.ref d,~~~.ref e.addr,U] n λσ2 H3=>(RW (Cq<|FY (RV K (lN 3) (eK "value")) (lN 1)) (Kt v E<|KR v (yA v) (jo (tC<|V.int 6) (jo (RV K (lN 3) (eK "place")) oG))) RY) {nx:=L<|j+1,rt:=Q,bk:=Pv<|i+1,ct:=L (j+1)} σ2 H3:=by
    intro t nm ex hm hn hf hk;subst ex;let#[dt,av,qq,R,ev]:=((cX s2:a' [] H n).nm (λb hb=>by simp at hb) hn).at;let Z:n av>(.tup<|(vm nm.name).map kV):=by rw[AB];exact ev
    lia;exists D,dt,_,R,C.cl,C.no "value" sP,_,rfl,_,lW.t hd2 Z;rw[og];by_cases c:ns.contains nm.name=true
    .grind
    .let c':ns.contains nm.name=false:=by simpa using c
     rw[whole nm hm c' hf]at k;refine(ac<|by rw[c'];rfl).mpr #[D,dt,_,R,C.cl,C.no "place" sP,_,rfl,ot<|lD.mono k s2]
   let r:=G.CO e<|ax q;match j,m with
   |0,m=>
    injection m with m;exact step e.t1 e.n1 m.symm sP r.a1 (λz=>ae rfl z) (λc=>g.mpr #[_,rfl,Y,λ_=>c,λh=>oM])
   |1,m=>
    injection m with m;exact step e.t2 e.n2 m.symm sP r.a2 (λ_ _=>w1 oM) (λc=>g.mpr #[_,rfl,Y,λ_=>w1 oM,λ_=>c])
   |j+2,m=>simp at m
  .grind
 .grind
def vx(ns:List fZ)(b:fZ):Nat:=(ns.findIdx? (·==b)).getD 0
def wL(h:ns.contains b=true):oH (kvsOf ns) (vm b)>V.int (vx ns b:Int)/\vx ns b<↑ns:=by let c:(ns.findIdx? (·==b)).isSome=true:=gR;let#[i,a]:=pj.mp c;rw[uc,a];delta vx;rw[a];exists rfl;exact(iw.mp a).1
def oF(ns:List fZ)(es:List Gp):List (Nat×Nat):=es.map λe=>(vx ns e.n1.name,vx ns e.n2.name)
def KE(CT:Addr):Sp:=λvs H Q _=>∃l d es ns,vs=[.ref l,.ref d]/\rL CT H l es/\H d>(.dT<|kvsOf ns)/\(∀e∈es,ns.contains e.n1.name=true/\ns.contains e.n2.name=true)/\↑es<=100/\
 ∀H' r ii,a8 H H'->H r=none->iA H' r ii->ii.map (·.2)=bR (oF ns es)->Q (.ref r) H'
def Ff(F:fW K G ["kind","value","place","behind"])(h:iW K mg "arcs_of" Ef f fd):Good P w K mg aD dO 1 "arcs_of" ["statements","numbers"] (KE G):=by
 refine h.gd ["statements","numbers","statement"] λoz A outer s H vs Q E nd hr h=>?_;obtain⟨l,d,es,ns,rfl,I,hd,J,hlen,k⟩:=h;let hu:=ky hr;exists _,(aC (bC (oW rfl nd (qh K v0) (pz [("statement",2)]) (λ_ _ _ _ _=>(pn 2 nd)) (λ_ _ _ _ _=>jX) (λ_ _ _ _ _=>(jM<|ir (AI hu v1 (fld K<|bM (kL K) v2 aV (λ_ _=>rfl)) (λ_ _=>rfl)) (AI hu v1 (fld K<|bM (kL K) v2 aV (λ_ _=>rfl)) (λ_ _=>rfl)))))));show RX _ _ _ _ [2] [~~~.ref l,~~~.ref d,none] H Q;refine#[_,rfl,l,rfl,#[_,bW.of I.lst],λD L=>?_];let#[Pk,c]:=Ft λm g=>∃b:List (Addr×Int×Int),a8 H g/\g D>(.lst<|b.map λx=>V.ref x.1)/\(∀x∈b,g x.1>.tup [.int x.2.1,.int x.2.2])/\b.map (·.2)=bR (oF ns<|es.take m)/\↑b<=m;refine jy (K:=K) (a:=l) (xs:=es.map λe=>V.ref e.addr) Pk (c.mpr #[[],lay0 L,au,λx M=>by simp at M,rfl,cP _]) (λm g _ w=>?_) ?_ ?_
 .let#[_,s4,_]:=c.mp w;exact bW.of (s4 _ _ I.lst)
 .intro i x g hi N;let#[b,s4,v,u,em,O]:=c.mp N;obtain⟨e,q,rfl⟩:=gm hi;let G8:=gl q;let n:=a8.CO s4<|I.CO e<|ax q;let y:=J e<|ax q;let#[R,S,q1,T,U]:=n.a1.at;let#[X,Y,q2,Z,ev2]:=n.a2.at;let a1:nj ([V.ref e.t1,V.ref e.t2]++e.lq) 1>V.ref e.t2:=at_of (j:=1) rfl rfl;let a0:nj ([V.ref e.t1,V.ref e.t2]++e.lq) 0>V.ref e.t1:=at_of (j:=0) rfl rfl;let B:=s4 _ _ hd;let g1:lW g d (.ref S) (some (V.int (vx ns e.n1.name:Int))):=by rw[<-(wL y.1).1];exact lW.t B (by rw[AB];exact U)
  let g2:lW g d (.ref Y) (some (V.int (vx ns e.n2.name:Int))):=by rw[<-(wL y.2).1];exact lW.t B (by rw[AB];exact ev2)
  lia;refine#[_,f9.of n.tup,_,a0,_,rfl,G,R,_,T,F.cl,F.no "value" sP,_,rfl,_,g1,_,f9.of n.tup,_,a1,_,rfl,G,X,_,Z,F.cl,F.no "value" sP,_,rfl,_,g2,by show 2<=sizeLine;rw[aK];omega,λp o=>?_];let C:p≠D:=λz=>by rw[z,v]at o;cases o
  refine#[_,by rw[aH C.symm];exact v,sZ,c.mpr #[b++[(p,((vx ns e.n1.name:Nat):Int),((vx ns e.n2.name:Nat):Int))],lay (lay s4<|bh s4 o) L,by rw[au];simp,λx M=>?_,?_,by simp;omega]]
  .obtain m|m:=aM.mp M
   .let r:=u x m;rw[aH (eI r v sP),aH (λz=>by rw[z,o]at r;cases r)];exact r
   .rw[bd.mp m];rw[aH C,au]
  .let et:es.take (i+1)=es.take i++[e]:=by rw[aN,q];rfl
   rw[et,aJ,em];delta oF;rw[aJ,kX];rfl
 .intro g N;let#[b,s4,v,u,em,O]:=c.mp N;rw[aj,br]at em;exact k g D b s4 L #[v,u] em
noncomputable def C3(arcs:List (Int×Int)):Option Nat:=(ay ↑arcs).find? λi=>match arcs[i]? with|some p=>closes p (arcs.take i)|none=>false
def MC(CT CF:Addr):Sp:=λvs H Q E=>∃l d es ns,vs=[.ref l,.ref d]/\rL CT H l es/\H d>(.dT<|kvsOf ns)/\(∀e∈es,ns.contains e.n1.name=true/\ns.contains e.n2.name=true)/\↑es<=16/\
 match C3 (bR<|oF ns es)with
 |some i=>∀e,es[i]?>e->lD CF H 9 e.n1.place E
 |none=>∀H',a8 H H'->Q .fP H'
def GK(xs)(i:Nat):rN xs none (some (i:Int))=xs.take i:=by
 delta rN;rw[HT.Ic,HT.uh,List.drop_zero,Nat.sub_zero];obtain c|c:=IJ i ↑xs
 .grind
 .grind
def OV{n i:Nat}{p:Nat->Bool}(h:(ay i).find? p=none)(a:p i=false):(ay<|i+1).find? p=none:=gR
def zU(a:i<n)(h:(ay i).find? p=none)(b:p i=true):(ay n).find? p>i:=by refine DX (i:=i) (by rw[fj a]) ?_ b;rw[List.take_range,iJ (fN a)];exact h
def wp(T:Txt K mg)(X:vS P w K mg aD CF N fX VM)(cT:fW K G ["kind","value","place","behind"])(h:iW K mg "check_wishes" tp f fd)
  (n:Good P w K mg aD dO 1 "arcs_of" ["statements","numbers"] (KE G))(g:Good P w K mg aD dO 2 "closes_circle" ["arc","arcs"] xA):
  Good P w K mg aD (nG P w CF) 4 "check_wishes" ["wishes","numbers"] (MC G CF):=by
 refine h.JG ["wishes","numbers","arcs","number","arc"] λoz A outer s H vs Q E I D h=>?_;obtain⟨l,d,es,ns,rfl,J,hd,L,hlen,k⟩:=h;exists _,(aw (st 2 I<|p0 n D<|ir v0 v1)
  (aC (dM eC rfl (SR K T.enumerate<|da v2) (OY K 2<|eJ (pn 3 I) (eJ (pn 4 I) kf)) (aC (dI (HS<|p0 g D<|ir v4<|oo (YC K) v2 FD (lh v3)) (aC (jl (E:=E) X.c D.hd (jk X.c X.F (D.mono dC) rfl X.mg X.b dC (ir aV<|fld K<|bM (kL K) (bM (j7 K) v0 v3 (λ_ _=>rfl)) aV (λ_ _=>rfl))) (λ_ _ _ _ _ _=>jn))) cg)))))
 lia;refine#[l,d,es,ns,rfl,J,hd,L,oM,λH1 a m s1 ha B em=>?_];let ZB:↑m=↑es:=by let:=af ck em;simpa[oF,eY]using this
 rw[<-em]at k;let#[Pv,r]:=oh λi σ v=>∃M O,σ=[~~~.ref l,~~~.ref d,~~~.ref a,M,O]/\a8 H1 v/\(ay i).find? (λi=>match(m.map (·.2))[i]? with|some p=>closes p ((m.map (·.2)).take i)|none=>false)=none;refine#[_,rfl,a,_,rfl,bW.of B.lst,k4 (K:=K) (a:=a) (xs:=m.map λx=>V.ref x.1) Pv (r.mpr #[none,none,rfl,a8.refl _,rfl]) (λi σ v _ z=>?_) ?_ ?_]
 .let#[_,_,_,s2,_]:=r.mp z;exact bW.of (s2 _ _ B.lst)
 .intro i x σ v T1 hi R S;obtain⟨M,O,rfl,s2,u⟩:=r.mp R;obtain⟨y,q,rfl⟩:=gm hi;let U:=gl q;let s3:=lay (o:=.tup [.int (i:Int),.ref y.1]) s2 (bh s2 S);generalize Y:upd v T1 (.tup [.int (i:Int),.ref y.1])=H3 at s3;let Z:H3 T1>.tup [.int (i:Int),.ref y.1]:=by rw[<-Y,au]
  lia;exists _,f9.of Z,rfl;lia;refine#[_,bW.of<|s3 _ _ B.lst,λp Qh=>?_];rw[GK];let s4:=lay (o:=.lst<|(m.map λx=>V.ref x.1).take i) s3 (bh s3 Qh);let hy:=B.tup y<|ax q;refine#[y.1,p,y.2.1,y.2.2,m.take i,rfl,s4 _ _ hy,#[by rw[au,iQ],λx hx=>s4 _ _<|B.tup x<|eW hx],by simp;omega,λH5 s5=>?_];let s15:=s4.trans s5;let eq1:(match(m.map (·.2))[i]? with|some p=>closes p ((m.map (·.2)).take i)|none=>false)=closes (y.2.1,y.2.2) ((m.take i).map (·.2)):=by rw[ak,q,iQ];rfl
  exists _,rfl;by_cases c:closes (y.2.1,y.2.2) ((m.take i).map (·.2))=true
  .let hb:C3 (m.map (·.2))>i:=by delta C3;rw[aj];exact zU U u (by rw[eq1];exact c)
   rw[hb]at k;let#[e,he]:∃e,es[i]?>e:=#[_,aq oM];let sH:=s1.trans s15;let C:=a8.CO sH<|J.CO e<|ax he;let#[Zt,av1,q1,Zw,ev1]:=C.a1.at;let a0:nj ([V.ref e.t1,V.ref e.t2]++e.lq) 0>V.ref e.t1:=at_of (j:=0) rfl rfl;let al:nj (es.map λe=>V.ref e.addr) (i:Int)>V.ref e.addr:=at_of (j:=i) rfl (by rw[ak,he];rfl);refine(ac c).mpr #[_,bW.of<|sH _ _ J.lst,_,al,_,rfl,_,f9.of C.tup,_,a0,_,rfl,G,Zt,_,Zw,cT.cl,cT.no "place" sP,_,rfl,ot<|lD.mono (k e he) sH]
  .grind
 .intro σ v R;obtain⟨M,O,rfl,s2,u⟩:=r.mp R;rw[aj]at u;let hb:C3 (m.map (·.2))=none:=by delta C3;rw[aj];exact u
  rw[hb]at k;exact k v (s1.trans s2)
def jD(bs:List Gb):List fZ:=bs.map (·.nm.name)
def GC(bs)(es ws)(b):vU (pA bs es ws) b=(jD bs).findIdx? (·==b):=by delta vU pA jD;rw[OL,OL];rfl
def nB(bs)(es ws)(x:lY):dG (pA bs es ws) x=vx (jD bs) x.name:=by delta dG vx;rw[GC]
def EU(bs)(es ws):oO (pA bs es ws)=oF (jD bs) es:=by delta oO oF;show(es.map _).map _=_;rw[aS];refine bK λe _=>?_;show(dG (pA bs es ws) e.n1,dG (pA bs es ws) e.n2)=_;rw[nB,nB]
def AM(bs)(es ws):iy (pA bs es ws)=oF (jD bs) ws:=by delta iy oF;show(ws.map _).map _=_;rw[aS];refine bK λe _=>?_;show(dG (pA bs es ws) e.n1,dG (pA bs es ws) e.n2)=_;rw[nB,nB]
def QC(bs)(es ws):Pf (pA bs es ws)=(es++ws).flatMap λe=>[e.n1,e.n2]:=by delta Pf;rw[dX];show(es.map _).flatMap _++(ws.map _).flatMap _=_;rw[qw,qw]
def Ua(bs)(es ws)(b):(vU (pA bs es ws) b).isNone=!(jD bs).contains b:=by rw[GC];let:=og (jD bs) b;rw[uc,jw]at this;rw[<-this];cases(jD bs).findIdx? (·==b)<;>rfl
def UV (bs) (es ws) : SD (pA bs es ws) = ((es ++ ws).find? fun e => e.n1.name == e.n2.name).map fun e => e.n2.place := by
  delta SD
  show ((es.map _).find? _ |>.map _).or ((ws.map _).find? _ |>.map _) = _
  rw [CQ, CQ, jF, AY, AY, Option.map_or]
  rfl
def Bi{P Q:Nat->Bool}:∀n,(∀i,i<n->(∀j,j<i->P j=false)->P i=Q i)->(ay n).find? P=(ay n).find? Q
 |0,_=>rfl
 |n+1,h=>by
  let b:=Bi (P:=P) (Q:=Q) n λi d=>h i oM;rw[c_,jF,jF,<-b];cases q:(ay n).find? P with
  |some x=>rfl
  |none=>
   let a:∀j,j<n->P j=false:=λj c=>by let:=jg.mp q j<|cb.mpr c;simpa using this
   simp only[Pc,fJ,CU];rw[h n oM a]
def ET(h:∀e∈es,ns.contains e.n1.name=true/\ns.contains e.n2.name=true):∀a∈oF ns es,a.1<↑ns/\a.2<↑ns:=by intro a b;obtain⟨e,he,rfl⟩:=a_.mp b;exact#[(wL (h e he).1).2,(wL (h e he).2).2]
def Js(l)(i):bR (l.take i)=(bR l).take i:=iQ
def M'{arcs:List (Nat×Nat)}(c:∀a∈arcs,a.2<n)(d:arcs[i]?>a)(e:¬i9 (bR<|arcs.take i)):(!Vadiaa.open_ n (arcs.take<|i+1))=closes (gn a) (bR<|arcs.take i):=by
 rw[qO (λb f=>c b<|eW f),WE,b7,iL,mB,<-nO e];let g:arcs.take (i+1)=arcs.take i++[a]:=by rw[aN,d];rfl
 rw[g,kX];exact su λp=>by rw[aM,aE];show p∈bR (arcs.take i)\/p∈bR [a]↔_;rw[show bR [a]=[gn a]from rfl,bd];exact Or.comm
def WY(bs)(es ws)(h:∀e∈ws,(jD bs).contains e.n1.name=true/\(jD bs).contains e.n2.name=true):
  AZ (pA bs es ws)=(C3<|bR<|oF (jD bs) ws).bind (λi=>(ws[i]?).map λe=>e.n1.place)/\(C3 (bR<|oF (jD bs) ws)=none->¬i9 (bR<|oF (jD bs) ws)):=by
 let hlen:↑(pA bs es ws).boxes=↑(jD bs):=by simp[pA,jD]
 let hw:↑(pA bs es ws).wishes=↑ws:=by simp[pA]
 let d:↑(oF (jD bs) ws)=↑ws:=by simp[oF]
 let f:=ET h;let c:∀i,i<=↑ws->(∀j,j<i->(!Vadiaa.open_ ↑(jD bs) ((oF (jD bs) ws).take (j+1)))=false)->¬i9 (bR<|(oF (jD bs) ws).take i):=by
  intro i o g n;cases i with
  |zero=>
   let#[S,s0,s1,_]:=n;let#[p,q]:=iB _ s0;let:=s1 p q;simp[bR]at this
  |succ i=>
   let:=g i oM;rw[qO (λb l=>(f b<|eW l).2),WE]at this;rw[iL.mpr n]at this;cases this
 let hf:(ay ↑ws).find? (λi=>!Vadiaa.open_ ↑(jD bs) ((oF (jD bs) ws).take (i+1)))=C3 (bR<|oF (jD bs) ws):=by
  delta C3;rw[eY,d];refine Bi _ λi o g=>?_;let#[a,m]:∃a,(oF (jD bs) ws)[i]?>a:=#[_,aq oM];rw[M' (λa m=>(f a m).2) m (c i oM g)];let r:(bR<|oF (jD bs) ws)[i]?>gn a:=by delta bR;rw[ak,m];rfl
  rw[r,Js]
 constructor
 .delta AZ;rw[AM,hlen,hw,hf];congr 1;funext i;show(((ws.map λe=>(e.n1,e.n2))[i]?).map λx=>x.1.place)=_;rw[ak,AY];rfl
 .intro l;rw[<-hf]at l;let:=c ↑ws (aI _) λj g=>by let:=jg.mp l j<|cb.mpr g;simpa using this
  rw[cz oM]at this;exact this
def UL{b:fZ}{l:OR}(a:↑b<=4096)(c:k8 b 0=.ok l){bs:List Gb}{es ws:List Gp}(d:dA (↑l+1) nh l=.ok (pA bs es ws)):
  gj b=match kU [] (bs.map (·.nm))with
   |some q=>.error #[5,q]
   |none=>match((es++ws).flatMap λe=>[e.n1,e.n2]).find? (λx:lY=>!(jD bs).contains x.name)with
    |some x=>.error #[6,x.place]
    |none=>match((es++ws).find? λe=>e.n1.name==e.n2.name).map λe=>e.n2.place with
     |some q=>.error #[8,q]
     |none=>match AZ (pA bs es ws)with
      |some q=>.error #[9,q]
      |none=>.ok (pA bs es ws):=by
 delta gj;rw[rc a,c];show(dA (↑l+1) nh l).bind _=_;rw[d];simp only[Except.bind];let f:((pA bs es ws).boxes.map λx=>x.name)=bs.map (·.nm):=by delta pA;rw[aS];rfl
 let g:(λx:lY=>(vU (pA bs es ws) x.name).isNone)=λx=>!(jD bs).contains x.name:=funext λx=>Ua bs es ws x.name;rw[f,QC,g,UV];rfl
def IC(h:jC l>x):x.1≠.last:=by
 delta jC at h;cases l with
 |nil=>cases h
 |cons c r=>
  dsimp only at h;split at h
  .grind
  .split at h
   .cases q:IR ((c::r).takeWhile cf)with
    |none=>rw[q]at h;cases h
    |some n=>rw[q]at h;injection h with h;subst h;simp
   .grind
def wG:∀n at_ l c,VadiBase.lex n at_ l=.ok c->(∃init p,c=init++[#[p,.last]]/\∀t∈init,t.tok≠.last)/\↑c<=↑l+1
 |0,at_,l,c,h=>by injection h with h;subst h;exact#[#[[],at_,rfl,λt a=>by simp at a],sP]
 |n+1,at_,[],c,h=>by injection h with h;subst h;exact#[#[[],at_,rfl,λt a=>by simp at a],sP]
 |n+1,at_,b::r,c,h=>by
  rw[Hk]at h;split at h
  .let:=wG n _ _ _ h;exact#[this.1,by let:=this.2;simp;omega]
  .split at h
   .let:=wG n _ _ _ h;let d:(r.dropWhile (·!=10)).length<=↑r:=(Gg _).length_le;exact#[this.1,by let:=this.2;simp;omega]
   .cases q:jC (b::r)with
    |none=>rw[q]at h;cases h
    |some x=>
     rw[q]at h;dsimp only at h;let#[j,d,e]:=BF h;let#[#[init,p,f,g],i]:=wG n _ _ _ d;let tl:=AL q;rw[cw]at i;subst e;refine#[#[#[at_,x.1]::init,p,by rw[f];rfl,λt a=>?_],by simp at*;omega];obtain rfl|a:=aE.mp a
     .exact IC q
     .exact g t a
def PQ(h:a.map (·.2)=e)(he:∃init p,e=init++[#[p,.last]]/\∀t∈init,t.tok≠.last):oI a:=by
 let#[init,p,d,f]:=he;let b:a≠[]:=λz=>by rw[z]at h;rw[d]at h;simp at h
 refine#[a.dropLast,a.getLast b,(js b).symm,?_,λt g=>?_]
 .let c:e.getLast?>#[p,.last]:=by rw[d];simp
  rw[<-h,List.getLast?_map,List.getLast?_eq_some_getLast b]at c;injection c with c;let c:(a.getLast b).2=#[p,.last]:=c;rw[c]
 .let i:(a.dropLast).map (·.2)=init:=by rw[List.map_dropLast,h,d];simp
  exact f t.2 (by rw[<-i];exact a_.mpr #[t,g,rfl])
def PL(bl el lb wl:Addr):List (Str×V):=[("boxes",.ref bl),("edges",.ref el),("labels",.ref lb),("wishes",.ref wl)]
def uv(CD:Addr)(H:Hp)(g:Addr)(d:so):Prop:=
 ∃(dx bl el lb wl:Addr)(zQ:List (Addr×Addr))(ii AO:List (Addr×Int×Int))(ZO:List V),H g>(.ins CD dx<|PL bl el lb wl)/\
  H bl>(.lst<|zQ.map λx=>.ref x.1)/\↑zQ=↑d.boxes/\(∀(i:Nat)(x:Addr×Addr)(b:nZ),zQ[i]?>x->d.boxes[i]?>b->H x.1>.tup [.ref x.2,.int (b.w:Int),.int (b.h:Int)]/\H x.2>(.tup<|(ff b.name.name).map V.int))/\
  iA H el ii/\ii.map (·.2)=bR (oO d)/\H lb>.lst ZO/\↑ZO=↑d.edges/\(∀(i:Nat)(v:V)(e:oK),ZO[i]?>v->d.edges[i]?>e->DB H v e.label)/\iA H wl AO/\AO.map (·.2)=bR (iy d)
def Rj(C:Addr):Sp:=λvs H Q _=>∃x dx a b c d,vs=[.ref x,.ref a,.ref b,.ref c,.ref d]/\H x>.ins C dx []/\Q .fP (upd H x<|.ins C dx<|PL a b c d)
def Ak(F:xW K "__init__" "Diagram.__init__" tj f fd)(c:fW K C ["boxes","edges","labels","wishes"]):j4 P w K mg aD dO 1 f fd ["self","boxes","edges","labels","wishes"] (Rj C):=by refine F.gk ["self","boxes","edges","labels","wishes"] λg A outer s H vs Q E j l h=>?_;obtain⟨x,e,a,b,m,d,rfl,i,q⟩:=h;exists _,(aw (md K v0 v1) (aw (md K v0 v2) (aw (md K v0 v3) (aC<|md K v0 v4))));lia;exists C,e,[],i,c.cl,c.no _ sP,dC,C,e,_,au,c.cl,c.no _ sP,(by show 1<1000;decide);rw[hH];exists C,e,_,au,c.cl,c.no _ sP,(by show 2<1000;decide);rw[hH];exists C,e,_,au,c.cl,c.no _ sP,(by show 3<1000;decide);rw[hH];exact q
def QG(g:ns.contains a=true)(j:ns.contains b=true)(h:vx ns a=vx ns b):a=b:=by
 let key:∀c,ns.contains c=true->ns[vx ns c]?>c:=by
  intro c l;let m:(ns.findIdx? (·==c)).isSome=true:=by let:=og ns c;rw[uc,jw,l]at this;exact this
  let#[i,e]:=pj.mp m;delta vx;rw[e];let#[d,f,_]:=iw.mp e;rw[MU,aq d];simp at f;rw[f]
 let d:=key a g;rw[h,key b j]at d;exact(aO d).symm
def Wm(CD CF:Addr):Sp:=λvs H Q E=>∃a b,vs=[.ref a]/\H a>(.lst<|(ff b).map V.int)/\
 match gj b with
 |.error f=>lD CF H f.code f.place E
 |.ok d=>∀H' g,a8 H H'->H g=none->uv CD H' g d->(∃dx bl el lb wl,H' g>(.ins CD dx<|PL bl el lb wl)/\H bl=none/\H el=none/\H lb=none/\H wl=none)->↑d.boxes<=24->↑d.edges<=40->↑d.wishes<=16->EI d->(∀a∈oO d,a.1≠a.2)->Q (.ref g) H'
def wx(T:Txt K mg)(U:qy K mg)(X:vS P w K mg aD CF N fX VM)(cT:fW K CT ["kind","value","place","behind"])(J:fW K CS ["boxes","edges","wishes"])(h:iW K mg "read_diagram" tE f fd)
  (R:GoodC P w K mg aD 1 "Diagram" CD ["self","boxes","edges","labels","wishes"] (Rj CD))(Xg:Good P w K mg aD (nG P w CF) 6 "scan" ["text"] (Ry CT CF))(r:Good P w K mg aD (nG P w CF) 7 "read_statements" ["tokens"] (Rx CT CS CF))
  (C:Good P w K mg aD (nG P w CF) 4 "box_numbers" ["boxes"] (Ru CT CF))(D:Good P w K mg aD (nG P w CF) 4 "check_names" ["statements","numbers"] (My CT CF))(I:Good P w K mg aD (nG P w CF) 4 "check_ends" ["statements"] (Rm CT CF))
  (B:Good P w K mg aD (nG P w CF) 4 "check_wishes" ["wishes","numbers"] (MC CT CF))(G:Good P w K mg aD dO 1 "arcs_of" ["statements","numbers"] (KE CT)):
  Good P w K mg aD (nG P w CF) 8 "read_diagram" ["text"] (Wm CD CF):=by
 refine h.JG ["text","told","numbers","boxes","labels","box","edge"] λoz A outer s H vs Q E nd hr h=>?_;obtain⟨a,b,rfl,hA,k⟩:=h;exists _,(aw (dI (bG om (bO (ia K) rfl T.len dB (da v0)) (oY U.vN) (b9 _)) (aC (jl (E:=E) X.c hr.hd (jk X.c X.F (hr.mono dC) rfl X.mg X.b dC (ir aV<|oY U.vN)) (λ_ _ _ _ _ _=>jn))) cg)
  (aw (st 1 nd (pc r (hr.mono dC) (E:=E) fL (da (pc Xg (hr.mono dC) (E:=E) fL (da v0)))))
  (aw (st 2 nd (pc C (hr.mono dC) (E:=E) fL (da<|fld K v1)))
  (aw (cO (pc D (hr.mono dC) (E:=E) fL (ir (fV qM (fld K v1) (fld K v1)) v2)))
  (aw (cO (pc I (hr.mono dC) (E:=E) fL (da<|fV qM (fld K v1) (fld K v1))))
  (aw (cO (pc B (hr.mono dC) (E:=E) fL (ir (fld K v1) v2)))
  (aw (li (i:=3) rfl nd rfl rfl (nE rfl rfl rfl rfl) (qh K<|fld K v1) (pz [("box",5)]) (λ_ _ _ _ _=>(pn 5 nd)) (λ_ _ _ _ _=>jX) (λ_ _ _ _ _=>(jM<|AF (fld K<|bM (kL K) v5 aV (λ_ _=>rfl)) (bM (kL K) v5 aV (λ_ _=>rfl)) (bM (kL K) v5 aV (λ_ _=>rfl)))))
  (aw (li (i:=4) rfl nd rfl rfl (nE rfl rfl rfl rfl) (qh K<|fld K v1) (pz [("edge",6)]) (λ_ _ _ _ _=>(pn 6 nd)) (λ_ _ _ _ _=>jX) (λ_ _ _ _ _=>(bM (kL K) v6 aV (λ_ _=>rfl))))
  (aC<|bC<|Us R (hr.mono dC) (J5 v3 (p0 G hr<|ir (fld K v1) v2) v4 (p0 G hr<|ir (fld K v1) v2)))))))))))
 lia;exists _,.inl<|bW.of hA;rw[aj,dU];by_cases c0:↑b>4096
 .let kr:gj b=.error #[1,4096]:=by delta gj VadiBase.tokens;rw[ac (show VadiBase.TEXT<↑b from c0)];rfl
  rw[kr]at k;exact(ac<|ag oM).mpr (ot k)
 refine(aa<|by simp;omega).mpr #[a,b,rfl,hA,oM,?_];cases Qe:k8 b 0 with
 |error f=>
  dsimp only;let kr:gj b=.error f:=by delta gj;rw[rc oM,Qe];rfl
  rw[kr]at k;exact k
 |ok ts=>
 dsimp only;intro H1 r1 zD s1 hr1 JO em;let#[he1,he2]:=wG _ _ _ _ Qe;rw[cw]at he2;let hut:jv zD=ts:=em;let htl:↑zD=↑ts:=by rw[<-em,aj]
 exists r1,zD,rfl,JO,PQ em he1,oM;rw[hut,htl];cases hta:dA (↑ts+1) nh ts with
 |error f=>
  dsimp only;let kr:gj b=.error f:=by delta gj;rw[rc oM,Qe];show(dA (↑ts+1) nh ts).bind _=_;rw[hta];rfl
  rw[kr]at k;exact lD.mono k s1
 |ok d0=>
 dsimp only;intro H2 y bl el wl bs es ws s2 hy n ed;subst ed;let kr:=UL oM Qe hta;rw[kr]at k;let#[dy,gy]:=n.ins;let sA:=s1.trans s2;exists _,rfl,CS,dy,_,gy,J.cl,J.no "boxes" sP,_,rfl,bl,bs,rfl,n.bx,n.l1;cases htw:kU [] (bs.map (·.nm))with
 |some q=>
  rw[htw]at k;exact lD.mono k sA
 |none=>
 rw[htw]at k;dsimp only at k|-;intro H3 d s3 hd hdd;let sB:=sA.trans s3;let S:=s3 _ _ gy;let G7:=a8.xE s3 n.ed;let hW3:=a8.xE s3 n.wi;exists _,rfl,CS,dy,_,S,J.cl,J.no "edges" sP,_,rfl,_,rfl,CS,dy,_,S,J.cl,J.no "wishes" sP,_,rfl;let cat:∀(L:Hp)(p:Addr),a8 H3 L->L p=none->rL CT (upd L p<|.lst<|(es.map λe=>V.ref e.addr)++(ws.map λe=>V.ref e.addr)) p (es++ws):=λL p s4 hp=>by
  refine#[by rw[au,aJ],λe he=>?_];let s5:=s4.trans (lay (o:=.lst<|(es.map λe=>V.ref e.addr)++(ws.map λe=>V.ref e.addr)) (a8.refl L) hp);obtain m|m:=aM.mp he
  .exact a8.CO s5 (G7.CO e m)
  .exact a8.CO s5 (hW3.CO e m)
 let lsz:↑(es.map λe=>V.ref e.addr)+↑(ws.map λe=>V.ref e.addr)<=sizeLine:=by rw[aj,aj,aK];let:=n.l2;let:=n.l3;omega
 refine#[el,rfl,wl,rfl,_,G7.lst,_,hW3.lst,lsz,λp1 Qi=>?_];let s4:=lay (o:=.lst<|(es.map λe=>V.ref e.addr)++(ws.map λe=>V.ref e.addr)) (a8.refl H3) Qi;exists p1,d,es++ws,jD bs,rfl,cat H3 p1 (a8.refl _) Qi,s4 _ _ hdd;cases ZF:((es++ws).flatMap λe=>[e.n1,e.n2]).find? (λx:lY=>!(jD bs).contains x.name)with
 |some x=>
  rw[ZF]at k;exact lD.mono k (sB.trans s4)
 |none=>
 rw[ZF]at k;dsimp only at k|-;intro H5 s5;let ZU:=s4.trans s5;let gy5:=ZU _ _ S;let known:∀e∈es++ws,(jD bs).contains e.n1.name=true/\(jD bs).contains e.n2.name=true:=λe he=>by let h1:=jg.mp ZF e.n1 (i5.mpr #[e,he,sP]);let h2:=jg.mp ZF e.n2 (i5.mpr #[e,he,sP]);exact#[by simpa using h1,by simpa using h2]
 refine#[_,rfl,CS,dy,_,gy5,J.cl,J.no "edges" sP,_,rfl,_,rfl,CS,dy,_,gy5,J.cl,J.no "wishes" sP,_,rfl,el,rfl,wl,rfl,_,ZU _ _ G7.lst,_,ZU _ _ hW3.lst,lsz,λp2 Xr=>?_];let s6:=lay (o:=.lst<|(es.map λe=>V.ref e.addr)++(ws.map λe=>V.ref e.addr)) (a8.refl H5) Xr;exists p2,es++ws,rfl,cat H5 p2 ZU Xr;cases hse:(es++ws).find? (λe=>e.n1.name==e.n2.name)with
 |some e=>
  rw[hse]at k;exact lD.mono k ((sB.trans ZU).trans s6)
 |none=>
 rw[hse]at k;dsimp only[OO]at k|-;intro H7 s7;let s37:=(ZU.trans s6).trans s7;let gy7:=s37 _ _ S;let hbe:=WY bs es ws λe he=>known e<|bE _ he;rw[hbe.1]at k;exists _,rfl,CS,dy,_,gy7,J.cl,J.no "wishes" sP,_,rfl,wl,d,ws,jD bs,rfl,a8.xE s37 hW3,s37 _ _ hdd,λe he=>known e<|bE _ he,n.l3;cases Xm:C3 (bR<|oF (jD bs) ws)with
 |some i=>
  dsimp only;intro e he;rw[Xm]at k;dsimp only[fQ]at k;rw[he]at k;exact lD.mono k (sB.trans s37)
 |none=>
 rw[Xm]at k;dsimp only[Option.bind_none]at k|-;intro H8 s8;let s38:=s37.trans s8;let gy8:=s38 _ _ S;let hB8:Ss CT H8 bl bs:=(cX (s3.trans s38):a' [] H2 H8).zQ (λb hb=>by simp at hb) n.bx sP;refine#[_,rfl,y,CS,dy,_,_,rfl,gy8,J.cl,J.no "boxes" sP,rfl,bl,rfl,#[_,bW.of hB8.lst],λD1 SH=>?_];let#[Pk,P9]:=Ft λm L=>∃zQ:List (Addr×Addr),a8 H8 L/\L D1>(.lst<|zQ.map λx=>V.ref x.1)/\↑zQ=m/\∀(i:Nat)(x:Addr×Addr)(e:Gb),zQ[i]?>x->bs[i]?>e->L x.1>.tup [.ref x.2,.int (e.w:Int),.int (e.h:Int)]/\L x.2>(.tup<|(ff e.nm.name).map V.int);refine jy (K:=K) (a:=bl) (xs:=bs.map λe=>V.ref e.addr) Pk (P9.mpr #[[],lay0 SH,au,rfl,λi x e h=>by simp at h]) (λm L _ w=>?_) ?_ ?_
 .let#[_,s4,_]:=P9.mp w;exact bW.of (s4 _ _ hB8.lst)
 .intro i x L hi hp;let#[zQ,s4,h4,hl4,hx4]:=P9.mp hp;obtain⟨e,q,rfl⟩:=gm hi;let G8:=gl q;let SI:=(cX s4:a' [] H8 L).box (λb hb=>by simp at hb) (hB8.bx e<|ax q);let#[Zt,av1,q1,Zw,ev1]:=SI.a1.at;lia;refine#[_,f9.of SI.tup,_,rfl,_,rfl,CT,Zt,_,Zw,cT.cl,cT.no "value" sP,_,rfl,_,f9.of SI.tup,_,rfl,_,f9.of SI.tup,_,rfl,by show 3<=sizeLine;rw[aK];omega,λp Qh=>?_];let npD:p≠D1:=λz=>by rw[z,h4]at Qh;cases Qh
  let ae8:=n.l1;refine#[_,by rw[aH npD.symm];exact h4,sZ,P9.mpr #[zQ++[(p,av1)],lay (lay s4<|bh s4 Qh) SH,by rw[au];simp,by simp[hl4],λj x e' M l=>?_]];let Y:∀(c:Addr)(xs:List V),L c>.tup xs->(upd (upd L p (.tup [.ref av1,.int (e.w:Int),.int (e.h:Int)])) D1 (.lst<|(zQ.map λx=>V.ref x.1)++[V.ref p])) c>.tup xs:=λc xs hc=>by rw[aH (eI hc h4 sP),aH (λz=>by rw[z,Qh]at hc;cases hc)];exact hc
  by_cases cj:j<↑zQ
  .rw[iC cj]at M;let#[g1,g2]:=hx4 j x e' M l;exact#[Y _ _ g1,Y _ _ g2]
  .rw[oB oM]at M;let ej:j=i:=by let:=gl M;simp at this;omega
   subst ej;rw[q]at l;injection l with l;subst l;rw[hl4,ox]at M;injection M with M;subst M;exact#[by rw[aH npD,au],Y _ _ ev1]
 intro H9 hp9;let#[zQ,s9,h9,hl9,hx9]:=P9.mp hp9;rw[aj]at hl9;let s39:=s38.trans s9;let gy9:=s39 _ _ S;let hE9:=a8.xE s39 G7;refine#[_,rfl,y,CS,dy,_,_,rfl,gy9,J.cl,J.no "edges" sP,rfl,el,rfl,#[_,bW.of hE9.lst],λD2 VQ=>?_];let#[Pl,hPl]:=Ft λm L=>∃O:List V,a8 H9 L/\L D2>.lst O/\↑O=m/\∀(i:Nat)(v:V)(e:Gp),O[i]?>v->es[i]?>e->e.lq=[v];refine jy (K:=K) (a:=el) (xs:=es.map λe=>V.ref e.addr) Pl (hPl.mpr #[[],lay0 VQ,au,rfl,λi v e h=>by simp at h]) (λm L _ w=>?_) ?_ ?_
 .let#[_,s4,_]:=hPl.mp w;exact bW.of (s4 _ _ hE9.lst)
 .intro i x L hi hp;let#[O,s4,h4,hl4,hx4]:=hPl.mp hp;obtain⟨e,q,rfl⟩:=gm hi;let G8:=gl q;let hst:=a8.CO s4<|hE9.CO e<|ax q;let#[lv,et3,_]:=n.AC e<|ax q;let a2:nj ([V.ref e.t1,V.ref e.t2]++e.lq) 2>lv:=at_of (j:=2) rfl (by rw[et3];rfl);lia;let ae9:=n.l2;refine#[_,f9.of hst.tup,_,a2,_,h4,sZ,hPl.mpr #[O++[lv],lay s4 VQ,au,by simp[hl4],λj v e' M l=>?_]];by_cases cj:j<↑O
  .rw[iC cj]at M;exact hx4 j v e' M l
  .rw[oB oM]at M;let ej:j=i:=by let:=gl M;simp at this;omega
   subst ej;rw[q]at l;injection l with l;subst l;rw[hl4,ox]at M;injection M with M;subst M;exact et3
 intro H10 ad9;let#[O,s10,VP,aa4,aem]:=hPl.mp ad9;rw[aj]at aa4;let u:=s39.trans s10;let aa0:=u _ _ S;let d10:=u _ _ hdd;refine#[_,rfl,CS,dy,_,aa0,J.cl,J.no "edges" sP,_,rfl,el,d,es,jD bs,rfl,a8.xE u G7,d10,λe he=>known e<|bf _ he,by let:=n.l2;omega,λY5 ra ii Yw Xu adn adf=>?_];let adm:=Yw _ _ aa0;refine#[_,rfl,CS,dy,_,adm,J.cl,J.no "wishes" sP,_,rfl,wl,d,ws,jD bs,rfl,a8.xE (u.trans Yw) hW3,Yw _ _ d10,λe he=>known e<|bE _ he,by let:=n.l3;omega,λH12 ZS ac9 s12 hrw ado adg=>?_];intro g dx hg Qa hne;exists g,dx,D1,ra,D2,ZS,rfl,au,rfl;rw[hH];let sF:a8 H12 (upd (upd H12 dx<|.own g) g (.ins CD dx<|PL D1 ra D2 ZS)):=lay (lay0 Qa) hg;generalize hHF:upd (upd H12 dx<|.own g) g (.ins CD dx<|PL D1 ra D2 ZS)=HF at sF;let gF:HF g>(.ins CD dx<|PL D1 ra D2 ZS):=by rw[<-hHF,au]
 let UQ:=(Yw.trans s12).trans sF;let s9F:=s10.trans UQ;let all:=(sB.trans u).trans UQ;let s2F:=(s3.trans u).trans UQ;let hnl:↑(jD bs)=↑bs:=by simp[jD]
 refine k HF g all (bh ((sB.trans u).trans (Yw.trans s12)) hg) #[dx,D1,ra,D2,ZS,zQ,ii,ac9,O,gF,s9F _ _ h9,by simp[pA,hl9],λi x b hi hb=>?_,(adn.mono<|s12.trans sF),by rw[adf,EU],UQ _ _ VP,by simp[pA,aa4],λi v e hi he=>?_,ado.mono sF,by rw[adg,AM]] #[dx,D1,ra,D2,ZS,gF,bh (sB.trans s38) SH,bh (sB.trans u) Xu,bh (sB.trans s39) VQ,bh ((sB.trans u).trans Yw) hrw] (by simpa[pA]using n.l1) (by simpa[pA]using n.l2) (by simpa[pA]using n.l3) #[λa ha=>?_,λa ha=>?_,?_] λa ha=>?_
 .let Z:(bs.map λe=>(#[e.nm,e.w,e.h]:nZ))[i]?>b:=hb;rw[ak]at Z;cases q:bs[i]? with
  |none=>rw[q]at Z;cases Z
  |some e=>
   rw[q]at Z;injection Z with Z;subst Z;let#[g1,g2]:=hx9 i x e hi q;exact#[s9F _ _ g1,s9F _ _ g2]
 .let l:(es.map λe=>(#[e.n1,e.n2,e.AC]:oK))[i]?>e:=he;rw[ak]at l;cases q:es[i]? with
  |none=>rw[q]at l;cases l
  |some e0=>
   rw[q]at l;injection l with l;subst l;let#[lv,et3,JP]:=n.AC e0<|ax q;let:=aem i v e0 hi q;rw[et3]at this;injection this with this;subst this;exact(cX s2F:a' [] H2 HF).AC (λb hb=>by simp at hb) JP
 .rw[EU]at ha;let:=ET (λe he=>known e<|bf _ he) a ha;let hl:↑(pA bs es ws).boxes=↑bs:=by simp[pA]
  omega
 .rw[AM]at ha;let:=ET (λe he=>known e<|bE _ he) a ha;let hl:↑(pA bs es ws).boxes=↑bs:=by simp[pA]
  omega
 .rw[AM];exact hbe.2 Xm
 .rw[EU]at ha;obtain⟨e,he,rfl⟩:=a_.mp ha;intro z;let hk2:=known e<|bf _ he;let:=jg.mp hse e<|bf _ he;exact this (by simpa using QG hk2.1 hk2.2 z)
end
section
variable{P:a7}{w:bS}{K:ao}{mg:Str->Option Value}{aD:Heap}
def FC(a:c=0\/c=1)(p):nj [V.int p.1,V.int p.2] c>(V.int<|pick c p):=by obtain rfl|rfl:=a<;>rfl
def Qs(p:c=0\/c=1)(h:iA H a b)(M:↑b<=1000)(r:N[s]?>(some<|.ref a))(u:N[f]?>(some<|.int box))
  (A:v<↑N)(l:f≠v)(k:∀j D,a8 H j->H D=none->j D>(.lst<|(b.filter λx=>decide<|pick c x.2=box).map λx=>V.ref x.1)->Q (.ref D) j):
  RX (D3 K<|lN s) (pR v) (Cq<|Ox rEq (Ox (N8 K) (lN v) (tC<|.int c)) (lN f)) (lN v) [v] N H Q:=by
 refine#[_,r,a,rfl,#[_,bW.of h.lst],λD n=>?_];let#[B,d]:=Ft λm g=>a8 H g/\g D>(.lst<|((b.take m).filter λx=>decide<|pick c x.2=box).map λx=>V.ref x.1);refine jy (K:=K) (a:=a) (xs:=b.map λx=>V.ref x.1) B (d.mpr #[lay0 n,au]) (λm g _ w=>bW.of<|(d.mp w).1 _ _ h.lst) ?_ ?_
 .intro i x g C E;let#[s4,F]:=d.mp E;obtain⟨y,q,rfl⟩:=gm C;let G:=ax q;let tk:b.take (i+1)=b.take i++[y]:=by rw[aN,q];rfl
  let o:((wipe N [v]).set v (some<|V.ref y.1))[v]?>(some<|V.ref y.1):=by rw[ge];rw[kI];exact A
  let I:((wipe N [v]).set v (some<|V.ref y.1))[f]?>(some<|V.int box):=by rw[d8 (λz=>l z.symm)];show((N.set v none))[f]?=_;rw[d8 (λz=>l z.symm)];exact u
  let J:wipe ((wipe N [v]).set v (some<|V.ref y.1)) [v]=wipe N [v]:=by show((N.set v none).set v _).set v none=N.set v none;rw[lI,lI]
  exists J,_,o,_,_,_,_,rfl,rfl,f9.of<|s4 _ _<|h.tup y G,FC p y.2,_,I,rfl,_,rfl;let L:decide (V.int (pick c y.2)=V.int box)=decide (pick c y.2=box):=sP;rw[L];by_cases e:pick c y.2=box
  .rw[ag e];refine rR #[_,o,_,F,?_,d.mpr #[lay s4 n,?_]]
   .let z:=ca (λx:Addr×Int×Int=>decide<|pick c x.2=box) (b.take i);rw[bN]at z;rw[aj,aK];omega
   .rw[au,tk,cF,aJ];simp[e]
  .grind
 .grind
def Qt{rs:List Int}(I:c=0\/c=1)(he:e=0\/e=1)(l:iA H a b)(hl:↑b<=1000)(J:H r>(.lst<|rs.map V.int))
  (p:∀x∈b,0<=pick e x.2/\pick e x.2<(↑rs:Int))
  (L:σ[M]?>(some<|.ref a))(N:σ[C]?>(some<|.int box))(O:σ[E]?>(some<|.ref r))
  (R:v<↑σ)(S:C≠v)(T:E≠v)(k:∀s D,a8 H s->H D=none->s D>(.lst<|(((b.filter λx=>decide<|pick c x.2=box).map λx=>rs.getD (pick e x.2).toNat 0)).map V.int)->Q (.ref D) s):
  RX (D3 K<|lN M) (pR v) (Cq<|Ox rEq (Ox (N8 K) (lN v) (tC<|.int c)) (lN C)) (Ox (QW K) (lN E) (Ox (N8 K) (lN v) (tC<|.int e))) [v] σ H Q:=by
 refine#[_,L,a,rfl,#[_,bW.of l.lst],λD F=>?_];let#[U,d]:=Ft λm o=>a8 H o/\o D>(.lst<|((((b.take m).filter λx=>decide<|pick c x.2=box).map λx=>rs.getD (pick e x.2).toNat 0)).map V.int);refine jy (K:=K) (a:=a) (xs:=b.map λx=>V.ref x.1) U (d.mpr #[lay0 F,au]) (λm o _ w=>bW.of<|(d.mp w).1 _ _ l.lst) ?_ ?_
 .intro i x o X Y;let#[s4,Z]:=d.mp Y;obtain⟨y,q,rfl⟩:=gm X;let A:=ax q;let tk:b.take (i+1)=b.take i++[y]:=by rw[aN,q];rfl
  let G:((wipe σ [v]).set v (some<|V.ref y.1))[v]?>(some<|V.ref y.1):=by rw[ge];rw[kI];exact R
  let ww:∀{j:Nat}{u:Option V},j≠v->σ[j]?>u->((wipe σ [v]).set v (some<|V.ref y.1))[j]?>u:=λ{j u} n h=>by rw[d8 (λz=>n z.symm)];show((σ.set v none))[j]?=_;rw[d8 (λz=>n z.symm)];exact h
  let w3:wipe ((wipe σ [v]).set v (some<|V.ref y.1)) [v]=wipe σ [v]:=by show((σ.set v none).set v _).set v none=σ.set v none;rw[lI,lI]
  let#[r0,r1]:=p y A;let#[B,f]:∃B,rs[(pick e y.2).toNat]?>B:=#[_,aq oM];exists w3,_,G,_,_,_,_,rfl,rfl,f9.of<|s4 _ _<|l.tup y A,FC I y.2,_,ww S N,rfl,_,rfl;let ed:decide (V.int (pick c y.2)=V.int box)=decide (pick c y.2=box):=sP;rw[ed];by_cases g:pick c y.2=box
  .rw[ag g];refine rR #[_,ww T O,_,G,_,_,_,_,rfl,rfl,f9.of<|s4 _ _<|l.tup y A,FC he y.2,r,_,_,V.int B,rfl,rfl,bW.of<|s4 _ _ J,at_of (j:=(pick e y.2).toNat) oM (by rw[ak,f];rfl),_,Z,?_,d.mpr #[lay s4 F,?_]]
   .let z:=ca (λx:Addr×Int×Int=>decide<|pick c x.2=box) (b.take i);rw[bN]at z;rw[aj,aj,aK];omega
   .rw[au,tk,cF,aJ,aJ];simp[g,f]
  .grind
 .grind
def Hr:∀l,l≠[]->rV l∈l/\∀y∈l,rV l<=y
 |[],h=>ae rfl h
 |[x],_=>by simp[rV]
 |x::y::l,_=>by
  let#[a,b]:=Hr (y::l) sP;by_cases h:x<=rV (y::l)
  .rw[show rV (x::y::l)=x from ac h];refine#[aZ,λz hz=>?_];obtain rfl|hz:=aE.mp hz
   .exact ux _
   .grind
  .rw[show rV (x::y::l)=rV (y::l)from aa h];refine#[aR _ a,λz hz=>?_];obtain rfl|hz:=aE.mp hz
   .omega
   .exact b z hz
def Hq:∀l,l≠[]->rT l∈l/\∀y∈l,y<=rT l
 |[],h=>ae rfl h
 |[x],_=>by simp[rT]
 |x::y::l,_=>by
  let#[a,b]:=Hq (y::l) sP;by_cases h:rT (y::l)<=x
  .rw[show rT (x::y::l)=x from ac h];refine#[aZ,λz hz=>?_];obtain rfl|hz:=aE.mp hz
   .exact ux _
   .grind
  .rw[show rT (x::y::l)=rT (y::l)from aa h];refine#[aR _ a,λz hz=>?_];obtain rfl|hz:=aE.mp hz
   .omega
   .exact b z hz
def LF(c box)(a:List (Addr×Int×Int)):↑((a.filter λx=>decide<|pick c x.2=box).map λx=>V.ref x.1)=ny c box (a.map (·.2)):=by delta ny;rw[aj,eB,aj];rfl
def Mp(c e box)(rs)(a:List (Addr×Int×Int)):((a.filter λx=>decide<|pick c x.2=box).map λx=>rs.getD (pick e x.2).toNat 0)=sel c e box rs (a.map (·.2)):=by delta sel;rw[eB,aS];rfl
def Ra(a:∀p∈edges,p∈arcs)(h:0<ny c box edges):sel c e box rs arcs≠[]:=by delta ny at h;let#[p,b]:=mM h;let#[d,f]:=be.mp b;intro z;let:rs.getD (pick e p).toNat 0∈sel c e box rs arcs:=a_.mpr #[p,be.mpr #[a p d,f],rfl];rw[z]at this;cases this
def RC:Sp:=λvs H Q _=>∃box r a b rs ii DP,vs=[.int box,.ref r,.ref a,.ref b]/\H r>(.lst<|rs.map V.int)/\iA H a ii/\iA H b DP/\↑ii<=100/\↑DP<=200/\0<=box/\box<(↑rs:Int)/\
 (∀x∈DP,0<=x.2.1/\x.2.1<(↑rs:Int)/\0<=x.2.2/\x.2.2<(↑rs:Int))/\(∀p∈ii.map (·.2),p∈DP.map (·.2))/\
 ∀H',a8 H H'->Q (.int (pa box rs (ii.map (·.2)) (DP.map (·.2)))) H'
def yk(T:Txt K mg)(h:iW K mg "wanted_rank" uS f fd):Good P w K mg aD dO 1 "wanted_rank" ["box","ranks","edges","arcs"] RC:=by
 refine h.gd ["box","ranks","edges","arcs","out_of_it","into_it","edge","arc"] λO A outer s H vs Q E l R h=>?_;obtain⟨box,r,a,b,rs,d,g,rfl,y,G,I,S,U,X,Y,o,n,k⟩:=h;let hu:=ky R;exists _,(aw (st 4 l (bO (ia K) rfl T.len dB (da (oW rfl l (qh K v2) (pz [("edge",6)]) (λ_ _ _ _ _=>(pn 6 l)) (λ_ _ _ _ _=>(mq<|bG il (bM (kL K) v6 aV (λ_ _=>rfl)) v0 (b9 _))) (λ_ _ _ _ _=>v6)))))
  (aw (st 5 l (bO (ia K) rfl T.len dB (da (oW rfl l (qh K v2) (pz [("edge",6)]) (λ_ _ _ _ _=>(pn 6 l)) (λ_ _ _ _ _=>(mq<|bG il (bM (kL K) v6 aV (λ_ _=>rfl)) v0 (b9 _))) (λ_ _ _ _ _=>v6)))))
  (aw (dI (bG om v4 v5<|b9 _) (aC (bC (fV qN (bO (aes K rfl) rfl T.min W0 (da (oW rfl l (qh K v3) (pz [("arc",7)]) (λ_ _ _ _ _=>(pn 7 l)) (λ_ _ _ _ _=>(mq<|bG il (bM (kL K) v7 aV (λ_ _=>rfl)) v0 (b9 _))) (λ_ _ _ _ _=>(bM (j7 K) v1 (bM (kL K) v7 aV (λ_ _=>rfl)) (λ_ _=>rfl)))))) aV))) cg)
  (aw (dI (bG kz v4 v5<|b9 _) (aC (bC (fV jL (bO (aer K rfl) rfl T.max EY (da (oW rfl l (qh K v3) (pz [("arc",7)]) (λ_ _ _ _ _=>(pn 7 l)) (λ_ _ _ _ _=>(mq<|bG il (bM (kL K) v7 aV (λ_ _=>rfl)) v0 (b9 _))) (λ_ _ _ _ _=>(bM (j7 K) v1 (bM (kL K) v7 aV (λ_ _=>rfl)) (λ_ _=>rfl)))))) aV))) cg)
  (aC<|bC<|bM (j7 K) v1 v0 (λ_ _=>rfl))))))
 lia;refine Qs (.inl rfl) G oM rfl rfl sP dC λH1 D1 s1 _ Z=>?_;exists _,rfl,_,.inl<|bW.of Z;refine Qs (.inr rfl) (G.mono s1) oM rfl rfl sP dC λH2 D2 s2 _ h2=>?_;exists _,rfl,_,.inl<|bW.of h2;rw[LF,LF];let s3:=s1.trans s2;by_cases hd:ny 1 box (d.map (·.2))<ny 0 box (d.map (·.2))
 .rw[ag (show((ny 1 box (d.map (·.2)):Nat):Int)<((ny 0 box (d.map (·.2)):Nat):Int) by omega)];refine rR ?_;refine Qt (.inl rfl) (.inr rfl) (I.mono s3) oM (s3 _ _ y) (λx z=>?_) rfl rfl rfl sP dC dC λB C s4 _ p=>?_
  .let#[J,L,M,N]:=o x z;exact#[M,N]
  .rw[Mp]at p;let i:=Ra (e:=1) (rs:=rs) n (c:=0) (box:=box) oM;refine#[C,rfl,_,bW.of p,iY.mpr i,λm hm hle=>?_];let#[D,F]:=Hr _ i;let em:m=rV (sel 0 1 box rs (g.map (·.2))):=S_ (hle _ D) (F m hm);let q:pa box rs (d.map (·.2)) (g.map (·.2))=m-1:=by delta pa;rw[ac hd,em]
   rw[<-q];exact k B (s3.trans s4)
 .rw[ah (show¬((ny 1 box (d.map (·.2)):Nat):Int)<((ny 0 box (d.map (·.2)):Nat):Int) by omega)];refine wD ?_;by_cases hd2:ny 0 box (d.map (·.2))<ny 1 box (d.map (·.2))
  .rw[ag (show((ny 0 box (d.map (·.2)):Nat):Int)<((ny 1 box (d.map (·.2)):Nat):Int) by omega)];refine rR ?_;refine Qt (.inr rfl) (.inl rfl) (I.mono s3) oM (s3 _ _ y) (λx z=>?_) rfl rfl rfl sP dC dC λB C s4 _ p=>?_
   .let#[J,L,M,N]:=o x z;exact#[J,L]
   .rw[Mp]at p;let i:=Ra (e:=0) (rs:=rs) n (c:=1) (box:=box) oM;refine#[C,rfl,_,bW.of p,iY.mpr i,λm hm hle=>?_];let#[D,F]:=Hq _ i;let em:m=rT (sel 1 0 box rs (g.map (·.2))):=S_ (F m hm) (hle _ D);let q:pa box rs (d.map (·.2)) (g.map (·.2))=m+1:=by delta pa;rw[aa hd,ac hd2,em]
    rw[<-q];exact k B (s3.trans s4)
  .rw[ah (show¬((ny 0 box (d.map (·.2)):Nat):Int)<((ny 1 box (d.map (·.2)):Nat):Int) by omega)];let#[v,u]:∃v,rs[box.toNat]?>v:=#[_,aq oM];refine wD #[_,bW.of<|s3 _ _ y,V.int v,at_of (j:=box.toNat) oM (by rw[ak,u];rfl),?_];let q:pa box rs (d.map (·.2)) (g.map (·.2))=v:=by delta pa;rw[aa hd,aa hd2,bz,u];rfl
   rw[<-q];exact k H2 s3
def rj(r:Addr)(H H':Hp):Prop:=∀b o,b≠r->H b>o->H' b>o
def rj.refl(r)(H):rj r H H:=λ_ _ _ h=>h
def rj.same(s:rj r H H1)(t:a8 H1 a):rj r H a:=λb o n h=>t _ _ (s b o n h)
def rj.upd{r:Addr}{H H1:Hp}{o:HO}(s:rj r H H1):rj r H (upd H1 r o):=λb u n h=>by rw[aH n];exact s b u n h
def iA.LS(A:iA H a b)(s:rj r H d)(n:a≠r)(e:H r>.lst l):iA d a b:=
 #[s _ _ n A.lst,λx c=>s _ _ (eI (A.tup x c) e (by intro q;cases q)) (A.tup x c)]
def mC(edges arcs:List (Int×Int))(rs)(i):gM edges arcs rs (i+1)=uX edges arcs (gM edges arcs rs i) i:=by delta gM;rw[c_,d5];rfl
def BX(edges arcs:List (Int×Int))(rs):∀i,↑(gM edges arcs rs i)=↑rs
 |0=>rfl
 |i+1=>by rw[mC];delta uX;rw[ku];exact BX edges arcs rs i
def BW(edges arcs:List (Int×Int))(rs):∀i j,i<=j->(gM edges arcs rs i)[j]?=rs[j]?
 |0,_,_=>rfl
 |i+1,j,h=>by rw[mC];delta uX;rw[d8 oM];exact BW edges arcs rs i j oM
def Rs:Sp:=λvs H Q _=>∃r a b rs ii DP,vs=[.ref r,.ref a,.ref b]/\H r>(.lst<|rs.map V.int)/\a≠r/\b≠r/\iA H a ii/\iA H b DP/\↑ii<=100/\↑DP<=200/\↑rs<=100/\
 (∀x∈DP,0<=x.2.1/\x.2.1<(↑rs:Int)/\0<=x.2.2/\x.2.2<(↑rs:Int))/\(∀p∈ii.map (·.2),p∈DP.map (·.2))/\
 ∀H',rj r H H'->H' r>.lst ((gM (ii.map (·.2)) (DP.map (·.2)) rs ↑rs).map V.int)->Q (.bl (decide (gM (ii.map (·.2)) (DP.map (·.2)) rs ↑rs≠rs))) H'
def Aa(T:Txt K mg)(h:iW K mg "move_boxes" xb f fd)(c:Good P w K mg aD dO 1 "wanted_rank" ["box","ranks","edges","arcs"] RC):Good P w K mg aD dO 2 "move_boxes" ["ranks","edges","arcs"] Rs:=by
 refine h.gd ["ranks","edges","arcs","count","moved","box","wanted"] λX A outer s H vs Q E q U h=>?_;obtain⟨r,a,b,rs,u,v,rfl,F,na,nb,Y,Z,I,J,hl3,L,g,k⟩:=h;let hu:=ky U;exists _,(aw (st 3 q<|bO (ia K) rfl T.len dB (da v0))
  (aw (st 4 q uL)
  (aw (dM aY rfl (jq rfl T.range<|da v3) (pn 5 q) (aw (st 6 q<|p0 c U<|J5 v5 v0 v1 v2)
  (aC<|dI (bG LY v6 (bM (j7 K) v0 v5 (λ_ _=>rfl)) (b9 _)) (aw (vC v6<|vB v0 v5 set_list)
  (aC<|st 4 q uL)) cg)))
  (aC<|bC v4))))
 lia;exists _,.inl<|bW.of F;rw[aj];generalize B:u.map (·.2)=es at g k;generalize has:v.map (·.2)=d at g k;let#[Pv,m]:=oh λi σ C=>∃M N,σ=[~~~.ref r,~~~.ref a,~~~.ref b,some (.int (↑rs:Nat)),some<|.bl<|decide<|gM es d rs i≠rs,M,N]/\rj r H C/\C r>(.lst<|(gM es d rs i).map V.int);refine#[_,rfl,_,rfl,oM,oM,l5 (n:=((↑rs:Nat):Int).toNat) Pv (m.mpr #[none,none,?_,rj.refl _ _,F]) ?_ ?_]
 .let e:decide (gM es d rs 0≠rs)=false:=by rw[decide_eq_false_iff_not];simp[gM]
  rw[e]
 .intro i σ C hi O;obtain⟨M,N,rfl,s2,o⟩:=m.mp O;rw[aT]at hi;let pl:=BX es d rs i;lia;refine#[0+(i:Int),r,a,b,gM es d rs i,u,v,rfl,o,Y.LS s2 na F,Z.LS s2 nb F,I,J,oM,by rw[pl];omega,λx hx=>by rw[pl];exact L x hx,by rw[B,has];exact g,λH3 s3=>?_];rw[B,has];let#[p,D]:∃p,(gM es d rs i)[i]?>p:=#[_,aq oM];let R:rs[i]?>p:=by rw[<-BW es d rs i i (aI _)];exact D
  exists _,bW.of<|s3 _ _ o,V.int p,at_of (j:=i) oM (by rw[ak,D];rfl),rfl;let e0:(0+(i:Int))=(i:Int):=oM;rw[e0];by_cases hw:pa (i:Int) (gM es d rs i) es d=p
  .let S:(!decide (V.int (pa (i:Int) (gM es d rs i) es d)=V.int p))=false:=by simp[hw]
   rw[S];let G:gM es d rs (i+1)=gM es d rs i:=by
    rw[mC];delta uX;rw[hw];apply cq;intro j;rw[d6];split
    .grind
    .rfl
   refine wD (m.mpr #[~~~.int i,some (.int (pa (i:Int) (gM es d rs i) es d)),?_,s2.same s3,?_])
   .rw[G]
   .rw[G];exact s3 _ _ o
  .let S:(!decide (V.int (pa (i:Int) (gM es d rs i) es d)=V.int p))=true:=by simp[hw]
   rw[S];let G:decide (gM es d rs (i+1)≠rs)=true:=by rw[decide_eq_true_iff];intro z;rw[mC]at z;let y:=af (λl=>l[i]?) z;simp only[uX]at y;rw[ge oM,R]at y;exact hw (aO y)
   refine rR #[_,s3 _ _ o,i,?_,m.mpr #[~~~.int i,some (.int (pa (i:Int) (gM es d rs i) es d)),?_,(s2.same s3).upd,?_]]
   .delta Fm;rw[ac oM,ac<|by rw[aj];omega,aT]
   .rw[G]
   .rw[au,mC];delta uX;rw[e_]
 .intro σ C O;obtain⟨M,N,rfl,s2,o⟩:=m.mp O;rw[aT]at o;lia;rw[aT];exact k C s2 o
def sum_set:∀(rs:List Int) j x y,rs[j]?>x->(rs.set j y).sum=rs.sum-x+y
 |[],j,x,y,h=>by simp at h
 |a::l,0,x,y,h=>gR
 |a::l,j+1,x,y,h=>by let b:=sum_set l j x y (by simpa using h);rw[vP,gc,gc,b];omega
def x9:∀{rs L:List Int},Below rs L->rs.sum<=L.sum
 |[],[],_=>ux _
 |[],_::_,h=>by let:=h.1;simp at this
 |_::_,[],h=>by let:=h.1;simp at this
 |a::l,b::m,h=>by let h0:=h.2 0 a b rfl rfl;let e:=x9 (rs:=l) (L:=m) #[by let:=h.1;simpa using this,λi x y c d=>h.2 (i+1) x y (by simpa using c) (by simpa using d)];rw[gc,gc];omega
def sq(h0:0<=v)(a:v<(↑rs:Int)):rs[v.toNat]?>IT rs v:=by delta IT;rw[bz];let:v.toNat<↑rs:=oM;rw[aq this];rfl
def M3(a:Below rs L)(g:MM arcs L)(h:p∈arcs)(c:0<=p.1)(d:p.1<(↑rs:Int))(j:0<=p.2)(l:p.2<(↑rs:Int)):Below (rs.set p.2.toNat<|IT rs p.1+1) L:=by
 refine#[by rw[ku];exact a.1,λi x y b f=>?_];rw[d6]at b;split at b
 .rename_i e;subst e;rw[ac oM]at b;let m:=aO b;let a1:=a.2 p.1.toNat _ _ (sq c d) (sq (rs:=L) c (by rw[<-a.1];exact d));let a2:=g p h;let n:IT L p.2=y:=aO ((sq (rs:=L) j (by rw[<-a.1];exact l)).symm.trans f);omega
 .exact a.2 i x y b f
def Mw:Sp:=λvs H Q _=>∃(n:Nat)(a:Addr)(ii:List (Addr×Int×Int))(L:List Int),vs=[.int n,.ref a]/\iA H a ii/\↑ii<=200/\n<=100/\↑L=n/\(∀x∈L,0<=x)/\MM (ii.map (·.2)) L/\
 (∀x∈ii,0<=x.2.1/\x.2.1<(n:Int)/\0<=x.2.2/\x.2.2<(n:Int))/\
 ∀(H':Hp)(r:Addr)(rs:List Int),a8 H H'->H r=none->H' r>(.lst<|rs.map V.int)->Below rs L->MM (ii.map (·.2)) rs->Q (.ref r) H'
def ac3(H:Hp)(n:Nat)(a r:Addr)(arcs:List (Int×Int))(L:List Int)(m:Nat)(b:L2.St)(H1:Hp):Prop:=
 ∃rs fw x4,m=(if fw then(L.sum-rs.sum).toNat+1 else 0)/\b=[~~~.int n,~~~.ref a,~~~.ref r,~~~.bl fw,x4]/\a8 H H1/\H1 r>(.lst<|rs.map V.int)/\Below rs L/\(fw=false->MM arcs rs)
def yj(T:Txt K mg)(h:iW K mg "first_ranks" uR f fd):Good P w K mg aD dO 1 "first_ranks" ["count","arcs"] Mw:=by
 refine h.gd ["count","arcs","ranks","changed","arc"] λoz A outer s H vs Q E F hr h=>?_;obtain⟨n,a,o,L,rfl,S,NA,hn,u,U,G,I,k⟩:=h;let hu:=ky hr;exists _,(aw (st 2 F<|fV QJ (dr<|da aV) v0)
  (aw (st 3 F uL)
  (aw (jm aY (HS v3) (aw (st 3 F uL)
  (aC<|dM aY rfl (qh K v1) (pn 4 F) (aC<|dI (bG zf (bM (j7 K) v2 (bM (kL K) v4 aV (λ_ _=>rfl)) (λ_ _=>rfl)) (bM (j7 K) v2 (bM (kL K) v4 aV (λ_ _=>rfl)) (λ_ _=>rfl)) (b9 _)) (aw (vC (fV jL (bM (j7 K) v2 (bM (kL K) v4 aV (λ_ _=>rfl)) (λ_ _=>rfl)) aV) (vB v2 (bM (kL K) v4 aV (λ_ _=>rfl)) set_list))
  (aC<|st 3 F uL)) cg))))
  (aC<|bC v2))))
 lia;refine#[dC,λq hq=>#[_,au,oM,oM,?_,λr g=>?_]]
 .rw[aK];simp;omega
 let X:r≠q:=λz=>by rw[z,au]at g;cases g
 let v:H r=none:=by rw[aH X]at g;exact g
 let J:(cp ((n:Nat):Int).toNat [V.int 0]).flatten=(cp n (0:Int)).map V.int:=by
  rw[aT,List.map_replicate];clear hn I k u;induction n with
  |zero=>rfl
  |succ n ih=>rw[gi,lF,ih,gi];rfl
 rw[J];let s1:a8 H (upd (upd H q<|.lst [V.int 0]) r (.lst ((cp n (0:Int)).map V.int))):=lay (lay0 hq) v;let b0:Below (cp n (0:Int)) L:=by refine#[by rw[sf,u],λi x y h1 O=>?_];let ex:x=0:=gR;exact#[oM,by rw[ex];exact U y<|ax O]
 generalize b:o.map (·.2)=arcs at G k;exists ac3 H n a r arcs L,#[_,cp n 0,true,none,rfl,rfl,s1,au,b0,λz=>by cases z];rintro m σ H1 ⟨rs,fw,Y,rfl,rfl,s2,O,Z,hF⟩;lia;cases fw with
 |false=>exact wD (k H1 r rs s2 v O Z<|hF rfl)
 |true=>
  refine rR #[_,λ_ _ z=>z,?_];let#[Pv,c]:∃Pv:Nat->L2.St->Hp->Prop,∀i σ C,Pv i σ C↔∃(rt:List Int)(ch:Bool)(Y:Option V),σ=[~~~.int n,~~~.ref a,~~~.ref r,~~~.bl ch,Y]/\a8 H C/\C r>(.lst<|rt.map V.int)/\Below rt L/\
    (ch=false->rt=rs/\∀p∈arcs.take i,IT rs p.1+1<=IT rs p.2)/\(ch=true->rs.sum<rt.sum):=#[_,λ_ _ _=>pG]
  refine#[_,rfl,a,rfl,#[_,bW.of<|s2 _ _ S.lst],eH (K:=K) (a:=a) (xs:=o.map λx=>V.ref x.1) Pv ((c _ _ _).mpr #[rs,false,Y,rfl,s2,O,Z,λ_=>#[rfl,λp M=>by cases M],λz=>by cases z])
   (λi σ C _ z=>by let#[_,_,_,_,z,_]:=(c _ _ _).mp z;exact bW.of<|z _ _ S.lst) ?_ ?_]
  .intro i x σ C hi M;obtain⟨rt,ch,y4,rfl,s3,D,d,l,B⟩:=(c _ _ _).mp M;obtain⟨y,q2,rfl⟩:=gm hi;let hy:=ax q2;let TR:y.2∈arcs:=by rw[<-b];exact a_.mpr #[y,hy,rfl]
   let tk:arcs.take (i+1)=arcs.take i++[y.2]:=by rw[aN,<-b,ak,q2];rfl
   let N:↑rt=n:=by rw[d.1,u]
   let#[r0,r1,r2,r3]:=I y hy;let a1:=sq (rs:=rt) r0 (by rw[N];exact r1);let a2:=sq (rs:=rt) r2 (by rw[N];exact r3);let R:=s3 _ _<|S.tup y hy;let i1:nj (rt.map V.int) y.2.1>(V.int<|IT rt y.2.1):=at_of (j:=y.2.1.toNat) oM (by rw[ak,a1];rfl);let i2:nj (rt.map V.int) y.2.2>(V.int<|IT rt y.2.2):=at_of (j:=y.2.2.toNat) oM (by rw[ak,a2];rfl);lia;exists _,f9.of R,_,rfl,_,_,rfl,bW.of D,_,i2,_,f9.of R,_,rfl,_,_,rfl,bW.of D,_,i1,_,rfl,_,rfl;by_cases hle:IT rt y.2.2<=IT rt y.2.1
   .refine(ac<|ag hle).mpr #[_,f9.of R,_,rfl,_,_,rfl,bW.of D,_,i1,_,rfl,_,f9.of R,_,rfl,_,_,rfl,D,y.2.2.toNat,?_,(c _ _ _).mpr #[rt.set y.2.2.toNat<|IT rt y.2.1+1,true,_,rfl,lay s3 v,?_,?_,(λz=>by cases z),λ_=>?_]]
    .delta Fm;rw[ac r2,ac (by rw[aj,N];exact r3)]
    .rw[au,e_]
    .exact M3 (arcs:=arcs) d G TR r0 (by rw[N];exact r1) r2 (by rw[N];exact r3)
    .let es:=sum_set rt y.2.2.toNat _ (IT rt y.2.1+1) a2;rw[es];cases ch with
     |false=>
      let:=(l rfl).1;rw[this]at hle|-;omega
     |true=>
      let:=B rfl;omega
   .grind
  .intro σ C M;obtain⟨rt,ch,y4,rfl,s3,D,d,l,B⟩:=(c _ _ _).mp M;let e:arcs.take ↑(o.map λx=>V.ref x.1)=arcs:=by rw[<-b,aj];exact cz sP
   rw[e]at l;refine#[_,?_,rt,ch,_,rfl,rfl,s3,D,d,λz=>?_]
   .let b1:=x9 Z;let b2:=x9 d;cases ch with
    |false=>simp
    |true=>
     let:=B rfl;simp;omega
   .let#[z1,z2]:=l z;rw[z1];exact z2
def G'(d:c.Pairwise (·<·))(hm:∀k,k∈c↔k∈dq rs):∃tk,c=dq tk/\tk.Pairwise (·<·)/\∀x,x∈tk↔x∈rs:=by
 let f:∀k∈c,∃n:Nat,k=(n:Int):=λk g=>by let#[n,_,e]:=a_.mp<|(hm k).mp g;exact#[n,e.symm]
 let i:c=dq (c.map ig):=by
  unfold dq;rw[aS];let:c.map id=c:=kN c;conv=>lhs;rw[<-this]
  refine bK λk g=>?_;obtain⟨n,rfl⟩:=f k g;rfl
 refine#[c.map ig,i,?_,λx=>?_]
 .rw[i]at d;delta dq at d;rw[fq]at d;exact d.imp λ{a b} h=>oM
 .rw[<-nA,<-i,hm,nA]
def Ro:Sp:=λvs H Q _=>∃r rs,vs=[.ref r]/\H r>(.lst<|(dq rs).map V.int)/\↑rs<=24/\∀H' r',a8 H H'->H r'=none->H' r'>(.lst<|(dq<|uD rs).map V.int)->Q (.ref r') H'
def wA(T:Txt K mg)(U:qy K mg)(h:iW K mg "without_gaps" tH f fd):Good P w K mg aD dO 1 "without_gaps" ["ranks"] Ro:=by
 refine h.gd ["ranks","taken","rank"] λZ A outer s H vs Q E z hr h=>?_;obtain⟨r,rs,rfl,B,hl,k⟩:=h;exists _,(aw (st 1 z<|bO (Mr P w rfl) rfl T.sorted t8 (da<|dL (setOf K P w rfl) rfl U.set Pq (da v0)))
  (aC (bC (oW rfl z (qh K v0) (pz [("rank",2)]) (λ_ _ _ _ _=>(pn 2 z)) (λ_ _ _ _ _=>jX) (λ_ _ _ _ _=>(bm K aX C1 PySem.F.type_list_index (mtI K) v1 (da v2)))))))
 lia;refine#[dq rs,bW.of B,by rw[eL];omega,λp D O hm R=>?_];let C:↑D<=↑(dq rs):=eM O λk hk=>(hm k).mp hk;rw[eL]at C;refine#[D,au,O,oM,λc J2 hs G I=>?_];obtain⟨tk,rfl,t1,S⟩:=G' hs<|λk=>(G k).trans (hm k);let o:a8 H (upd (upd H p<|An P w p D) c (.lst<|(dq tk).map V.int)):=lay (lay0 R) (bh (lay0 R) I);generalize J:upd (upd H p<|An P w p D) c (.lst<|(dq tk).map V.int)=H1 at o;let X:H1 c>(.lst<|(dq tk).map V.int):=by rw[<-J,au]
 show RX _ _ _ _ [2] [~~~.ref r,~~~.ref c,none] H1 Q;refine#[_,rfl,r,rfl,#[_,bW.of<|o _ _ B],λY d=>?_];let#[Pk,b]:=Ft λm g=>a8 H1 g/\g Y>(.lst<|(dq<|(uD rs).take m).map V.int);refine jy (K:=K) (a:=r) (xs:=(dq rs).map V.int) Pk (b.mpr #[lay0 d,by rw[au];rfl]) (λm g _ w=>bW.of<|(b.mp w).1 _ _ (o _ _ B)) ?_ ?_
 .intro i x g l e;let#[s4,v]:=b.mp e;delta dq at l;rw[aS,ak]at l;cases q:rs[i]? with
  |none=>rw[q]at l;cases l
  |some n=>
   rw[q]at l;let ex:V.int (n:Int)=x:=aO l;subst ex;let G8:=gl q;let#[j,y]:=iH<|(S n).mpr (ax q);let L:=gl y;let M:((dq tk).map V.int)[j]?>V.int (n:Int):=by delta dq;rw[aS,ak,y];rfl
   let N:(uD rs)[i]?>j:=by delta uD;rw[ak,q,bD,yr t1 S y]
   lia;refine#[.inl #[rfl,_,bW.of<|s4 _ _ X],_,bW.of<|s4 _ _ X,rfl,DY _,j,_,M,by simp[GQ],λm z' hm hz=>?_,_,v,by rw[aj,eL,bN,aK];omega,b.mpr #[lay s4 d,?_]]
   .delta dq at hz;rw[aS,ak]at hz;let#[u,em]:=aP.mp (show tk[m]?>(tk[m]'oM)from aq oM);rw[aq u]at hz;injection hz with hz;subst hz;let hjn:=(aP.mp y).2;let:=df.mp t1 m j u L hm;show GQ (V.int ((tk[m]:Nat):Int)) (V.int (n:Int))=false;simp[GQ];omega
   .rw[au,aN,N];delta dq;simp
 .intro g e;let#[s4,v]:=b.mp e;rw[aj,eL,cz (by rw[vz];exact aI _)]at v;exact k g Y (o.trans s4) (bh o d) v
open Vadiaa (Arc rankOf pass packed)
def Az(rs)(v:Nat):IT (dq rs) (v:Int)=(bv rs v:Int):=by delta IT;rw[aT,wN]
def GT:MM (bR l) (dq rs)↔AR l rs:=by
 constructor
 .intro h a b;let:=h (gn a) (yq.mpr b);rw[show(gn a).1=(a.1:Int)from rfl,show(gn a).2=(a.2:Int)from rfl,Az,Az]at this;omega
 .intro h p c;obtain⟨a,b,rfl⟩:=dD.mp c;let:=h a b;rw[show(gn a).1=(a.1:Int)from rfl,show(gn a).2=(a.2:Int)from rfl,Az,Az];omega
def Ha(h:∀x∈rs,0<=x):rs=dq (rs.map ig):=by
 unfold dq;rw[aS];let:rs.map id=rs:=kN rs;conv=>lhs;rw[<-this]
 refine bK λk a=>?_;let:=h k a;simp only[tV,id];omega
def Nm(f:Below rs (dq<|fK n l n))(hf:MM (bR l) rs):rs=dq (fK n l n):=by
 let g:↑rs=n:=by rw[f.1,eL,sC]
 let a:∀i x,rs[i]?>x->0<=x/\x<=(bv (fK n l n) i:Int):=λi x b=>by
  let c:i<↑(fK n l n):=by rw[sC,<-g];exact(gl b)
  let h:(dq<|fK n l n)[i]?>((fK n l n)[i]:Int):=by delta dq;rw[ak,aq c];rfl
  let:=f.2 i x _ b h;let e:bv (fK n l n) i=(fK n l n)[i]:=by delta bv;rw[aq c];rfl
  rw[e];exact this
 let d:∀x∈rs,0<=x:=λx b=>by let#[i,c]:=iH b;exact(a i x c).1
 let j:=Ha d;rw[j]at hf|-;congr 1;refine PY (by rw[aj,g]) (GT.mp hf) λv=>?_;delta bv;rw[ak];cases q:rs[v]? with
 |none=>simp
 |some x=>
  let:=a v x q;delta bv at this;simp only[bD,MU];omega
def aca:Sp:=λvs H Q _=>∃n e w ii AO es wl,vs=[.int (n:Nat),.ref e,.ref w]/\iA H e ii/\iA H w AO/\ii.map (·.2)=bR es/\AO.map (·.2)=bR wl/\↑es<=40/\↑wl<=16/\n<=24/\
 (∀a∈es++wl,a.1<n/\a.2<n)/\¬i9 (bR<|es++wl)/\∀H' r,a8 H H'->H r=none->H' r>(.lst<|(dq<|packed<|SF n es (es++wl) (fK n (es++wl) n)).map V.int)->Q (.ref r) H'
def Bo(h:iW K mg "box_ranks" zr f fd)(i:Good P w K mg aD dO 1 "first_ranks" ["count","arcs"] Mw)(j:Good P w K mg aD dO 2 "move_boxes" ["ranks","edges","arcs"] Rs)(d:Good P w K mg aD dO 1 "without_gaps" ["ranks"] Ro):
  Good P w K mg aD dO 3 "box_ranks" ["count","edges","wishes"] aca:=by
 refine h.gd ["count","edges","wishes","arcs","ranks","moved"] λoz A outer s H vs Q E T Z h=>?_;obtain⟨n,e,w',g,l,es,wl,rfl,U,hB,ea,ew,l1,l2,l3,G,VW,k⟩:=h;let ZB:↑g=↑es:=by let:=af ck ea;simpa[eY]using this
 let NC:↑l=↑wl:=by let:=af ck ew;simpa[eY]using this
 exists _,(aw (st 3 T<|fV qM v1 v2)
  (aw (st 4 T<|p0 i Z<|ir v0 v3)
  (aw (st 5 T uL)
  (aw (jm aY (HS v5) (aC<|st 5 T<|p0 j Z<|AF v4 v1 v3))
  (aC<|bC<|p0 d Z<|da v4)))))
 lia;refine#[_,U.lst,_,hB.lst,sZ,λp hp=>?_];let s1:=lay (o:=.lst<|(g.map λx=>V.ref x.1)++(l.map λx=>V.ref x.1)) (a8.refl H) hp;generalize hH1:upd H p (.lst<|(g.map λx=>V.ref x.1)++(l.map λx=>V.ref x.1))=H1 at s1;let B:iA H1 p (g++l):=#[by rw[<-hH1,au,aJ],λx I=>by
  obtain m|m:=aM.mp I
  .exact s1 _ _ (U.tup x m)
  .exact s1 _ _<|hB.tup x m]
 let y:(g++l).map (·.2)=bR (es++wl):=by rw[aJ,ea,ew,kX]
 let J:um n (es++wl) (fK n (es++wl) n):=#[sC _ _ _,LA G VW,λv=>bu (wg n _ n v) oM];let L:∀a∈es,a∈es++wl:=λa ha=>bf _ ha;let M:∀x∈g++l,0<=x.2.1/\x.2.1<(n:Int)/\0<=x.2.2/\x.2.2<(n:Int):=λx I=>by
  let:x.2∈(g++l).map (·.2):=a_.mpr #[x,I,rfl];rw[y]at this;let#[a,ha,e]:=dD.mp this;let D:=G a ha;let q1:(a.1:Int)=x.2.1:=by rw[<-e];rfl
  let q2:(a.2:Int)=x.2.2:=by rw[<-e];rfl
  omega
 refine#[n,p,g++l,dq<|fK n (es++wl) n,rfl,B,by simp;omega,oM,by rw[eL,sC],λx I=>?_,by rw[y];exact GT.mpr J.zT,M,λH2 r rs s2 C h2 D hf=>?_]
 .obtain⟨m,_,rfl⟩:=a_.mp I;omega
 rw[y]at hf;let ers:=Nm D hf;rw[ers]at h2;let rH:H r=none:=bh s1 C;let N:p≠r:=λz=>by rw[<-z,B.lst]at C;cases C
 let O:e≠r:=λz=>by rw[<-z,U.lst]at rH;cases rH
 let#[W,hW]:∃W:Nat->L2.St->Hp->Prop,∀m σ F,W m σ F↔∃(cur:List Nat)(R:Bool),m=(if R=true then(jZ es cur).toNat+1 else 0)/\σ=[some (.int (n:Nat)),~~~.ref e,~~~.ref w',~~~.ref p,~~~.ref r,~~~.bl R]/\a8 H F/\iA F e g/\iA F p (g++l)/\F r>(.lst<|(dq cur).map V.int)/\
   um n (es++wl) cur/\SF n es (es++wl) cur=SF n es (es++wl) (fK n (es++wl) n)/\(R=false->pass n es (es++wl) cur=cur):=#[_,λ_ _ _=>pG]
 exists W,#[_,(hW _ _ _).mpr #[fK n (es++wl) n,true,rfl,rfl,s1.trans s2,(U.mono s1).mono s2,B.mono s2,h2,J,rfl,λh=>by cases h]];intro m σ F hw;obtain⟨cur,R,rfl,rfl,s3,a3,p3,X,u,S,hmv⟩:=(hW _ _ _).mp hw;lia;cases R with
 |false=>
  refine wD #[r,cur,rfl,X,by rw[u.len];omega,λH4 r' s4 hr4 Y=>?_];let e5:SF n es (es++wl) cur=cur:=by rw[Av L u,ac (hmv rfl)]
  rw[<-S,e5]at k;exact k H4 r' (s3.trans s4) (bh s3 hr4) Y
 |true=>
  refine rR #[_,λ_ _ z=>z,r,e,p,dq cur,g,g++l,rfl,X,O,N,a3,p3,oM,by simp;omega,by rw[eL,u.len];omega,by rw[eL,u.len];exact M,λq hq=>by rw[aJ];exact bf _ hq,λH4 s4 Y=>?_];let#[g1,g2,g3]:=AH (n:=n) L u;rw[y,ea,eL,u.len,<-g1]at Y|-;let sH4:a8 H H4:=λb o D=>s4 b o (λz=>by rw[z,rH]at D;cases D) (s3 b o D);refine#[_,?_,(hW _ _ _).mpr #[pass n es (es++wl) cur,decide<|dq (pass n es (es++wl) cur)≠dq cur,rfl,rfl,sH4,a3.LS s4 O X,p3.LS s4 N X,Y,g2,?_,?_]]
  .rw[ac rfl];by_cases c:pass n es (es++wl) cur=cur
   .grind
   .rw[ac (by simp only[decide_eq_true_eq];exact λz=>c<|AE z)];let h5:=g3 c;let h6:=i8 g2.zT es L;omega
  .rw[<-S,Av L u];by_cases c:pass n es (es++wl) cur=cur
   .rw[ac c,c,Av L u,ac c]
   .rw[aa c]
  .intro hf2;let hc:pass n es (es++wl) cur=cur:=by
    let:dq (pass n es (es++wl) cur)=dq cur:=by simpa using hf2
    exact AE this
   rw[hc,hc]
end
section
variable{P:a7}{w:bS}{K:ao}{mg:Str->Option Value}{aD:Heap}
open Vadiab (Item Order rowAt posIn itemAt segments ends rankAt)
def uI:Item->List V
 |.box v=>[.int 0,.int (v:Int)]
 |.pass e=>[.int 1,.int (e:Int)]
def pT:Item->List Key
 |.box v=>[.inl 0,.inl (v:Int)]
 |.pass e=>[.inl 1,.inl (e:Int)]
def Bw(x):(pT x).map kV=uI x:=by cases x<;>rfl
def NE(h:pT x=pT y):x=y:=by
 cases x with
 |box v=>
  cases y with
  |box u=>simp[pT]at h;rw[show v=u by omega]
  |pass u=>simp[pT]at h
 |pass v=>
  cases y with
  |box u=>simp[pT]at h
  |pass u=>simp[pT]at h;rw[show v=u by omega]
structure Row(H:Hp)(a:Addr)(lL:List (Addr×Item)):Prop where
 lst:H a>.lst (lL.map λx=>V.ref x.1)
 tup:∀x∈lL,H x.1>.tup (uI x.2)
def Row.mono(h:Row H a b)(s:a8 H c):Row c a b:=#[s _ _ h.lst,λx d=>s _ _<|h.tup x d]
def sO(e k r:Addr):List (Str×V):=[("edges",.ref e),("ranks",.ref k),("rows",.ref r)]
structure zI(CL:Addr)(H:Hp)(x dx e k r:Addr)(ii:List (Addr×Int×Int))(rows:List (Addr×List (Addr×Item)))(f:fE)(o:Order):Prop where
 ins:H x>.ins CL dx (sO e k r)
 arcs:iA H e ii
 ea:ii.map (·.2)=bR f.downs
 rk:H k>.lst ((dq f.ranks).map V.int)
 lst:H r>.lst (rows.map λx=>V.ref x.1)
 row:∀x∈rows,Row H x.1 x.2
 eo:rows.map (λx=>x.2.map (·.2))=o
 wf:WF f o
 l1:↑f.downs<=40
 l2:↑f.ranks<=24
 l3:f.count<=24
 n1:e≠r
 n2:k≠r
 n3:∀x∈rows,x.1≠r
def dE(CL:Addr)(H:Hp)(x r:Addr)(f:fE)(o:Order):Prop:=∃dx e k ii rows,zI CL H x dx e k r ii rows f o
def zI.mono(h:zI b H x c e k r a rows f o)(s:a8 H d):zI b d x c e k r a rows f o:=
 #[s _ _ h.ins,h.arcs.mono s,h.ea,s _ _ h.rk,s _ _ h.lst,λy g=>(h.row y g).mono s,h.eo,h.wf,h.l1,h.l2,h.l3,h.n1,h.n2,h.n3]
def dE.mono(h:dE b H x r f o)(s:a8 H c):dE b c x r f o:=let#[d,e,k,a,rows,z]:=h;#[d,e,k,a,rows,z.mono s]
def zI.ou(h:zI b H x c e k r a rows f o):↑rows=f.count:=by let:=h.wf.len;rw[<-h.eo,aj]at this;exact this
def zI.yx(h:zI d H x g e k r b rows f o)(c:i<f.count):
  ∃y,rows[i]?>y/\Row H y.1 y.2/\y.2.map (·.2)=aL o i:=by
 let a:i<↑rows:=by rw[h.ou];exact c
 exists rows[i],aq a,h.row _<|cx a;delta aL;rw[<-h.eo,ak,aq a];rfl
def o3(h:WF f o)(b:↑f.downs<=40)(c:↑f.ranks<=24)(a:i<f.count):↑(aL o i)<=64:=by rw[(h.rows i a).length_eq];delta MY;rw[aW,aj];refine bu (Nat.add_le_add (ca _ _) (iP _ _)) ?_;rw[cr,cr];let:=h.boxes;omega
def FM(CL:Addr):Sp:=λvs H Q _=>∃x r f o,vs=[.ref x]/\dE CL H x r f o/\Q (.int (f.count-1:Nat)) H
def vg(T:Txt K mg)(a:fW K b ["edges","ranks","rows"])(h:iW K mg "channel_count" rA f fd):Good P w K mg aD dO 1 "channel_count" ["layout"] (FM b):=by
 refine h.gd ["layout"] λc A outer s H vs Q E j l h=>?_;obtain⟨x,r,fr,o,rfl,⟨d,e,m,g,rows,L⟩,k⟩:=h;exists _,(aC<|bC<|bO (x' rfl) rfl T.max EY (ir (fV qN (bO (ia K) rfl T.len dB (da<|fld K v0)) aV) aV));lia;exists b,d,_,L.ins,a.cl,a.no "rows" sP,_,rfl,r,rfl,_,.inl<|bW.of L.lst;rw[aj,L.ou];let i:(if GT.gt ((0:Int)) (((fr.count:Nat):Int)-1)then(0:Int)else((fr.count:Nat):Int)-1)=((fr.count-1:Nat):Int):=by split<;>omega
 rw[i];exact k
def Mv:Sp:=λvs H Q _=>∃p q a1 a2 a3 b1 b2 b3,vs=[.ref p,.ref q]/\H p>.tup [.int a1,.int ((a2:Nat):Int),.int ((a3:Nat):Int)]/\H q>.tup [.int b1,.int ((b2:Nat):Int),.int ((b3:Nat):Int)]/\Q (.bl (fF (a2,a3) (b2,b3))) H
def JJ(h:iW K mg "cross" Ml f fd):Good P w K mg aD dO 1 "cross" ["one","other"] Mv:=by
 refine h.gd ["one","other"] λg A outer s H vs Q E l m h=>?_;obtain⟨p,q,a1,a2,i,n,d,j,rfl,a,b,k⟩:=h;exists _,(aw (dI (bG kz (bM (kL K) v0 aV (λ_ _=>rfl)) (bM (kL K) v1 aV (λ_ _=>rfl)) (b9 _)) (aC<|bC<|qS om (bM (kL K) v0 aV (λ_ _=>rfl)) (bM (kL K) v1 aV (λ_ _=>rfl)) (b9 _)) cg)
  (aC<|bC<|X7 (qS om (bM (kL K) v0 aV (λ_ _=>rfl)) (bM (kL K) v1 aV (λ_ _=>rfl)) (b9 _)) (Kc<|qS kz (bM (kL K) v0 aV (λ_ _=>rfl)) (bM (kL K) v1 aV (λ_ _=>rfl)) (b9 _))))
 lia;exists _,f9.of a,_,rfl,_,f9.of b,_,rfl,_,rfl,_,rfl;let fin:∀c,c=fF (a2,i) (d,j)->Q (.bl c) H:=λc e=>by rw[e];exact k
 by_cases c:a2<d
 .refine(ac<|ag oM).mpr #[_,f9.of a,_,rfl,_,f9.of b,_,rfl,_,rfl,_,rfl,fin _ ?_];delta fF;rw[b7];simp only[g8,decide_eq_true_eq];omega
 .refine(aa<|by simp;omega).mpr #[_,f9.of a,_,rfl,_,f9.of b,_,rfl,_,rfl,_,rfl,?_];by_cases o:d<a2
  .refine(ac<|ag oM).mpr #[_,f9.of a,_,rfl,_,f9.of b,_,rfl,_,rfl,_,rfl,fin _ ?_];delta fF;rw[b7];simp only[g8,decide_eq_true_eq];omega
  .refine(aa<|by simp;omega).mpr (fin _ ?_);delta fF;rw[b7];simp only[g8,decide_eq_true_eq];constructor
   .intro h;cases h
   .omega
def SN(l:List Item):List (List Key×V):=l.zipIdx.map λx=>(pT x.1,V.int (x.2:Int))
def By(b):∀(ns:List Item) s,oH ((ns.zipIdx s).map λx=>(pT x.1,V.int (x.2:Int))) (pT b)=(ns.findIdx? (·==b)).map λi=>V.int ((i+s:Nat):Int)
 |[],s=>rfl
 |n::ns,s=>by
  rw[fb,bb,MO];by_cases h:n=b
  .rw[tU (by rw[h]),ac (by simp[h])];simp
  .rw[tT (λz=>h<|NE z),aa<|by simpa using h,By b ns (s+1)];cases ns.findIdx? (·==b)with
   |none=>rfl
   |some i=>simp only[bD];congr 2;omega
def LM(h:x∈l):oH (SN l) (pT x)>V.int ((cU l x:Nat):Int):=by
 let:=By x l 0;delta SN;rw[this];let a:l.findIdx? (·==x)>cU l x:=by delta cU;rw[List.findIdx?_eq_some_iff_findIdx_eq];exact#[xY #[x,h,sP],rfl]
 rw[a];rfl
def Qp(l)(x)(h:x∉l):putK (SN l) (pT x) (V.int (↑l:Int))=SN (l++[x]):=by
 rw[B0]
 .delta SN;rw[kK,aJ];simp
 .let e:=By x l 0;let a:l.findIdx? (·==x)=none:=gR;delta SN;rw[e,a];rfl
def Io:Sp:=λvs H Q _=>∃a lL,vs=[.ref a]/\Row H a lL/\↑lL<=64/\(lL.map (·.2)).Nodup/\∀H' d,a8 H H'->H d=none->H' d>.dT (SN (lL.map (·.2)))->Q (.ref d) H'
def uu(T:Txt K mg)(h:iW K mg "places_by_item" p_ f fd):Good P w K mg aD dO 1 "places_by_item" ["row"] Io:=by
 refine h.gd ["row","places","place","item"] λM A outer s H vs Q E r N h=>?_;obtain⟨a,b,rfl,u,X,v,k⟩:=h;let O:=ky N;exists _,(aw (st 1 r HL)
  (aw (dM aY rfl (SR K T.enumerate<|da v0) (OY K 2<|eJ (pn 2 r) (eJ (pn 3 r) kf)) (aC<|AJ O v1 v3 v2 rfl))
  (aC<|bC v1)))
 lia;intro d hd;let I:=lay (o:=.dT []) (a8.refl H) hd;exists _,rfl,a,_,rfl,bW.of<|I _ _ u.lst;let#[Pv,c]:=oh λi Y H1=>∃y B,Y=[~~~.ref a,~~~.ref d,y,B]/\a8 H H1/\H1 d>.dT (SN ((b.take i).map (·.2)));refine k4 (K:=K) (a:=a) (xs:=b.map λe=>V.ref e.1) Pv (c.mpr #[none,none,rfl,I,au]) (λi Y H1 _ z=>?_) ?_ ?_
 .let#[_,_,_,s1,_]:=c.mp z;exact bW.of (s1 _ _ u.lst)
 .intro i x Y H1 J R C g;obtain⟨y,B,rfl,s1,p⟩:=c.mp C;obtain⟨e,q,rfl⟩:=gm R;let S:=gl q;let s2:=lay (o:=.tup [.int (i:Int),.ref e.1]) s1 (bh s1 g);generalize j:upd H1 J (.tup [.int (i:Int),.ref e.1])=D at s2;let F:D J>.tup [.int (i:Int),.ref e.1]:=by rw[<-j,au]
  let hd2:D d>.dT (SN ((b.take i).map (·.2))):=by rw[<-j];exact lay0 g _ _ p
  let het:D e.1>(.tup<|(pT e.2).map kV):=by rw[Bw];exact s2 _ _ (u.tup e<|ax q)
  let l:(b.take<|i+1).map (·.2)=(b.take i).map (·.2)++[e.2]:=by rw[aN,q];simp
  let G:e.2∉(b.take i).map (·.2):=by
   let U:(b.take<|i+1).map (·.2)=(b.map (·.2)).take (i+1):=iQ ..;let L:((b.take<|i+1).map (·.2)).Nodup:=by rw[U];exact rg v
   rw[l,lH]at L;intro m;exact L.2.2 _ m _ sP rfl
  lia;exists _,f9.of F,rfl;lia;refine#[_,AQ.t hd2 het<|by rw[aK];delta SN;simp;omega,c.mpr #[_,_,rfl,lay s2 hd,?_]];let n:=Qp _ _ G;rw[aj,bN,iJ oM]at n;rw[au,n,l]
 .intro Y H1 C;obtain⟨y,B,rfl,s1,p⟩:=c.mp C;rw[aj,br]at p;lia;exact k H1 d s1 hd p
def Rp(CL:Addr):Sp:=λvs H Q _=>∃x r f o e rk it,vs=[.ref x,.int (e:Nat),.int (rk:Nat)]/\dE CL H x r f o/\itemAt f e rk>it/\∀H' p,a8 H H'->H p=none->H' p>(.tup<|uI it)->Q (.ref p) H'
def pX{v:Nat}(h:v<↑f.ranks):nj ((dq f.ranks).map V.int) (v:Int)>V.int ((bX f v:Nat):Int):=by refine at_of (j:=v) rfl ?_;delta dq bX;rw[aS,ak,aq h];rfl
def Fh(U:qy K mg)(q:fW K F ["edges","ranks","rows"])(h:iW K mg "item_on" Eh f fd):Good P w K mg aD dO 1 "item_on" ["layout","edge","rank"] (Rp F):=by
 refine h.gd ["layout","edge","rank","box"] λS A outer s H vs Q E T Y h=>?_;obtain⟨x,r,fr,o,e,rk,it,rfl,⟨G,Z,kk,n,rows,L⟩,hit,k⟩:=h;exists _,(aw (dM aY rfl (piT K<|bM (j7 K) (fld K v0) v1 (λ_ _=>rfl)) (pn 3 T) (aC<|dI (bG il (bM (j7 K) (fld K v0) v3 (λ_ _=>rfl)) v2 (b9 _)) (aC<|bC<|jM<|ir (oY U.BOX) v3) cg))
  (aC<|bC<|jM<|ir (oY U.Lg) v1))
 delta gI at hit;cases C:fr.downs[e]? with
 |none=>rw[C]at hit;cases hit
 |some a=>
 rw[C]at hit;dsimp only[fQ]at hit;let I:e<↑n:=by let u:=af ck L.ea;rw[aj,eY]at u;rw[u];exact(gl C)
 let#[y,J]:∃y,n[e]?>y:=#[_,aq I];let M:y.2=gn a:=by let u:=af (λl=>l[e]?) L.ea;delta bR at u;simp only[ak,J,C,bD]at u;exact aO u
 let b:=L.arcs.tup y<|ax J;rw[M]at b;let b:H y.1>.tup [.int (a.1:Int),.int (a.2:Int)]:=b;let D:nj (n.map λx=>V.ref x.1) (e:Int)>V.ref y.1:=at_of (j:=e) rfl (by rw[ak,J];rfl);let d:=L.wf.GP a<|ax C;let#[Pv,m]:=oh λi σ H1=>∃N,σ=[~~~.ref x,some (.int (e:Nat)),some (.int (rk:Nat)),N]/\H1=H/\(1<=i->rk≠bX fr a.1)/\(2<=i->rk≠bX fr a.2);let ret:∀c v,uI it=[.int c,.int v]->∀p,H p=none->Q (.ref p) (upd H p (.tup [.int c,.int v])):=λc v X p B=>k _ p (lay0 B) B (by rw[au,X]);refine#[_,rfl,x,F,G,_,_,rfl,L.ins,q.cl,q.no "edges" sP,rfl,_,rfl,_,_,_,_,rfl,rfl,bW.of L.arcs.lst,D,_,rfl,#[_,f9.of b],wm (K:=K) (a:=y.1) (xs:=[.int (a.1:Int),.int (a.2:Int)]) Pv (m.mpr #[none,rfl,rfl,λh=>oM,λh=>oM]) (λi σ H1 _ z=>?_) ?_ ?_]
 .obtain⟨_,_,rfl,_⟩:=m.mp z;exact f9.of b
 .intro i v σ H1 g B;obtain⟨N,rfl,rfl,O,R⟩:=m.mp B;match i,g with
  |0,g=>
   injection g with g;subst g;lia;exists F,G,_,L.ins,q.cl,q.no "ranks" sP,_,rfl,_,rfl,_,bW.of L.rk,_,pX d.1,rfl;by_cases c:rk=bX fr a.1
   .rw[ac c]at hit;injection hit with hit;refine(ac<|by simp[c]).mpr #[by show 2<=sizeLine;rw[aK];omega,ret 0 a.1<|by rw[<-hit];rfl]
   .grind
  |1,g=>
   injection g with g;subst g;lia;exists F,G,_,L.ins,q.cl,q.no "ranks" sP,_,rfl,_,rfl,_,bW.of L.rk,_,pX d.2.1,rfl;rw[aa (O oM)]at hit;by_cases c:rk=bX fr a.2
   .rw[ac c]at hit;injection hit with hit;refine(ac<|by simp[c]).mpr #[by show 2<=sizeLine;rw[aK];omega,ret 0 a.2<|by rw[<-hit];rfl]
   .grind
  |i+2,g=>simp at g
 .intro σ H1 B;obtain⟨N,rfl,rfl,O,R⟩:=m.mp B;rw[aa (O sP),aa (R sP)]at hit;lia;split at hit
  .injection hit with hit;exact#[by show 2<=sizeLine;rw[aK];omega,ret 1 e<|by rw[<-hit];rfl]
  .cases hit
end
section
variable{P:a7}{w:bS}{K:ao}{mg:Str->Option Value}{aD:Heap}
open Vadiab (Item Order rowAt posIn segments ends rankAt)
def pieceAt(f:fE)(o:Order)(c e:Nat):Option (Nat×Nat×Nat):=(f.downs[e]?).bind λa=>
 if bX f a.1<=c/\c<bX f a.2 then(gI f e c).bind λx=>(gI f e<|c+1).map λy=>(e,cU (aL o c) x,cU (aL o<|c+1) y)else none
def Lx(f)(o)(c):ends f o c=(ay ↑f.downs).filterMap (pieceAt f o c):=by
 delta ends b';rw[MR];congr 1;funext e;delta pieceAt;cases f.downs[e]? with
 |none=>rfl
 |some a=>
  simp only[fQ];split
  .cases gI f e c with
   |none=>rfl
   |some x=>cases gI f e (c+1)<;>rfl
  .rfl
def y9(h:f.downs[e]?>a)(d:bX f a.1<=r)(g:r<=bX f a.2):∃it,gI f e r>it:=by
 delta gI;rw[h];simp only[fQ];by_cases b:r=bX f a.1
 .rw[ac b];exact#[_,rfl]
 .rw[aa b];by_cases c:r=bX f a.2
  .rw[ac c];exact#[_,rfl]
  .rw[aa c,ac oM];exact#[_,rfl]
structure WQ(H:Hp)(r:Addr)(ps:List (Addr×Nat×Nat×Nat)):Prop where
 lst:H r>.lst (ps.map λx=>V.ref x.1)
 tup:∀x∈ps,H x.1>.tup [.int (x.2.1:Int),.int (x.2.2.1:Int),.int (x.2.2.2:Int)]
def WQ.mono(h:WQ H r ps)(s:a8 H a):WQ a r ps:=#[s _ _ h.lst,λx b=>s _ _<|h.tup x b]
def Cg(CL:Addr):Sp:=λvs H Q _=>∃x r f o c,vs=[.ref x,.int (c:Nat)]/\dE CL H x r f o/\c+1<f.count/\∀H' q ps,a8 H H'->H q=none->WQ H' q ps->ps.map (·.2)=ends f o c->Q (.ref q) H'
def G4(T:Txt K mg)(G:fW K S ["edges","ranks","rows"])(h:iW K mg "pieces" Ig f fd)(b:Good P w K mg aD dO 1 "places_by_item" ["row"] Io)(d:Good P w K mg aD dO 1 "item_on" ["layout","edge","rank"] (Rp S)):
  Good P w K mg aD dO 2 "pieces" ["layout","channel"] (Cg S):=by
 refine h.gd ["layout","channel","above","below","found","edge","arc","upper","lower"] λoz A outer s H vs Q E U hr h=>?_;obtain⟨x,r,fr,o,c,rfl,⟨Y,el,kk,I,rows,L⟩,hc,k⟩:=h;let hu:=ky hr;let#[y1,hy1,hr1,Z]:=L.yx (i:=c) oM;let#[y2,hy2,TQ,er2]:=L.yx (i:=c+1) hc;let ZB:↑I=↑fr.downs:=by let:=af ck L.ea;simpa[eY]using this
 let ln1:=o3 L.wf L.l1 L.l2 (i:=c) oM;let ln2:=o3 L.wf L.l1 L.l2 (i:=c+1) hc;exists _,(aw (st 2 U<|p0 b hr<|da<|bM (j7 K) (fld K v0) v1 (λ_ _=>rfl))
  (aw (st 3 U<|p0 b hr<|da<|bM (j7 K) (fld K v0) (fV jL v1 aV) (λ_ _=>rfl))
  (aw (st 4 U<|dr ib)
  (aw (dM aY rfl (SR K T.enumerate<|da<|fld K v0) (OY K 2<|eJ (pn 5 U) (eJ (pn 6 U) kf)) (aC<|dI (QU zf kz (bM (j7 K) (fld K v0) (bM (kL K) v6 aV (λ_ _=>rfl)) (λ_ _=>rfl)) v1 (bM (j7 K) (fld K v0) (bM (kL K) v6 aV (λ_ _=>rfl)) (λ_ _=>rfl))) (aw (st 7 U<|AI hu v2 (p0 d hr<|AF v0 v5 v1) (λ_ _=>rfl))
  (aw (st 8 U<|AI hu v3 (p0 d hr<|AF v0 v5<|fV jL v1 aV) (λ_ _=>rfl))
  (aC<|cO<|bm K aX bU bV fT v4<|da<|jM<|AF v5 v7 v8))) cg))
  (aC<|bC v4)))))
 lia;let ar1:nj (rows.map λx=>V.ref x.1) (c:Int)>V.ref y1.1:=at_of (j:=c) rfl (by rw[ak,hy1];rfl);let ar2:nj (rows.map λx=>V.ref x.1) ((c:Int)+1)>V.ref y2.1:=at_of (j:=c+1) oM (by rw[ak,hy2];rfl);refine#[S,Y,_,L.ins,G.cl,G.no "rows" sP,_,rfl,_,rfl,_,bW.of L.lst,_,ar1,y1.1,y1.2,rfl,hr1,by let:=af ck Z;rw[aj]at this;omega,by rw[Z];exact kD L.wf oM,λH1 d1 s1 hd1 h1=>?_];let L1:=L.mono s1;refine#[S,Y,_,L1.ins,G.cl,G.no "rows" sP,_,rfl,_,rfl,_,bW.of L1.lst,_,ar2,y2.1,y2.2,rfl,TQ.mono s1,by let:=af ck er2;rw[aj]at this;omega,by rw[er2];exact kD L.wf hc,λH2 d2 s2 hd2 h2=>?_];rw[Z]at h1;rw[er2]at h2;refine#[cP _,λq hq=>?_];let u:=s1.trans s2;let qH:H q=none:=bh u hq;let d12:=s2 _ _ h1;let#[Pv,p]:=oh λi F R=>∃(x5 x6 x7 x8:Option V)(ps:List (Addr×Nat×Nat×Nat)),F=[~~~.ref x,some (.int (c:Nat)),~~~.ref d1,~~~.ref d2,~~~.ref q,x5,x6,x7,x8]/\a8 H2 R/\WQ R q ps/\ps.map (·.2)=(ay i).filterMap (pieceAt fr o c)/\↑ps<=i;let L3:=L.mono (u.trans (lay (o:=.lst []) (a8.refl H2) hq));refine#[_,rfl,x,S,Y,_,_,rfl,L3.ins,G.cl,G.no "edges" sP,rfl,el,_,rfl,bW.of L3.arcs.lst,k4 (K:=K) (a:=el) (xs:=I.map λx=>V.ref x.1) Pv (p.mpr #[none,none,none,none,[],rfl,lay0 hq,#[au,λx hx=>by simp at hx],rfl,cP _]) (λi F R _ z=>?_) ?_ ?_]
 .let#[_,_,_,_,_,_,s4,_]:=p.mp z;exact bW.of (s4 _ _<|u _ _ L.arcs.lst)
 .intro i v F R T1 hi hp JO;obtain⟨x5,x6,x7,x8,ps,rfl,s4,hps,em,hlen⟩:=p.mp hp;obtain⟨y,qa,rfl⟩:=gm hi;let G8:=gl qa;let#[a,qd]:∃a,fr.downs[i]?>a:=#[_,aq oM];let TR:y.2=gn a:=by let h5:=af (λl=>l[i]?) L.ea;delta bR at h5;simp only[ak,qa,qd,bD]at h5;exact aO h5
  let B:=L.wf.GP a<|ax qd;let s5:=lay (o:=.tup [.int (i:Int),.ref y.1]) s4 (bh s4 JO);let C:=hps.mono (lay (o:=.tup [.int (i:Int),.ref y.1]) (a8.refl R) JO);generalize hH5:upd R T1 (.tup [.int (i:Int),.ref y.1])=H5 at s5 C;let hT5:H5 T1>.tup [.int (i:Int),.ref y.1]:=by rw[<-hH5,au]
  let L5:=L.mono<|u.trans s5;let D:=L5.arcs.tup y<|ax qa;rw[TR]at D;let D:H5 y.1>.tup [.int (a.1:Int),.int (a.2:Int)]:=D;let rs:(ay<|i+1).filterMap (pieceAt fr o c)=(ay i).filterMap (pieceAt fr o c)++(pieceAt fr o c i).toList:=by rw[c_,r_];let e9:∀(g:Nat->Option (Nat×Nat×Nat)),[i].filterMap g=(g i).toList:=λg=>gR;rw[e9]
  lia;exists _,f9.of hT5,rfl;lia;exists S,Y,_,L5.ins,G.cl,G.no "ranks" sP,_,rfl,_,f9.of D,_,rfl,_,rfl,_,_,rfl,bW.of L5.rk,_,pX B.1,_,rfl;let hpe:∀X,pieceAt fr o c i=X↔(if bX fr a.1<=c/\c<bX fr a.2 then(gI fr i c).bind λx=>(gI fr i<|c+1).map λy=>(i,cU (aL o c) x,cU (aL o<|c+1) y)else none)=X:=λX=>by delta pieceAt;rw[qd];rfl
  let skip:pieceAt fr o c i=none->∀x5 x6 x7 x8 H6,a8 H5 H6->Pv (i+1) [~~~.ref x,some (.int (c:Nat)),~~~.ref d1,~~~.ref d2,~~~.ref q,x5,x6,x7,x8] H6:=λhn x5 x6 x7 x8 H6 s6=>p.mpr #[x5,x6,x7,x8,ps,rfl,s5.trans s6,C.mono s6,by rw[rs,hn,em];simp,oM];by_cases c1:bX fr a.1<=c;rotate_left
  .exact(aa<|by simp;omega).mpr (skip ((hpe _).mpr (aa oM)) _ _ _ _ _ (a8.refl _))
  refine(ac<|ag oM).mpr #[S,Y,_,L5.ins,G.cl,G.no "ranks" sP,_,rfl,_,f9.of D,_,rfl,_,rfl,_,_,rfl,bW.of L5.rk,_,pX B.2.1,_,rfl,?_];by_cases c2:c<bX fr a.2;rotate_left
  .exact(aa<|by simp;omega).mpr (skip ((hpe _).mpr (aa oM)) _ _ _ _ _ (a8.refl _))
  let#[J,hi1]:=y9 (r:=c) qd c1 oM;let#[M,hi2]:=y9 (r:=c+1) qd oM oM;let aa7:pieceAt fr o c i>(i,cU (aL o c) J,cU (aL o<|c+1) M):=by rw[hpe,ac #[c1,c2],hi1,hi2];rfl
  refine(ac<|ag oM).mpr #[x,r,fr,o,i,c,J,rfl,#[Y,el,kk,I,rows,L5],hi1,λH6 p1 s6 Qi h6=>?_];let g1:lW H6 d1 (.ref p1) (some (V.int ((cU (aL o c) J:Nat):Int))):=by rw[<-LM (mo L.wf oM hi1)];exact lW.t (s6 _ _<|s5 _ _ d12) (by rw[Bw];exact h6)
  refine#[_,g1,x,r,fr,o,i,c+1,M,rfl,#[Y,el,kk,I,rows,L5.mono s6],hi2,λH7 p2 s7 Xr h7=>?_];let g2:lW H7 d2 (.ref p2) (some (V.int ((cU (aL o<|c+1) M:Nat):Int))):=by rw[<-LM (mo L.wf hc hi2)];exact lW.t (s7 _ _<|s6 _ _<|s5 _ _ h2) (by rw[Bw];exact h7)
  let ZV:=s6.trans s7;let n:=C.mono ZV;let l40:=L.l1;refine#[_,g2,.inl #[rfl,_,bW.of n.lst],by show 3<=sizeLine;rw[aK];omega,λp3 N=>?_];let npq:p3≠q:=λz=>by rw[z,n.lst]at N;cases N
  refine#[_,by rw[aH npq.symm];exact n.lst,sZ,p.mpr #[_,_,_,_,ps++[(p3,i,cU (aL o c) J,cU (aL o<|c+1) M)],rfl,lay (lay (s5.trans ZV) (bh (s5.trans ZV) N)) hq,#[by rw[au];simp,λz hz=>?_],by rw[rs,aa7,aJ,em];rfl,by simp;omega]];obtain m|m:=aM.mp hz
  .let O:=n.tup z m;rw[aH (eI O n.lst sP),aH (λe=>by rw[e,N]at O;cases O)];exact O
  .rw[bd.mp m,aH npq,au]
 .intro F R hp;obtain⟨x5,x6,x7,x8,ps,rfl,s4,hps,em,hlen⟩:=p.mp hp;rw[aj,ZB,<-Lx]at em;lia;exact k R q ps (u.trans s4) qH hps em
abbrev T3:=Nat×Nat×Nat
def on(x:T3)(l:List T3):List (Nat×Nat):=(l.filter λy=>fF x.2 y.2).map λy=>(x.1,y.1)
def k_(l:List T3):Nat->List (Nat×Nat)
 |0=>[]
 |i+1=>k_ l i++(match l[i]? with|some x=>on x (l.drop<|i+1)|none=>[])
def zh(x y:T3)(l):on x (l++[y])=on x l++(if fF x.2 y.2=true then[(x.1,y.1)]else[]):=by delta on;rw[cF,aJ];congr 1;rw[bJ];split<;>rfl
def BR(x:T3)(l):↑(on x l)<=↑l:=by delta on;rw[aj];exact ca _ _
def J8(g:(l.map (·.1)).Pairwise (·<·)):k_ l ↑l=l.flatMap λx=>(l.filter λy=>decide (x.1<y.1)&&fF x.2 y.2).map λy=>(x.1,y.1):=by
 let one:∀i x,l[i]?>x->(l.filter λy=>decide (x.1<y.1)&&fF x.2 y.2).map (λy=>(x.1,y.1))=on x (l.drop<|i+1):=by
  intro i x b;let#[d,e]:=aP.mp b;delta on;congr 1;let a:l=l.take (i+1)++l.drop (i+1):=(sh _ _).symm;let h:(l.take<|i+1).filter (λy=>decide (x.1<y.1)&&fF x.2 y.2)=[]:=by
   rw[lE];intro y c;let#[j,m,f]:=pi.mp c;let:¬x.1<y.1:=by
    obtain q|q:=Y' j i
    .grind
    .grind
   simp[this]
  let n:(l.drop<|i+1).filter (λy=>decide (x.1<y.1)&&fF x.2 y.2)=(l.drop<|i+1).filter λy=>fF x.2 y.2:=by refine d4 λy c=>?_;let#[j,m,f]:=pf.mp c;let:=df.mp (fq.mp g) i (i+1+j) d oM oM;rw[f,e]at this;simp[this]
  conv=>lhs;rw[a]
  rw[cF,h,rW,n]
 let gen:∀i,i<=↑l->k_ l i=(l.take i).flatMap λx=>(l.filter λy=>decide (x.1<y.1)&&fF x.2 y.2).map λy=>(x.1,y.1):=by
  intro i;induction i with
  |zero=>intro _;rfl
  |succ i o=>
   intro d;let b:l[i]?>l[i]:=aq oM;delta k_;rw[o oM,b,aN,b,dX];congr 1;simp only[dj,dw,List.flatMap_nil,c8];exact(one i _ b).symm
 rw[gen ↑l (aI _),br]
def sW(l):∀i,↑(k_ l i)<=i*↑l
 |0=>by simp[k_]
 |i+1=>by
  let a:=sW l i;delta k_;rw[aW,Nat.add_mul,Nat.one_mul];let:↑(match l[i]? with|some x=>on x (l.drop<|i+1)|none=>[])<=↑l:=by
   cases l[i]? with
   |none=>simp
   |some x=>
    let:=BR x<|l.drop<|i+1;rw[cw]at this;dsimp only;omega
  omega
def BS(f)(o)(c):eR f o c=k_ (ends f o c) ↑(ends f o c):=by
 rw[J8]
 .rfl
 .delta ends;rw[aS];exact Ek (f:=f) (r:=c)
structure Za(H:Hp)(r:Addr)(ps:List (Addr×Nat×Nat)):Prop where
 lst:H r>.lst (ps.map λx=>V.ref x.1)
 tup:∀x∈ps,H x.1>.tup [.int (x.2.1:Int),.int (x.2.2:Int)]
def Za.mono(h:Za H r ps)(s:a8 H a):Za a r ps:=#[s _ _ h.lst,λx b=>s _ _<|h.tup x b]
def we(f)(o)(c):↑(ends f o c)<=↑f.downs:=by rw[Lx];let:=iP (pieceAt f o c) (ay ↑f.downs);rwa[cr]at this
def PJ(xs)(i:Nat):rN xs (some ((i:Int)+1)) none=xs.drop (i+1):=by
 delta rN;rw[show((i:Int)+1)=((i+1:Nat):Int)from rfl,HT.Ic,HT.uh];obtain c|c:=IJ (i+1) ↑xs
 .rw[iJ c,cz (by rw[cw];exact aI _)]
 .rw[Sy c,zK,rJ c];simp
def FQ(CL:Addr):Sp:=λvs H Q _=>∃x r f o c,vs=[.ref x,.int (c:Nat)]/\dE CL H x r f o/\c+1<f.count/\∀H' q ps,a8 H H'->H q=none->Za H' q ps->ps.map (·.2)=eR f o c->Q (.ref q) H'
def uo(T:Txt K mg)(h:iW K mg "crossing_pairs" p4 f fd)(d:Good P w K mg aD dO 2 "pieces" ["layout","channel"] (Cg CL))(n:Good P w K mg aD dO 1 "cross" ["one","other"] Mv):
  Good P w K mg aD dO 3 "crossing_pairs" ["layout","channel"] (FQ CL):=by
 refine h.gd ["layout","channel","found","pairs","number","one","other"] λoz A outer s H vs Q E Y hr h=>?_;obtain⟨x,r,fr,o,c,rfl,hL,hc,k⟩:=h;exists _,(aw (st 2 Y<|p0 d hr<|ir v0 v1)
  (aw (st 3 Y<|dr ib)
  (aw (dM aY rfl (SR K T.enumerate<|da v2) (OY K 2<|eJ (pn 4 Y) (eJ (pn 5 Y) kf)) (aC<|dM aY rfl (qh K<|oo (YC K) v2 (lh<|fV jL v4 aV) FD) (pn 6 Y) (aC<|dI (HS<|p0 n hr<|ir v5 v6) (aC<|cO<|bm K aX bU bV fT v3<|da<|jM<|ir (bM (kL K) v5 aV (λ_ _=>rfl)) (bM (kL K) v6 aV (λ_ _=>rfl))) cg)))
  (aC<|bC v3))))
 lia;refine#[x,r,fr,o,c,rfl,hL,hc,λH1 Z ps s1 hfo p em=>#[cP _,λq hq=>?_]];let l40:↑ps<=40:=by let#[_,_,_,_,_,L]:=hL;let h1:=af ck em;rw[aj]at h1;let h2:=we fr o c;let h3:=L.l1;omega
 let qH:H q=none:=bh s1 hq;let s2:=lay (o:=.lst []) (a8.refl H1) hq;let#[Pv,B]:=oh λi F J=>∃x4 x5 R rs,F=[~~~.ref x,some (.int (c:Nat)),~~~.ref Z,~~~.ref q,x4,x5,R]/\a8 H1 J/\Za J q rs/\rs.map (·.2)=k_ (ps.map (·.2)) i;refine#[_,rfl,Z,_,rfl,bW.of<|s2 _ _ p.lst,k4 (K:=K) (a:=Z) (xs:=ps.map λx=>V.ref x.1) Pv (B.mpr #[none,none,none,[],rfl,s2,#[au,λx hx=>by simp at hx],rfl]) (λi F J _ z=>?_) ?_ ?_]
 .let#[_,_,_,_,_,s4,_]:=B.mp z;exact bW.of (s4 _ _ p.lst)
 .intro i v F J T1 hi hp JO;obtain⟨x4,x5,R,rs,rfl,s4,M,er⟩:=B.mp hp;obtain⟨y,qa,rfl⟩:=gm hi;let G8:=gl qa;let s5:=lay (o:=.tup [.int (i:Int),.ref y.1]) s4 (bh s4 JO);let C:=M.mono (lay (o:=.tup [.int (i:Int),.ref y.1]) (a8.refl J) JO);generalize hH5:upd J T1 (.tup [.int (i:Int),.ref y.1])=H5 at s5 C;let hT5:H5 T1>.tup [.int (i:Int),.ref y.1]:=by rw[<-hH5,au]
  let aeb:=p.mono s5;lia;exists _,f9.of hT5,rfl;exists _,_,rfl,_,_,rfl,rfl;exists _,rfl,_,rfl,_,_,rfl,rfl;refine#[_,rfl,Z,_,rfl,bW.of aeb.lst,λS hS=>#[S,rfl,#[_,bW.of au],?_]];let nSq:S≠q:=λz=>by rw[z,C.lst]at hS;cases hS
  let hS6:(upd H5 S<|.lst<|rN (ps.map λx=>V.ref x.1) (some ((i:Int)+1)) none) S>(.lst<|(ps.drop<|i+1).map λx=>V.ref x.1):=by rw[au,PJ,mI]
  let s6:=lay (o:=.lst<|rN (ps.map λx=>V.ref x.1) (some ((i:Int)+1)) none) s5 (bh s5 hS);let aef:=C.mono (lay (o:=.lst<|rN (ps.map λx=>V.ref x.1) (some ((i:Int)+1)) none) (a8.refl H5) hS);let SH1:=bh s5 hS;let ly:(ps.map (·.2))[i]?>y.2:=by rw[ak,qa];rfl
  let rsl:=sW (ps.map (·.2)) i;rw[aj]at rsl;let afq:i*↑ps<=40*40:=uz oM l40;let#[Pw,g]:=oh λj F U=>∃R rs,F=[~~~.ref x,some (.int (c:Nat)),~~~.ref Z,~~~.ref q,some (.int (i:Nat)),~~~.ref y.1,R]/\a8 H1 U/\U S>(.lst<|(ps.drop<|i+1).map λx=>V.ref x.1)/\Za U q rs/\rs.map (·.2)=k_ (ps.map (·.2)) i++on y.2 (((ps.map (·.2)).drop (i+1)).take j);refine eH (K:=K) (a:=S) (xs:=(ps.drop<|i+1).map λx=>V.ref x.1) Pw (g.mpr #[R,rs,rfl,s6,hS6,aef,by rw[er];simp[on]]) (λj F U _ z=>?_) ?_ ?_
  .let#[_,_,_,_,X,_]:=g.mp z;exact bW.of X
  .intro j v2 F U hj N;obtain⟨x6',G,rfl,O,X,b,D⟩:=g.mp N;obtain⟨z,qz,rfl⟩:=gm hj;let hzm:z∈ps:=mO<|ax qz;let hjl:=gl qz;rw[cw]at hjl;let ty:=(p.mono O).tup y (ax qa);let tz:=(p.mono O).tup z hzm;let lz:((ps.map (·.2)).drop (i+1)).take (j+1)=((ps.map (·.2)).drop (i+1)).take j++[z.2]:=by rw[aN,<-mI,ak,qz];rfl
   let p1l:=BR y.2 (((ps.map (·.2)).drop (i+1)).take j);let r7l:=af ck D;rw[aj,aW]at r7l;rw[bN]at p1l;lia;exists y.1,z.1,y.2.1,y.2.2.1,y.2.2.2,z.2.1,z.2.2.1,z.2.2.2,rfl,ty,tz,_,rfl;by_cases cc:fF (y.2.2.1,y.2.2.2) (z.2.2.1,z.2.2.2)=true
   .refine(ac cc).mpr #[.inl #[rfl,_,bW.of b.lst],_,f9.of ty,_,rfl,_,f9.of tz,_,rfl,by show 2<=sizeLine;rw[aK];omega,λp3 l=>?_];let npq:p3≠q:=λe=>by rw[e,b.lst]at l;cases l
    refine#[_,by rw[aH npq.symm];exact b.lst,sZ,g.mpr #[_,G++[(p3,y.2.1,z.2.1)],rfl,lay (lay O<|bh O l) hq,?_,#[by rw[au];simp,λu hu=>?_],?_]]
    .rw[aH nSq,aH (λe=>by rw[<-e,X]at l;cases l)];exact X
    .obtain m|m:=aM.mp hu
     .let I:=b.tup u m;rw[aH (eI I b.lst sP),aH (λe=>by rw[e,l]at I;cases I)];exact I
     .rw[bd.mp m,aH npq,au]
    .rw[lz,zh,ac cc,aJ,D,cJ];rfl
   .refine(aa cc).mpr (g.mpr #[_,G,rfl,O,X,b,?_]);rw[lz,zh,aa cc,c8];exact D
  .intro F U N;obtain⟨x6',G,rfl,O,X,b,D⟩:=g.mp N;refine B.mpr #[_,_,_,G,rfl,O,b,?_];rw[D];rw[aj,cz (by rw[cw,cw,aj];exact aI _)];conv=>rhs;unfold k_
   rw[ly]
 .intro F J hp;obtain⟨x4,x5,R,rs,rfl,s4,M,er⟩:=B.mp hp;rw[aj]at er;let e1:↑ps=↑(ends fr o c):=by rw[<-em,aj]
  rw[em,e1,<-BS]at er;lia;exact k J q rs (s1.trans s4) qH M er
def yV(f:fE)(o:Order):List Nat:=(rm f).map (u_ f o)
def FN(CL:Addr):Sp:=λvs H Q _=>∃x r f o,vs=[.ref x]/\dE CL H x r f o/\∀H' q,a8 H H'->H q=none->H' q>(.lst<|(dq<|yV f o).map V.int)->Q (.ref q) H'
def qG(T:Txt K mg)(h:iW K mg "channel_crossings" mX f fd)(b:Good P w K mg aD dO 1 "channel_count" ["layout"] (FM y))(a:Good P w K mg aD dO 3 "crossing_pairs" ["layout","channel"] (FQ y)):
  Good P w K mg aD dO 4 "channel_crossings" ["layout"] (FN y):=by
 refine h.gd ["layout","channel"] λF A outer s H vs Q E z B h=>?_;obtain⟨x,r,fr,o,rfl,g,k⟩:=h;exists _,(aC (bC (oW rfl z (jq rfl T.range<|da<|p0 b B<|da v0) (pz [("channel",1)]) (λ_ _ _ _ _=>(pn 1 z)) (λ_ _ _ _ _=>jX) (λ_ _ _ _ _=>(bO (ia K) rfl T.len dB (da<|p0 a B<|ir v0 v1))))));let l3:fr.count<=24:=by let#[_,_,_,_,_,L]:=g;exact L.l3
 show RX _ _ _ _ [1] [~~~.ref x,none] H Q;refine#[_,rfl,x,r,fr,o,rfl,g,((fr.count-1:Nat):Int),rfl,oM,oM,λD j=>?_];let#[G,c]:=Ft λm d=>a8 H d/\d D>(.lst<|(dq<|(yV fr o).take m).map V.int);let I:↑(yV fr o)=fr.count-1:=by delta yV rm;simp
 refine wE (n:=((fr.count-1:Nat):Int).toNat) G (c.mpr #[lay0 j,by rw[au];rfl]) ?_ ?_
 .intro i d C l;let#[s4,e]:=c.mp l;rw[aT]at C;let J:(0+(i:Int))=(i:Int):=oM;let p:(yV fr o)[i]?>u_ fr o i:=by delta yV rm;rw[ak,fj C];rfl
  lia;rw[J];refine#[x,r,fr,o,i,rfl,g.mono s4,oM,λM q ps s5 N u em=>?_];let v:↑ps=u_ fr o i:=by let:=af ck em;rw[aj]at this;exact this
  refine#[q,rfl,_,.inl<|bW.of u.lst,_,s5 _ _ e,by rw[aj,eL,bN,aK];omega,c.mpr #[lay (s4.trans s5) j,?_]];rw[au,aj,v,aN,p];delta dq;simp
 .intro d l;let#[s4,e]:=c.mp l;rw[aT,cz oM]at e;exact k d D s4 j e
def uW(CL:Addr):Sp:=λvs H Q _=>∃x r f o,vs=[.ref x]/\dE CL H x r f o/\∀H',a8 H H'->Q (.int (dk f o:Nat)) H'
def xG:∀l,(dq l).sum=((l.sum:Nat):Int)
 |[]=>rfl
 |a::l=>by let:=xG l;delta dq at this|-;rw[bb,gc,gc,this];omega
def vf(T:Txt K mg)(h:iW K mg "all_crossings" rq f fd)(a:Good P w K mg aD dO 4 "channel_crossings" ["layout"] (FN b)):Good P w K mg aD dO 5 "all_crossings" ["layout"] (uW b):=by refine h.gd ["layout"] λc A outer s H vs Q E i d h=>?_;obtain⟨x,r,fr,o,rfl,e,k⟩:=h;exists _,(aC<|bC<|bO (U1 K rfl) rfl T.sum EZ (da<|p0 a d<|da v0));lia;refine#[x,r,fr,o,rfl,e,λH1 q s1 j g=>#[q,rfl,_,bW.of g,?_]];rw[xG];exact k H1 s1
def Eo(CL:Addr):Sp:=λvs H Q _=>∃x r pl f o rk pls,vs=[.ref x,.int (rk:Nat),.ref pl]/\dE CL H x r f o/\rk<f.count/\H pl>(.lst<|(dq pls).map V.int)/\pl≠r/\pls.Perm (ay ↑(aL o rk))/\
 ∀H',a' [r] H H'->dE CL H' x r f (o.set rk<|pls.map λp=>(aL o rk).getD p (.box 0))->Q .fP H'
def QO{l:List Item}{a:List Nat}(h:a.Perm (ay ↑l)):(a.map λp=>l.getD p<|.box 0).Perm l:=by
 let b:=h.map λp=>l.getD p<|.box 0;let e:(ay ↑l).map (λp=>l.getD p<|Item.box 0)=l:=by
  apply cq;intro j;rw[ak];by_cases c:j<↑l
  .grind
  .grind
 rw[e]at b;exact b
def Fj(T:fW K Z ["edges","ranks","rows"])(h:iW K mg "reorder" Ej f fd):Good P w K mg aD dO 1 "reorder" ["layout","rank","places"] (Eo Z):=by
 refine h.gd ["layout","rank","places","row","place"] λoz A outer s H vs Q E nd hr h=>?_;obtain⟨x,r,pl,fr,o,rk,c,rfl,⟨dx,el,kk,ii,rows,L⟩,F,J,npr,d,k⟩:=h;let#[y,hy,M,er]:=L.yx F;let ZJ:rk<↑rows:=gl hy;let hyl:↑y.2=↑(aL o rk):=by rw[<-er,aj]
 let ln:=o3 L.wf L.l1 L.l2 F;let afd:↑c=↑y.2:=by rw[d.length_eq,cr,hyl]
 let ar:nj (rows.map λx=>V.ref x.1) (rk:Int)>V.ref y.1:=at_of (j:=rk) rfl (by rw[ak,hy];rfl);exists _,(aw (st 3 nd<|bM (j7 K) (fld K v0) v1 (λ_ _=>rfl))
  (aC (vC (oW rfl nd (qh K v2) (pz [("place",4)]) (λ_ _ _ _ _=>(pn 4 nd)) (λ_ _ _ _ _=>jX) (λ_ _ _ _ _=>(bM (j7 K) v3 v4 (λ_ _=>rfl)))) (vB (fld K v0) v1 set_list))))
 lia;exists Z,dx,_,L.ins,T.cl,T.no "rows" sP,_,rfl,_,rfl,_,bW.of L.lst,_,ar;refine#[_,rfl,pl,rfl,#[_,bW.of J],λD U=>?_];let#[Pk,l]:=Ft λm n=>a8 H n/\n D>(.lst<|((c.take m).map λp=>y.2.getD p (0,.box 0)).map λx=>V.ref x.1);refine jy (K:=K) (a:=pl) (xs:=(dq c).map V.int) Pk (l.mpr #[lay0 U,by rw[au];rfl]) (λm n _ w=>bW.of<|(l.mp w).1 _ _ J) ?_ ?_
 .intro i v n G X;let#[s4,Y]:=l.mp X;delta dq at G;rw[aS,ak]at G;cases q:c[i]? with
  |none=>rw[q]at G;cases G
  |some p=>
   rw[q]at G;let ex:V.int (p:Int)=v:=aO G;subst ex;let G8:=gl q;let C:p<↑y.2:=by let:=cb.mp<|d.mem_iff.mp<|ax q;omega
   let ap:nj (y.2.map λx=>V.ref x.1) (p:Int)>V.ref (y.2.getD p (0,.box 0)).1:=at_of (j:=p) rfl (by rw[ak,aq C,bz,aq C];rfl);lia;refine#[_,bW.of<|s4 _ _ M.lst,_,ap,_,Y,by rw[aj,aj,bN,aK];omega,l.mpr #[lay s4 U,?_]];rw[au,aN,q];simp
 .intro n X;let#[s4,Y]:=l.mp X;rw[aj,eL,br]at Y;let B:=L.mono s4;let ix:Fm ↑(rows.map λx=>V.ref x.1) (rk:Int)>rk:=by delta Fm;rw[ac oM,ac<|by rw[aj];omega,aT]
  exists Z,dx,_,B.ins,T.cl,T.no "rows" sP,_,rfl,r,rfl,_,B.lst,rk,ix;let N:D≠r:=λz=>by rw[z,L.lst]at U;cases U
  let sr:a' [r] n (upd n r<|.lst<|(rows.map λx=>V.ref x.1).set rk (V.ref D)):=(a'.refl _ _).upd sP;let keep:∀b ob,b≠r->n b>ob->(upd n r<|.lst<|(rows.map λx=>V.ref x.1).set rk (V.ref D)) b>ob:=λb ob hb e=>by rw[aH hb];exact e
  let g:∀b xs,n b>.tup xs->(upd n r<|.lst<|(rows.map λx=>V.ref x.1).set rk (V.ref D)) b>.tup xs:=λb xs e=>keep b _ (eI e B.lst sP) e;let O:(c.map λp=>y.2.getD p (0,.box 0)).map (·.2)=c.map λp=>(aL o rk).getD p (.box 0):=by rw[aS];refine bK λp X=>?_;let C:p<↑y.2:=gR;show(y.2.getD p (0,.box 0)).2=_;rw[<-er,bz,bz,ak,aq C];rfl
  let R:∀u∈c.map (λp=>y.2.getD p (0,.box 0)),u∈y.2:=λu I=>gR;refine k _ ((cX s4).trans sr) #[dx,el,kk,ii,rows.set rk (D,c.map λp=>y.2.getD p (0,.box 0)),?_];refine#[keep _ _ (eI B.ins B.lst sP) B.ins,#[keep _ _ L.n1 B.arcs.lst,λu I=>g _ _<|B.arcs.tup u I],L.ea,keep _ _ L.n2 B.rk,by rw[au,e_],λu I=>?_,?_,L.wf.Ku F<|QO d,L.l1,L.l2,L.l3,L.n1,L.n2,λu I=>?_]
  .obtain m|m:=gp I
   .let S:=B.row u m;exact#[keep _ _ (L.n3 u m) S.lst,λz hz=>g _ _<|S.tup z hz]
   .subst m;exact#[keep _ _ N Y,λz hz=>g _ _<|(B.row y<|ax hy).tup z (R z hz)]
  .rw[e_,L.eo];dsimp only;rw[O]
  .obtain m|m:=gp I
   .exact L.n3 u m
   .subst m;exact N
structure CY{a:Type}(g:a->V)(H:Hp)(D:Addr)(rows:List (Addr×List a)):Prop where
 lst:H D>.lst (rows.map λx=>V.ref x.1)
 row:∀x∈rows,H x.1>.lst (x.2.map g)
 nd:(rows.map (·.1)).Nodup
 ne:∀x∈rows,x.1≠D
def CY.mono(h:CY g H D rows)(s:a8 H a):CY g a D rows:=#[s _ _ h.lst,λx b=>s _ _<|h.row x b,h.nd,h.ne]
def CY.push{g:B->V}{rows:List (Addr×List B)}(h:CY g H D rows){y:Addr×List B}(b:rows[j]?>y)(v:B):
  CY g (upd H y.1<|.lst<|y.2.map g++[g v]) D (rows.set j (y.1,y.2++[v])):=by
 let hm:=ax b;let d:=gl b;let o:(rows.set j (y.1,y.2++[v])).map (·.1)=rows.map (·.1):=by
  apply cq;intro i;rw[ak,ak,d6];by_cases c:j=i
  .grind
  .rw[aa c]
 let r:(rows.set j (y.1,y.2++[v])).map (λx=>V.ref x.1)=rows.map λx=>V.ref x.1:=by let:=af (λl=>l.map V.ref) o;simpa[aS,Function.comp_def]using this
 refine#[by rw[aH (eG<|h.ne y hm),r];exact h.lst,λx e=>?_,by rw[o];exact h.nd,λx e=>?_]
 .let#[i,a]:=iH e;rw[d6]at a;by_cases c:j=i
  .subst c;rw[ac rfl,ac d]at a;let:=aO a;subst this;rw[au,aJ];rfl
  .rw[aa c]at a;let s:=gl a;let f:x.1≠y.1:=λz=>by
    let u:(rows.map (·.1))[i]?>x.1:=by rw[ak,a];rfl
    let A:(rows.map (·.1))[j]?>y.1:=by rw[ak,b];rfl
    let#[p,g1]:=aP.mp u;let#[q,g2]:=aP.mp A;obtain n|n:=Nat.lt_or_gt_of_ne c
    .exact df.mp h.nd j i q p n (by rw[g1,g2,z])
    .exact df.mp h.nd i j p q n (by rw[g1,g2,z])
   rw[aH f];exact h.row x (ax a)
 .obtain m|m:=gp e
  .exact h.ne x m
  .subst m;exact h.ne y hm
def BB(q:O->V){r:Hp->Prop}(M:↑xs<=1000)(C:H1 a>.lst xs)(s:H1 D=none)
  (k:∀c rows,a8 H1 c->CY q c D rows->↑rows=↑xs->(∀x∈rows,x.2=[])->(∀x∈rows,H1 x.1=none)->r c):
  ∃W:Nat->Nat->Hp->Prop,(∃m,W 0 m<|upd H1 D<|.lst [])/\∀i m H,W i m H->
   ((O9 K a).stop i H/\r H)\/((O9 K a).go i H/\∃n:Hp->Prop,(∀c,n c->∃A,A<m/\W (i+1) A c)/\∀x c,(O9 K a).MJ i H x c->(pR v) x (wipe Q [v]) c λσ2 E=>wipe σ2 [v]=wipe Q [v]/\YY σ2 E λb B=>
    if b=true then(YR oG) σ2 B λy g=>∃acc,g D>.lst acc/\↑acc<sizeLine/\n (upd g D<|.lst<|acc++[y])else n B):=by
 let#[F,d]:=Ft λm g=>a8 H1 g/\∃rows,CY q g D rows/\↑rows=m/\(∀x∈rows,x.2=[])/\(∀x∈rows,H1 x.1=none);refine jy (K:=K) (a:=a) (xs:=xs) F (d.mpr #[lay0 s,[],#[au,sP,sP,sP],rfl,sP,sP]) (λm g _ w=>bW.of<|(d.mp w).1 _ _ C) ?_ ?_
 .intro i x g G f;let#[s4,rows,h,I,N,f4]:=d.mp f;let J:=gl G;refine#[by simp[wipe],?_];refine#[sP,λp f=>?_];let l:p≠D:=λz=>by rw[z,h.lst]at f;cases f
  refine#[_,by rw[aH l.symm];exact h.lst,sZ,d.mpr #[lay (lay s4<|bh s4 f) s,rows++[(p,[])],#[?_,?_,?_,?_],by simp[I],?_,?_]]
  .rw[au];simp
  .intro z hz;obtain m|m:=aM.mp hz
   .let j:=h.row z m;rw[aH (h.ne z m),aH (λe=>by rw[e,f]at j;cases j)];exact j
   .rw[bd.mp m,aH l,au];rfl
  .rw[aJ,lH];refine#[h.nd,sP,λz hz y o=>?_];obtain⟨u,L,rfl⟩:=a_.mp hz;let o:y=p:=by simpa using o
   subst o;intro e;let j:=h.row u L;rw[e,f]at j;cases j
  .intro z hz;obtain m|m:=aM.mp hz
   .exact h.ne z m
   .grind
  .grind
  .intro z hz;obtain m|m:=aM.mp hz
   .exact f4 z m
   .rw[bd.mp m];exact bh s4 f
 .grind
abbrev itR:Addr×Item->V:=λx=>V.ref x.1
structure F6(H0 H:Hp)(D:Addr)(rows:List (Addr×List (Addr×Item)))(n:Nat)(F:Nat->List Item):Prop where
 same:a8 H0 H
 SO:CY itR H D rows
 tup:∀x∈rows,∀z∈x.2,H z.1>.tup (uI z.2)
 CK:∀x∈rows,H0 x.1=none
 eq:rows.map (λx=>x.2.map (·.2))=(ay n).map F
def F6.mono(h:F6 a H D rows n F)(s:a8 H b):F6 a b D rows n F:=#[h.same.trans s,h.SO.mono s,λx c z hz=>s _ _<|h.tup x c z hz,h.CK,h.eq]
def F6.congr(h:F6 a H D rows n F)(e:∀j,j<n->F j=G j):F6 a H D rows n G:=#[h.same,h.SO,h.tup,h.CK,h.eq.trans<|bK λj b=>e j<|cb.mp b]
theorem F6.len(h:F6 a H D rows n F):↑rows=n:=by let:=af ck h.eq;simpa using this
def F6.at(h:F6 c H D rows n F)(b:j<n):∃y,rows[j]?>y/\y.2.map (·.2)=F j/\H y.1>(.lst<|y.2.map itR):=by
 let a:j<↑rows:=by rw[h.len];exact b
 refine#[rows[j],aq a,?_,h.SO.row _<|cx a];let:=af (λl=>l[j]?) h.eq;simp only[ak,aq a,fj b,bD]at this;exact aO this
theorem F6.step{d H:Hp}{D:Addr}{rows:List (Addr×List (Addr×Item))}{n:Nat}{F G:Nat->List Item}(h:F6 d H D rows n F){j:Nat}{y:Addr×List (Addr×Item)}(a:rows[j]?>y){t:Addr}{it:Item}(g:H t>(.tup<|uI it))
  (o:∀i,i<n->G i=if i=j then F i++[it]else F i):F6 d (upd H y.1<|.lst<|y.2.map itR++[V.ref t]) D (rows.set j (y.1,y.2++[(t,it)])) n G:=by
 let hm:=ax a;let f:=gl a;let keep:∀b xs,H b>.tup xs->(upd H y.1<|.lst<|y.2.map itR++[V.ref t]) b>.tup xs:=λb xs e=>by rw[aH (eI e (h.SO.row y hm) sP)];exact e
 exists lay h.same<|h.CK y hm,h.SO.push a (t,it),λx c z hz=>?_,λx c=>?_
 .obtain m|m:=gp c
  .exact keep _ _ (h.tup x m z hz)
  .subst m;obtain m|m:=aM.mp hz
   .exact keep _ _ (h.tup y hm z m)
   .grind
 .obtain m|m:=gp c
  .exact h.CK x m
  .subst m;exact h.CK y hm
 .let p:↑rows=n:=h.len;apply cq;intro i;let he:=af (λl=>l[i]?) h.eq;simp only[ak]at he;rw[ak,ak,d6];by_cases ci:i<n
  .grind
  .grind
def BU(f:fE)(j e:Nat):Option Item:=match gI f e j with
 |some (.pass e)=>some (.pass e)
 |_=>none
def N3(h:f.downs[e]?>a)(b:bX f a.1<bX f a.2):BU f j e=if bX f a.1<j/\j<bX f a.2 then some (.pass e)else none:=by
 delta BU gI;rw[h];simp only[fQ];by_cases c:j=bX f a.1
 .grind
 .grind
def mm(f:fE)(i j:Nat):List Item:=((ay i).filter λv=>bX f v==j).map Item.box
def lg(f:fE)(i j:Nat):List Item:=mm f ↑f.ranks j++(ay i).filterMap (BU f j)
def EX(f)(i j):mm f (i+1) j=if j=bX f i then mm f i j++[.box i]else mm f i j:=by
 delta mm;rw[c_,cF,aJ];by_cases c:j=bX f i
 .grind
 .grind
def yU(f)(i j):↑(mm f i j)<=i:=by delta mm;rw[aj];exact bu (ca _ _) sP
def HK(f)(i j):↑(lg f i j)<=↑f.ranks+i:=by delta lg;rw[aW];let:=yU f ↑f.ranks j;let a:=iP (BU f j) (ay i);rw[cr]at a;omega
def FB(f)(i j):lg f (i+1) j=lg f i j++(BU f j i).toList:=by delta lg;rw[c_,r_,cJ];let a:∀(g:Nat->Option Item),[i].filterMap g=(g i).toList:=λg=>gR;rw[a]
def Nl(a:↑f.ranks=↑f.d.boxes):(ay f.count).map (lg f ↑f.downs)=cE f:=by delta cE;refine bK λj _=>?_;delta lg mm MY;rw[a];rfl
def xJ(J:It)(c:∀C,C J H1->d j H C)(e:∃W:Nat->Nat->L2.St->Hp->Prop,(∃m,W 0 m j H1)/\∀i m j H,W i m j H->
   (J.stop i H/\D.nx j H)\/(J.go i H/\∃N,(∀σ' a,N σ' a->∃b,b<m/\W (i+1) b σ' a)/\∀x a,J.MJ i H x a->g x j a λσ2 f=>h {D with nx:=N,ct:=N,bk:=D.nx} σ2 f)):YN d g h D j H:=c _ e
def tJ:Sp:=λvs H Q _=>∃(e k:Addr)(ii:List (Addr×Int×Int))(f:fE),vs=[.ref e,.ref k]/\iA H e ii/\ii.map (·.2)=bR f.downs/\H k>(.lst<|(dq f.ranks).map V.int)/\va f/\(∀k,k∈f.ranks↔k<f.count)/\↑f.downs<=40/\↑f.ranks<=24/\f.count<=24/\
 ∀(H':Hp)(r:Addr)(rows:List (Addr×List (Addr×Item))),a8 H H'->H r=none->H' r>(.lst<|rows.map λx=>V.ref x.1)->(∀x∈rows,Row H' x.1 x.2)->rows.map (λx=>x.2.map (·.2))=cE f->(∀x∈rows,x.1≠r)->Q (.ref r) H'
def z5(T:Txt K mg)(U:qy K mg)(h:iW K mg "first_rows" wZ f fd):Good P w K mg aD dO 1 "first_rows" ["edges","ranks"] tJ:=by
 refine h.gd ["edges","ranks","rows","box","rank","edge","arc"] λoz A outer s H vs Q E nd hr h=>?_;obtain⟨e,kk,ii,fr,rfl,hA,ea,hK,W,X,l1,l2,l3,k⟩:=h;let ZB:↑ii=↑fr.downs:=by let:=af ck ea;simpa[eY]using this
 exists _,(aw (li (i:=2) rfl nd rfl rfl (nE rfl rfl rfl rfl) (qh K<|bO (Mr P w rfl) rfl T.sorted t8 (da<|dL (setOf K P w rfl) rfl U.set Pq (da v1))) (pz [("rank",4)]) (λ_ _ _ _ _=>(pn 4 nd)) (λ_ _ _ _ _=>jX) (λ_ _ _ _ _=>(dr ib)))
  (aw (dM aY rfl (SR K T.enumerate<|da v1) (OY K 2<|eJ (pn 3 nd) (eJ (pn 4 nd) kf)) (aC<|cO<|bm K aX bU bV fT (bM (j7 K) v2 v4 (λ_ _=>rfl)) (da<|jM<|ir (oY U.BOX) v3)))
  (aw (dM aY rfl (SR K T.enumerate<|da v0) (OY K 2<|eJ (pn 5 nd) (eJ (pn 6 nd) kf)) (aC<|dM aY rfl (N4 rfl T.range<|ir (fV jL (bM (j7 K) v1 (bM (kL K) v6 aV (λ_ _=>rfl)) (λ_ _=>rfl)) aV) (bM (j7 K) v1 (bM (kL K) v6 aV (λ_ _=>rfl)) (λ_ _=>rfl))) (pn 4 nd) (aC<|cO<|bm K aX bU bV fT (bM (j7 K) v2 v4 (λ_ _=>rfl)) (da<|jM<|ir (oY U.Lg) v5))))
  (aC<|bC v2))))
 lia;refine#[_,rfl,kk,dq fr.ranks,rfl,bW.of hK,by rw[eL];omega,λp Dl hDl hm hp=>?_];let adq:↑Dl<=↑(dq fr.ranks):=eM hDl λk hk=>(hm k).mp hk;rw[eL]at adq;refine#[p,Dl,rfl,au,hDl,oM,λR J2 hs hms SL=>?_];obtain⟨tk,rfl,t1,t2⟩:=G' hs<|λk=>(hms k).trans (hm k);let etk:=Bc X t1 t2;subst etk;let sA:a8 H (upd (upd H p<|An P w p Dl) R (.lst<|(dq<|ay fr.count).map V.int)):=lay (lay0 hp) (bh (lay0 hp) SL);generalize hH1:upd (upd H p<|An P w p Dl) R (.lst<|(dq<|ay fr.count).map V.int)=H1 at sA;let h1:H1 R>(.lst<|(dq<|ay fr.count).map V.int):=by rw[<-hH1,au]
 refine#[R,rfl,#[_,bW.of h1],λD hD=>?_];refine BB itR (by rw[aj,eL,cr];omega) h1 hD λH2 rows s2 n2 e2 m2 f2=>?_;rw[aj,eL,cr]at e2;let DH:H D=none:=bh sA hD;let R0:F6 H H2 D rows fr.count (mm fr 0):=#[sA.trans s2,n2,λx hx z hz=>by rw[m2 x hx]at hz;simp at hz,λx hx=>bh sA<|f2 x hx,by
  apply cq;intro i;rw[ak,ak];by_cases c:i<fr.count
  .rw[fj c,aq oM,bD,bD,m2 _ (cx _)];rfl
  .rw[di oM,di (by simp;omega)];rfl]
 let#[Pv,I]:=oh λi F J=>∃L M rows,F=[~~~.ref e,~~~.ref kk,~~~.ref D,L,M,none,none]/\F6 H J D rows fr.count (mm fr i);refine#[_,rfl,kk,_,rfl,bW.of<|R0.same _ _ hK,k4 (K:=K) (a:=kk) (xs:=(dq fr.ranks).map V.int) Pv (I.mpr #[none,none,rows,rfl,R0]) (λi F J _ z=>?_) ?_ ?_]
 .let#[_,_,_,_,R4]:=I.mp z;exact bW.of (R4.same _ _ hK)
 .intro i v F J T1 Y hp4 JO;obtain⟨L,M,b,rfl,R4⟩:=I.mp hp4;delta dq at Y;rw[aS,ak]at Y;cases q:fr.ranks[i]? with
  |none=>rw[q]at Y;cases Y
  |some n=>
   rw[q]at Y;let ex:V.int (n:Int)=v:=aO Y;subst ex;let G8:=gl q;let hn:n<fr.count:=(X n).mp (ax q);let hrk:bX fr i=n:=by delta bX;rw[q];rfl
   let g:=R4.mono (lay (o:=.tup [.int (i:Int),.int (n:Int)]) (a8.refl J) JO);generalize hH5:upd J T1 (.tup [.int (i:Int),.int (n:Int)])=Z at g;let hT5:Z T1>.tup [.int (i:Int),.int (n:Int)]:=by rw[<-hH5,au]
   let#[y,hy,ey,r]:=g.at hn;let ar:nj (b.map λx=>V.ref x.1) (n:Int)>V.ref y.1:=at_of (j:=n) rfl (by rw[ak,hy];rfl);let hyn:↑y.2<=i:=by let:=af ck ey;rw[aj]at this;let:=yU fr i n;omega
   lia;exists _,f9.of hT5,rfl;lia;refine#[_,bW.of g.SO.lst,_,ar,.inl #[rfl,_,bW.of r],by show 2<=sizeLine;rw[aK];omega,λp3 u=>?_];let R6:=g.mono (lay (o:=.tup<|uI<|.box i) (a8.refl Z) u);let npy:p3≠y.1:=λz=>by rw[z,r]at u;cases u
   refine#[_,rfl,_,by rw[aH npy.symm];exact r,sZ,I.mpr #[_,_,_,rfl,R6.step hy (t:=p3) (it:=.box i) au λj hj=>?_]];rw[EX,hrk]
 .intro F J hp4;obtain⟨L,M,b,rfl,R4⟩:=I.mp hp4;rw[aj,eL]at R4;let S0:F6 H J D b fr.count (lg fr 0):=R4.congr λj _=>by delta lg;simp
  let#[Pw,N]:=oh λi F J=>∃L M x5 x6 rows,F=[~~~.ref e,~~~.ref kk,~~~.ref D,L,M,x5,x6]/\F6 H J D rows fr.count (lg fr i);refine#[_,rfl,e,_,rfl,bW.of<|S0.same _ _ hA.lst,k4 (K:=K) (a:=e) (xs:=ii.map λx=>V.ref x.1) Pw (N.mpr #[_,_,_,_,b,rfl,S0]) (λi F Z _ z=>?_) ?_ ?_]
  .let#[_,_,_,_,_,_,g]:=N.mp z;exact bW.of (g.same _ _ hA.lst)
  .intro i v F Z T1 Y Xs JO;obtain⟨L,M,x5,x6,B,rfl,g⟩:=N.mp Xs;obtain⟨y0,qa,rfl⟩:=gm Y;let G8:=gl qa;let#[a,qd]:∃a,fr.downs[i]?>a:=#[_,aq oM];let TR:y0.2=gn a:=by let h5:=af (λl=>l[i]?) ea;delta bR at h5;simp only[ak,qa,qd,bD]at h5;exact aO h5
   let d:=W.GP a<|ax qd;let R6:=g.mono (lay (o:=.tup [.int (i:Int),.ref y0.1]) (a8.refl Z) JO);generalize hH6:upd Z T1 (.tup [.int (i:Int),.ref y0.1])=H6 at R6;let hT6:H6 T1>.tup [.int (i:Int),.ref y0.1]:=by rw[<-hH6,au]
   let O:=R6.same _ _<|hA.tup y0<|ax qa;rw[TR]at O;let O:H6 y0.1>.tup [.int (a.1:Int),.int (a.2:Int)]:=O;let ZJ:bX fr a.2<fr.count:=W.below _ (by delta bX;rw[aq d.2.1];exact cx _)
   lia;exists _,f9.of hT6,rfl;lia;let hlen:((bX fr a.2:Int)-((bX fr a.1:Int)+1)).toNat=bX fr a.2-(bX fr a.1+1):=oM;let#[Px,S]:=oh λm F J=>∃L M x6 rows,F=[~~~.ref e,~~~.ref kk,~~~.ref D,L,M,some (.int (i:Int)),x6]/\F6 H J D rows fr.count (λj=>lg fr i j++if bX fr a.1<j/\j<bX fr a.1+1+m then[Item.pass i]else[]);refine xJ (H1:=H6) (Gf ((bX fr a.1:Int)+1) (bX fr a.2-(bX fr a.1+1))) (λC hC=>?_) (l5 Px ?_ ?_ ?_)
   .lia;exists _,f9.of O,_,rfl,_,_,rfl,bW.of<|R6.same _ _ hK,_,pX d.1,_,rfl,_,f9.of O,_,rfl,_,_,rfl,bW.of<|R6.same _ _ hK,_,pX d.2.1,_,rfl,oM,oM,oM,oM;rw[hlen];exact hC
   .exact S.mpr #[_,_,_,B,rfl,R6.congr λj _=>by rw[aa oM];simp]
   .intro m F H7 hm7 IX;obtain⟨L,M,x6,G,rfl,R7⟩:=S.mp IX;let e0:((bX fr a.1:Int)+1+(m:Int))=((bX fr a.1+1+m:Nat):Int):=oM;let hjn:bX fr a.1+1+m<fr.count:=oM;let#[y,hy,ey,r]:=R7.at hjn;let ar:nj (G.map λx=>V.ref x.1) ((bX fr a.1+1+m:Nat):Int)>V.ref y.1:=at_of (j:=bX fr a.1+1+m) rfl (by rw[ak,hy];rfl);let hyn:↑y.2<=100:=by let h1:=af ck ey;rw[aj,aa oM,c8]at h1;let:=HK fr i<|bX fr a.1+1+m;omega
    rw[e0];lia;refine#[_,bW.of R7.SO.lst,_,ar,.inl #[rfl,_,bW.of r],by show 2<=sizeLine;rw[aK];omega,λp3 u=>?_];let R8:=R7.mono (lay (o:=.tup<|uI<|.pass i) (a8.refl H7) u);let npy:p3≠y.1:=λz=>by rw[z,r]at u;cases u
    refine#[_,rfl,_,by rw[aH npy.symm];exact r,sZ,S.mpr #[_,_,_,_,rfl,R8.step hy (t:=p3) (it:=.pass i) au λj hj=>?_]];by_cases c:j=bX fr a.1+1+m
    .rw[ac c,ac oM,aa oM,c8]
    .rw[aa c];congr 1;by_cases c2:bX fr a.1<j/\j<bX fr a.1+1+m
     .rw[ac c2,ac oM]
     .rw[aa c2,aa oM]
   .intro F H7 IX;obtain⟨L,M,x6,G,rfl,R7⟩:=S.mp IX;refine N.mpr #[_,_,_,_,G,rfl,R7.congr λj _=>?_];rw[FB,N3 qd d.2.2];congr 1;by_cases c2:bX fr a.1<j/\j<bX fr a.2
    .rw[ac c2,ac oM];rfl
    .rw[aa c2,aa oM];rfl
  .intro F Z Xs;obtain⟨L,M,x5,x6,B,rfl,g⟩:=N.mp Xs;rw[aj,ZB]at g;lia;exact k Z D B g.same DH g.SO.lst (λx hx=>#[g.SO.row x hx,g.tup x hx]) (g.eq.trans<|Nl W.boxes) g.SO.ne
end
def DS(c:Addr)(q:Str):HO:=.ext λh=>h.CodeRec (.ref c) q
def PD(x:h.CodeRec (.ref c) q):eQ P w H h c (DS c q):=by
 refine#[x,?_,λg i y k=>?_]
 .let#[f,a,vs,d,e,b,r]:=x;cases e;exact#[a,b]
 .let#[f,a,vs,d,e,b,r]:=y;cases e;exact#[c,a,vs,d,rfl,k _ b,r]
def HC(x:eQ P w H h a o):∃ob,h.get? a>ob:=by
 cases o with
 |lst xs=>have#[_,_,_,_,e]:=x;exact#[_,e]
 |tup xs=>have#[_,_,_,_,e,_]:=x;exact#[_,e]
 |dK nz=>have#[_,_,_,_,o,_,_,e,_]:=x;exact#[_,e]
 |dT nz=>have#[_,_,_,_,o,_,_,e,_]:=x;exact#[_,e]
 |set S n=>have#[o,_,_,_,e,_]:=x;exact#[_,e]
 |ins C dx fs=>have#[_,_,_,e,_]:=x;exact#[_,e]
 |own y=>have#[_,e]:=x;exact#[_,e]
 |xd fs=>have#[_,#[_,_,_,e,_],_]:=x;exact#[_,e]
 |rng lo hi=>have#[_,_,_,e]:=x;exact#[_,e]
 |qc ob u=>have#[e,_]:=x;exact#[_,e]
 |vL ps=>exact#[_,show h.get? a>_ from x]
 |met f y=>exact#[_,show h.get? a>_ from x]
 |ext b=>have#[_,#[_,e],_]:=x;exact#[_,e]
def tabOf(lp:Pos)(c:Addr):Array Value:=(List.toArray [gX lp.line,gX lp.col,.ref c])
def TabAt(P:Addr)(lp:Pos)(q:Str)(H:Hp):Prop:=H P>.vL #[]\/∃c,H P>(.vL<|tabOf lp c)/\H c>DS c q
theorem TabAt.ne(h:TabAt P f q H)(b:H a>o)(d:∀ps,o≠.vL ps):a≠P:=λe=>by subst e;obtain h|⟨c,h,_⟩:=h<;>(rw[h]at b;exact d _ (aO b).symm)
def TabAt.mono(h:TabAt P e q H)(s:a' S H f)(a:P∉S)(g:∀b∈S,∀o,H b>o->∀i,o≠.ext i):TabAt P e q f:=by
 obtain h|⟨c,h,d⟩:=h
 .exact .inl (s _ _ a h)
 .exact .inr #[c,s _ _ a h,s _ _ (λm=>g c m _ d _ rfl) d]
def TabAt.same(h:TabAt P a q H)(s:a8 H b):TabAt P a q b:=h.mono (S:=[]) (cX s) sP sP
section
variable{X:Cx}{aB:List (Addr×Obj)}{σ:L2.St}{H:Hp}{s:bq}
def Qq(I:Inv X aB σ H s)(J:IV scope X.env=pure i)(K:defaultsOf params X.env=([],[]))
  (j:X.env.code=.ref c)(C:iS X.aD c P)(B:X.aD.BuiltinsAt X.mg P)(F:TabAt P l (X.env.qual++"<lambda>") H)
  (h:∀f a g Z L,Inv X aB σ L Z->a' [P] H L->TabAt P l (X.env.qual++"<lambda>") L->L a>(DS a<|X.env.qual++"<lambda>")->(∀b,L b=none->H b=none)->X.aD.get? f=none->f≠X.env.locals->
   Z.heap.get? f>qx "<lambda>" (X.env.qual++"<lambda>") params body scope i ((X.mg "__name__").getD .none) a g->Q (.ref f) Z):
  bj (model X.prog X.w) X.A (eval (.Lambda params body scope l) X.env) Q E s:=by
 let B':s.heap.BuiltinsAt X.mg P:=by let#[bm,o,a1,a2,a3,a4,e,r]:=B;exact#[bm,o,a1,a2,a3,a4,I.bk _ _ e,r]
 let hg:=I.mod.glob.keeps I.bk;let M:=I.lt;let N:X.aD.objs.size<=s.heap.objs.size:=bu I.ok.Lo I.sz;refine PySem.W.kla_eval K ?_;obtain F|⟨c0,F,G⟩:=F
 .let O:s.heap.get? P>Au #[]:=I.fm P _ F;let hgP:cV≠P:=λq=>by let#[o,es,ep,e,hd,_]:=hg;rw[q,O]at e;cases e;cases hd
  refine PySem.W.kla_makeFunction (mg:=X.mg) J I.ok.glob hg j (C.keeps I.bk) O trivial rfl hgP B' λa g h' tk hx p R D y=>?_;let y:h'.get? P>(Au<|tabOf l a):=y;let S:P<s.heap.objs.size:=a9 O;let T:H a=none:=I.fm.fresh p;let hcP:a≠P:=λz=>dF _<|bp S<|z▸p;let U:(upd (upd H P<|.vL<|tabOf l a) a (DS a<|X.env.qual++"<lambda>")) P>(.vL<|tabOf l a):=by rw[aH hcP.symm,au]
  let old:∀b,b≠P->b≠a->(upd (upd H P<|.vL<|tabOf l a) a (DS a<|X.env.qual++"<lambda>")) b=H b:=λb h1 h2=>by rw[aH h2,aH h1]
  let nP:∀b,H b=none->b≠P:=λb e z=>by rw[z,F]at e;cases e
  let nc:∀b o,s.heap.get? b>o->b≠a:=λb o e z=>dF _<|bp (a9 e) (z▸p);let ncH:∀b o,H b>o->b≠a:=λb o e z=>by rw[z,T]at e;cases e
  let keep:∀b o,b≠P->s.heap.get? b>o->(h'.push<|qx "<lambda>" (X.env.qual++"<lambda>") params body scope i ((X.mg "__name__").getD .none) a g).get? b>o:=λb o x e=>aF _<|hx b o x e;let I':Inv X aB σ (upd (upd H P<|.vL<|tabOf l a) a (DS a<|X.env.qual++"<lambda>")) {s with heap:=h'.push<|qx "<lambda>" (X.env.qual++"<lambda>") params body scope i ((X.mg "__name__").getD .none) a g,toks:=tk}:=by
   refine I.step (g':=s.gens) (d':=s.drawn) (t':=tk) (ch:=[]) (λ_ z=>nomatch z) (λb o _ _ _ e n=>keep b o (nP b n) e) (λb o _ _ _ e n=>#[o.slots,keep b o (nP b n) e]) (λb o _ e n=>?_) (λb o _ e=>?_) (λb xs e=>?_) (λb o u e=>?_) (λb ps e=>?_) (λm hm=>?_) (λb o e=>?_) I.bare
   .grind
   .by_cases x:b=P
    .subst x;exact#[_,aF _ y]
    .grind
   .grind
   .grind
   .by_cases x:b=P
    .grind
    .exact#[#[],by rw[old b x (ncH b _ e),e];simp]
   .let#[o,es,ep,ho,r]:=hm;exact#[o,es,ep,keep _ o (nP _ I.free) ho,r]
   .by_cases x:b=P
    .subst x;rw[U]at e;cases e;exact aF _ y
    .by_cases Y:b=a
     .subst Y;rw[au]at e;cases e;exact PD (D.push _)
     .rw[old b x Y]at e;refine(I.fm b o e).lM (λd v hd q=>keep d v ?_ q) (λd q=>?_) λd xs q=>?_
      .grind
      .grind
      .grind
  refine h h'.objs.size a g _ _ I' (λb o x e=>?_) (.inr #[a,U,au]) au (λb x=>?_) (gP<|bu N<|bu p<|fN R) (lQ<|IK (bp M p) R) (bw _ rfl)
  .grind
  .grind
 .let O:s.heap.get? P>(Au<|tabOf l c0):=I.fm P _ F;let D:s.heap.CodeRec (.ref c0) (X.env.qual++"<lambda>"):=(I.fm c0 _ G).1;refine PySem.W.kla_makeFunctionHit (mg:=X.mg) (cv:=.ref c0) J I.ok.glob hg j (C.keeps I.bk) O (TriplesOk_snoc l.line l.col (.ref c0) [] trivial) (codeAmong_snoc (pos:=l) [] trivial rfl) B' λg h' tk hk hsz=>?_;let I':Inv X aB σ H {s with heap:=h'.push {cls:=.type "function",data:=.func (As "<lambda>" (X.env.qual++"<lambda>") params body scope i ((X.mg "__name__").getD .none) (.ref c0) g)},toks:=tk}:=I.kept (t':=tk) λb u e=>aF _<|hk b u e;exact h h'.objs.size c0 g _ H I' (a'.refl _ _) (.inr #[c0,F,G]) G (λ_ e=>e) (gP<|bu N hsz) (lQ<|bp M hsz) (bw _ rfl)
def Qr{pm g:Value}{n:Int}
  (a:A.depth<recursionLimit)(lim:s.heap.NoLimit)
  (B:s.heap.get? f>qx "<lambda>" qual params (.Subscript (.Name "middles" C) (.Name "one" D) F) scope [("middles",l)] pm z g)(m:s.heap.CodeRec (.ref z) qual)
  (c:s.heap.IsCell l (some<|.ref am))(G:s.heap.IsList am vs.toArray)(I:rG vs p)(h0:0<=n)(J:n<↑p)(hz:↑p<=sizeLine)
  (K:∀v,CI (As "<lambda>" qual params (.Subscript (.Name "middles" C) (.Name "one" D) F) scope [("middles",l)] pm (.ref z) g) #[[v],[]]=pure [(("one":Str),v)])
  (s1:scope.kind=.function)(s2:scope.isCoroutine=false)(s3:scope.isGenerator=false)(s4:scope.names.lookup ("one":Str)>.local)(s5:scope.names.lookup ("middles":Str)>.free)(L:∀x∈scope.names,x.2≠.cell)
  (h:∀h' t' tk,(∀b o,s.heap.get? b>o->h'.get? b>o)->Q (.int (p.getD n.toNat 0) t') {s with heap:=h',toks:=tk}):
  bj (model prog w) A (call (.ref f) [.int n t]) Q E s:=by
 refine uY<|PySem.W.kla_callFunE a B rfl s2 s3 rfl m ?_;rw[K];refine aU (wpAny_newFunctionEnv L (λy O=>?_) (λi q u=>?_) s1)
 .grind
 .let j:∀b o,s.heap.get? b>o->i.get? b>o:=λb o e=>u.extBut b o (bT<|a9 e) (aF _ e);refine#[lim.keeps j,PySem.W.kla_codeExpr ?_];let M:i.IsCell l (some<|.ref am):=by let#[o,e,d]:=c;exact#[o,j _ _ e,d]
  let N:i.IsList am vs.toArray:=by let#[o,e,r]:=G;exact#[o,j _ _ e,r]
  refine IQ<|AN<|wpAny_loadName_free s1 s5 rfl M ?_;refine AN<|xT s1 s4 q rfl ?_;refine item_list_intsR N I h0 J (by rw[aK]at hz;omega) (λt'=>?_);exact h i t' _ j
def Es{K:ao}(h:bW K H a xs)(b:TabAt P d q H)(s:a' [P] H c):bW K c a xs:=by
 rcases h with(h|⟨o,h⟩)|h
 .exact .inl (.inl (s _ _ (by let:=b.ne h (by intro ps e;cases e);simpa using this) h))
 .exact .inl (.inr #[o,s _ _ (by let:=b.ne h (by intro ps e;cases e);simpa using this) h])
 .exact .inr h
def HW(K:ao)(P:Addr)(lp:Pos)(q:Str)(j:Nat)(σ:L2.St)(Q:VK):V->Hp->Prop:=λx H1=>∃(a b:Addr)(ns ms:List Int),x=.ref a/\bW K H1 a (ns.map V.int)/\σ[j]?>(some<|.ref b)/\bW K H1 b (ms.map V.int)/\(∀n∈ns,0<=n/\n<(↑ms:Int))/\TabAt P lp q H1/\
 ∀(H2:Hp)(p:Addr)(J2:List Int),J2.Perm ns->J2.Pairwise (λx y=>ms.getD x.toNat 0<=ms.getD y.toNat 0)->(∀z,J2.filter (λx=>ms.getD x.toNat 0==z)=ns.filter (λx=>ms.getD x.toNat 0==z))->a' [P] H1 H2->TabAt P lp q H2->H2 p=none->H1 p=none->Q (.ref p) (upd H2 p<|.lst<|J2.map V.int)
def R9(K:ao)(P:Addr)(lp:Pos)(q:Str)(te:TE)(j:Nat):TE:=λσ H Q=>te σ H (HW K P lp q j σ Q)
def Kd(K)(j:Nat)(hr:i7 k X.A)(hK:X.K=K)(he:PE X L te)(hm:X.mg "sorted"=none)
  (hN:X.N[j]?>"middles")(Z:X.env.scope.names.lookup ("middles":Str)>.cell)(hcm:X.env.cells.lookup ("middles":Str)>cm)(SJ:IV scope X.env=pure [(("middles":Str),cm)])(ady:defaultsOf params X.env=([],[]))
  (O:X.env.code=.ref c)(C:iS X.aD c P)(B:X.aD.BuiltinsAt X.mg P)
  (hb:∀q pm cd ct v,CI (As "<lambda>" q params (.Subscript (.Name "middles" p1) (.Name "one" p2) p3) scope [("middles",cm)] pm cd ct) #[[v],[]]=pure [(("one":Str),v)])
  (s1:scope.kind=.function)(s2:scope.isCoroutine=false)(s3:scope.isGenerator=false)(s4:scope.names.lookup ("one":Str)>.local)(s5:scope.names.lookup ("middles":Str)>.free)(s6:∀x∈scope.names,x.2≠.cell)
  (hg:Gl X "sorted":=by rfl)
  (g1:gW pos (bi [L] X.env)=(false,eval L X.env)::gW pos (bi [] X.env):=by rfl)(g2:(gW pos<|bi [L] X.env).any (·.1)=false:=by rfl)(g3:bi [L] X.env=(false,eval L X.env)::bi [] X.env:=by rfl):
  PE X (.Call (.Name "sorted" p) [L] [#[some "key",.Lambda params (.Subscript (.Name "middles" p1) (.Name "one" p2) p3) scope lp,kp]] pos) (R9 K P lp (X.env.qual++"<lambda>") te j):=by
 subst hK;intro aB s σ H Q I h;refine gY (vn I hg hm t8 (callWith_kw (gN ((k9 he ib g3:PA X [L] _) pos aB s σ H (λvs H1=>match vs with|[x]=>HW X.K P lp (X.env.qual++"<lambda>") j σ Q x H1|_=>False) I h) λus sA#[vs,H1,I1,r,q]=>?_) g1 g2 rfl rfl));cases r with
 |nil=>exact q.elim
 |cons r rr=>
  cases rr with
  |cons r2 rr=>exact q.elim
  |nil=>
   obtain⟨a,b,ns,ms,rfl,hA,hσ,hB,hin,hT,q⟩:=q;cases r;refine kws_cons<|Qq I1 SJ ady O C B hT λf c' ctv G Y i sS hT' VT R hbf hfL hfo=>kws_nil ?_;show bj _ _ (call (.builtin "sorted") [.ref a] [(eK "key",.ref f)]) _ _ _;let hA':=Es hA hT sS;let hB':=Es hB hT sS;let#[lL,rv,pl,hz]:=i.list hA';let#[jts,rw',pm',hz2]:=i.list hB';rw[aj]at hz hz2;let#[m0,hn0,hl0]:=id i.loc;let F0:Fr X.aD X.env.locals G.heap m0:=#[hn0,i.bk,bu i.ok.Lo i.ok.above];let#[u,ru,lk]:=hl0 j "middles" (.ref b) hN hσ (mP<|lX Z);cases ru;let#[g]:Nonempty (PLift<|G.heap.IsCell cm<|some<|.ref b):=by
    obtain⟨k1,_⟩|⟨_,c2,hc2,g⟩:=lk
    .let k1:X.env.scope.names.lookup ("middles":Str)>.local:=k1;rw[Z]at k1;cases k1
    .rw[hcm]at hc2;cases hc2;exact#[#[g]]
   let g:=g.down;let cmL:cm≠X.env.locals:=i.Ts _ _ hcm;let aew:G.heap.CodeRec (.ref c') (X.env.qual++"<lambda>"):=(i.fm c' _ VT).1;let M:∀x o,Y x>o->x≠X.env.locals:=λx o e z=>by rw[z,i.free]at e;cases e
   let kept:∀h m own,Fr X.aD X.env.locals h m->News X.aD X.env.locals h (vW X.aD G.heap X.env.locals++own)->∀x o,x≠X.env.locals->G.heap.get? x>o->h.get? x>o:=λh m own F N x o J e=>by
    cases qq:X.aD.get? x with
    |some u=>
     let:=i.bk x u qq;rw[e]at this;cases this;exact F.keep x _ qq
    |none=>exact(N (x,o) (bf _<|zd J qq e)).1
   let bL:b≠X.env.locals:=by
    rcases hB' with(z|⟨_,z⟩)|⟨o,afn,n2,z,_⟩
    .exact M _ _ z
    .exact M _ _ z
    .let:=i.mod.Aj _ _ z;exact bT (bp (a9 this) (bu i.ok.Lo i.ok.above))
   refine ksk_letterSt (b:=false) (λx=>ms.getD x.toNat 0) F0 QD pl.isList rv.ints hz (ksk_s1 _ _) (λx=>ksk_l1 _ _) (λx=>ksk_t1 _ _) (λn t h tk own hn F N=>?_) (λD vs' S cD h' tk F' N' SK hI _ l ZG _ ad0=>?_)
   .let k:=kept h m0 own F N;let adu:c'≠X.env.locals:=M _ _ VT;refine Qr (am:=b) (s:={G with heap:=h,toks:=tk}) (by let:=hr.depth;exact this) ((i.mod.nolimit).keeps F.keep) (k _ _ hfL hfo) ?_ ?_ ?_ rw'.ints (hin n hn).1 (hin n hn).2 hz2 (λv=>hb _ _ _ _ v) s1 s2 s3 s4 s5 s6 λh2 t' Vi T=>?_
    .let#[c1,oc,vs1,tq,e,L,r1]:=aew;cases e;exact#[c',oc,vs1,tq,rfl,k _ _ adu L,r1]
    .let#[o,e,d]:=g;exact#[o,k _ _ cmL e,d]
    .let#[o,e,d]:=pm'.isList;exact#[o,k _ _ bL e,d]
    .exact#[h2,Vi,t',rfl,rfl,#[F.ns.keeps T,λx o e=>T x o<|F.keep x o e,F.above],λp hp=>#[T _ _ (N p hp).1,(N p hp).2]]
   .let N0:News X.aD X.env.locals h' (vW X.aD G.heap X.env.locals++[]):=λp hp=>by rw[c8]at hp;exact N' p (aR _ hp)
    let k:=kept h' m0 [] F' N0;let#[d1,d2,d3]:=N' _<|aZ ..;let nD:∀x o,G.heap.get? x>o->x≠D:=λx o e z=>by subst z;exact ae (SK _<|zd d2 d3 e) (dF _)
    let U:Y D=none:=by
     cases qq:Y D with
     |none=>rfl
     |some o=>
      let#[o2,w]:=HC<|i.fm D o qq;exact ae rfl (nD D o2 w)
    let E:∀x o,Y x>o->x≠D:=λx o e z=>by rw[z,U]at e;cases e
    let hlen:↑(S.map V.int)<=sizeLine:=by rw[aj,l.length_eq];exact hz
    refine#[.ref D,upd Y D<|.lst<|S.map V.int,?_,rfl,q Y D S l (by simpa using ZG) ad0 sS hT' U (R D U)];refine i.step (g':=G.gens) (d':=G.drawn) (t':=tk) (ch:=[]) (λ_ z=>nomatch z) (λx o J _ _ e n=>k x o J e) (λx o J _ _ e n=>#[o.slots,k x o J e]) (λx o _ e n=>by rw[aH (nD x o e)];exact n) (λx o _ e=>?_) (λx xs e=>by rw[aH (E x _ e)];exact e) (λx o u e=>by rw[aH (E x _ e)];exact e) (λx ps e=>#[#[],by rw[aH (E x _ e),e];simp]) (λm hm=>?_) (λx o e=>?_) i.bare
    .by_cases J:x=X.env.locals
     .subst J;let#[o2,_,_,w,_]:=F'.ns;exact#[o2,w]
     .grind
    .let:m=m0:=by funext y;exact hm.agree hn0 y
     rw[this];exact F'.ns
    .by_cases J:x=D
     .subst J;rw[au]at e;cases e;exact#[hlen,vs',cD,nF hI,d1]
     .rw[aH J]at e;refine(i.fm x o e).lM (λd v hd w=>k d v ?_ w) (λd w=>by rw[aH (E d _ w)];exact w) λd xs w=>by rw[aH (E d _ w)];exact w
      obtain z|z:=hd
      .grind
      .exact M _ _ z
end
section
variable{P:a7}{w:bS}{K:ao}{mg:Str->Option Value}{aD:Heap}
open Vadiab (Item Order rowAt posIn segments ends rankAt)
def Rv(CL:Addr):Sp:=λvs H Q _=>∃x r f o,vs=[.ref x]/\dE CL H x r f o/\∀H',a8 H H'->Q (.int (((kg o).sum-↑f.d.boxes:Nat):Int)) H'
def ur(T:Txt K mg)(g:fW K l ["edges","ranks","rows"])(h:iW K mg "passing_places" p9 f fd):Good P w K mg aD dO 1 "passing_places" ["layout"] (Rv l):=by
 refine h.gd ["layout","row"] λC A outer s H vs Q E p O h=>?_;obtain⟨x,r,fr,o,rfl,⟨u,e,F,G,rows,L⟩,k⟩:=h;exists _,(aC (bC (fV qN (bO (U1 K rfl) rfl T.sum EZ (da (oW rfl p (qh K<|fld K v0) (pz [("row",1)]) (λ_ _ _ _ _=>(pn 1 p)) (λ_ _ _ _ _=>jX) (λ_ _ _ _ _=>(bO (ia K) rfl T.len dB (da v1)))))) (bO (ia K) rfl T.len dB (da<|fld K v0)))));lia;refine#[_,rfl,x,l,u,_,_,rfl,L.ins,g.cl,g.no "rows" sP,rfl,r,rfl,#[_,bW.of L.lst],λD z=>?_];let eo:kg o=rows.map λx=>↑x.2:=by delta kg;rw[<-L.eo,aS];refine bK λx _=>?_;simp
 let#[I,b]:=Ft λm c=>a8 H c/\c D>(.lst<|(dq<|(kg o).take m).map V.int);refine jy (K:=K) (a:=r) (xs:=rows.map λx=>V.ref x.1) I (b.mpr #[lay0 z,by rw[au];rfl]) (λm c _ w=>bW.of<|(b.mp w).1 _ _ L.lst) ?_ ?_
 .intro i v c J n;let#[s4,j]:=b.mp n;obtain⟨y,q,rfl⟩:=gm J;let M:=gl q;let R:=L.ou;let S:=L.l3;lia;refine#[_,.inl<|bW.of<|s4 _ _ (L.row y<|ax q).lst,_,j,by rw[aj,eL,bN,aK,eo,aj];omega,b.mpr #[lay s4 z,?_]];rw[au,aN,eo,ak,q];delta dq;simp
 .intro c n;let#[s4,j]:=b.mp n;rw[cz (by rw[eo];simp)]at j;let B:=L.mono s4;exists D,rfl,_,bW.of j;exists l,u,_,B.ins,g.cl,g.no "ranks" sP,_,rfl,F,rfl,_,.inl<|bW.of B.rk;let U:=Kq L.wf;let N:((dq<|kg o).sum-(↑((dq fr.ranks).map V.int):Int))=(((kg o).sum-↑fr.d.boxes:Nat):Int):=by rw[xG,aj,eL,L.wf.boxes];omega
  show Q (.int ((dq<|kg o).sum-(↑((dq fr.ranks).map V.int):Int))) c;rw[N];exact k c s4
abbrev hQ:Nat->V:=λn=>V.int (n:Int)
def BM(l):(dq l).map V.int=l.map hQ:=by delta dq;rw[aS];rfl
def Cf(CL:Addr):Sp:=λvs H Q _=>∃x r f o rk up sd,vs=[.ref x,.int (rk:Nat),.int sd]/\sd=(if up=true then 0 else 1)/\dE CL H x r f o/\rk<f.count/\
 ∀H' q rows,a8 H H'->H q=none->CY hQ H' q rows->rows.map (·.2)=iq f o up rk->Q (.ref q) H'
def Hv(W:WF f o)(up)(r):∀l∈iq f o up r,↑l<=↑f.downs:=λl a=>by
 delta iq at a;obtain⟨x,_,rfl⟩:=a_.mp a;let b:∀r,↑(b' f r)<=↑f.downs:=λr=>by delta Vadiab.segments;exact bu (iP _ _) sP
 delta uE;split
 .grind
 .grind
def D9{Pn:Addr->Prop}(b:CY hQ d D rows)(fr:∀x∈rows,Pn x.1)(e:rows.map (·.2)=lT l n)(f:j<n):
  ∃y:Addr×List Nat,nj (rows.map λx=>V.ref x.1) (j:Int)>V.ref y.1/\d y.1>(.lst<|y.2.map hQ)/\↑y.2<=↑l/\Pn y.1/\∃a,CY hQ (upd d y.1<|.lst<|y.2.map hQ++[hQ v]) D a/\(∀x∈a,Pn x.1)/\a.map (·.2)=lT (l++[(j,v)]) n:=by
 let h:↑rows=n:=by let:=af ck e;delta lT at this;simpa using this
 let c:rows[j]?>rows[j]:=aq oM;let g:rows[j].2=(l.filter λp=>p.1==j).map (·.2):=by let:=af (λz=>z[j]?) e;simp only[ak]at this;rw[c,BJ f]at this;exact aO this
 let hm:rows[j]∈rows:=cx _;exists rows[j],at_of (j:=j) rfl (by rw[ak,c];rfl),b.row _ hm,?_,fr _ hm,rows.set j (rows[j].1,rows[j].2++[v]),b.push c v,λx i=>?_
 .grind
 .grind
 .rw[e_,e,J0,g]
def vj(T:Txt K mg)(U:qy K mg)(cL:fW K CL ["edges","ranks","rows"])(h:iW K mg "neighbours_on" rC f fd)(d:Good P w K mg aD dO 1 "channel_count" ["layout"] (FM CL))(I:Good P w K mg aD dO 2 "pieces" ["layout","channel"] (Cg CL)):
  Good P w K mg aD dO 3 "neighbours_on" ["layout","rank","side"] (Cf CL):=by
 refine h.gd ["layout","rank","side","near","channel","piece","item"] λoz A outer s H vs Q E nd hr h=>?_;obtain⟨x,r,fr,o,m,up,sd,rfl,J,hL,Z,k⟩:=h;let hL0:=hL;let#[dx,e,kk,ii,rows0,L]:=hL0;let#[y,hy,X,er]:=L.yx Z;let hyl:↑y.2=↑(aL o m):=by rw[<-er,aj]
 let ln:=o3 L.wf L.l1 L.l2 Z;let ar:nj (rows0.map λx=>V.ref x.1) (m:Int)>V.ref y.1:=at_of (j:=m) rfl (by rw[ak,hy];rfl);exists _,(aw (li (i:=3) rfl nd rfl rfl (nE rfl rfl rfl rfl) (qh K<|bM (j7 K) (fld K v0) v1 (λ_ _=>rfl)) (pz [("item",6)]) (λ_ _ _ _ _=>(pn 6 nd)) (λ_ _ _ _ _=>jX) (λ_ _ _ _ _=>(dr ib)))
  (aw (st 4 nd<|QL (bG il v2 (oY U.O2) (b9 _)) (fV qN v1 aV) v1)
  (aw (dI (PW.pt<|zm (bG kz v4 aV<|b9 _) (s_<|bG LX v4 (p0 d hr<|da v0) (b9 _))) (aC<|bC v3) cg)
  (aw (dM aY rfl (qh K<|p0 I hr<|ir v0 v4) (pn 5 nd) (aC<|dI (bG il v2 (oY U.O2) (b9 _)) (aC<|cO<|bm K aX bU bV fT (bM (j7 K) v3 (bM (kL K) v5 aV (λ_ _=>rfl)) (λ_ _=>rfl)) (da<|bM (kL K) v5 aV (λ_ _=>rfl))) (aC<|cO<|bm K aX bU bV fT (bM (j7 K) v3 (bM (kL K) v5 aV (λ_ _=>rfl)) (λ_ _=>rfl)) (da<|bM (kL K) v5 aV (λ_ _=>rfl)))))
  (aC<|bC v3)))))
 lia;refine#[_,rfl,x,CL,dx,_,_,rfl,L.ins,cL.cl,cL.no "rows" sP,rfl,_,rfl,r,_,_,_,rfl,rfl,bW.of L.lst,ar,y.1,rfl,#[_,bW.of X.lst],λD hD=>?_];refine BB hQ (by rw[aj];omega) X.lst hD λH2 rows s2 n2 e2 m2 f2=>?_;rw[aj,hyl]at e2;let n:rows.map (·.2)=lT [] ↑(aL o m):=by
  apply cq;intro i;rw[ak];by_cases c:i<↑(aL o m)
  .rw[BJ c,aq oM,bD,m2 _ (cx _)];rfl
  .rw[di oM,di (by delta lT;simp;omega)];rfl
 let DH:H D=none:=hD;let l1:=L.l1;let Y:∀H5,a8 H2 H5->(if up=true then m=0 else fr.count<=m+1)->Q (.ref D) H5:=λH5 s5 hc=>by refine k H5 D rows (s2.trans s5) hD (n2.mono s5) ?_;rw[n];delta lT iq;refine Fs _ _ _ λj z _=>?_;rw[NU L.wf.tova up hc];rfl
 cases up with
 |true=>
  let J:sd=0:=J;subst J;refine#[rfl,(ac rfl).mpr ?_];by_cases c0:m=0
  .exact(ac<|ag oM).mpr (Y H2 (a8.refl _) c0)
  refine(aa<|by simp;omega).mpr ?_;obtain⟨ch,rfl⟩:∃ch,m=ch+1:=#[m-1,oM];let e0:(((ch+1:Nat):Int)-1)=(ch:Int):=oM;rw[e0];refine#[x,r,fr,o,rfl,hL.mono s2,_,rfl,(aa<|by simp;omega).mpr ?_];let p:ch+1<fr.count:=Z;refine#[_,rfl,_,rfl,x,r,fr,o,ch,rfl,hL.mono s2,p,λH5 q ps s5 hq hP eP=>?_];let NB:↑ps<=40:=by let:=af ck eP;rw[aj]at this;let h2:=we fr o ch;omega
  let#[Pv,g]:=oh λi F B=>∃x5 rows,F=[~~~.ref x,some (.int ((ch+1:Nat):Int)),~~~.int 0,~~~.ref D,some (.int (ch:Int)),x5,none]/\a8 H B/\WQ B q ps/\CY hQ B D rows/\(∀z∈rows,H z.1=none/\z.1≠q)/\rows.map (·.2)=lT (((ends fr o ch).take i).map λe=>(e.2.2,e.2.1)) ↑(aL o<|ch+1);refine#[q,rfl,#[_,bW.of hP.lst],eH (K:=K) (a:=q) (xs:=ps.map λx=>V.ref x.1) Pv (g.mpr #[none,rows,rfl,s2.trans s5,hP,n2.mono s5,λz hz=>#[f2 z hz,λe=>by let:=n2.row z hz;rw[e,hq]at this;cases this],by rw[n];rfl]) (λi F B _ z=>?_) ?_ ?_]
  .let#[_,_,_,_,b,_]:=g.mp z;exact bW.of b.lst
  .intro i v F B hi hp;obtain⟨x5,l,rfl,s6,b,R,f6,S⟩:=g.mp hp;obtain⟨pp,qq,rfl⟩:=gm hi;let M:(ends fr o ch)[i]?>pp.2:=by rw[<-eP,ak,qq];rfl
   let G8:=gl qq;let hin:=Ly L.wf p<|ax M;let N:=b.tup pp<|ax qq;let#[y,ar2,C,O,#[hyH,hyq],G,n',f',e']:=D9 (Pn:=λa=>H a=none/\a≠q) (j:=pp.2.2.2) (v:=pp.2.2.1) R f6 S oM;lia;refine#[rfl,(ac rfl).mpr ?_];refine#[_,f9.of N,_,rfl,_,_,rfl,bW.of R.lst,_,ar2,.inl #[rfl,_,bW.of C],_,f9.of N,_,rfl,_,rfl,_,C,by rw[aj,aK];rw[aj,bN]at O;omega,g.mpr #[_,G,rfl,lay s6 hyH,#[by rw[aH hyq.symm];exact b.lst,λu hu=>by rw[aH (eI (b.tup u hu) C sP)];exact b.tup u hu],n',f',?_]];rw[e',aN,M];simp
  .intro F B hp;obtain⟨x5,l,rfl,s6,b,R,f6,S⟩:=g.mp hp;rw[aj,show ↑ps=↑(ends fr o ch) by rw[<-eP,aj],br,T9 L.wf p]at S;lia;exact k B D l s6 hD R S
 |false=>
  let J:sd=1:=J;subst J;refine#[rfl,(aa dC).mpr ?_];refine(aa sP).mpr ?_;exists x,r,fr,o,rfl,hL.mono s2,_,rfl;by_cases c0:fr.count<=m+1
  .exact(ac<|ag oM).mpr (Y H2 (a8.refl _) c0)
  refine(aa<|by simp;omega).mpr ?_;let p:m+1<fr.count:=oM;refine#[_,rfl,_,rfl,x,r,fr,o,m,rfl,hL.mono s2,p,λH5 q ps s5 hq hP eP=>?_];let NB:↑ps<=40:=by let:=af ck eP;rw[aj]at this;let h2:=we fr o m;omega
  let#[Pv,g]:=oh λi F B=>∃x5 rows,F=[~~~.ref x,some (.int (m:Int)),~~~.int 1,~~~.ref D,some (.int (m:Int)),x5,none]/\a8 H B/\WQ B q ps/\CY hQ B D rows/\(∀z∈rows,H z.1=none/\z.1≠q)/\rows.map (·.2)=lT (((ends fr o m).take i).map λe=>(e.2.1,e.2.2)) ↑(aL o m);refine#[q,rfl,#[_,bW.of hP.lst],eH (K:=K) (a:=q) (xs:=ps.map λx=>V.ref x.1) Pv (g.mpr #[none,rows,rfl,s2.trans s5,hP,n2.mono s5,λz hz=>#[f2 z hz,λe=>by let:=n2.row z hz;rw[e,hq]at this;cases this],by rw[n];rfl]) (λi F B _ z=>?_) ?_ ?_]
  .let#[_,_,_,_,b,_]:=g.mp z;exact bW.of b.lst
  .intro i v F B hi hp;obtain⟨x5,l,rfl,s6,b,R,f6,S⟩:=g.mp hp;obtain⟨pp,qq,rfl⟩:=gm hi;let M:(ends fr o m)[i]?>pp.2:=by rw[<-eP,ak,qq];rfl
   let G8:=gl qq;let hin:=Ly L.wf p<|ax M;let N:=b.tup pp<|ax qq;let#[y,ar2,C,O,#[hyH,hyq],G,n',f',e']:=D9 (Pn:=λa=>H a=none/\a≠q) (j:=pp.2.2.1) (v:=pp.2.2.2) R f6 S oM;lia;refine#[rfl,(aa dC).mpr ?_];refine#[_,f9.of N,_,rfl,_,_,rfl,bW.of R.lst,_,ar2,.inl #[rfl,_,bW.of C],_,f9.of N,_,rfl,_,rfl,_,C,by rw[aj,aK];rw[aj,bN]at O;omega,g.mpr #[_,G,rfl,lay s6 hyH,#[by rw[aH hyq.symm];exact b.lst,λu hu=>by rw[aH (eI (b.tup u hu) C sP)];exact b.tup u hu],n',f',?_]];rw[e',aN,M];simp
  .intro F B hp;obtain⟨x5,l,rfl,s6,b,R,f6,S⟩:=g.mp hp;rw[aj,show ↑ps=↑(ends fr o m) by rw[<-eP,aj],br,NS L.wf p]at S;lia;exact k B D l s6 hD R S
end
section
variable{P:a7}{w:bS}{K:ao}{mg:Str->Option Value}{aD:Heap}
open Vadiab (Item Order rowAt posIn segments ends rankAt between)
def DJ(H:Hp)(t:Addr)(nu nd:List (List Nat)):Prop:=∃a b ra rb,H t>.tup [.ref a,.ref b]/\CY hQ H a ra/\CY hQ H b rb/\ra.map (·.2)=nu/\rb.map (·.2)=nd
def DJ.mono(h:DJ H t c d)(s:a8 H e):DJ e t c d:=let#[a,b,f,g,i,j,l,m,n]:=h;#[a,b,f,g,s _ _ i,j.mono s,l.mono s,m,n]
def FS(CL:Addr):Sp:=λvs H Q _=>∃x r f o rk,vs=[.ref x,.int (rk:Nat)]/\dE CL H x r f o/\rk<f.count/\∀H' t,a8 H H'->H t=none->DJ H' t (iq f o true rk) (iq f o false rk)->Q (.ref t) H'
def zY(U:qy K mg)(h:iW K mg "both_sides" wX f fd)(c:Good P w K mg aD dO 3 "neighbours_on" ["layout","rank","side"] (Cf m)):Good P w K mg aD dO 4 "both_sides" ["layout","rank"] (FS m):=by refine h.gd ["layout","rank"] λn A outer s H vs Q E y e h=>?_;obtain⟨x,r,fr,o,g,rfl,i,d,k⟩:=h;exists _,(aC<|bC<|jM<|ir (p0 c e<|AF v0 v1<|oY U.O2) (p0 c e<|AF v0 v1<|oY U.ZZ));lia;refine#[x,r,fr,o,g,true,0,rfl,rfl,i,d,λH1 a p s1 z na q=>#[x,r,fr,o,g,false,1,rfl,rfl,i.mono s1,d,λj b u s2 B nb v=>#[by show 2<=sizeLine;rw[aK];omega,λt l=>?_]]];let s3:a8 j (upd j t (.tup [.ref a,.ref b])):=lay0 l;exact k _ t (s1.trans<|s2.trans s3) (bh (s1.trans s2) l) #[a,b,p,u,au,na.mono<|s2.trans s3,nb.mono s3,q,v]
def Rh:Sp:=λvs H Q _=>∃t nu nd x y,vs=[.ref t,.int (x:Nat),.int (y:Nat)]/\DJ H t nu nd/\x<↑nu/\y<↑nu/\↑nd=↑nu/\(∀l∈nu,↑l<=100)/\(∀l∈nd,↑l<=100)/\∀H',a8 H H'->Q (.int (O1 nu nd x y:Nat)) H'
def CY.at(h:CY hQ H D rows)(e:rows.map (·.2)=nl)(b:j<↑nl):∃y,rows[j]?>y/\nj (rows.map λx=>V.ref x.1) (j:Int)>V.ref y.1/\H y.1>(.lst<|y.2.map hQ)/\y.2=nl.getD j []:=by
 let c:↑rows=↑nl:=by rw[<-e,aj]
 let#[y,a]:∃y,rows[j]?>y:=#[_,aq oM];exists y,a,at_of (j:=j) rfl (by rw[ak,a];rfl),h.row _<|ax a;rw[<-e,bz,ak,a];rfl
def EW(a b)(x):between (a++[x]) b=between a b+↑(b.filter λy=>decide<|y<x):=by delta between;rw[aJ,rX];simp
def T0{ys:List Nat}{n:Nat}{y:Nat}(p:H c>.lst rs)(r:nj rs (y:Int)>.ref a)(g:H a>(.lst<|ys.map hQ))(L:↑ys<=1000)(s:M[j1]?>(some<|.ref c))(u:M[j3]?>some (.int (y:Int)))(A:M[j2]?>some (.int (n:Int)))
  (B:v<↑M)(h:j2≠v)(k:∀e D,a8 H e->H D=none->e D>(.lst<|(ys.filter λz=>decide<|z<n).map hQ)->Q (.ref D) e):
  RX (D3 K<|Ox (QW K) (lN j1) (lN j3)) (pR v) (Cq<|Ox (SS λi j=>V.bl<|decide<|i<j) (lN v) (lN j2)) (lN v) [v] M H Q:=by
 refine#[_,s,_,u,_,_,_,_,rfl,rfl,bW.of p,r,a,rfl,#[_,bW.of g],λD l=>?_];let#[C,b]:=Ft λm d=>a8 H d/\d D>(.lst<|((ys.take m).filter λz=>decide<|z<n).map hQ);refine jy (K:=K) (a:=a) (xs:=ys.map hQ) C (b.mpr #[lay0 l,au]) (λm d _ w=>bW.of<|(b.mp w).1 _ _ g) ?_ ?_
 .intro i x d E F;let#[s4,G]:=b.mp F;obtain⟨z,q,rfl⟩:=gm E;let tk:ys.take (i+1)=ys.take i++[z]:=by rw[aN,q];rfl
  let o:((wipe M [v]).set v (some<|hQ z))[v]?>(some<|hQ z):=by rw[ge];rw[kI];exact B
  let I:((wipe M [v]).set v (some<|hQ z))[j2]?>some (V.int (n:Int)):=by rw[d8 (λz=>h z.symm)];show((M.set v none))[j2]?=_;rw[d8 (λz=>h z.symm)];exact A
  let J:wipe ((wipe M [v]).set v (some<|hQ z)) [v]=wipe M [v]:=by show((M.set v none).set v _).set v none=M.set v none;rw[lI,lI]
  exists J,_,o,_,I,_,_,rfl,rfl,_,rfl;by_cases f:z<n
  .refine(ac<|ag oM).mpr #[_,o,_,G,?_,b.mpr #[lay s4 l,?_]]
   .let z:=ca (λz=>decide<|z<n) (ys.take i);rw[bN]at z;rw[aj,aK];omega
   .rw[au,tk,cF,aJ];simp[f]
  .grind
 .grind
def v_(nu nd:List (List Nat))(x y i:Nat):Nat:=(([nu,nd].take i).map λn=>between (n.getD x []) (n.getD y [])).sum
def qI(T:Txt K mg)(h:iW K mg "crossings_between" mY f fd):Good P w K mg aD dO 1 "crossings_between" ["sides","left","right"] Rh:=by
 refine h.gd ["sides","left","right","count","near","one","other"] λoz A outer s H vs Q E B hr h=>?_;obtain⟨t,o,nl,x,y,rfl,⟨a,b,ra,rb,X,na,nb,ea,eb⟩,hx,hy,hnl,b1,b2,k⟩:=h;exists _,(aw (st 3 B aV)
  (aw (dM aY rfl (piT K v0) (pn 4 B) (aC<|dM aY rfl (qh K<|bM (j7 K) v4 v1 (λ_ _=>rfl)) (pn 5 B) (aC (qT (i:=3) B rfl (by first|exact lX rfl|exact mP rfl) (bO (ia K) rfl T.len dB (da<|oW rfl B (qh K<|bM (j7 K) v4 v2 (λ_ _=>rfl)) (pz [("other",6)]) (λ_ _ _ _ _=>(pn 6 B)) (λ_ _ _ _ _=>(mq<|bG kz v6 v5<|b9 _)) (λ_ _ _ _ _=>v6))) sK))))
  (aC<|bC v3)))
 lia;let#[Pv,d]:=oh λi σ H1=>∃L p,σ=[~~~.ref t,some (.int (x:Int)),some (.int (y:Int)),some (.int (v_ o nl x y i:Nat)),L,p,none]/\a8 H H1;refine#[_,rfl,t,rfl,#[_,f9.of X],wm (K:=K) (a:=t) (xs:=[.ref a,.ref b]) Pv (d.mpr #[none,none,rfl,a8.refl _]) (λi σ H1 _ z=>?_) ?_ ?_]
 .let#[_,_,_,s1]:=d.mp z;exact f9.of (s1 _ _ X)
 .intro i v σ H1 r M;obtain⟨L,p,rfl,s1⟩:=d.mp M;obtain⟨c,N,nn,rfl,nc,Y,F,G,Z,O⟩:∃c N nn,v=V.ref c/\CY hQ H c N/\N.map (·.2)=nn/\x<↑nn/\y<↑nn/\(∀l∈nn,↑l<=100)/\v_ o nl x y (i+1)=v_ o nl x y i+between (nn.getD x []) (nn.getD y []):=by
   match i,r with
   |0,r=>exact#[a,ra,o,(aO r).symm,na,ea,hx,hy,b1,by simp[v_]]
   |1,r=>exact#[b,rb,nl,(aO r).symm,nb,eb,oM,oM,b2,by simp[v_]]
   |n+2,r=>simp at r
  let j:=nc.mono s1;let#[C,hyx,R,I,ex]:=j.at Y F;let#[yy,hyy,S,U,ey]:=j.at Y G;let lx:↑C.2<=100:=by rw[ex,bz,aq F];exact Z _ (cx _)
  let ly:↑yy.2<=100:=by rw[ey,bz,aq G];exact Z _ (cx _)
  lia;let#[Pw,g]:=oh λm σ J=>∃p,σ=[~~~.ref t,some (.int (x:Int)),some (.int (y:Int)),some (.int ((v_ o nl x y i+between (C.2.take m) yy.2:Nat):Int)),~~~.ref c,p,none]/\a8 H1 J;refine#[_,rfl,_,rfl,_,_,_,_,rfl,rfl,bW.of j.lst,R,_,rfl,#[_,bW.of I],eH (K:=K) (a:=C.1) (xs:=C.2.map hQ) Pw (g.mpr #[p,by simp[between],a8.refl _]) (λm σ J _ z=>?_) ?_ ?_]
  .let#[_,_,s2]:=g.mp z;exact bW.of (s2 _ _ I)
  .intro m v σ J hm u;obtain⟨p,rfl,s2⟩:=g.mp u;obtain⟨n,q,rfl⟩:=gm hm;let tk:C.2.take (m+1)=C.2.take m++[n]:=by rw[aN,q];rfl
   lia;refine T0 (K:=K) (j1:=4) (j3:=2) (j2:=5) (s2 _ _ j.lst) S (s2 _ _ U) oM rfl rfl rfl sP dC λH3 D s3 hD h3=>?_;refine#[D,rfl,_,.inl<|bW.of h3,g.mpr #[~~~hQ n,?_,s2.trans s3]];rw[tk,EW,aj];simp only[vP,vQ,Nat.add_assoc,kJ,WL]
  .intro σ J u;obtain⟨p,rfl,s2⟩:=g.mp u;rw[aj,br,ex,ey,<-O];exact d.mpr #[_,_,rfl,s1.trans s2]
 .intro σ H1 M;obtain⟨L,p,rfl,s1⟩:=d.mp M;lia;let e:v_ o nl x y 2=O1 o nl x y:=by simp[v_,O1]
  show Q (.int (v_ o nl x y 2:Nat)) H1;rw[e];exact k H1 s1
structure Jk(near:List (List Nat)):Prop where
 len:↑near<=100
 Hj:∀l∈near,↑l<=100
 aao:∀l∈near,∀n∈l,n<=100
def Mf(W:WF f o)(a:↑f.downs<=40)(b:↑f.ranks<=24)(r):↑(aL o r)<=64:=by
 by_cases c:r<f.count
 .exact o3 W a b c
 .delta Tl;rw[di (by rw[W.len];omega)];simp
def BI(W:WF f o)(b:↑f.downs<=40)(c:↑f.ranks<=24)(up)(r):Jk (iq f o up r):=by refine#[by rw[ko];let:=Mf W b c r;omega,λl a=>by let:=Hv W up r l a;omega,λl a n d=>?_];let:=Fu (f:=f) (o:=o) 64 (Mf W b c) up r l a n d;omega
def acd:Sp:=λvs H Q _=>∃a rows near,vs=[.ref a]/\CY hQ H a rows/\rows.map (·.2)=near/\Jk near/\∀H' q,a8 H H'->H q=none->H' q>(.lst<|(dq<|near.map<|kn<|dR near).map V.int)->Q (.ref q) H'
def abi(n:Nat):(if GT.gt ((1:Int)) ((n:Int))then(1:Int)else(n:Int))=((max n 1:Nat):Int):=by split<;>omega
def vk(T:Txt K mg)(h:iW K mg "whole_middles" rD f fd):Good P w K mg aD dO 1 "whole_middles" ["near"] acd:=by
 refine h.gd ["near","common","places"] λJ A outer s H vs Q E n R h=>?_;obtain⟨a,rows,near,rfl,b,r,ok,k⟩:=h;let L:↑rows=↑near:=by rw[<-r,aj]
 let at_:∀{i:Nat}{y:Addr×List Nat},rows[i]?>y->near[i]?>y.2:=λ{i y} e=>by rw[<-r,ak,e];rfl
 exists _,(aw (st 1 n aV)
  (aw (dM aY rfl (qh K v0) (pn 2 n) (aC (qT (i:=1) n rfl (by first|exact lX rfl|exact mP rfl) (bO (x' rfl) rfl T.max EY (ir (bO (ia K) rfl T.len dB (da v2)) aV)) XC)))
  (aC (bC (oW rfl n (qh K v0) (pz [("places",2)]) (λ_ _ _ _ _=>(pn 2 n)) (λ_ _ _ _ _=>jX) (λ_ _ _ _ _=>(fV QI (bO (U1 K rfl) rfl T.sum EZ (da v2)) (fV Uh v1 (bO (x' rfl) rfl T.max EY (ir (bO (ia K) rfl T.len dB (da v2)) aV))))))))))
 lia;let#[Pv,c]:=oh λi S H1=>∃u,S=[~~~.ref a,some (.int (DT near i:Nat)),u]/\H1=H;refine#[_,rfl,a,rfl,#[_,bW.of b.lst],eH (K:=K) (a:=a) (xs:=rows.map λx=>V.ref x.1) Pv (c.mpr #[none,rfl,rfl]) (λi S H1 _ z=>?_) ?_ ?_]
 .obtain⟨_,_,rfl⟩:=c.mp z;exact bW.of b.lst
 .intro i v S H1 B C;obtain⟨u,rfl,rfl⟩:=c.mp C;obtain⟨y,q,rfl⟩:=gm B;let o:↑y.2<=100:=ok.Hj _ (by rw[<-r];exact fk (ax q));lia;exists _,.inl (bW.of (b.row y (ax q)));rw[aj,abi];refine#[.inr #[oM,oM],c.mpr #[~~~.ref y.1,?_,rfl]];rw[Ju (at_ q),Int.natCast_mul]
 .intro S H1 C;obtain⟨u,rfl,rfl⟩:=c.mp C;rw[aj,L,Na];refine#[_,rfl,a,rfl,#[_,bW.of b.lst],λD G=>?_];let#[M,d]:=Ft λm p=>a8 H1 p/\p D>.lst ((dq ((near.take m).map (kn (dR near)))).map V.int);refine jy (K:=K) (a:=a) (xs:=rows.map λx=>V.ref x.1) M (d.mpr #[lay0 G,by rw[au];rfl]) (λm p _ w=>bW.of ((d.mp w).1 _ _ b.lst)) ?_ ?_
  .intro i v p B F;let#[s4,N]:=d.mp F;obtain⟨y,q,rfl⟩:=gm B;let O:=gl q;let g:y.2∈near:=by rw[<-r];exact fk (ax q)
   let o:↑y.2<=100:=ok.Hj _ g;let I:y.2.sum<=100*100:=bu (sum_bound _ 100 (ok.aao _ g)) (gS _ o);let j:=s4 _ _ (b.row y (ax q));let hlen:=ok.len;lia;let l:p y.1>.lst ((dq y.2).map V.int):=by rw[BM];exact j
   exists dq y.2,bW.of l,_,.inl (bW.of j);rw[aj,abi];exists #[oM,oM];rw[xG];refine#[.inl #[oM,oM],_,N,by rw[aj,eL,aj,bN,aK];omega,d.mpr #[lay s4 G,?_]];rw[au,aN,at_ q];delta dq kn;simp
  .grind
def XM:Pos:=#[422,55,422,79]
def aeq:Str:=(("by_middles":Str)++".<locals>.")++"<lambda>"
abbrev Tab(PT:Addr)(H:Hp):Prop:=TabAt PT XM aeq H
def VG(near:List (List Nat))(ZW:List Nat):Prop:=ZW.Perm (cZ near 0)/\(ZW.Pairwise λp q=>kn (dR near) (near.getD p [])<=kn (dR near) (near.getD q []))/\
 ∀c,ZW.filter (λp=>kn (dR near) (near.getD p [])==c)=(cZ near 0).filter (λp=>kn (dR near) (near.getD p [])==c)
def YD(PT:Addr):Sp:=λvs H Q _=>∃a rows near,vs=[.ref a]/\CY hQ H a rows/\rows.map (·.2)=near/\Jk near/\Tab PT H/\
 ∀H' q ZW,a' [PT] H H'->Tab PT H'->H q=none->VG near ZW->H' q>(.lst<|(dq<|je near 0 ZW).map V.int)->Q (.ref q) H'
def uT:m_ ["near","moving","middles","order","place","mover"] ["near"] (dH fH):=#[rfl,rfl,rfl,dK,rfl,dK,dK]
def YG(d:b.Perm (dq<|cZ near 0))(hw:b.Pairwise λx y=>(dq<|near.map<|kn<|dR near).getD x.toNat 0<=(dq<|near.map<|kn<|dR near).getD y.toNat 0)
  (hf:∀z,b.filter (λx=>(dq<|near.map<|kn<|dR near).getD x.toNat 0==z)=(dq<|cZ near 0).filter (λx=>(dq<|near.map<|kn<|dR near).getD x.toNat 0==z)):
  ∃g,b=dq g/\VG near g:=by
 let h0:∀x∈b,0<=x:=λx h=>by let:=d.mem_iff.mp h;delta dq at this;obtain⟨i,_,rfl⟩:=a_.mp this;omega
 let e:=Ha h0;let f:(b.map ig).Perm (cZ near 0):=by
  let:=d.map ig;let s:(dq<|cZ near 0).map ig=cZ near 0:=by
   unfold dq;rw[aS];conv=>rhs;rw[<-kN (cZ near 0)]
   exact bK λx _=>sP
  rw[s]at this;exact this
 let lt:∀p∈cZ near 0,p<↑near:=λp d=>by let:=vv near 0 p d;omega
 let key:∀p,p<↑near->(dq<|near.map<|kn<|dR near).getD p 0=((kn (dR near) (near.getD p []):Nat):Int):=λp d=>by rw[<-T7 near d];delta dq;rw[bz,bz,ak];cases(near.map<|kn<|dR near)[p]?<;>rfl
 refine#[b.map ig,e,f,?_,λc=>?_]
 .rw[fq];refine hw.imp_of_mem λ{x y} h u j=>?_;rw[key _ (lt _<|f.mem_iff.mp<|fk h),key _ (lt _<|f.mem_iff.mp<|fk u)]at j;omega
 .let m:=af (Tc ig) (hf (c:Int));let gen:∀l,(∀p∈l,p<↑near)->((dq l).filter (λx=>(dq<|near.map<|kn<|dR near).getD x.toNat 0==(c:Int))).map ig=l.filter (λp=>kn (dR near) (near.getD p [])==c):=by
   intro l;induction l with
   |nil=>intro _;rfl
   |cons a l n=>
    intro o;let n:=n λp d=>o p<|aR _ d;let r:=key a<|o a<|aZ ..;delta dq at n r|-;rw[bb,bJ,bJ];rw[aT,r];by_cases q:kn (dR near) (near.getD a [])=c
    .grind
    .grind
  rw[e]at m;rw[gen _ (λp d=>lt p<|f.mem_iff.mp d),gen _ lt]at m;exact m
def tI(e:-(2^62)<=a)(c:a<2^62)(f:-(2^62)<=b)(d:b<2^62):lC a b 1=true:=by delta lC;rw[Me];simp only[Y2,b_,g8,decide_eq_true_eq,beq_iff_eq,show((1:Int)>0) by decide,if_true];split<;>omega
def xz(a b:Nat):jP (a:Int) (b:Int) 1=((b-a:Nat):Int):=by rw[Me];split<;>omega
def Fq(n):((ay n).map λ(i:Nat)=>V.int<|0+i*1)=(dq<|ay n).map V.int:=by delta dq;rw[aS];exact bK λi _=>sP
def zZ(T:Txt K mg)(h:iW K mg "by_middles" fH f fd){c PT:Addr}(l:fd.code=.ref c)(C:iS aD c PT)(B:aD.BuiltinsAt mg PT)(d:Good P w K mg aD dO 1 "whole_middles" ["near"] acd):
  Good P w K mg aD dO 3 "by_middles" ["near"] (YD PT):=by
 exists f,fd,h.at_,h.fn.kp,h.fn.binds λ_ _ _ _ _ _ us hl=>match us,hl with|[_],_=>rfl;obtain⟨oc,od,kV,doc,pm,an,oz,ct,osl,rfl,lk,hcd⟩:=h.fn.ex;let l:oz=.ref c:=l;subst l;refine P1 lk hcd uT (λvs H Q E h=>?_) (λA outer s H vs Q E hr h=>?_)
 .obtain⟨a,rows,near,rfl,_⟩:=h;rfl
 .suffices∃t,DD (C7 dO P w K mg aD ["near","moving","middles","order","place","mover"] "by_middles" (dH fH) f (.ref c) A outer s H E).Ub (ij fH) t/\t {nx:=λ_ H'=>Q .fP H',rt:=Q} (L2.start ["near","moving","middles","order","place","mover"] vs) H by let#[t,h1,q]:=this;exact#[t,h1.Ub,q]
  obtain⟨a,rows,near,rfl,r,en,ok,tab,k⟩:=h;let nd:=uT.nd;let hl:↑rows=↑near:=by rw[<-en,aj]
  exists _,(aw (li (i:=1) rfl nd rfl rfl (nE rfl rfl rfl rfl) (jq rfl T.range<|da<|bO (ia K) rfl T.len dB (da v0)) (pz [("place",4)]) (λ_ _ _ _ _=>(pn 4 nd)) (λ_ _ _ _ _=>(mq<|bG om (bO (ia K) rfl T.len dB (da<|bM (j7 K) v0 v4 (λ_ _=>rfl))) aV (b9 _))) (λ_ _ _ _ _=>v4))
   (aw (st 2 nd<|p0 d hr<|da v0)
   (aw (st 3 nd<|dL (lZ rfl) rfl T.list i' (da<|dL t_ rfl T.range pO<|da<|bO (ia K) rfl T.len dB (da v0)))
   (aw (dM aY rfl (piZ K T.zip (ir v1 (Kd (c:=c) (P:=PT) K 2 hr rfl v1 T.sorted rfl rfl rfl rfl rfl rfl C B (λ_ _ _ _ _=>rfl) rfl rfl rfl rfl rfl dK))) (OY K 2<|eJ (pn 4 nd) (eJ (pn 5 nd) kf)) (aC<|vC v5<|vB v3 v4 set_list))
   (aC<|bC v3)))))
  lia;let hn:=ok.len;refine#[_,rfl,a,_,rfl,.inl<|bW.of r.lst,_,rfl,by rw[aj];omega,by rw[aj];omega,λD hD=>?_];rw[aj,hl];let#[Pk,F]:=Ft λm H4=>a8 H H4/\H4 D>(.lst<|(dq<|ze near m).map V.int);refine wE (n:=((↑near:Nat):Int).toNat) Pk (F.mpr #[lay0 hD,by rw[au];rfl]) ?_ ?_
  .intro i H4 hi hp;let#[s4,h4]:=F.mp hp;rw[aT]at hi;let e0:(0+(i:Int))=(i:Int):=oM;let#[y,hy,ar,aee,ey]:=(r.mono s4).at en hi;let ml:=NO near i;rw[e0];lia;exists _,bW.of<|s4 _ _ r.lst,_,ar,_,rfl,_,.inl<|bW.of aee;rw[aj,ey];by_cases c0:0<↑(near.getD i [])
   .refine(ac<|ag oM).mpr #[_,h4,by rw[aj,eL,aK];omega,F.mpr #[lay s4 hD,?_]];rw[au,BG,ac c0];delta dq;simp
   .refine(aa<|by simp only[decide_eq_true_eq];omega).mpr (F.mpr #[s4,?_]);rw[h4,BG,aa c0,c8]
  .intro H4 hp;let#[s4,h4]:=F.mp hp;rw[aT,<-NP]at h4;refine#[a,rows,near,rfl,r.mono s4,en,ok,λH5 qm s5 hqm h5=>?_];refine#[_,.inl<|bW.of<|s5 _ _<|s4 _ _ r.lst,λp1 G=>?_];refine#[_,_,_,au,tI dC dC (by rw[aj];omega) (by rw[aj];omega),↑near,?_,oM,λlo p=>?_]
   .rw[aj,hl];exact xz 0 ↑near
   rw[Fq];let s6:a8 H5 (upd H5 p1<|kq p1 0 ((↑(rows.map λx=>V.ref x.1):Nat):Int) 1):=lay0 G;generalize upd H5 p1 (kq p1 0 ((↑(rows.map λx=>V.ref x.1):Nat):Int) 1)=H6 at s6 p|-;let s7:a8 H6 (upd H6 lo<|.lst<|(dq<|ay ↑near).map V.int):=lay0 p;let h7:(upd H6 lo<|.lst<|(dq<|ay ↑near).map V.int) lo>(.lst<|(dq<|ay ↑near).map V.int):=au;generalize upd H6 lo (.lst<|(dq<|ay ↑near).map V.int)=H7 at s7 h7;let U:a8 H5 H7:=s6.trans s7;let X:a8 H H7:=(s4.trans s5).trans U;let loH:H lo=none:=bh ((s4.trans s5).trans s6) p;let hD7:=U _ _<|s5 _ _ h4;let aec:=U _ _ h5;refine#[_,rfl,_,rfl,D,qm,dq<|cZ near 0,dq<|near.map<|kn<|dR near,rfl,bW.of hD7,rfl,bW.of aec,λn hn=>?_,tab.same X,λH8 M J2 hpm ZG hfl sS aez I N=>?_]
   .delta dq at hn;obtain⟨i,hi,rfl⟩:=a_.mp hn;let:=vv near 0 i hi;rw[eL,aj];omega
   obtain⟨g,rfl,hso⟩:=YG hpm ZG hfl;let ne7:∀{b:Addr}{xs:List V},H7 b>.lst xs->b≠PT:=λe=>(tab.same X).ne e (by intro ps z;cases z);let kp:∀{b:Addr}{xs:List V},H7 b>.lst xs->(upd H8 M<|.lst<|(dq g).map V.int) b>.lst xs:=λ{b xs} e=>by let e8:=sS b _ (by let:=ne7 e;simpa using this) e;rw[aH (λz=>by rw[z,I]at e8;cases e8)];exact e8
   let S9:a' [PT] H (upd H8 M<|.lst<|(dq g).map V.int):=((cX X).trans sS).trans (cX<|lay0 I);let O:Tab PT (upd H8 M<|.lst<|(dq g).map V.int):=aez.same<|lay0 I;let Y:(upd H8 M<|.lst<|(dq g).map V.int) M>(.lst<|(dq g).map V.int):=au;let Z:=kp hD7;let R:=kp h7;generalize upd H8 M (.lst<|(dq g).map V.int)=H9 at S9 O Y Z R;let ZK:↑g=↑(cZ near 0):=hso.1.length_eq;let nDl:D≠lo:=λz=>by rw[<-z]at p;rw[(s6 _ _<|s5 _ _ h4)]at p;cases p
   let nzl:M≠lo:=λz=>by rw[z,h7]at N;cases N
   let#[Pv,J]:=oh λi σ H1=>∃x4 x5,σ=[~~~.ref a,~~~.ref D,~~~.ref qm,~~~.ref lo,x4,x5]/\a' [PT] H H1/\Tab PT H1/\H1 M>(.lst<|(dq g).map V.int)/\H1 D>(.lst<|(dq<|cZ near 0).map V.int)/\H1 lo>(.lst<|(dq<|qF near g i).map V.int);refine#[D,M,_,_,rfl,bW.of Z,bW.of Y,LG (K:=K) (a:=D) (b:=M) (xs:=(dq<|cZ near 0).map V.int) (ys:=(dq g).map V.int) Pv (by rw[aj,aj,eL,eL,ZK]) (J.mpr #[none,none,rfl,S9,O,Y,Z,R]) (λi σ H1 _ z=>?_) ?_ ?_]
   .let#[_,_,_,_,_,h1,h2,_]:=J.mp z;exact#[bW.of h2,bW.of h1]
   .intro i v u σ H1 T1 hv hu G JO;obtain⟨x4,x5,rfl,S1,L,hz1,SH,j⟩:=J.mp G;delta dq at hv hu;rw[aS,ak]at hv hu;cases qv:(cZ near 0)[i]? with
    |none=>rw[qv]at hv;cases hv
    |some pl=>
     cases qu:g[i]? with
     |none=>rw[qu]at hu;cases hu
     |some mv=>
      rw[qv]at hv;rw[qu]at hu;let ev:V.int (pl:Int)=v:=aO hv;let eu:V.int (mv:Int)=u:=aO hu;subst ev eu;let NB:=vv near 0 pl<|ax qv;let k2:a8 H1 (upd H1 T1 (.tup [.int (pl:Int),.int (mv:Int)])):=lay0 JO;lia;exists _,f9.of au,rfl;lia;let ix:Fm ↑((dq<|qF near g i).map V.int) (pl:Int)>pl:=by delta Fm;rw[ac oM,ac<|by rw[aj,eL,JB];omega,aT]
      refine#[_,k2 _ _ j,pl,ix,J.mpr #[_,_,rfl,(S1.same k2).lay loH,?_,by rw[aH nzl];exact k2 _ _ hz1,by rw[aH nDl];exact k2 _ _ SH,?_]]
      .refine(L.same k2).mono (S:=[lo]) ((a'.refl _ _).upd sP) ?_ λb hb o e φ=>?_
       .grind
       .let:b=lo:=by simpa using hb
        subst this;rw[k2 _ _ j]at e;let:=aO e;subst this;intro z;cases z
      .rw[au,GU near qv qu];delta dq;rw[e_,e_]
   .intro σ H1 G;obtain⟨x4,x5,rfl,S1,L,hz1,SH,j⟩:=J.mp G;rw[aj,eL,JA near ZK]at j;lia;exact k H1 lo g S1 L loH hso j
def dE.tab{x r PT:Addr}(h:dE l H x r f o)(t:Tab PT H)(s:a' [PT] H g):dE l g x r f o:=by let#[m,e,k,c,rows,L]:=h;let a:∀b u,H b>u->(∀ps,u≠.vL ps)->g b>u:=λb u i n=>s b u (by let:=t.ne i n;simpa using this) i;refine#[m,e,k,c,rows,a _ _ L.ins (by intro ps z;cases z),#[a _ _ L.arcs.lst (by intro ps z;cases z),λu d=>a _ _ (L.arcs.tup u d) (by intro ps z;cases z)],L.ea,a _ _ L.rk (by intro ps z;cases z),a _ _ L.lst (by intro ps z;cases z),λy j=>#[a _ _ (L.row y j).lst (by intro ps z;cases z),λu d=>a _ _ ((L.row y j).tup u d) (by intro ps z;cases z)],L.eo,L.wf,L.l1,L.l2,L.l3,L.n1,L.n2,L.n3]
def dE.rl(h:dE a H x r f o):∃xs,H r>.lst xs:=let#[_,_,_,_,_,L]:=h;#[_,L.lst]
def FT(CL PT:Addr):Sp:=λvs H Q _=>∃x r f o down d,vs=[.ref x,.int d]/\d=(if down=true then 0 else 1)/\dE CL H x r f o/\Tab PT H/\∀H',a' [r,PT] H H'->Tab PT H'->dE CL H' x r f (gJ f o down)->Q .fP H'
def T2(n):((ay<|n-1).map λ(i:Nat)=>V.int<|1+i*1)=(dq<|ik n true).map V.int:=by delta dq ik;rw[ac rfl,aS,aS];exact bK λi _=>by simp;omega
def Qu(n):((ay<|n-1).map λ(i:Nat)=>V.int ((n:Int)-2+i*-1))=(dq<|ik n false).map V.int:=by
 delta dq ik;rw[aa sP,aS];apply cq;intro j;rw[ak,ak];by_cases c:j<n-1
 .grind
 .grind
def Cm{s PT x r l:Addr}(hd:d=(if down=true then 0 else 1))(Z:dE s H x r f o)(tab:Tab PT H)(s5:a8 H H5)(E:H l=none)(h5:H5 l>.lst ((dq (ik f.count down)).map V.int))
  (k:∀σ F,a' [r,PT] H F->Tab PT F->dE s F x r f (gJ f o down)->De.nx σ F):
  YN (D3 K (lN 3)) (pR 4) (Cn (YL (Eo s) E0 (jo (lN 0) (jo (lN 4) (jo (YL (YD PT) E0 (jo (YL (Cf s) E0 (jo (lN 0) (jo (lN 4) (jo (lN 1) oG)))) oG)) oG))))) De [~~~.ref x,~~~.int d,~~~.int n,~~~.ref l,none] H5:=by
 let#[xs0,I]:=Z.rl;let J:l≠r:=λz=>by rw[z,I]at E;cases E
 let L:l≠PT:=λz=>by obtain t|⟨_,t,_⟩:=tab<;>(rw[z,t]at E;cases E)
 let#[Pv,c]:=oh λi σ H1=>∃M,σ=[~~~.ref x,~~~.int d,~~~.int n,~~~.ref l,M]/\a' [r,PT] H H1/\Tab PT H1/\dE s H1 x r f (((ik f.count down).take i).foldl (p' f down) o)/\H1 l>.lst ((dq (ik f.count down)).map V.int);refine#[_,rfl,l,rfl,#[_,bW.of h5],eH (K:=K) (a:=l) (xs:=(dq (ik f.count down)).map V.int) Pv (c.mpr #[none,rfl,cX s5,tab.same s5,Z.mono s5,h5]) (λi σ H1 _ z=>?_) ?_ ?_]
 .let#[_,_,_,_,_,G]:=c.mp z;exact bW.of G
 .intro i v σ H1 y N;obtain⟨M,rfl,O,t1,A,G⟩:=c.mp N;delta dq at y;rw[aS,ak]at y;cases q:(ik f.count down)[i]? with
  |none=>rw[q]at y;cases y
  |some g=>
   rw[q]at y;let ex:V.int (g:Int)=v:=aO y;subst ex;let B:=Km (ax q);let Q:=A;let#[dx,e,kk,ii,rows,R]:=Q;lia;refine#[x,r,f,_,g,down,d,rfl,hd,A,B,λH2 a h s2 ha na ea=>?_];let C:=A.mono s2;let ok:=BI R.wf R.l1 R.l2 down g;refine#[a,h,_,rfl,na,ea,ok,t1.same s2,λH3 q3 D S t3 j m h3=>?_];let T:=C.tab (t1.same s2) S;let U:q3≠r:=λz=>by rw[z]at j;let#[_,X]:=C.rl;rw[X]at j;cases j
   refine#[x,r,q3,f,_,g,je (iq f (((ik f.count down).take i).foldl (p' f down) o) down g) 0 D,rfl,T,B,h3,U,?_,λH4 Y L4=>c.mpr #[_,rfl,?_,?_,?_,?_]]
   .let:=FI _ m.1;rw[ko]at this;exact this
   .exact((O.same s2).trans (S.mono sP)).trans (Y.mono sP)
   .refine t3.mono Y ?_ λb hb u hu φ=>?_
    .let#[_,p]:=T.rl;let:=t3.ne p (by intro ps z;cases z);simpa using eG this
    .let:b=r:=by simpa using hb
     subst this;let#[_,p]:=T.rl;rw[p]at hu;let:=aO hu;subst this;intro z;cases z
   .rw[aN,q,dj,d5,cy,List.foldl_nil];show dE s H4 x r f ((((ik f.count down).take i).foldl (p' f down) o).set g (Vadiab.byMiddles f (((ik f.count down).take i).foldl (p' f down) o) down g));rw[E1 f _ down g _ rfl D m.2.1 m.2.2];exact L4
   .exact Y _ _ (by simpa using J) (S _ _ (by simpa using L) (s2 _ _ G))
 .intro σ H1 N;obtain⟨M,rfl,O,t1,A,G⟩:=c.mp N;rw[aj,eL,br,<-RL]at A;exact k _ H1 O t1 A
def z_(T:Txt K mg)(U:qy K mg){j PT f:Addr}(D:fW K j ["edges","ranks","rows"])(h:iW K mg "make_sweep" w_ f fd)(a:Good P w K mg aD dO 3 "neighbours_on" ["layout","rank","side"] (Cf j))(b:Good P w K mg aD dO 3 "by_middles" ["near"] (YD PT))
  (c:Good P w K mg aD dO 1 "reorder" ["layout","rank","places"] (Eo j)):Good P w K mg aD dO 4 "make_sweep" ["layout","direction"] (FT j PT):=by
 refine h.gd ["layout","direction","count","ranks","rank"] λI A outer s H vs Q E p q h=>?_;obtain⟨x,r,fr,o,down,d,rfl,hd,u,tab,k⟩:=h;let#[J,e,O,M,rows,L]:=id u;let l3:=L.l3;let v:=L.ou;exists _,(aw (st 2 p<|bO (ia K) rfl T.len dB (da<|fld K v0))
  (aw (st 3 p<|dL (lZ rfl) rfl T.list i' (da<|dL Nb rfl T.range pO<|ir aV v2))
  (aw (dI (bG il v1 (oY U.UP) (b9 _)) (aC<|st 3 p<|dL (lZ rfl) rfl T.list i' (da<|dL Nc rfl T.range pO<|AF (fV qN v2 aV) (oX ls aV) (oX ls aV))) cg)
  (aC<|dM aY rfl (qh K v3) (pn 4 p) (aC<|cO<|p0 c q<|AF v0 v4<|p0 b q<|da<|p0 a q<|AF v0 v4 v1)))))
 lia;refine#[j,J,_,L.ins,D.cl,D.no "rows" sP,_,rfl,r,rfl,_,.inl<|bW.of L.lst,λi y=>?_];rw[aj,v];let s1:a8 H (upd H i (kq i 1 (fr.count:Int) 1)):=lay0 y;refine#[_,_,_,au,tI dC dC oM oM,fr.count-1,xz 1 fr.count,oM,λl F=>?_];rw[T2];let s2:a8 H (upd (upd H i (kq i 1 (fr.count:Int) 1)) l (.lst<|(dq<|ik fr.count true).map V.int)):=lay s1<|bh s1 F;let z:=bh s1 F;cases down with
 |true=>
  let g:d=0:=hd;subst g;refine#[rfl,(aa dC).mpr ?_];exact Cm (K:=K) hd u tab s2 z au λS B S' t' C=>k B S' t' C
 |false=>
  let g:d=1:=hd;subst g;refine#[rfl,(ac rfl).mpr #[dC,DF dC,λG m=>?_]];generalize upd (upd H i (kq i 1 (fr.count:Int) 1)) l (.lst<|(dq<|ik fr.count true).map V.int)=N at s2 m|-;let s3:a8 H (upd N G (kq G ((fr.count:Int)-2) (-1) (-1))):=lay s2<|bh s2 m;refine#[_,_,_,au,PySem.W.small_down oM oM dC dC,fr.count-1,?_,oM,λR n=>?_]
  .rw[PySem.W.rangeSize_downNat];omega
  rw[Qu];exact Cm (K:=K) hd u tab (lay s3<|bh s3 n) (bh s3 n) au λS B S' t' C=>k B S' t' C
def zI.B4(L:zI i H x l e k r d rows f o){b:Nat}(c:b<f.count):
  ∃y,nj (rows.map λx=>V.ref x.1) (b:Int)>V.ref y/\∃xs,H y>.lst xs/\↑xs=↑(aL o b):=by
 let#[y,g,a,h]:=L.yx c;exact#[y.1,at_of (j:=b) rfl (by rw[ak,g];rfl),_,a.lst,by rw[aj,<-h,aj]]
def Ms(CL:Addr):Sp:=λvs H Q _=>∃x r f o rk,vs=[.ref x,.int (rk:Nat)]/\dE CL H x r f o/\rk<f.count/\∀H',a' [r] H H'->dE CL H' x r f (jz f (o,0) rk).1->Q (.int ((jz f (o,0) rk).2:Nat)) H'
def LV{i n:Nat}(h:l[i]?>n)(e:z=(i:Int)):nj ((dq l).map V.int) z>V.int (n:Int):=at_of (j:=i) e (by delta dq;rw[aS,ak,h];rfl)
def LW{l:List Nat}(h:i<↑l)(e:z=(i:Int)):Fm ↑((dq l).map V.int) z>i:=by subst e;delta Fm;rw[ac oM,ac<|by rw[aj,eL];omega,aT]
def HE(l)(i n:Nat):((dq l).map V.int).set i (V.int (n:Int))=(dq<|l.set i n).map V.int:=by delta dq;rw[e_,e_]
def Ad(T:Txt K mg)(cL:fW K J ["edges","ranks","rows"])(h:iW K mg "pass_along" xq f fd)(c:Good P w K mg aD dO 4 "both_sides" ["layout","rank"] (FS J))(a:Good P w K mg aD dO 1 "crossings_between" ["sides","left","right"] Rh)
  (d:Good P w K mg aD dO 1 "reorder" ["layout","rank","places"] (Eo J)):Good P w K mg aD dO 5 "pass_along" ["layout","rank"] (Ms J):=by
 refine h.gd ["layout","rank","sides","count","order","swaps","at","left","right"] λoz A outer s H vs Q E m M h=>?_;obtain⟨x,r,fr,o,b,rfl,hL,j,k⟩:=h;exists _,(aw (st 2 m<|p0 c M<|ir v0 v1)
  (aw (st 3 m<|bO (ia K) rfl T.len dB (da<|bM (j7 K) (fld K v0) v1 (λ_ _=>rfl)))
  (aw (st 4 m<|dL (lZ rfl) rfl T.list i' (da<|dL t_ rfl T.range pO<|da v3))
  (aw (st 5 m aV)
  (aw (dM aY rfl (jq rfl T.range<|da<|fV qN v3 aV) (pn 6 m) (aw (st 7 m<|bM (j7 K) v4 v6 (λ_ _=>rfl))
  (aw (st 8 m<|bM (j7 K) v4 (fV jL v6 aV) (λ_ _=>rfl))
  (aC (dI (bG kz (p0 a M<|AF v2 v8 v7) (p0 a M<|AF v2 v7 v8) (b9 _)) (aw (vC v8<|vB v4 v6 set_list)
  (aw (vC v7<|vB v4 (fV jL v6 aV) set_list)
  (aC (qT (i:=5) m rfl (by first|exact lX rfl|exact mP rfl) aV sK)))) cg)))))
  (aw (cO<|p0 d M<|AF v0 v1 v4)
  (aC<|bC v5)))))))
 lia;refine#[x,r,fr,o,b,rfl,hL,j,λH1 t s1 ht hS=>?_];let B:=hL.mono s1;let#[dx,e,kk,ii,rows,L]:=id B;let#[y,ar,xs,hy,R]:=L.B4 j;let ln:=o3 L.wf L.l1 L.l2 j;let nu:=BI L.wf L.l1 L.l2 true b;let nl:=BI L.wf L.l1 L.l2 false b;let lu:=ko fr o true b;let ll:=ko fr o false b;refine#[J,dx,_,L.ins,cL.cl,cL.no "rows" sP,_,rfl,r,rfl,_,bW.of L.lst,_,ar,y,rfl,_,.inl<|bW.of hy,λn S=>?_];rw[R];let pm:=HH (jE fr o b) ↑(aL o b);let p:=vA fr o 0 b;let D:∀i,i+1<=↑(aL o b)\/i=0->(lc (jE fr o b) ↑(aL o b) i).1.Perm (ay ↑(aL o b)):=qQ _ _;let U:jE fr o b=O1 (iq fr o true b) (iq fr o false b):=rfl;generalize hN:↑(aL o b)=N at ln lu ll pm D p;let s2:a8 H1 (upd H1 n (kq n 0 (N:Int) 1)):=lay0 S;refine#[_,_,_,au,tI dC dC oM oM,N,xz 0 N,oM,λlo F=>?_];rw[Fq];let s3:a8 H1 (upd (upd H1 n (kq n 0 (N:Int) 1)) lo (.lst<|(dq<|ay N).map V.int)):=lay s2<|bh s2 F;let h3:(upd (upd H1 n (kq n 0 (N:Int) 1)) lo (.lst<|(dq<|ay N).map V.int)) lo>(.lst<|(dq<|ay N).map V.int):=au;let lo1:H1 lo=none:=bh s2 F;generalize upd (upd H1 n (kq n 0 (N:Int) 1)) lo (.lst<|(dq<|ay N).map V.int)=H3 at s3 h3|-;let#[Pv,l]:=oh λi σ O=>∃X Y Z,σ=[~~~.ref x,some (.int (b:Int)),~~~.ref t,some (.int (N:Int)),~~~.ref lo,some (.int ((lc (jE fr o b) N i).2:Nat)),X,Y,Z]/\a8 H1 O/\O lo>(.lst<|(dq (lc (jE fr o b) N i).1).map V.int);let hjn:((N:Int)-1).toNat=N-1:=oM;refine xJ (H1:=H3) (Gf 0<|N-1) (λC hC=>?_) (l5 Pv (l.mpr #[none,none,none,rfl,s3,h3]) ?_ ?_)
 .lia;exists oM,oM;rw[hjn];exact hC
 .intro i σ O hi q;obtain⟨X,Y,Z,rfl,s4,G⟩:=l.mp q;let hp:=D i oM;let NB:=hp.length_eq;rw[cr]at NB;let#[lf,u]:∃lf,(lc (jE fr o b) N i).1[i]?>lf:=#[_,aq oM];let#[rt,v]:∃rt,(lc (jE fr o b) N i).1[i+1]?>rt:=#[_,aq oM];let b1:lf<N:=cb.mp<|hp.mem_iff.mp<|ax u;let b2:rt<N:=cb.mp<|hp.mem_iff.mp<|ax v;let e0:(0+(i:Int))=(i:Int):=oM;let g1:(lc (jE fr o b) N i).1.getD i 0=lf:=by rw[bz,u];rfl
  let g2:(lc (jE fr o b) N i).1.getD (i+1) 0=rt:=by rw[bz,v];rfl
  rw[e0];lia;exists _,bW.of G,_,LV u rfl,_,bW.of G,_,LV (z:=(i:Int)+1) v oM;refine#[t,_,_,rt,lf,rfl,hS.mono s4,oM,oM,oM,nu.Hj,nl.Hj,λH5 s5=>#[t,_,_,lf,rt,rfl,hS.mono<|s4.trans s5,oM,oM,oM,nu.Hj,nl.Hj,λH6 s6=>?_]];let I:=s5.trans s6;let h6:=I _ _ G;let s16:=s4.trans I;rw[<-U];exists _,rfl,_,rfl;let g:=qR (jE fr o b) N i;delta mr at g;simp only[g1,g2]at g;by_cases c0:jE fr o b rt lf<jE fr o b lf rt
  .rw[ac c0]at g;refine(ac<|ag oM).mpr #[_,h6,i,LW oM rfl,?_];rw[HE];refine#[_,au,i+1,LW (z:=(i:Int)+1) (by rw[ku];omega) oM,l.mpr #[some (.int (i:Int)),some (.int (lf:Int)),some (.int (rt:Int)),?_,?_,?_]]
   .rw[g];rfl
   .exact lay (lay s16 lo1) lo1
   .rw[HE,au,g]
  .grind
 .intro σ O q;obtain⟨X,Y,Z,rfl,s4,G⟩:=l.mp q;lia;let L4:=B.mono s4;let nlr:lo≠r:=λz=>by rw[z,L.lst]at lo1;cases lo1
  refine#[x,r,lo,fr,o,b,_,rfl,L4,j,G,nlr,by rw[hN];exact pm,λH5 S5 L5=>?_];rw[p,yO]at k;exact k H5 (((cX s1).trans (cX s4)).trans S5) L5
def FP(CL:Addr):Sp:=λvs H Q _=>∃x r f o,vs=[.ref x]/\dE CL H x r f o/\∀H',a' [r] H H'->dE CL H' x r f (kc f o).1->Q (.int ((kc f o).2:Nat)) H'
def HJ(f)(o)(n r):(jz f (o,n) r).1=(jz f (o,0) r).1/\(jz f (o,n) r).2=n+(jz f (o,0) r).2:=by rw[vA,vA];simp
def Bq(T:Txt K mg)(u:fW K j ["edges","ranks","rows"])(h:iW K mg "make_pass" zw f fd)(a:Good P w K mg aD dO 5 "pass_along" ["layout","rank"] (Ms j)):Good P w K mg aD dO 6 "make_pass" ["layout"] (FP j):=by
 refine h.gd ["layout","count","swaps","rank"] λy A outer s H vs Q E l z h=>?_;obtain⟨x,r,fr,o,rfl,v,k⟩:=h;let#[B,e,N,D,rows,L]:=id v;let l3:=L.l3;let m:=L.ou;exists _,(aw (st 1 l<|bO (ia K) rfl T.len dB (da<|fld K v0))
  (aw (st 2 l aV)
  (aw (dM aY rfl (jq rfl T.range<|da v1) (pn 3 l) (aC (qT (i:=2) l rfl (by first|exact lX rfl|exact mP rfl) (p0 a z<|ir v0 v3) sK)))
  (aC<|bC v2))))
 lia;exists j,B,_,L.ins,u.cl,u.no "rows" sP,_,rfl,r,rfl,_,.inl<|bW.of L.lst;rw[aj,m];let#[Pv,b]:=oh λi S d=>∃n,S=[~~~.ref x,some (.int (fr.count:Int)),some (.int ((kC fr o i).2:Nat)),n]/\a' [r] H d/\dE j d x r fr (kC fr o i).1;refine xJ (H1:=H) (Gf 0 fr.count) (λC F=>?_) (l5 Pv (b.mpr #[none,rfl,a'.refl _ _,v]) ?_ ?_)
 .lia;exists oM,oM;rw[aT];exact F
 .intro i S d G c;obtain⟨n,rfl,p,q⟩:=b.mp c;let I:(0+(i:Int))=(i:Int):=oM;rw[I];lia;let g:=HJ fr (kC fr o i).1 (kC fr o i).2 i;let J:=BV fr o i;refine#[x,r,fr,_,i,rfl,q,G,λO M R=>#[_,rfl,b.mpr #[some (.int (i:Int)),?_,p.trans M,?_]]]
  .let:(kC fr o<|i+1).2=(kC fr o i).2+(jz fr ((kC fr o i).1,0) i).2:=by rw[J];exact g.2
   rw[this,kJ]
  .grind
 .intro S d c;obtain⟨n,rfl,p,q⟩:=b.mp c;lia;exact k d p q
def WT(H:Hp)(a:Addr)(n:Nat)(wt:Nat->Nat->Nat):Prop:=∃rows:List (Addr×List Nat),H a>(.lst<|rows.map λx=>V.ref x.1)/\(∀x∈rows,H x.1>(.lst<|x.2.map hQ))/\rows.map (·.2)=(ay n).map λl=>(ay n).map λr=>wt l r
def WT.mono(h:WT H a n b)(s:a8 H c):WT c a n b:=let#[rows,d,e,f]:=h;#[rows,s _ _ d,λx g=>s _ _<|e x g,f]
def WT.at(h:WT H a n b)(g:i<n):∃rs y,H a>.lst rs/\nj rs (i:Int)>V.ref y/\∃c,H y>.lst c/\∀j,j<n->nj c (j:Int)>V.int (b i j:Nat):=by
 let#[rows,l,m,d]:=h;let p:↑rows=n:=by let:=af ck d;simpa using this
 let f:rows[i]?>rows[i]:=aq oM;refine#[_,rows[i].1,l,at_of (j:=i) rfl (by rw[ak,f];rfl),_,m _<|cx _,λj o=>at_of (j:=j) rfl ?_];let e:rows[i].2=(ay n).map λr=>b i r:=by let:=af (λz=>z[i]?) d;simp only[ak,f,fj g,bD]at this;exact aO this
 rw[e,aS,ak,fj o];rfl
def ab9:Sp:=λvs H Q _=>∃a t w n wt,vs=[.ref a,.ref t]/\H a>(.lst<|w.map hQ)/\WT H t n wt/\(∀x∈w,x<n)/\↑w<=100/\∀H',a8 H H'->Q (.int (iO wt w:Nat)) H'
def wq(T:Txt K mg)(h:iW K mg "crossings_of" tu f fd):Good P w K mg aD dO 1 "crossings_of" ["order","table"] ab9:=by
 refine h.gd ["order","table","count","at","right","left"] λN A outer s H vs Q E g hr h=>?_;obtain⟨a,t,w,n,o,rfl,u,O,hw,R,k⟩:=h;exists _,(aw (st 2 g aV)
  (aw (dM aY rfl (SR K T.enumerate (da v0)) (OY K 2 (eJ (pn 3 g) (eJ (pn 4 g) kf))) (aC (dM aY rfl (qh K (oo (YC K) v0 FD (lh v3))) (pn 5 g) (aC (qT (i:=2) g rfl (by first|exact lX rfl|exact mP rfl) (bM (j7 K) (bM (j7 K) v1 v5 (λ_ _=>rfl)) v4 (λ_ _=>rfl)) sK)))))
  (aC (bC v2))))
 lia;let#[Pv,b]:=oh λi σ H1=>∃x B d,σ=[~~~.ref a,~~~.ref t,some (.int (qD o w i:Nat)),x,B,d]/\a8 H H1;refine#[_,rfl,a,_,rfl,bW.of u,k4 (K:=K) (a:=a) (xs:=w.map hQ) Pv (b.mpr #[none,none,none,by rw[GI];rfl,a8.refl _]) (λi σ H1 _ z=>?_) ?_ ?_]
 .let#[_,_,_,_,s1]:=b.mp z;exact bW.of (s1 _ _ u)
 .intro i v σ H1 J S C D;obtain⟨x,B,d,rfl,s1⟩:=b.mp C;obtain⟨rt,q,rfl⟩:=gm S;let U:=gl q;let F:rt<n:=hw _ (ax q);lia;exists _,f9.of au,rfl;lia;let s2:a8 H1 (upd H1 J (.tup [.int (i:Int),hQ rt])):=lay0 D;generalize upd H1 J (.tup [.int (i:Int),hQ rt])=p at s2;refine#[_,rfl,_,rfl,_,rfl,a,_,rfl,bW.of (s2 _ _ (s1 _ _ u)),λl X=>?_];rw[GK,<-iQ];let s3:a8 p (upd p l (.lst ((w.take i).map hQ))):=lay0 X;let G:(upd p l (.lst ((w.take i).map hQ))) l>.lst ((w.take i).map hQ):=au;generalize upd p l (.lst ((w.take i).map hQ))=L at s3 G;let j:a8 H L:=s1.trans (s2.trans s3);let#[Y,c]:=oh λm σ r=>∃d,σ=[~~~.ref a,~~~.ref t,some (.int ((qD o w i+fo ((w.take i).take m) λy=>o y rt:Nat):Int)),some (.int (i:Int)),~~~hQ rt,d]/\r=L;refine#[l,rfl,#[_,bW.of G],eH (K:=K) (a:=l) (xs:=(w.take i).map hQ) Y (c.mpr #[d,by simp[fo],rfl]) (λm σ r _ z=>?_) ?_ ?_]
  .obtain⟨_,_,rfl⟩:=c.mp z;exact bW.of G
  .intro m v σ r hm e;obtain⟨d,rfl,rfl⟩:=c.mp e;obtain⟨lf,M,rfl⟩:=gm hm;let I:lf<n:=hw _ (eW (ax M));let#[rs,y,t1,Z,cs,t3,t4]:=(O.mono j).at I;lia;refine#[_,bW.of t1,_,Z,_,rfl,_,bW.of t3,_,t4 rt F,_,rfl,c.mpr #[~~~hQ lf,?_,rfl]];rw[aN,M,dj,Oq];simp[kJ,WL]
  .intro σ r e;obtain⟨d,rfl,rfl⟩:=c.mp e;rw[aj,br,<-GH o q];exact b.mpr #[_,_,_,rfl,j]
 .intro σ H1 C;obtain⟨x,B,d,rfl,s1⟩:=b.mp C;rw[aj,Jv];lia;exact k H1 s1
def Sw(H:Hp)(a:Addr)(rows:List (Addr×List Nat)):Prop:=H a>(.lst<|rows.map λx=>V.ref x.1)/\∀x∈rows,H x.1>(.lst<|x.2.map hQ)
def Sw.mono(h:Sw H a rows)(s:a8 H b):Sw b a rows:=#[s _ _ h.1,λx c=>s _ _<|h.2 x c]
def Wr:Sp:=λvs H Q _=>∃t nu nd n,vs=[.ref t,.int (n:Nat)]/\DJ H t nu nd/\↑nu=n/\↑nd=n/\n<=100/\(∀l∈nu,↑l<=100)/\(∀l∈nd,↑l<=100)/\∀H' q,a8 H H'->H q=none->WT H' q n (O1 nu nd)->Q (.ref q) H'
def sG(T:Txt K mg)(h:iW K mg "crossings_table" o9 f fd)(a:Good P w K mg aD dO 1 "crossings_between" ["sides","left","right"] Rh):Good P w K mg aD dO 2 "crossings_table" ["sides","count"] Wr:=by
 refine h.gd ["sides","count","table","left","right"] λS A outer s H vs Q E v U h=>?_;obtain⟨t,y,nl,n,rfl,X,l1,l2,ln,Y,Z,k⟩:=h;exists _,(aw (st 2 v<|dr ib)
  (aw (dM aY rfl (jq rfl T.range<|da v1) (pn 3 v) (aC (cO (bm K aX bU bV fT v2 (da (oW rfl v (jq rfl T.range<|da v1) (pz [("right",4)]) (λ_ _ _ _ _=>(pn 4 v)) (λ_ _ _ _ _=>jX) (λ_ _ _ _ _=>(p0 a U<|AF v0 v3 v4))))))))
  (aC<|bC v2)))
 lia;refine#[sZ,λq L=>?_];let s1:a8 H (upd H q<|.lst []):=lay0 L;let O:(upd H q<|.lst []) q>.lst []:=au;generalize upd H q (.lst [])=H1 at s1 O|-;let#[Pv,c]:=oh λi F o=>∃M rows,F=[~~~.ref t,some (.int (n:Int)),~~~.ref q,M,none]/\a8 H o/\Sw o q rows/\(∀x∈rows,x.1≠q)/\rows.map (·.2)=(ay i).map λl=>(ay n).map λr=>O1 y nl l r;refine xJ (H1:=H1) (Gf 0 n) (λC hC=>?_) (l5 Pv (c.mpr #[none,[],rfl,s1,#[O,sP],sP,rfl]) ?_ ?_)
 .lia;exists oM,oM;rw[aT];exact hC
 .intro i F o hi e;obtain⟨M,rows,rfl,s2,b,p,B⟩:=c.mp e;let e0:(0+(i:Int))=(i:Int):=oM;let ZJ:↑rows=i:=by let:=af ck B;simpa using this
  rw[e0];lia;refine#[.inl #[rfl,_,bW.of b.1],_,rfl,(n:Int),rfl,oM,oM,λD G=>?_];let#[Pk,d]:=Ft λm I=>a8 o I/\I D>(.lst<|((ay m).map λr=>O1 y nl i r).map hQ);refine wE (n:=(n:Int).toNat) Pk (d.mpr #[lay0 G,by rw[au];rfl]) ?_ ?_
  .intro j I hj g;let#[s4,J]:=d.mp g;rw[aT]at hj;let e1:(0+(j:Int))=(j:Int):=oM;rw[e1];lia;refine#[t,y,nl,i,j,rfl,X.mono<|s2.trans s4,oM,oM,oM,Y,Z,λH5 s5=>#[_,s5 _ _ J,by rw[aj,aj,cr,aK];omega,d.mpr #[lay (s4.trans s5) G,?_]]];rw[au,c_];simp
  .intro I g;let#[s4,J]:=d.mp g;rw[aT]at J;let u:=b.mono s4;let N:D≠q:=λz=>by rw[z,b.1]at G;cases G
   refine#[_,u.1,sZ,c.mpr #[_,rows++[(D,(ay n).map λr=>O1 y nl i r)],rfl,lay (s2.trans s4) L,#[by rw[au];simp,λx R=>?_],λx R=>?_,?_]]
   .obtain m|m:=aM.mp R
    .rw[aH (p x m)];exact u.2 x m
    .rw[bd.mp m,aH N];exact J
   .grind
   .rw[aJ,B,c_,aJ];rfl
 .intro F o e;obtain⟨M,rows,rfl,s2,b,p,B⟩:=c.mp e;lia;exact k o q s2 L #[rows,b.1,b.2,B]
def Re:Sp:=λvs H Q _=>∃n,vs=[.int (n:Nat)]/\n<=6/\∀H' q rows,a8 H H'->H q=none->Sw H' q rows->rows.map (·.2)=mz n n->(∀x∈rows,H x.1=none)->Q (.ref q) H'
def Hl(l)(ws)(w):jW l (ws++[w])=jW l ws++(l.filter λy=>decide<|y∉w).map λy=>w++[y]:=by delta jW;rw[dX];simp
def BH(w):w.map hQ=(dq w).map V.int:=(BM w).symm
def TU(n:Nat)(w:List Nat):SM (.int (n:Int)) (w.map hQ)=decide (n∈w):=by
 rw[BH,wB];delta dq;rw[decide_eq_decide,a_];constructor
 .grind
 .grind
def PZ(w:List Nat):(w.map hQ).all lS=true:=by rw[eZ];intro x a;obtain⟨n,_,rfl⟩:=a_.mp a;rfl
def zW(T:Txt K mg)(h:iW K mg "all_orders" wV f fd):Good P w K mg aD dO 1 "all_orders" ["count"] Re:=by
 refine h.gd ["count","orders","step","longer","order","place"] λoz A outer s H vs Q E I hr h=>?_;obtain⟨n,rfl,ln,k⟩:=h;exists _,(aw (st 1 I<|dr<|da<|dr ib)
  (aw (dM aY rfl (jq rfl T.range<|da v0) (pn 2 I) (aw (st 3 I<|dr ib)
  (aw (dM aY rfl (qh K v1) (pn 4 I) (aC (cO (bm K aX dm dn iV v3 (da (oW rfl I (jq rfl T.range<|da v0) (pz [("place",5)]) (λ_ _ _ _ _=>(pn 5 I)) (λ_ _ _ _ _=>(mq<|bG (Fv K) v5 v4 (by with_unfolding_all rfl))) (λ_ _ _ _ _=>(fV qM v4<|dr<|da v5))))))))
  (aC<|st 1 I v3))))
  (aC<|bC v1)))
 lia;refine#[sZ,λp0 Qh=>#[sZ,λJ o=>?_]];let s0:a8 H (upd H p0<|.lst []):=lay0 Qh;let s1:a8 H (upd (upd H p0<|.lst []) J (.lst [.ref p0])):=lay s0<|bh s0 o;let nq:p0≠J:=λz=>by rw[<-z,au]at o;cases o
 let h1:Sw (upd (upd H p0<|.lst []) J (.lst [.ref p0])) J [(p0,[])]:=#[au,λx b=>by rw[bd.mp b,aH nq,au];rfl];let f1:∀x∈[((p0:Addr),([]:List Nat))],H x.1=none:=λx b=>by rw[bd.mp b];exact Qh
 let hq1:H J=none:=bh s0 o;generalize upd (upd H p0<|.lst []) J (.lst [.ref p0])=H1 at s1 h1|-;let#[Pv,p]:=oh λi F e=>∃q x2 x3 B rows,F=[some (.int (n:Int)),~~~.ref q,x2,x3,B,none]/\a8 H e/\H q=none/\Sw e q rows/\rows.map (·.2)=mz n i/\∀x∈rows,H x.1=none;refine xJ (H1:=H1) (Gf 0 n) (λC hC=>?_) (l5 Pv (p.mpr #[J,none,none,none,[(p0,[])],rfl,s1,hq1,h1,rfl,f1]) ?_ ?_)
 .lia;exists oM,oM;rw[aT];exact hC
 .intro i F e hi L;obtain⟨q,x2,x3,B,rows,rfl,s2,hqH,l2,Y,f2⟩:=p.mp L;let e0:(0+(i:Int))=(i:Int):=oM;let ZJ:↑rows<=6^i:=by rw[show ↑rows=↑(mz n i) by rw[<-Y,aj]];exact Gu ln i
  let ZG:(6:Nat)^i<=6^6:=uA oM oM;let aff:(6:Nat)^6=46656:=dC;rw[e0];lia;refine#[sZ,λg hg=>?_];let s3:a8 e (upd e g<|.lst []):=lay0 hg;let h3:Sw (upd e g<|.lst []) g []:=#[au,sP];generalize upd e g (.lst [])=H3 at s3 h3|-;let gH:H g=none:=bh s2 hg;let#[Pw,c]:=oh λm F M=>∃B r,F=[some (.int (n:Int)),~~~.ref q,some (.int (i:Int)),~~~.ref g,B,none]/\a8 e M/\Sw M g r/\r.map (·.2)=jW (ay n) ((mz n i).take m)/\∀x∈r,H x.1=none/\x.1≠g;refine#[_,rfl,q,rfl,#[_,bW.of<|s3 _ _ l2.1],eH (K:=K) (a:=q) (xs:=rows.map λx=>V.ref x.1) Pw (c.mpr #[B,[],rfl,s3,h3,rfl,sP]) (λm F M _ z=>?_) ?_ ?_]
  .let#[_,_,_,s4,_]:=c.mp z;exact bW.of (s4 _ _ l2.1)
  .intro m v F M hm N;obtain⟨B,r,rfl,s4,O,e4,f4⟩:=c.mp N;obtain⟨y,qq,rfl⟩:=gm hm;let hy:=ax qq;let G:(mz n i)[m]?>y.2:=by rw[<-Y,ak,qq];rfl
   let hyl:↑y.2=i:=(vV n i y.2<|ax G).1;let hy4:=s4 _ _<|l2.2 y hy;let hlr:↑r<=↑rows*n:=by let h1:=zc n<|(mz n i).take m;rw[<-e4,aj]at h1;refine bu h1<|gS _ ?_;rw[bN,<-Y,aj];omega
   let afa:↑r<=46656*6:=bu hlr<|uz oM ln;lia;refine#[.inl #[rfl,_,bW.of O.1],_,rfl,(n:Int),rfl,oM,oM,λD hD=>?_];let#[Pk,d]:=Ft λj u=>∃l,a8 M u/\Sw u D l/\l.map (·.2)=((ay j).filter λz=>decide<|z∉y.2).map (λz=>y.2++[z])/\∀x∈l,M x.1=none/\x.1≠D;refine wE (n:=(n:Int).toNat) Pk (d.mpr #[[],lay0 hD,#[au,sP],rfl,sP]) ?_ ?_
   .intro j u hj R;let#[l,s5,Z,S,U]:=d.mp R;rw[aT]at hj;let e1:(0+(j:Int))=(j:Int):=oM;let hnr:↑l<=j:=by let:=af ck S;rw[aj,aj]at this;rw[this];exact bu (ca _ _) sP
    rw[e1];lia;exists _,.inl<|bW.of<|s5 _ _ hy4,rfl,PZ _;rw[TU];by_cases c0:j∈y.2
    .rw[ag c0];refine(aa sP).mpr (d.mpr #[l,s5,Z,?_,U]);rw[S,c_,cF];simp[c0]
    .rw[ah c0];refine(ac rfl).mpr #[by show 1<=sizeLine;rw[aK];omega,λp6 hp6=>?_];let s6:a8 u (upd u p6 (.lst [.int (j:Int)])):=lay0 hp6;let h6:(upd u p6 (.lst [.int (j:Int)])) p6>.lst [.int (j:Int)]:=au;generalize upd u p6 (.lst [.int (j:Int)])=H6 at s6 h6|-;refine#[_,s6 _ _<|s5 _ _ hy4,_,h6,by rw[aj,aK];show ↑y.2+1<=_;omega,λp7 IX=>?_];let e7:y.2.map hQ++[V.int (j:Int)]=(y.2++[j]).map hQ:=by rw[aJ];rfl
     rw[e7];let s7:a8 H6 (upd H6 p7<|.lst<|(y.2++[j]).map hQ):=lay0 IX;let l7:=Z.mono<|s6.trans s7;let X:u p7=none:=bh s6 IX;let p7D:p7≠D:=λz=>by rw[z,Z.1]at X;cases X
     refine#[_,l7.1,sZ,d.mpr #[l++[(p7,y.2++[j])],lay (s5.trans<|s6.trans s7) hD,#[by rw[au];simp,λx b=>?_],?_,λx b=>?_]]
     .obtain m|m:=aM.mp b
      .rw[aH (U x m).2];exact l7.2 x m
      .rw[bd.mp m,aH p7D,au]
     .rw[aJ,S,c_,cF];simp[c0]
     .obtain m|m:=aM.mp b
      .exact U x m
      .rw[bd.mp m];exact#[bh s5 X,p7D]
   .intro u R;let#[l,s5,Z,S,U]:=d.mp R;rw[aT]at S;let hnr:↑l<=n:=by let:=af ck S;rw[aj,aj]at this;rw[this];exact bu (ca _ _) sP
    let l45:=O.mono s5;let nDg:D≠g:=λz=>by rw[z,O.1]at hD;cases hD
    let DH:H D=none:=bh (s2.trans s4) hD;refine#[D,rfl,_,l45.1,_,Z.1,sZ,c.mpr #[_,r++l,rfl,lay (s4.trans s5) hg,#[by rw[au,aJ],λx b=>?_],?_,λx b=>?_]]
    .obtain m|m:=aM.mp b
     .rw[aH (f4 x m).2];exact l45.2 x m
     .let:x.1≠g:=λz=>by let:=(U x m).1;rw[z,O.1]at this;cases this
      rw[aH this];exact Z.2 x m
    .rw[aJ,e4,S,aN,G,dj,Hl]
    .obtain m|m:=aM.mp b
     .exact f4 x m
     .exact#[bh (s2.trans s4) (U x m).1,λz=>by let:=(U x m).1;rw[z,O.1]at this;cases this]
  .intro F M N;obtain⟨B,r,rfl,s4,O,e4,f4⟩:=c.mp N;rw[aj,show ↑rows=↑(mz n i) by rw[<-Y,aj],br]at e4;lia;exact p.mpr #[g,_,_,_,r,rfl,s2.trans s4,gH,O,e4,λx b=>(f4 x b).1]
 .intro F e L;obtain⟨q,x2,x3,B,rows,rfl,s2,hqH,l2,Y,f2⟩:=p.mp L;lia;exact k e q rows s2 hqH l2 Y f2
def Mu(CL:Addr):Sp:=λvs H Q _=>∃x r f o rk,vs=[.ref x,.int (rk:Nat)]/\dE CL H x r f o/\rk<f.count/\↑(aL o rk)<=6/\∀H' q,a8 H H'->H q=none->H' q>(.lst<|(dq<|vZ (jE f o rk) ↑(aL o rk)).map V.int)->Q (.ref q) H'
def zX(T:Txt K mg)(cL:fW K Z ["edges","ranks","rows"])(h:iW K mg "best_order" wW f fd)(j:Good P w K mg aD dO 4 "both_sides" ["layout","rank"] (FS Z))(d:Good P w K mg aD dO 2 "crossings_table" ["sides","count"] Wr)
  (c:Good P w K mg aD dO 1 "crossings_of" ["order","table"] ab9)(l:Good P w K mg aD dO 1 "all_orders" ["count"] Re):Good P w K mg aD dO 5 "best_order" ["layout","rank"] (Mu Z):=by
 refine h.gd ["layout","rank","count","table","best","fewest","order","found"] λoz A outer s H vs Q E D O h=>?_;obtain⟨x,r,fr,o,g,rfl,hL,R,h6,k⟩:=h;exists _,(aw (st 2 D<|bO (ia K) rfl T.len dB (da<|bM (j7 K) (fld K v0) v1 (λ_ _=>rfl)))
  (aw (st 3 D<|p0 d O<|ir (p0 j O<|ir v0 v1) v2)
  (aw (st 4 D<|dL (lZ rfl) rfl T.list i' (da<|dL t_ rfl T.range pO<|da v2))
  (aw (st 5 D<|p0 c O<|ir v4 v3)
  (aw (dM aY rfl (qh K<|p0 l O<|da v2) (pn 6 D) (aw (st 7 D<|p0 c O<|ir v6 v3)
  (aC<|dI (bG kz v7 v5<|b9 _) (aw (st 5 D v7)
  (aC<|st 4 D v6)) cg)))
  (aC<|bC v4))))))
 lia;let#[dx,e,kk,ii,rows,L]:=id hL;let#[y,ar,xs,hy,hxs]:=L.B4 R;let nu:=BI L.wf L.l1 L.l2 true g;let nl:=BI L.wf L.l1 L.l2 false g;let lu:=ko fr o true g;let ll:=ko fr o false g;exists Z,dx,_,L.ins,cL.cl,cL.no "rows" sP,_,rfl,r,rfl,_,bW.of L.lst,_,ar,y,rfl,_,.inl<|bW.of hy;rw[hxs];refine#[x,r,fr,o,g,rfl,hL,R,λH1 t s1 ht hS=>?_];generalize hN:↑(aL o g)=N at h6 lu ll k;refine#[t,_,_,N,rfl,hS,lu,ll,oM,nu.Hj,nl.Hj,λJ tb s2 htb hT F Qi=>?_];rw[show O1 (iq fr o true g) (iq fr o false g)=jE fr o g from rfl]at hT;let s3:a8 J (upd J F (kq F 0 (N:Int) 1)):=lay0 Qi;refine#[_,_,_,au,tI dC dC oM oM,N,xz 0 N,oM,λlo S=>?_];rw[Fq];let s4:a8 J (upd (upd J F (kq F 0 (N:Int) 1)) lo (.lst<|(dq<|ay N).map V.int)):=lay s3<|bh s3 S;let X:(upd (upd J F (kq F 0 (N:Int) 1)) lo (.lst<|(dq<|ay N).map V.int)) lo>(.lst<|(dq<|ay N).map V.int):=au;let loH:H lo=none:=bh (s1.trans<|s2.trans s3) S;generalize upd (upd J F (kq F 0 (N:Int) 1)) lo (.lst<|(dq<|ay N).map V.int)=H4 at s4 X|-;rw[<-BH]at X;refine#[lo,tb,ay N,N,_,rfl,X,hT.mono s4,λz hz=>cb.mp hz,by rw[cr];omega,λH5 s5=>?_];refine#[_,rfl,N,rfl,h6,λH6 q p s6 hq hO eO fO=>?_];let Wb:a8 H H6:=s1.trans<|s2.trans<|s4.trans<|s5.trans s6;let hT6:=hT.mono<|s4.trans<|s5.trans s6;let#[Pv,n]:=oh λi σ M=>∃b x6 x7,σ=[~~~.ref x,some (.int (g:Int)),some (.int (N:Int)),~~~.ref tb,~~~.ref b,some (.int ((((mz N N).take i).foldl (h_<|jE fr o g) (ay N,iO (jE fr o g) (ay N))).2:Nat)),x6,x7]/\a8 H6 M/\H b=none/\M b>.lst ((((mz N N).take i).foldl (h_<|jE fr o g) (ay N,iO (jE fr o g) (ay N))).1.map hQ);refine#[q,rfl,#[_,bW.of hO.1],eH (K:=K) (a:=q) (xs:=p.map λx=>V.ref x.1) Pv (n.mpr #[lo,none,none,rfl,a8.refl _,loH,s6 _ _<|s5 _ _ X]) (λi σ M _ z=>?_) ?_ ?_]
 .let#[_,_,_,_,B,_]:=n.mp z;exact bW.of (B _ _ hO.1)
 .intro i v σ M hi I;obtain⟨b,x6,x7,rfl,B,bH,U⟩:=n.mp I;obtain⟨u,qq,rfl⟩:=gm hi;let G:(mz N N)[i]?>u.2:=by rw[<-eO,ak,qq];rfl
  let fm:=vV N N u.2<|ax G;let hu:=hO.2 u<|ax qq;lia;refine#[u.1,tb,u.2,N,_,rfl,B _ _ hu,hT6.mono B,fm.2.2,oM,λH8 Y=>#[_,rfl,?_]];let m:((mz N N).take (i+1)).foldl (h_<|jE fr o g) (ay N,iO (jE fr o g) (ay N))=h_ (jE fr o g) (((mz N N).take i).foldl (h_<|jE fr o g) (ay N,iO (jE fr o g) (ay N))) u.2:=by rw[aN,G,dj,d5];rfl
  generalize((mz N N).take i).foldl (h_<|jE fr o g) (ay N,iO (jE fr o g) (ay N))=C at m U|-;rw[show h_ (jE fr o g) C u.2=if iO (jE fr o g) u.2<C.2 then(u.2,iO (jE fr o g) u.2)else C from rfl]at m;by_cases c0:iO (jE fr o g) u.2<C.2
  .rw[ac c0]at m;refine(ac<|ag oM).mpr (n.mpr #[u.1,~~~.ref u.1,some (.int (iO (jE fr o g) u.2:Nat)),?_,B.trans Y,?_,?_])
   .rw[m]
   .exact bh (s1.trans<|s2.trans<|s4.trans s5) (fO u<|ax qq)
   .rw[m];exact Y _ _ (B _ _ hu)
  .rw[aa c0]at m;refine(aa<|by simp only[decide_eq_true_eq];omega).mpr (n.mpr #[b,~~~.ref u.1,some (.int (iO (jE fr o g) u.2:Nat)),?_,B.trans Y,bH,?_])
   .rw[m]
   .rw[m];exact Y _ _ U
 .intro σ M I;obtain⟨b,x6,x7,rfl,B,bH,U⟩:=n.mp I;rw[aj,show ↑p=↑(mz N N) by rw[<-eO,aj],br]at U;lia;refine k M b (Wb.trans B) bH ?_;rw[U,BH];rfl
def uZ(H:Hp)(b r:Addr)(o:Order):Prop:=∃rows:List (Addr×List (Addr×Item)),H b>(.lst<|rows.map λx=>V.ref x.1)/\(∀x∈rows,Row H x.1 x.2/\x.1≠r/\x.1≠b)/\rows.map (λx=>x.2.map (·.2))=o/\b≠r
def uZ.mono{PT:Addr}(h:uZ H b r o)(t:Tab PT H)(d:∃xs,H r>.lst xs)(s:a' [r,PT] H f):uZ f b r o:=by let#[rows,m,n,p,g]:=h;let#[xs,d]:=d;let e:∀c u,H c>u->c≠r->(∀ps,u≠.vL ps)->f c>u:=λc u i q v=>s c u (by let:=t.ne i v;simp[q,this]) i;refine#[rows,e _ _ m g (by intro ps z;cases z),λx y=>?_,p,g];let#[a,j,c]:=n x y;exact#[#[e _ _ a.lst j (by intro ps z;cases z),λu l=>e _ _ (a.tup u l) (eI (a.tup u l) d sP) (by intro ps z;cases z)],j,c]
def zI.copy(L:zI g H x h e k r d rows f o)(a:H b=none):uZ (upd H b<|.lst<|rows.map λx=>V.ref x.1) b r o:=by
 let s:a8 H (upd H b<|.lst<|rows.map λx=>V.ref x.1):=lay0 a;refine#[rows,au,λy c=>#[(L.row y c).mono s,L.n3 y c,λz=>?_],L.eo,λz=>?_]
 .let:=(L.row y c).lst;rw[z,a]at this;cases this
 .let:=L.lst;rw[<-z,a]at this;cases this
def Ip(CL PT:Addr):Sp:=λvs H Q _=>∃x r f o,vs=[.ref x]/\dE CL H x r f o/\Tab PT H/\∀H' r',a' [x,r,PT] H H'->Tab PT H'->H r'=none->dE CL H' x r' f (A1 f o)->(∃u,H' r>u)->Q .fP H'
def dE.wf(h:dE a H x r f o):WF f o:=let#[_,_,_,_,_,L]:=h;L.wf
def Xc(f)(o):A1 f o=fin f (rO.foldl (setStep f) (o,o)).2:=by delta A1 fin;rw[Of]
def C8(d:Bool):V:=.int (if d=true then 0 else 1)
def Nh:(cp (4:Int).toNat [V.int 0,V.int 1]).flatten=rO.map C8:=dC
def wy(T:Txt K mg)(U:qy K mg){F PT f:Addr}(cL:fW K F ["edges","ranks","rows"])(h:iW K mg "settle_order" tF f fd)(g:Good P w K mg aD dO 5 "all_crossings" ["layout"] (uW F))(p:Good P w K mg aD dO 4 "make_sweep" ["layout","direction"] (FT F PT))
  (j:Good P w K mg aD dO 6 "make_pass" ["layout"] (FP F)):Good P w K mg aD dO 7 "settle_order" ["layout"] (Ip F PT):=by
 refine h.gd ["layout","best_rows","fewest","direction","found","swaps"] λoz A outer s H vs Q E Z hr h=>?_;obtain⟨x,r,fr,o,rfl,hL,tab,k⟩:=h;let#[dx,e,kk,ii,rows,L]:=id hL;exists _,(aw (st 1 Z (dL (listOf K) rfl T.list i' (da (fld K v0))))
  (aw (st 2 Z (p0 g hr (da v0)))
  (aw (dM aY rfl (qh K (fV QJ (dr (ir (oY U.ac2) (oY U.UP))) (oY U.xZ))) (pn 3 Z) (aw (cO (p0 p hr (ir v0 v3)))
  (aw (st 4 Z (p0 g hr (da v0)))
  (aC (dI (bG kz v4 v2 (b9 _)) (aw (st 2 Z v4)
  (aC (st 1 Z (dL (listOf K) rfl T.list i' (da (fld K v0)))))) cg)))))
  (aw (md K v0 v1)
  (aw (st 5 Z (p0 j hr (da v0)))
  (aC (jm aY (bG om v5 aV (b9 _)) (aC (st 5 Z (p0 j hr (da v0)))))))))))
 lia;refine#[F,dx,_,L.ins,cL.cl,cL.no "rows" sP,_,rfl,r,rfl,_,.inl (bW.of L.lst),λb hb=>?_];let s1:a8 H (upd H b (.lst (rows.map λx=>V.ref x.1))):=lay0 hb;let R1:=L.copy hb;generalize upd H b (.lst (rows.map λx=>V.ref x.1))=H1 at s1 R1|-;refine#[x,r,fr,o,rfl,hL.mono s1,λH2 s2=>?_];let X:=s1.trans s2;let hxP:x≠PT:=tab.ne L.ins (by intro ps z;cases z);let hxr:x≠r:=eI L.ins L.lst sP;let rl:∀{H':Hp}{o':Order},dE F H' x r fr o'->∃xs,H' r>.lst xs:=λh=>h.rl;let R2:uZ H2 b r o:=R1.mono (tab.same s1) (rl (hL.mono s1)) (cX s2);refine#[by show 2<=sizeLine;rw[aK];omega,λpd hpd=>?_];refine#[pd,4,_,rfl,rfl,au,dC,dC,by rw[aK];decide,λdl hdl=>?_];rw[Nh];let s3:a8 H2 (upd H2 pd (.lst [.int 0,.int 1])):=lay0 hpd;let s4:a8 H2 (upd (upd H2 pd (.lst [.int 0,.int 1])) dl (.lst (rO.map C8))):=lay s3 (bh s3 hdl);let h4:(upd (upd H2 pd (.lst [.int 0,.int 1])) dl (.lst (rO.map C8))) dl>.lst (rO.map C8):=au;let Y:H dl=none:=bh (X.trans s3) hdl;generalize upd (upd H2 pd (.lst [.int 0,.int 1])) dl (.lst (rO.map C8))=H4 at s4 h4|-;let s04:=X.trans s4;let ndr:dl≠r:=λz=>by rw[z,L.lst]at Y;cases Y
 let ndP:dl≠PT:=λz=>by obtain t|⟨_,t,_⟩:=tab<;>(rw[z,t]at Y;cases Y)
 let#[Pv,I]:=oh λi σ J=>∃b x3 x4,σ=[~~~.ref x,~~~.ref b,some (.int (dk fr ((rO.take i).foldl (setStep fr) (o,o)).2:Nat)),x3,x4,none]/\a' [r,PT] H J/\Tab PT J/\H b=none/\dE F J x r fr ((rO.take i).foldl (setStep fr) (o,o)).1/\uZ J b r ((rO.take i).foldl (setStep fr) (o,o)).2/\WF fr ((rO.take i).foldl (setStep fr) (o,o)).2/\J dl>.lst (rO.map C8);refine#[dl,rfl,#[_,bW.of h4],eH (K:=K) (a:=dl) (xs:=rO.map C8) Pv (I.mpr #[b,none,none,rfl,cX s04,tab.same s04,hb,hL.mono s04,R2.mono (tab.same X) (rl (hL.mono X)) (cX s4),L.wf,h4]) (λi σ J _ z=>?_) ?_ ?_]
 .let#[_,_,_,_,_,_,_,_,_,_,h5]:=I.mp z;exact bW.of h5
 .intro i v σ J hi Xs;obtain⟨C,x3,x4,rfl,S5,t5,G,L5,R5,W5,h5⟩:=I.mp Xs;obtain⟨d,q,rfl⟩:=gm hi;let n:(rO.take (i+1)).foldl (setStep fr) (o,o)=setStep fr ((rO.take i).foldl (setStep fr) (o,o)) d:=by rw[aN,q,dj,d5];rfl
  generalize(rO.take i).foldl (setStep fr) (o,o)=B at n L5 R5 W5|-;rw[show setStep fr B d=(gJ fr B.1 d,pw fr B.2 (gJ fr B.1 d))from rfl]at n;lia;refine#[x,r,fr,_,d,_,rfl,rfl,L5,t5,λO S6 t6 L6=>#[x,r,fr,_,rfl,L6,λR s7=>?_]];let S07:a' [r,PT] H R:=(S5.trans S6).same s7;let h7:R dl>.lst (rO.map C8):=s7 _ _ (S6 _ _ (by simp[ndr,ndP]) h5);let R7:uZ R C r B.2:=(R5.mono t5 (rl L5) S6).mono t6 (rl L6) (cX s7);let L7:=L6.mono s7;exists _,rfl;by_cases c0:dk fr (gJ fr B.1 d)<dk fr B.2
  .let eb:pw fr B.2 (gJ fr B.1 d)=gJ fr B.1 d:=by delta pw;rw[ac c0]
   rw[eb]at n;let#[dx7,e7,k7,ae7,ae5,LL7]:=id L7;refine(ac (ag oM)).mpr #[F,dx7,_,LL7.ins,cL.cl,cL.no "rows" sP,_,rfl,r,rfl,_,.inl (bW.of LL7.lst),λb8 D=>I.mpr #[b8,~~~C8 d,some (.int (dk fr (gJ fr B.1 d):Nat)),?_,?_,?_,?_,?_,?_,?_,?_]]
   .rw[n]
   .exact S07.same (lay0 D)
   .exact(t6.same s7).same (lay0 D)
   .cases qq:H b8 with
    |none=>rfl
    |some u=>
     exfalso;by_cases z:b8=r
     .grind
     .by_cases z2:b8=PT
      .obtain y|⟨_,y,_⟩:=t6.same s7<;>(rw[z2,y]at D;cases D)
      .rw[S07 _ _ (by simp[z,z2]) qq]at D;cases D
   .rw[n];exact L7.mono (lay0 D)
   .rw[n];exact LL7.copy D
   .rw[n];exact L7.wf
   .exact lay0 D _ _ h7
  .let eb:pw fr B.2 (gJ fr B.1 d)=B.2:=by delta pw;rw[aa c0]
   rw[eb]at n;refine(aa (by simp only[decide_eq_true_eq];omega)).mpr (I.mpr #[C,~~~C8 d,some (.int (dk fr (gJ fr B.1 d):Nat)),?_,S07,t6.same s7,G,?_,?_,?_,h7])
   .rw[n]
   .rw[n];exact L7
   .rw[n];exact R7
   .rw[n];exact W5
 .intro σ J Xs;obtain⟨C,x3,x4,rfl,S5,t5,G,L5,R5,W5,h5⟩:=I.mp Xs;rw[aj,br]at L5 R5 W5;rw[aj,br];rw[Xc]at k;generalize(rO.foldl (setStep fr) (o,o))=B at L5 R5 W5 k|-;let#[M,e5,k5,ada,ae4,l]:=id L5;let ZM:=S5 _ _ (by simp[hxr,hxP]) L.ins;obtain⟨rfl,rfl,rfl⟩:M=dx/\e5=e/\k5=kk:=by let:=l.ins;rw[ZM]at this;let:=aO this;simp[sO]at this;exact#[this.1.symm,this.2.1.symm,this.2.2.symm]
  lia;refine#[F,M,_,l.ins,cL.cl,cL.no "rows" sP,by show 3<1000;decide,?_];rw[show iu "rows" (V.ref C) (sO e5 k5 r)=sO e5 k5 C from rfl];let key:∀O,O=upd J x (.ins F M (sO e5 k5 C))->a' [x,r,PT] H O/\Tab PT O/\dE F O x C fr B.2:=λO e6=>by
   let#[rws,r1,r2,r3,r4]:=R5;let kl:∀c xs,J c>.lst xs->O c>.lst xs:=λc xs h=>by rw[e6,aH (eI h l.ins sP)];exact h
   let kt:∀c xs,J c>.tup xs->O c>.tup xs:=λc xs h=>by rw[e6,aH (eI h l.ins sP)];exact h
   let neb:∀{c:Addr}{u:HO},H c>u->c≠C:=λh z=>by rw[z,G]at h;cases h
   refine#[?_,?_,M,e5,k5,ada,rws,?_,#[kl _ _ l.arcs.lst,λu N=>kt _ _ (l.arcs.tup u N)],l.ea,kl _ _ l.rk,kl _ _ r1,λy hy=>#[kl _ _ (r2 y hy).1.lst,λu N=>kt _ _ ((r2 y hy).1.tup u N)],r3,W5,l.l1,l.l2,l.l3,neb L.arcs.lst,neb L.rk,λy hy=>(r2 y hy).2.2]
   .rw[e6];exact(S5.mono sP).upd sP
   .refine t5.mono (S:=[x]) (by rw[e6];exact(a'.refl _ _).upd sP) (by simpa using eG hxP) λc hc u N φ=>?_;let:c=x:=by simpa using hc
    subst this;rw[l.ins]at N;let:=aO N;subst this;intro z;cases z
   .rw[e6,au]
  let#[S6,t6,L6]:=key _ rfl;let#[u6,ZI]:∃u,(upd J x (.ins F M (sO e5 k5 C))) r>u:=#[_,by rw[aH hxr.symm];exact l.lst];let nrb:r≠C:=λz=>by rw[<-z,L.lst]at G;cases G
  generalize upd J x (.ins F M (sO e5 k5 C))=O at S6 t6 L6 ZI|-;let adl:∀{R:Hp}{o7:Order},a' [C] O R->dE F R x C fr o7->a' [x,r,PT] H R/\Tab PT R:=λ{R o7} S7 _=>by
   exists λc u hc N=>S7 c u (by simp;exact λz=>by rw[z,G]at N;cases N) (S6 c u hc N);let#[xs6,h6]:=L6.rl;refine t6.mono S7 (by simpa using eG (t6.ne h6 (by intro ps z;cases z))) λc hc u N φ=>?_;let:c=C:=by simpa using hc
   subst this;rw[h6]at N;let:=aO N;subst this;intro z;cases z
  refine#[x,C,fr,_,rfl,L6,λR S7 L7=>?_];let W7:=mF W5;let#[Wh,hW]:=oh λm σ H8=>∃o8 n8,m=2*dk fr o8+(if n8=0 then 0 else 1)/\(∃x1 x2 x3 x4,σ=[~~~.ref x,x1,x2,x3,x4,some (.int (n8:Nat))])/\a' [C] O H8/\dE F H8 x C fr o8/\(n8=0->o8=fin fr B.2)/\(n8≠0->fin fr o8=fin fr B.2);let fp:=GV W5;exists Wh,#[_,hW.mpr #[(kc fr B.2).1,(kc fr B.2).2,rfl,#[_,_,_,_,rfl],S7,L7,λz=>?_,λz=>?_]]
  .rw[fp,ac z]
  .rw[fp,aa z]
  intro m σ H8 hw;obtain⟨o8,n8,rfl,⟨x1,x2,x3,x4,rfl⟩,S8,L8,z0,z1⟩:=hW.mp hw;lia;by_cases c0:n8=0
  .refine(aa (by simp only[decide_eq_true_eq];omega)).mpr ?_;let#[f1,f2]:=adl S8 L8;rw[z0 c0]at L8;exact k H8 C f1 f2 G L8 #[u6,S8 _ _ (by simpa using nrb) ZI]
  .let W8:=L8.wf;let sp8:=mF W8;let fp8:=GV W8;refine(ac (ag oM)).mpr #[_,λ_ _ z=>z,x,C,fr,o8,rfl,L8,λH9 S9 L9=>#[_,?_,hW.mpr #[(kc fr o8).1,(kc fr o8).2,rfl,#[_,_,_,_,rfl],S8.trans S9,L9,λz=>?_,λz=>?_]]]
   .grind
   .grind
   .grind
def KG(CL CD:Addr):Sp:=λvs H Q _=>∃x dx g d,vs=[.ref x,.ref g]/\H x>.ins CL dx []/\uv CD H g d/\↑d.boxes<=24/\↑d.edges<=40/\↑d.wishes<=16/\EI d/\(∀a∈oO d,a.1≠a.2)/\
 ∀H' r,a' [x] H H'->H r=none->dE CL H' x r (bZ d) (cE<|bZ d)->Q .fP H'
def BO(T:Txt K mg)(F:xW K "__init__" "Layout.__init__" uM f fd)(v:fW K m ["edges","ranks","rows"])(N:fW K CD ["boxes","edges","labels","wishes"])(i:Good P w K mg aD dO 5 "going_down" ["edges","wishes"] Rk)
  (l:Good P w K mg aD dO 3 "box_ranks" ["count","edges","wishes"] aca)(j:Good P w K mg aD dO 1 "first_rows" ["edges","ranks"] tJ):j4 P w K mg aD dO 6 f fd ["self","diagram"] (KG m CD):=by
 refine F.gk ["self","diagram"] λoz A outer s H vs Q E nd hr h=>?_;obtain⟨x,n,g,d,rfl,hx,hD,n1,n2,n3,D,B,k⟩:=h;let#[gx,bl,el,lb,wl,zQ,ii,I,ZO,hg,TK,ebl,SI,VU,eel,hlb,elb,JP,O,R]:=hD;exists _,(aw (md K v0 (p0 i hr (ir (fld K v1) (fld K v1))))
  (aw (md K v0 (p0 l hr (AF (bO (ia K) rfl T.len dB (da (fld K v1))) (fld K v0) (fld K v1))))
  (aC (md K v0 (p0 j hr (ir (fld K v0) (fld K v0)))))))
 lia;let ZB:↑ii=↑d.edges:=by let:=af ck eel;simpa[eY,pN]using this
 let afk:↑I=↑d.wishes:=by let:=af ck R;simpa[eY,iy]using this
 refine#[CD,gx,_,hg,N.cl,N.no "edges" sP,_,rfl,CD,gx,_,hg,N.cl,N.no "wishes" sP,_,rfl,el,wl,ii,I,rfl,VU,O,oM,oM,λH1 b p s1 hr1 Xj e1=>?_];let e:↑(jS d)<=40:=by
  let:↑(jS d)=↑d.edges:=by delta jS;simp[pN]
  omega
 let S:p.map (·.2)=bR (jS d):=by rw[e1,eel,R,<-PN D]
 let U:=s1 _ _ hx;refine#[m,n,_,U,v.cl,v.no "edges" sP,by show 0<1000;decide,?_];let S2:a' [x] H1 (upd H1 x (.ins m n [("edges",.ref b)])):=(a'.refl _ _).upd sP;let X:(upd H1 x (.ins m n [("edges",.ref b)])) x>.ins m n [("edges",.ref b)]:=au;rw[show iu "edges" (V.ref b) []=[(("edges":Str),V.ref b)]from rfl];generalize upd H1 x (.ins m n [("edges",.ref b)])=H2 at S2 X|-;let Y:∀c xs,H1 c>.lst xs->H2 c>.lst xs:=λc xs h=>S2 _ _ (by let:=eI h U sP;simpa using this) h;let kt2:∀c xs,H1 c>.tup xs->H2 c>.tup xs:=λc xs h=>S2 _ _ (by let:=eI h U sP;simpa using this) h;let hgx:g≠x:=eI hg hx (by simp[PL]);let ZD:H2 g>.ins CD gx (PL bl el lb wl):=S2 _ _ (by simpa using hgx) (s1 _ _ hg);let A2:iA H2 b p:=#[Y _ _ Xj.lst,λu J=>kt2 _ _ (Xj.tup u J)];let W2:iA H2 wl I:=#[Y _ _ (s1 _ _ O.lst),λu J=>kt2 _ _ (s1 _ _ (O.tup u J))];exists CD,gx,_,ZD,N.cl,N.no "boxes" sP,_,rfl,bl,rfl,_,.inl (bW.of (Y _ _ (s1 _ _ TK))),m,n,_,X,v.cl,v.no "edges" sP,_,rfl,CD,gx,_,ZD,N.cl,N.no "wishes" sP,_,rfl;rw[aj,ebl];refine#[↑d.boxes,b,wl,p,I,jS d,iy d,rfl,A2,W2,S,R,e,by delta iy;rw[aj];exact n3,n1,λa ha=>vc D a ha,Bd D B,λH3 o s3 TQ h3=>?_];let RA:=B2 D B n1 e;rw[<-RA.2.2.1]at h3;let Z:=s3 _ _ X;refine#[m,n,_,Z,v.cl,v.no "ranks" sP,by show 1<1000;decide,?_];rw[show iu "ranks" (V.ref o) [(("edges":Str),V.ref b)]=[(("edges":Str),V.ref b),(("ranks":Str),V.ref o)]from rfl];let S4:a' [x] H3 (upd H3 x (.ins m n [("edges",.ref b),("ranks",.ref o)])):=(a'.refl _ _).upd sP;let L:(upd H3 x (.ins m n [("edges",.ref b),("ranks",.ref o)])) x>.ins m n [("edges",.ref b),("ranks",.ref o)]:=au;generalize upd H3 x (.ins m n [("edges",.ref b),("ranks",.ref o)])=H4 at S4 L|-;let kl4:∀c xs,H3 c>.lst xs->H4 c>.lst xs:=λc xs h=>S4 _ _ (by let:=eI h Z sP;simpa using this) h;let kt4:∀c xs,H3 c>.tup xs->H4 c>.tup xs:=λc xs h=>S4 _ _ (by let:=eI h Z sP;simpa using this) h;let A4:iA H4 b p:=#[kl4 _ _ (s3 _ _ A2.lst),λu J=>kt4 _ _ (s3 _ _ (A2.tup u J))];let hk4:=kl4 _ _ h3;let SJ:=count_le D B n1 e;let ZJ:↑(gG d)<=24:=by rw[RA.2.2.1,vz,RA.2.2.2.len];exact n1
 exists m,n,_,L,v.cl,v.no "edges" sP,_,rfl,m,n,_,L,v.cl,v.no "ranks" sP,_,rfl;refine#[b,o,p,bZ d,rfl,A4,S,hk4,Sk D B n1 e,SJ.1,e,ZJ,SJ.2,λH5 C rows s5 r h5 G eo hn3=>?_];let ZM:=s5 _ _ L;refine#[m,n,_,ZM,v.cl,v.no "rows" sP,by show 2<1000;decide,?_];rw[show iu "rows" (V.ref C) [(("edges":Str),V.ref b),(("ranks":Str),V.ref o)]=sO b o C from rfl];let S6:a' [x] H5 (upd H5 x (.ins m n (sO b o C))):=(a'.refl _ _).upd sP;let M:∀c xs,H5 c>.lst xs->(upd H5 x (.ins m n (sO b o C))) c>.lst xs:=λc xs h=>S6 _ _ (by let:=eI h ZM sP;simpa using this) h;let kt6:∀c xs,H5 c>.tup xs->(upd H5 x (.ins m n (sO b o C))) c>.tup xs:=λc xs h=>S6 _ _ (by let:=eI h ZM sP;simpa using this) h;let S05:a' [x] H H5:=(((((cX s1).trans S2).same s3).trans S4).same s5);let r3H:H C=none:=by
  cases q:H C with
  |none=>rfl
  |some u=>
   by_cases z:C=x
   .grind
   .rw[((((cX s1).trans S2).same s3).trans S4) _ _ (by simpa using z) q]at r;cases r
 let n13:b≠C:=λz=>by rw[<-z,A4.lst]at r;cases r
 let n23:o≠C:=λz=>by rw[<-z,hk4]at r;cases r
 refine k _ C (S05.trans S6) r3H #[n,b,o,p,rows,au,#[M _ _ (s5 _ _ A4.lst),λu J=>kt6 _ _ (s5 _ _ (A4.tup u J))],S,M _ _ (s5 _ _ hk4),M _ _ h5,λy hy=>#[M _ _ (G y hy).lst,λu J=>kt6 _ _ ((G y hy).tup u J)],eo,GW D B n1 e,e,ZJ,SJ.2,n13,n23,hn3]
end
section
variable{P:a7}{w:bS}{K:ao}{mg:Str->Option Value}{aD:Heap}
open Vadiab (Item Order rowAt posIn segments ends rankAt between itemRow)
def WC(H:Hp)(Q:VK)(l:List Int):Prop:=∀H' q,a8 H H'->H q=none->H' q>(.lst<|l.map V.int)->Q (.ref q) H'
def Il(CL:Addr):Sp:=λvs H Q _=>∃x r f o k,vs=[.ref x,.int k]/\dE CL H x r f o/\Q (.bl (decide (¬(0<=k/\k<(f.count:Int))))) H
def wu(T:Txt K mg)(a:fW K b ["edges","ranks","rows"])(h:iW K mg "no_such_rank" tw f fd):Good P w K mg aD dO 1 "no_such_rank" ["layout","rank"] (Il b):=by
 refine h.gd ["layout","rank"] λd A outer s H vs Q E l m h=>?_;obtain⟨x,r,fr,o,k,rfl,⟨g,e,n,i,rows,L⟩,q⟩:=h;exists _,(aC<|bC<|V6 (qS kz v1 aV<|b9 _) (Kc<|qS LX v1 (bO (ia K) rfl T.len dB (da<|fld K v0)) (b9 _)));lia;by_cases c:k<0
 .grind
 .refine(aa<|by simp only[decide_eq_true_eq];exact c).mpr #[b,g,_,L.ins,a.cl,a.no "rows" sP,_,rfl,r,rfl,_,.inl<|bW.of L.lst,?_];rw[aj,L.ou];let j:decide (¬(0<=k/\k<(fr.count:Int)))=decide ((fr.count:Int)<=k):=gR;rw[j]at q;exact q
def wR(f:fE)(o:Order)(k:Int):List Int:=match bY k f.count with
 |none=>[-2]
 |some r=>(↑(aL o r):Int)::(aL o r).flatMap rS
def Mz(CL:Addr):Sp:=λvs H Q _=>∃x r f o k,vs=[.ref x,.int k]/\dE CL H x r f o/\WC H Q (wR f o k)
def km{n:Nat}(h:¬(0<=k/\k<(n:Int))):bY k n=none:=by delta bY;rw[aa h]
def l6{n:Nat}(h:0<=k/\k<(n:Int)):bY k n>k.toNat:=by delta bY;rw[ac h]
def NF(it):uI it=(rS it).map V.int:=by cases it<;>rfl
def He(l:List Item):↑(l.flatMap rS)=2*↑l:=by
 induction l with
 |nil=>rfl
 |cons a l b=>
  rw[dw,aW,b,aQ];cases a<;>simp[rS]<;>omega
def Ae(T:Txt K mg)(U:fW K J ["edges","ranks","rows"])(h:iW K mg "rank_items" xr f fd)(b:Good P w K mg aD dO 1 "no_such_rank" ["layout","rank"] (Il J)):Good P w K mg aD dO 2 "rank_items" ["layout","rank"] (Mz J):=by
 refine h.gd ["layout","rank","row","answer","item"] λoz A outer s H vs Q E M hr h=>?_;obtain⟨x,r,fr,o,k,rfl,X,q⟩:=h;let#[dx,e,kk,ii,rows,L]:=id X;exists _,(aw (dI (HS<|p0 b hr<|ir v0 v1) (aC<|bC<|dr<|da<|oX ls aV) cg)
  (aw (st 2 M<|bM (j7 K) (fld K v0) v1 (λ_ _=>rfl))
  (aw (st 3 M<|dr<|da<|bO (ia K) rfl T.len dB (da v2))
  (aw (dM aY rfl (qh K v2) (pn 4 M) (aC<|cO<|bm K aX dm dn iV v3<|da<|dL (listOf K) rfl T.list i' (da v4)))
  (aC<|bC v3)))))
 lia;exists x,r,fr,o,k,rfl,X,_,rfl;by_cases c:0<=k/\k<(fr.count:Int);rotate_left
 .refine(ac<|ag c).mpr #[by show 1<=sizeLine;rw[aK];omega,λp B=>?_];delta wR at q;rw[km c]at q;exact q _ p (lay0 B) B au
 .refine(aa<|by simp only[decide_eq_true_eq];exact λz=>z c).mpr ?_;delta wR at q;rw[l6 c]at q;obtain⟨d,rfl⟩:∃d:Nat,k=(d:Int):=#[k.toNat,oM];simp only[aT]at q;let G:d<fr.count:=oM;let#[y,hy,g,Y]:=L.yx G;let ln:=o3 L.wf L.l1 L.l2 G;let I:↑y.2=↑(aL o d):=by rw[<-Y,aj]
  let ar:nj (rows.map λx=>V.ref x.1) (d:Int)>V.ref y.1:=at_of (j:=d) rfl (by rw[ak,hy];rfl);refine#[J,dx,_,L.ins,U.cl,U.no "rows" sP,_,rfl,r,rfl,_,bW.of L.lst,_,ar,y.1,rfl,_,.inl<|bW.of g.lst,by show 1<=sizeLine;rw[aK];omega,λp B=>?_];rw[aj,I];let s1:a8 H (upd H p (.lst [.int (↑(aL o d):Int)])):=lay0 B;let Z:(upd H p (.lst [.int (↑(aL o d):Int)])) p>.lst [.int (↑(aL o d):Int)]:=au;generalize upd H p (.lst [.int (↑(aL o d):Int)])=H1 at s1 Z|-;let#[Pv,m]:=oh λi F C=>∃N,F=[~~~.ref x,some (.int (d:Int)),~~~.ref y.1,~~~.ref p,N]/\a8 H C/\C p>.lst (((↑(aL o d):Int)::((aL o d).take i).flatMap rS).map V.int);refine#[_,rfl,_,rfl,#[_,bW.of<|s1 _ _ g.lst],eH (K:=K) (a:=y.1) (xs:=y.2.map λx=>V.ref x.1) Pv (m.mpr #[none,rfl,s1,Z]) (λi F C _ z=>?_) ?_ ?_]
  .let#[_,_,s2,_]:=m.mp z;exact bW.of (s2 _ _ g.lst)
  .intro i v F C hi n;obtain⟨N,rfl,s2,D⟩:=m.mp n;obtain⟨u,qq,rfl⟩:=gm hi;let hu:=s2 _ _<|g.tup u<|ax qq;let O:(aL o d)[i]?>u.2:=by rw[<-Y,ak,qq];rfl
   lia;refine#[.inl #[rfl,_,bW.of D],_,.inr<|f9.of hu,λl R=>?_];let S:l≠p:=λz=>by rw[z,D]at R;cases R
   refine#[_,by rw[aH S.symm];exact D,_,au,?_,m.mpr #[_,rfl,lay (lay s2<|bh s2 R) B,?_]]
   .rw[aj,aQ,He,bN,aK];let:↑(uI u.2)=2:=by cases u.2<;>rfl
    omega
   .rw[au,NF,aN,O,dj,dX,<-aJ];simp
  .intro F C n;obtain⟨N,rfl,s2,D⟩:=m.mp n;rw[aj,I,br]at D;lia;exact q C p s2 B D
def Wl(CL:Addr):Sp:=λvs H Q _=>∃x r f o,vs=[.ref x]/\dE CL H x r f o/\WC H Q ((dk f o:Int)::dq (yV f o))
def sE(h:iW K mg "count_crossings" o6 f fd)(b:Good P w K mg aD dO 5 "all_crossings" ["layout"] (uW g))(a:Good P w K mg aD dO 4 "channel_crossings" ["layout"] (FN g)):Good P w K mg aD dO 6 "count_crossings" ["layout"] (Wl g):=by
 refine h.gd ["layout"] λl A outer s H vs Q E v i h=>?_;obtain⟨x,r,fr,o,rfl,e,q⟩:=h;exists _,(aC<|bC<|fV qM (dr<|da<|p0 b i<|da v0) (p0 a i<|da v0));lia;refine#[x,r,fr,o,rfl,e,λH1 s1=>#[by show 1<=sizeLine;rw[aK];omega,λp m=>?_]];let s2:a8 H1 (upd H1 p (.lst [.int (dk fr o:Nat)])):=lay0 m;let j:(upd H1 p (.lst [.int (dk fr o:Nat)])) p>.lst [.int (dk fr o:Nat)]:=au;generalize upd H1 p (.lst [.int (dk fr o:Nat)])=y at s2 j|-;refine#[x,r,fr,o,rfl,e.mono<|s1.trans s2,λz c s3 B n=>?_];let l3:fr.count<=24:=by let#[_,_,_,_,_,L]:=e;exact L.l3
 refine#[c,rfl,_,s3 _ _ j,_,n,by rw[aj,eL,aK];delta yV rm;rw[aj,cr];simp;omega,λu d=>?_];exact q _ u ((s1.trans<|s2.trans s3).trans (lay0 d)) (bh (s1.trans<|s2.trans s3) d) (by rw[au];rfl)
def jN(f:fE)(o:Order)(c:yS):Order:=((bP (some #[f,o]) c).1.map (·.order)).getD o
def iF(f:fE)(o:Order)(c:yS):List Int:=cW (bP (some #[f,o]) c).2
def Su(CL PT:Addr)(H:Hp)(x r:Addr)(f:fE)(Q:VK)(o':Order)(l:List Int):Prop:=∀H' q r',a' [x,r,PT] H H'->Tab PT H'->(r'=r\/H r'=none)->H q=none->dE CL H' x r' f o'->H' q>(.lst<|l.map V.int)->Q (.ref q) H'
def Tab.YB{PT r:Addr}(t:Tab PT H)(a:H r>.lst xs)(s:a' [r] H d):Tab PT d:=by
 refine t.mono s (by simpa using eG (t.ne a<|by intro ps z;cases z)) λb e u c f=>?_;let:b=r:=by simpa using e
 subst this;rw[a]at c;let:=aO c;subst this;intro z;cases z
def Su.lM{b PT:Addr}(h:Su b PT H x r f Q o l)(c:dE b H x r f o)(t:Tab PT H)(s:a8 H a)(d:H q=none)(h':a q>(.lst<|l.map V.int)):Q (.ref q) a:=
 h a q r (cX s) (t.same s) (.inl rfl) d (c.mono s) h'
def Su.done{c PT:Addr}(h:Su c PT H x r f Q d l)(S:a' [x,r,PT] H H1)(t:Tab PT H1)(e:a=r\/H a=none)(L:dE c H1 x a f d)(s:a8 H1 b)(g:H q=none)(h':b q>(.lst<|l.map V.int)):Q (.ref q) b:=
 h b q a (S.same s) (t.same s) e g (L.mono s) h'
def yf{c PT:Addr}(j:dE c H x r f o)(b:∃u,H1 r>u)(L:dE c H1 x l f m)(t:Tab PT H1)(S:a' [x,r,PT] H H1)(a:H1 q=none):H q=none:=by
 cases e:H q with
 |none=>rfl
 |some u=>
  exfalso;let#[v,b]:=b;let#[_,_,_,_,_,d]:=L;let g:q≠x:=λz=>by rw[z,d.ins]at a;cases a
  let h:q≠r:=λz=>by rw[z,b]at a;cases a
  let i:q≠PT:=λz=>by obtain y|⟨_,y,_⟩:=t<;>(rw[z,y]at a;cases a)
  rw[S q u (by simp[g,h,i]) e]at a;cases a
def AG(f:fE)(o:Order)(k:Int):List Int:=match bY k (f.count-1)with
 |none=>[-2]
 |some r=>(↑(eR f o r):Int)::(eR f o r).flatMap λx=>oP [x.1,x.2]
def ab8(CL:Addr):Sp:=λvs H Q _=>∃x r f o k,vs=[.ref x,.int k]/\dE CL H x r f o/\WC H Q (AG f o k)
def J9(l:List (Nat×Nat)):↑(l.flatMap λx=>oP [x.1,x.2])=2*↑l:=by
 induction l with
 |nil=>rfl
 |cons a l b=>rw[dw,aW,b,aQ];simp[oP];omega
def z9(T:Txt K mg)(h:iW K mg "list_pairs" w9 f fd)(c:Good P w K mg aD dO 1 "channel_count" ["layout"] (FM N))(b:Good P w K mg aD dO 3 "crossing_pairs" ["layout","channel"] (FQ N)):Good P w K mg aD dO 4 "list_pairs" ["layout","channel"] (ab8 N):=by
 refine h.gd ["layout","channel","pairs","answer","pair"] λX A outer s H vs Q E C O h=>?_;obtain⟨x,r,fr,o,k,rfl,D,q⟩:=h;exists _,(aw (dI (PW.pt<|zm (bG kz v1 aV<|b9 _) (s_<|bG LX v1 (p0 c O<|da v0) (b9 _))) (aC<|bC<|dr<|da<|oX ls aV) cg)
  (aw (st 2 C<|p0 b O<|ir v0 v1)
  (aw (st 3 C<|dr<|da<|bO (ia K) rfl T.len dB (da v2))
  (aw (dM aY rfl (qh K v2) (pn 4 C) (aC<|cO<|bm K aX dm dn iV v3<|da<|dL (listOf K) rfl T.list i' (da v4)))
  (aC<|bC v3)))))
 lia;delta AG at q;by_cases c0:k<0
 .rw[km oM]at q;exact(ac<|ag c0).mpr #[by show 1<=sizeLine;rw[aK];omega,λp e=>q _ p (lay0 e) e au]
 refine(aa<|by simp only[decide_eq_true_eq];exact c0).mpr #[x,r,fr,o,rfl,D,_,rfl,?_];by_cases R:((fr.count-1:Nat):Int)<=k
 .rw[km oM]at q;exact(ac<|ag R).mpr #[by show 1<=sizeLine;rw[aK];omega,λp e=>q _ p (lay0 e) e au]
 rw[l6 oM]at q;obtain⟨ch,rfl⟩:∃ch:Nat,k=(ch:Int):=#[k.toNat,oM];simp only[aT]at q;refine(aa<|by simp only[decide_eq_true_eq];exact R).mpr #[x,r,fr,o,ch,rfl,D,oM,λH1 a ps s1 ha B S=>?_];let n:↑ps=↑(eR fr o ch):=by rw[<-S,aj]
 let l1:↑fr.downs<=40:=by let#[_,_,_,_,_,L]:=D;exact L.l1
 let Y:↑(eR fr o ch)<=1600:=by rw[BS];let Z:=sW (ends fr o ch) ↑(ends fr o ch);let y:=we fr o ch;refine bu Z (bu (uz (bu y l1) (bu y l1)) dC)
 refine#[a,rfl,_,.inl<|bW.of B.lst,by show 1<=sizeLine;rw[aK];omega,λp e=>?_];rw[aj,n];let s2:a8 H1 (upd H1 p (.lst [.int (↑(eR fr o ch):Int)])):=lay0 e;let y:(upd H1 p (.lst [.int (↑(eR fr o ch):Int)])) p>.lst [.int (↑(eR fr o ch):Int)]:=au;generalize upd H1 p (.lst [.int (↑(eR fr o ch):Int)])=H2 at s2 y|-;let pH:H p=none:=bh s1 e;let#[Pv,d]:=oh λi F j=>∃G,F=[~~~.ref x,some (.int (ch:Int)),~~~.ref a,~~~.ref p,G]/\a8 H1 j/\j p>.lst (((↑(eR fr o ch):Int)::((eR fr o ch).take i).flatMap λx=>oP [x.1,x.2]).map V.int);refine#[_,rfl,a,rfl,#[_,bW.of<|s2 _ _ B.lst],eH (K:=K) (a:=a) (xs:=ps.map λx=>V.ref x.1) Pv (d.mpr #[none,rfl,s2,y]) (λi F j _ z=>?_) ?_ ?_]
 .let#[_,_,s3,_]:=d.mp z;exact bW.of (s3 _ _ B.lst)
 .intro i v F j hi g;obtain⟨G,rfl,s3,m⟩:=d.mp g;obtain⟨u,U,rfl⟩:=gm hi;let hu:=s3 _ _<|B.tup u<|ax U;let I:(eR fr o ch)[i]?>u.2:=by rw[<-S,ak,U];rfl
  lia;refine#[.inl #[rfl,_,bW.of m],_,.inr<|f9.of hu,λl J=>?_];let M:l≠p:=λz=>by rw[z,m]at J;cases J
  refine#[_,by rw[aH M.symm];exact m,_,au,?_,d.mpr #[_,rfl,lay (lay s3<|bh s3 J) e,?_]]
  .rw[aj,aQ,J9,bN,aK];simp only[aQ,c9];omega
  .rw[au,aN,I,dj,dX];simp[oP]
 .intro F j g;obtain⟨G,rfl,s3,m⟩:=d.mp g;rw[aj,n,br]at m;lia;exact q j p (s1.trans s3) pH m
def Ds(h:bY k f.count=none):jN f o (.put k l)=o/\iF f o (.put k l)=[-2]:=by delta jN iF;simp only[bP,dW,h];exact#[rfl,rfl]
def Iv(h:bY k f.count>r)(a:SE ↑(aL o r) l=false):jN f o (.put k l)=o/\iF f o (.put k l)=[-4]:=by delta jN iF;simp only[bP,dW,h,a];exact#[rfl,rfl]
def FW(h:bY k f.count>r)(a:SE ↑(aL o r) l=true):jN f o (.put k l)=o.set r (OT (aL o r) l)/\iF f o (.put k l)=[(dk f (o.set r<|OT (aL o r) l):Int)]:=by delta jN iF;simp only[bP,dW,h,a];exact#[rfl,rfl]
def Wp(CL PT:Addr):Sp:=λvs H Q _=>∃x r pl f o k l,vs=[.ref x,.int k,.ref pl]/\dE CL H x r f o/\Tab PT H/\H pl>(.lst<|l.map V.int)/\pl≠r/\Su CL PT H x r f Q (jN f o<|.put k l) (iF f o<|.put k l)
def one_le:1<=sizeLine:=sZ
def P8(T:Txt K mg){B PT f:Addr}(cL:fW K B ["edges","ranks","rows"])(h:iW K mg "put" Wf f fd)(b:Good P w K mg aD dO 1 "no_such_rank" ["layout","rank"] (Il B))(i:Good P w K mg aD dO 1 "reorder" ["layout","rank","places"] (Eo B))
  (a:Good P w K mg aD dO 5 "all_crossings" ["layout"] (uW B)):Good P w K mg aD dO 6 "put" ["layout","rank","places"] (Wp B PT):=by
 refine h.gd ["layout","rank","places"] λoz A outer s H vs Q E nd R h=>?_;obtain⟨x,r,pl,fr,o,k,l,rfl,C,tab,G,Y,q⟩:=h;let#[dx,e,kk,ii,rows,L]:=id C;exists _,(aw (dI (HS<|p0 b R<|ir v0 v1) (aC<|bC<|dr<|da<|oX ls aV) cg)
  (aw (dI (bG (neD K R.units) (bO (ab7 K) rfl T.sorted t8 (da v2)) (dL (lZ rfl) rfl T.list i' (da<|dL t_ rfl T.range pO<|da<|bO (ia K) rfl T.len dB (da<|bM (j7 K) (fld K v0) v1 (λ_ _=>rfl)))) (b9 _)) (aC<|bC<|dr<|da<|oX ls aV) cg)
  (aw (cO<|p0 i R<|AF v0 v1 v2)
  (aC<|bC<|dr<|da<|p0 a R<|da v0))))
 lia;exists x,r,fr,o,k,rfl,C,_,rfl;by_cases c:0<=k/\k<(fr.count:Int);rotate_left
 .let#[D,F]:=Ds (o:=o) (l:=l) (km c);rw[D,F]at q;exact(ac<|ag c).mpr #[one_le,λp I=>q.lM C tab (lay0 I) I au]
 obtain⟨g,rfl⟩:∃g:Nat,k=(g:Int):=#[k.toNat,oM];let v:g<fr.count:=oM;let J:bY (g:Int) fr.count>g:=by rw[l6 c,aT]
 let#[y,ar,xs,hy,Z]:=L.B4 v;let ln:=o3 L.wf L.l1 L.l2 v;refine(aa<|by simp only[decide_eq_true_eq];exact λz=>z c).mpr #[l,bW.of G,λm S M ZG Qi=>?_];let s1:a8 H (upd H S<|.lst<|m.map V.int):=lay0 Qi;let h1:(upd H S<|.lst<|m.map V.int) S>(.lst<|m.map V.int):=au;generalize upd H S (.lst<|m.map V.int)=H1 at s1 h1|-;let L1:=L.mono s1;refine#[B,dx,_,L1.ins,cL.cl,cL.no "rows" sP,_,rfl,r,rfl,_,bW.of L1.lst,_,ar,y,rfl,_,.inl<|bW.of<|s1 _ _ hy,λu Xr=>?_];rw[Z];let s2:a8 H1 (upd H1 u (kq u 0 (↑(aL o g):Int) 1)):=lay0 Xr;refine#[_,_,_,au,tI dC dC oM oM,↑(aL o g),xz 0 _,oM,λU hp3=>?_];rw[Fq];let s3:a8 H1 (upd (upd H1 u (kq u 0 (↑(aL o g):Int) 1)) U (.lst<|(dq<|ay ↑(aL o g)).map V.int)):=lay s2<|bh s2 hp3;let h3:(upd (upd H1 u (kq u 0 (↑(aL o g):Int) 1)) U (.lst<|(dq<|ay ↑(aL o g)).map V.int)) U>(.lst<|(dq<|ay ↑(aL o g)).map V.int):=au;generalize upd (upd H1 u (kq u 0 (↑(aL o g):Int) 1)) U (.lst<|(dq<|ay ↑(aL o g)).map V.int)=H3 at s3 h3|-;exists _,ua<|bW.of<|s3 _ _ h1,_,ua<|bW.of h3,shaped_ints _,shaped_ints _;rw[Bh];let j:=s1.trans s3;let d:=Uw (n:=↑(aL o g)) M ZG;by_cases c2:m=dq (ay ↑(aL o g))
 .rw[ag c2]at d|-;let#[D,F]:=FW (l:=l) J d;let#[n1,n2]:=Uv M c2;let SK:∀z∈l,z.toNat<↑(aL o g):=λz hz=>cb.mp<|n2.mem_iff.mp<|fk hz;rw[HM SK]at D F;rw[D,F]at q;refine(aa sP).mpr #[x,r,pl,fr,o,g,l.map ig,rfl,C.mono j,v,by rw[<-n1];exact j _ _ G,Y,n2,λH4 S4 X=>?_];refine#[x,r,fr,_,rfl,X,λH5 s5=>#[one_le,λp6 N=>?_]];let O:a' [x,r,PT] H H4:=(cX j).trans (S4.mono sP);let t4:Tab PT H4:=Tab.YB (tab.same j) (j _ _ L.lst) S4;let#[xs4,hr4]:=X.rl;let pH:H p6=none:=yf C #[_,hr4] X t4 O (bh s5 N);exact q.done O t4 (.inl rfl) X (s5.trans<|lay0 N) pH au
 .rw[ah c2]at d|-;let#[D,F]:=Iv (l:=l) J d;rw[D,F]at q;exact(ac sP).mpr #[one_le,λp I=>q.lM C tab (j.trans<|lay0 I) (bh j I) au]
def acb(CL PT:Addr):Sp:=λvs H Q _=>∃x r f o d,vs=[.ref x,.int d]/\dE CL H x r f o/\Tab PT H/\Su CL PT H x r f Q (jN f o<|.sweep d) (iF f o<|.sweep d)
def Dt(h0:d≠0)(a:d≠1):jN f o (.sweep d)=o/\iF f o (.sweep d)=[-3]:=by delta jN iF;simp only[bP,aa h0,aa a];exact#[rfl,rfl]
def KL(down):jN f o (.sweep (if down=true then 0 else 1))=gJ f o down/\iF f o (.sweep (if down=true then 0 else 1))=[(dk f (gJ f o down):Int)]:=by cases down<;>exact⟨rfl,rfl⟩
def abb(d):SM (.int d) [.int 0,.int 1]=decide (d=0\/d=1):=by let:=wB d [0,1];rw[show([0,1]:List Int).map V.int=[.int 0,.int 1]from rfl]at this;rw[this,decide_eq_decide];simp
def JM{j PT f:Addr}(h:iW K mg "sweep" Mo f fd)(b:Good P w K mg aD dO 4 "make_sweep" ["layout","direction"] (FT j PT))(a:Good P w K mg aD dO 5 "all_crossings" ["layout"] (uW j)):Good P w K mg aD dO 6 "sweep" ["layout","direction"] (acb j PT):=by
 refine h.gd ["layout","direction"] λF A outer s H vs Q E L y h=>?_;obtain⟨x,r,fr,o,d,rfl,l,tab,q⟩:=h;exists _,(aw (dI (bG (Fv K) v1 (jM<|ir aV aV) (by with_unfolding_all rfl)) (aC<|bC<|dr<|da<|oX ls aV) cg)
  (aw (cO<|p0 b y<|ir v0 v1)
  (aC<|bC<|dr<|da<|p0 a y<|da v0)))
 lia;refine#[by show 2<=sizeLine;rw[aK];omega,λB m=>#[_,.inr<|f9.of au,rfl,dC,?_]];let s1:a8 H (upd H B (.tup [.int 0,.int 1])):=lay0 m;generalize upd H B (.tup [.int 0,.int 1])=H1 at s1|-;rw[abb];by_cases c:d=0\/d=1;rotate_left
 .let#[n,u]:=Dt (f:=fr) (o:=o) (d:=d) (λz=>c<|.inl z) λz=>c<|.inr z;rw[n,u]at q;rw[ah c];exact(ac rfl).mpr #[one_le,λp C=>q.lM l tab (s1.trans<|lay0 C) (bh s1 C) au]
 rw[ag c];obtain⟨down,rfl⟩:∃down,d=if down=true then 0 else 1:=by
  obtain c|c:=c
  .exact#[true,c]
  .exact#[false,c]
 let#[n,u]:=KL (f:=fr) (o:=o) down;rw[n,u]at q;refine(aa sP).mpr #[x,r,fr,o,down,_,rfl,rfl,l.mono s1,tab.same s1,λG I D e=>#[x,r,fr,_,rfl,e,λM s3=>#[one_le,λN g=>?_]]];let i:a' [x,r,PT] H G:=(cX s1).trans (I.mono sP);let#[J,v]:=e.rl;exact q.done i D (.inl rfl) e (s3.trans<|lay0 g) (yf l #[_,v] e D i (bh s3 g)) au
def MB(CL PT:Addr)(c:yS):Sp:=λvs H Q _=>∃x r f o,vs=[.ref x]/\dE CL H x r f o/\Tab PT H/\Su CL PT H x r f Q (jN f o c) (iF f o c)
def Cy:2<=sizeLine:=sZ
def JL{e PT f:Addr}(h:iW K mg "swaps" Mn f fd)(b:Good P w K mg aD dO 6 "make_pass" ["layout"] (FP e))(a:Good P w K mg aD dO 5 "all_crossings" ["layout"] (uW e)):Good P w K mg aD dO 7 "swaps" ["layout"] (MB e PT .swaps):=by
 refine h.gd ["layout","made"] λu A outer s H vs Q E v l h=>?_;obtain⟨x,r,fr,o,rfl,g,tab,q⟩:=h;exists _,(aw (st 1 v<|p0 b l<|da v0)
  (aC<|bC<|dr<|ir (p0 a l<|da v0) v1))
 lia;let#[xs,i]:=g.rl;refine#[x,r,fr,o,rfl,g,λH1 m d=>#[x,r,fr,_,rfl,d,λz s2=>#[Cy,λp n=>?_]]];let t1:=Tab.YB tab i m;let c:a' [x,r,PT] H H1:=m.mono sP;let#[y,j]:=d.rl;exact q.done c t1 (.inl rfl) d (s2.trans<|lay0 n) (yf g #[_,j] d t1 c (bh s2 n)) au
def G5{e PT f:Addr}(h:iW K mg "settle" Ih f fd)(b:Good P w K mg aD dO 7 "settle_order" ["layout"] (Ip e PT))(a:Good P w K mg aD dO 5 "all_crossings" ["layout"] (uW e)):Good P w K mg aD dO 8 "settle" ["layout"] (MB e PT .settle):=by
 refine h.gd ["layout","before"] λn A outer s H vs Q E u g h=>?_;obtain⟨x,r,fr,o,rfl,d,tab,q⟩:=h;exists _,(aw (st 1 u<|p0 a g<|da v0)
  (aw (cO<|p0 b g<|da v0)
  (aC<|bC<|dr<|ir (p0 a g<|da v0) v1)))
 lia;let#[xs,v]:=d.rl;refine#[x,r,fr,o,rfl,d,λB s0=>#[x,r,fr,o,rfl,d.mono s0,tab.same s0,λH1 y z t1 i j l=>#[x,y,fr,_,rfl,j,λC s2=>#[Cy,λp m=>?_]]]];let c:a' [x,r,PT] H H1:=(cX s0).trans z;exact q.done c t1 (.inr<|bh s0 i) j (s2.trans<|lay0 m) (yf d l j t1 c<|bh s2 m) au
def Rf(CL PT:Addr):Sp:=λvs H Q _=>∃x r f o,vs=[.ref x]/\dE CL H x r f o/\Tab PT H/\(∀k,k∈f.ranks↔k<f.count)/\WF f (cE f)/\Su CL PT H x r f Q (jN f o .anew) (iF f o .anew)
def No{d PT f:Addr}(v:fW K d ["edges","ranks","rows"])(h:iW K mg "anew" Q6 f fd)(b:Good P w K mg aD dO 1 "first_rows" ["edges","ranks"] tJ)(a:Good P w K mg aD dO 5 "all_crossings" ["layout"] (uW d)):Good P w K mg aD dO 6 "anew" ["layout"] (Rf d PT):=by
 refine h.gd ["layout"] λoz A outer s H vs Q E nd U h=>?_;obtain⟨x,r,fr,o,rfl,X,tab,C,W,q⟩:=h;let#[j,e,l,D,rows,L]:=id X;exists _,(aw (md K v0 (p0 b U (ir (fld K v0) (fld K v0))))
  (aC (bC (dr (da (p0 a U (da v0)))))))
 lia;exists d,j,_,L.ins,v.cl,v.no "edges" sP,_,rfl,d,j,_,L.ins,v.cl,v.no "ranks" sP,_,rfl;refine#[e,l,D,fr,rfl,L.arcs,L.ea,L.rk,L.wf.tova,C,L.l1,L.l2,L.l3,λH1 i m s1 F h1 g eo R=>?_];let n:=L.mono s1;refine#[d,j,_,n.ins,v.cl,v.no "rows" sP,by show 3<1000;decide,?_];rw[show iu "rows" (V.ref i) (sO e l r)=sO e l i from rfl];let G:a' [x] H1 (upd H1 x (.ins d j (sO e l i))):=(a'.refl _ _).upd sP;let I:(upd H1 x (.ins d j (sO e l i))) x>.ins d j (sO e l i):=au;generalize upd H1 x (.ins d j (sO e l i))=J at G I|-;let M:∀c xs,H1 c>.lst xs->J c>.lst xs:=λc xs h=>G _ _ (by let:=eI h n.ins sP;simpa using this) h;let kt:∀c xs,H1 c>.tup xs->J c>.tup xs:=λc xs h=>G _ _ (by let:=eI h n.ins sP;simpa using this) h;let N:∀{c:Addr}{u:HO},H c>u->c≠i:=λh z=>by rw[z,F]at h;cases h
 let S:dE d J x i fr (cE fr):=#[j,e,l,D,m,I,#[M _ _ n.arcs.lst,λu B=>kt _ _ (n.arcs.tup u B)],L.ea,M _ _ n.rk,M _ _ h1,λy Y=>#[M _ _ (g y Y).lst,λu B=>kt _ _ ((g y Y).tup u B)],eo,W,L.l1,L.l2,L.l3,N L.arcs.lst,N L.rk,R];let T:x≠PT:=tab.ne L.ins (by intro ps z;cases z);let Z:Tab PT J:=by
  refine(tab.same s1).mono G (by simpa using eG T) λc hc u B φ=>?_;let:c=x:=by simpa using hc
  subst this;rw[n.ins]at B;let:=aO B;subst this;intro z;cases z
 let O:a' [x,r,PT] H J:=(cX s1).trans (G.mono sP);refine#[x,i,fr,_,rfl,S,λH3 s3=>#[one_le,λp hp=>?_]];exact q.done O Z (.inr F) S (s3.trans (lay0 hp)) (yf X #[_,M _ _ (s1 _ _ L.lst)] S Z O (bh s3 hp)) au
def Wo(CL:Addr):Sp:=λvs H Q _=>∃x r f o k i sd,vs=[.ref x,.int k,.int i,.int sd]/\dE CL H x r f o/\WC H Q (iF f o<|.middle k i sd)
def RH{f:fE}{o:Order}{k i a:Int}:iF f o (.middle k i a)=match bY k f.count with
  |none=>[-2]
  |some r=>match(bY i ↑(aL o r)).bind λj=>(aL o r)[j]? with
   |none=>[-5]
   |some x=>if a<0\/1<a then[-3]else[(↑(uE f o (a==0) r x):Int),((uE f o (a==0) r x).sum:Int)]:=by
 delta iF;simp only[bP,dW];cases bY k f.count with
 |none=>rfl
 |some r=>
  simp only[];cases(bY i ↑(aL o r)).bind λj=>(aL o r)[j]? with
  |none=>rfl
  |some x=>
   simp only[];split<;>rfl
def G3(T:Txt K mg)(O:fW K B ["edges","ranks","rows"])(h:iW K mg "middle" Ie f fd)(d:Good P w K mg aD dO 1 "no_such_rank" ["layout","rank"] (Il B))(b:Good P w K mg aD dO 3 "neighbours_on" ["layout","rank","side"] (Cf B)):Good P w K mg aD dO 4 "middle" ["layout","rank","place","side"] (Wo B):=by
 refine h.gd ["layout","rank","place","side","near"] λY A outer s H vs Q E Z R h=>?_;obtain⟨x,r,fr,o,k,i,C,rfl,F,q⟩:=h;let#[dx,e,kk,ii,rows,L]:=id F;exists _,(aw (dI (HS<|p0 d R<|ir v0 v1) (aC<|bC<|dr<|da<|oX ls aV) cg)
  (aw (dI (PW.pt<|zm (bG kz v2 aV<|b9 _) (s_<|bG LX v2 (bO (ia K) rfl T.len dB (da<|bM (j7 K) (fld K v0) v1 (λ_ _=>rfl))) (b9 _))) (aC<|bC<|dr<|da<|oX ls aV) cg)
  (aw (dI (bG (Fv K) v3 (jM<|ir aV aV) (by with_unfolding_all rfl)) (aC<|bC<|dr<|da<|oX ls aV) cg)
  (aw (st 4 Z<|bM (j7 K) (p0 b R<|AF v0 v1 v3) v2 (λ_ _=>rfl))
  (aC<|bC<|dr<|ir (bO (ia K) rfl T.len dB (da v4)) (bO (U1 K rfl) rfl T.sum EZ (da v4)))))))
 lia;rw[RH]at q;exists x,r,fr,o,k,rfl,F,_,rfl;by_cases c:0<=k/\k<(fr.count:Int);rotate_left
 .rw[km c]at q;exact(ac<|ag c).mpr #[one_le,λp g=>q _ p (lay0 g) g au]
 obtain⟨l,rfl⟩:∃l:Nat,k=(l:Int):=#[k.toNat,oM];let m:l<fr.count:=oM;rw[l6 c,aT]at q;simp only[]at q;let#[y,ar,xs,hy,G]:=L.B4 m;refine(aa<|by simp only[decide_eq_true_eq];exact λz=>z c).mpr ?_;let n:¬(0<=i/\i<(↑(aL o l):Int))->∀p,H p=none->Q (.ref p) (upd H p<|.lst [.int (-5)]):=λz p g=>by rw[km z]at q;exact q _ p (lay0 g) g au
 by_cases c0:i<0
 .exact(ac<|ag c0).mpr #[one_le,λp g=>n oM p g]
 refine(aa<|by simp only[decide_eq_true_eq];exact c0).mpr #[B,dx,_,L.ins,O.cl,O.no "rows" sP,_,rfl,r,rfl,_,bW.of L.lst,_,ar,y,rfl,_,.inl<|bW.of hy,?_];rw[G];by_cases S:(↑(aL o l):Int)<=i
 .exact(ac<|ag S).mpr #[one_le,λp g=>n oM p g]
 refine(aa<|by simp only[decide_eq_true_eq];exact S).mpr ?_;obtain⟨j,rfl⟩:∃j:Nat,i=(j:Int):=#[i.toNat,oM];let D:j<↑(aL o l):=oM;rw[l6 oM,aT,fQ,aq D]at q;simp only[]at q;refine#[Cy,λU I=>#[_,.inr<|f9.of au,rfl,dC,?_]];let s1:a8 H (upd H U (.tup [.int 0,.int 1])):=lay0 I;generalize upd H U (.tup [.int 0,.int 1])=H1 at s1|-;rw[abb];by_cases X:C=0\/C=1;rotate_left
 .rw[ac oM]at q;rw[ah X];exact(ac rfl).mpr #[one_le,λp g=>q _ p (s1.trans<|lay0 g) (bh s1 g) au]
 rw[ag X];rw[aa oM]at q;obtain⟨up,rfl,J⟩:∃up:Bool,C=(if up=true then 0 else 1)/\(C==0)=up:=gR;rw[J]at q;refine(aa sP).mpr #[x,r,fr,o,l,up,_,rfl,rfl,F.mono s1,m,λH2 a M s2 ha na ea=>?_];let#[z,hz,az,u,ez]:=na.at ea (j:=j) (by rw[ko];exact D);let N:z.2=uE fr o up l (aL o l)[j]:=by rw[ez,oj fr o up D,bz,aq D];rfl
 let v:H2 z.1>(.lst<|(dq z.2).map V.int):=by rw[BM];exact u
 exists a,rfl,_,bW.of na.lst,_,az,z.1,rfl,_,.inl<|bW.of u;refine#[z.1,rfl,dq z.2,bW.of v,Cy,λp g=>q _ p ((s1.trans s2).trans (lay0 g)) (bh (s1.trans s2) g) ?_];rw[au,aj,xG,N];rfl
def Cj(h:bY k f.count=none):jN f o (.best k)=o/\iF f o (.best k)=[-2]:=by delta jN iF;simp only[bP,dW,h];exact#[rfl,rfl]
def FV(h:bY k f.count>r)(a:OS f o r=none):jN f o (.best k)=o/\iF f o (.best k)=[-6]:=by delta jN iF;simp only[bP,dW,h,a];exact#[rfl,rfl]
def Dr(h:bY k f.count>r)(a:OS f o r>l):jN f o (.best k)=o.set r l/\iF f o (.best k)=[(dk f (o.set r l):Int)]:=by delta jN iF;simp only[bP,dW,h,a];exact#[rfl,rfl]
def Wk(CL PT:Addr):Sp:=λvs H Q _=>∃x r f o k,vs=[.ref x,.int k]/\dE CL H x r f o/\Tab PT H/\Su CL PT H x r f Q (jN f o<|.best k) (iF f o<|.best k)
def Np(T:Txt K mg)(U:qy K mg){n PT f:Addr}(N:fW K n ["edges","ranks","rows"])(h:iW K mg "best" Q7 f fd)(d:Good P w K mg aD dO 1 "no_such_rank" ["layout","rank"] (Il n))(i:Good P w K mg aD dO 1 "reorder" ["layout","rank","places"] (Eo n))
  (g:Good P w K mg aD dO 5 "best_order" ["layout","rank"] (Mu n))(a:Good P w K mg aD dO 5 "all_crossings" ["layout"] (uW n)):Good P w K mg aD dO 6 "best" ["layout","rank"] (Wk n PT):=by
 refine h.gd ["layout","rank"] λY A outer s H vs Q E nd G h=>?_;obtain⟨x,r,fr,o,k,rfl,u,tab,q⟩:=h;let#[Z,e,kk,ii,rows,L]:=id u;exists _,(aw (dI (HS<|p0 d G<|ir v0 v1) (aC<|bC<|dr<|da<|oX ls aV) cg)
  (aw (dI (bG om (bO (ia K) rfl T.len dB (da<|bM (j7 K) (fld K v0) v1 (λ_ _=>rfl))) (oY U.si) (b9 _)) (aC<|bC<|dr<|da<|oX ls aV) cg)
  (aw (cO<|p0 i G<|AF v0 v1<|p0 g G<|ir v0 v1)
  (aC<|bC<|dr<|da<|p0 a G<|da v0))))
 lia;exists x,r,fr,o,k,rfl,u,_,rfl;by_cases c:0<=k/\k<(fr.count:Int);rotate_left
 .let#[B,C]:=Cj (o:=o) (km c);rw[B,C]at q;exact(ac<|ag c).mpr #[one_le,λp m=>q.lM u tab (lay0 m) m au]
 obtain⟨j,rfl⟩:∃j:Nat,k=(j:Int):=#[k.toNat,oM];let v:j<fr.count:=oM;let D:bY (j:Int) fr.count>j:=by rw[l6 c,aT]
 let#[y,ar,xs,hy,I]:=L.B4 v;refine(aa<|by simp only[decide_eq_true_eq];exact λz=>z c).mpr #[n,Z,_,L.ins,N.cl,N.no "rows" sP,_,rfl,r,rfl,_,bW.of L.lst,_,ar,y,rfl,_,.inl<|bW.of hy,?_];rw[I];by_cases c6:6<↑(aL o j)
 .let#[B,C]:=FV D<|C4 fr o j c6;rw[B,C]at q;exact(ac<|ag oM).mpr #[one_le,λp m=>q.lM u tab (lay0 m) m au]
 let#[B,C]:=Dr D<|GA fr o j oM;rw[B,C]at q;refine(aa<|by simp only[decide_eq_true_eq];omega).mpr #[x,r,fr,o,j,rfl,u,v,oM,λH1 b s1 O h1=>?_];let J:b≠r:=λz=>by rw[z,L.lst]at O;cases O
 refine#[x,r,b,fr,o,j,_,rfl,u.mono s1,v,h1,J,M4 _ _,λR S l=>#[x,r,fr,_,rfl,l,λH3 s3=>#[one_le,λp m=>?_]]];let F:a' [x,r,PT] H R:=(cX s1).trans (S.mono sP);let X:Tab PT R:=Tab.YB (tab.same s1) (s1 _ _ L.lst) S;let#[xs2,M]:=l.rl;exact q.done F X (.inl rfl) l (s3.trans<|lay0 m) (yf u #[_,M] l X F (bh s3 m)) au
def W3(q:Nat)(na ra:Addr)(nx:Nat):List (Str×V):=[("number",.int (q:Int)),("numbers",.ref na),("row",.ref ra),("behind",.int (nx:Int))]
structure r6(CC:Addr)(H:Hp)(c na ra:Addr)(q:Nat)(nums row:List Int)(nx:Nat):Prop where
 ins:∃dx,H c>.ins CC dx (W3 q na ra nx)
 Ea:H na>.lst (nums.map V.int)
 UN:H ra>.lst (row.map V.int)
def r6.mono(h:r6 a H c na b q nums row nx)(s:a8 H d):r6 a d c na b q nums row nx:=#[let#[f,e]:=h.ins;#[f,s _ _ e],s _ _ h.Ea,s _ _ h.UN]
abbrev A6:List Str:=["number","numbers","row","behind"]
def Wi(CL CC:Addr):Sp:=λvs H Q _=>∃x r c na ra f o q nx nums row,vs=[.ref x,.ref c]/\dE CL H x r f o/\r6 CC H c na ra q nums row nx/\↑nums=eS q/\(q=2\/q=3\/q=4\/q=10)/\WC H Q (iF f o<|toCall q nums row)
def Oo(f)(o)(k):iF f o (.rank k)=wR f o k:=by delta iF wR;simp only[bP,dW];cases bY k f.count<;>rfl
def KJ(f)(o)(k):iF f o (.pairs k)=AG f o k:=by delta iF AG;simp only[bP];cases bY k (f.count-1)<;>rfl
def JH(U:qy K mg)(g:fW K m A6)(h:iW K mg "asked" Mi f fd)(i:Good P w K mg aD dO 2 "rank_items" ["layout","rank"] (Mz v))(e:Good P w K mg aD dO 6 "count_crossings" ["layout"] (Wl v))
  (j:Good P w K mg aD dO 4 "list_pairs" ["layout","channel"] (ab8 v))(l:Good P w K mg aD dO 4 "middle" ["layout","rank","place","side"] (Wo v)):Good P w K mg aD dO 7 "asked" ["layout","call"] (Wi v m):=by
 refine h.gd ["layout","call"] λD A outer s H vs Q E G y h=>?_;obtain⟨x,r,c,na,I,fr,o,q,nx,nums,row,rfl,z,C,B,F,k⟩:=h;exists _,(aw (dI (bG il (fld K v1) (oY U.aac) (b9 _)) (aC<|bC<|p0 i y<|ir v0<|bM (j7 K) (fld K v1) aV (λ_ _=>rfl)) cg)
  (aw (dI (bG il (fld K v1) (oY U.Dx) (b9 _)) (aC<|bC<|p0 e y<|da v0) cg)
  (aw (dI (bG il (fld K v1) (oY U.Vz) (b9 _)) (aC<|bC<|p0 j y<|ir v0<|bM (j7 K) (fld K v1) aV (λ_ _=>rfl)) cg)
  (aC<|bC<|p0 l y<|J5 v0 (bM (j7 K) (fld K v1) aV (λ_ _=>rfl)) (bM (j7 K) (fld K v1) aV (λ_ _=>rfl)) (bM (j7 K) (fld K v1) aV (λ_ _=>rfl))))))
 lia;let#[n,p]:=C.ins;let u:=C.Ea;exists m,n,_,p,g.cl,g.no "number" sP,_,rfl,rfl;obtain rfl|rfl|rfl|rfl:=F
 .obtain⟨a,rfl⟩:=yo B;rw[show toCall 2 [a] row=.rank a from rfl,Oo]at k;exact(ac dC).mpr #[m,n,_,p,g.cl,g.no "numbers" sP,_,rfl,na,rfl,_,bW.of u,_,rfl,x,r,fr,o,a,rfl,z,k]
 .rw[show toCall 3 nums row=.crossings from rfl]at k;exact(aa dC).mpr #[m,n,_,p,g.cl,g.no "number" sP,_,rfl,rfl,(ac dC).mpr #[x,r,fr,o,rfl,z,k]]
 .obtain⟨a,rfl⟩:=yo B;rw[show toCall 4 [a] row=.pairs a from rfl,KJ]at k;exact(aa dC).mpr #[m,n,_,p,g.cl,g.no "number" sP,_,rfl,rfl,(aa dC).mpr #[m,n,_,p,g.cl,g.no "number" sP,_,rfl,rfl,(ac dC).mpr #[m,n,_,p,g.cl,g.no "numbers" sP,_,rfl,na,rfl,_,bW.of u,_,rfl,x,r,fr,o,a,rfl,z,k]]]
 .obtain⟨a,b,d,rfl⟩:=XR B;rw[show toCall 10 [a,b,d] row=.middle a b d from rfl]at k;exact(aa dC).mpr #[m,n,_,p,g.cl,g.no "number" sP,_,rfl,rfl,(aa dC).mpr #[m,n,_,p,g.cl,g.no "number" sP,_,rfl,rfl,(aa dC).mpr #[m,n,_,p,g.cl,g.no "numbers" sP,_,rfl,na,rfl,_,bW.of u,_,rfl,m,n,_,p,g.cl,g.no "numbers" sP,_,rfl,na,rfl,_,bW.of u,_,rfl,m,n,_,p,g.cl,g.no "numbers" sP,_,rfl,na,rfl,_,bW.of u,_,rfl,x,r,fr,o,a,b,d,rfl,z,k]]]
def Ri(CL CC PT:Addr):Sp:=λvs H Q _=>∃x r c na ra f o q nx nums row,vs=[.ref x,.ref c]/\dE CL H x r f o/\Tab PT H/\(∀k,k∈f.ranks↔k<f.count)/\WF f (cE f)/\r6 CC H c na ra q nums row nx/\ra≠r/\↑nums=eS q/\(q=5\/q=6\/q=7\/q=8\/q=9\/q=11)/\Su CL PT H x r f Q (jN f o<|toCall q nums row) (iF f o<|toCall q nums row)
def Fg(U:qy K mg){p d PT f:Addr}(b:fW K d A6)(h:iW K mg "changed" Eg f fd)(u:Good P w K mg aD dO 6 "put" ["layout","rank","places"] (Wp p PT))(j:Good P w K mg aD dO 6 "sweep" ["layout","direction"] (acb p PT))(l:Good P w K mg aD dO 7 "swaps" ["layout"] (MB p PT .swaps))
  (i:Good P w K mg aD dO 8 "settle" ["layout"] (MB p PT .settle))(m:Good P w K mg aD dO 6 "anew" ["layout"] (Rf p PT))(n:Good P w K mg aD dO 6 "best" ["layout","rank"] (Wk p PT)):Good P w K mg aD dO 9 "changed" ["layout","call"] (Ri p d PT):=by
 refine h.gd ["layout","call"] λG A outer s H vs Q E L y h=>?_;obtain⟨x,r,c,na,I,fr,o,q,nx,nums,row,rfl,z,tab,B,W,C,D,F,J,k⟩:=h;exists _,(aw (dI (bG il (fld K v1) (oY U.PUT) (b9 _)) (aC<|bC<|p0 u y<|AF v0 (bM (j7 K) (fld K v1) aV (λ_ _=>rfl)) (fld K v1)) cg)
  (aw (dI (bG il (fld K v1) (oY U.aaf) (b9 _)) (aC<|bC<|p0 j y<|ir v0<|bM (j7 K) (fld K v1) aV (λ_ _=>rfl)) cg)
  (aw (dI (bG il (fld K v1) (oY U.aae) (b9 _)) (aC<|bC<|p0 l y<|da v0) cg)
  (aw (dI (bG il (fld K v1) (oY U.WS) (b9 _)) (aC<|bC<|p0 i y<|da v0) cg)
  (aw (dI (bG il (fld K v1) (oY U.acz) (b9 _)) (aC<|bC<|p0 m y<|da v0) cg)
  (aC<|bC<|p0 n y<|ir v0<|bM (j7 K) (fld K v1) aV (λ_ _=>rfl)))))))
 lia;let#[e,g]:=C.ins;let v:=C.Ea;exists d,e,_,g,b.cl,b.no "number" sP,_,rfl,rfl;obtain rfl|rfl|rfl|rfl|rfl|rfl:=J
 .obtain⟨a,rfl⟩:=yo F;rw[show toCall 5 [a] row=.put a row from rfl]at k;exact(ac dC).mpr #[d,e,_,g,b.cl,b.no "numbers" sP,_,rfl,na,rfl,_,bW.of v,_,rfl,d,e,_,g,b.cl,b.no "row" sP,_,rfl,x,r,I,fr,o,a,row,rfl,z,tab,C.UN,D,k]
 .obtain⟨a,rfl⟩:=yo F;rw[show toCall 6 [a] row=.sweep a from rfl]at k;exact(aa dC).mpr #[d,e,_,g,b.cl,b.no "number" sP,_,rfl,rfl,(ac dC).mpr #[d,e,_,g,b.cl,b.no "numbers" sP,_,rfl,na,rfl,_,bW.of v,_,rfl,x,r,fr,o,a,rfl,z,tab,k]]
 .rw[show toCall 7 nums row=.swaps from rfl]at k;exact(aa dC).mpr #[d,e,_,g,b.cl,b.no "number" sP,_,rfl,rfl,(aa dC).mpr #[d,e,_,g,b.cl,b.no "number" sP,_,rfl,rfl,(ac dC).mpr #[x,r,fr,o,rfl,z,tab,k]]]
 .rw[show toCall 8 nums row=.settle from rfl]at k;exact(aa dC).mpr #[d,e,_,g,b.cl,b.no "number" sP,_,rfl,rfl,(aa dC).mpr #[d,e,_,g,b.cl,b.no "number" sP,_,rfl,rfl,(aa dC).mpr #[d,e,_,g,b.cl,b.no "number" sP,_,rfl,rfl,(ac dC).mpr #[x,r,fr,o,rfl,z,tab,k]]]]
 .rw[show toCall 9 nums row=.anew from rfl]at k;exact(aa dC).mpr #[d,e,_,g,b.cl,b.no "number" sP,_,rfl,rfl,(aa dC).mpr #[d,e,_,g,b.cl,b.no "number" sP,_,rfl,rfl,(aa dC).mpr #[d,e,_,g,b.cl,b.no "number" sP,_,rfl,rfl,(aa dC).mpr #[d,e,_,g,b.cl,b.no "number" sP,_,rfl,rfl,(ac dC).mpr #[x,r,fr,o,rfl,z,tab,B,W,k]]]]]
 .obtain⟨a,rfl⟩:=yo F;rw[show toCall 11 [a] row=.best a from rfl]at k;exact(aa dC).mpr #[d,e,_,g,b.cl,b.no "number" sP,_,rfl,rfl,(aa dC).mpr #[d,e,_,g,b.cl,b.no "number" sP,_,rfl,rfl,(aa dC).mpr #[d,e,_,g,b.cl,b.no "number" sP,_,rfl,rfl,(aa dC).mpr #[d,e,_,g,b.cl,b.no "number" sP,_,rfl,rfl,(aa dC).mpr #[d,e,_,g,b.cl,b.no "numbers" sP,_,rfl,na,rfl,_,bW.of v,_,rfl,x,r,fr,o,a,rfl,z,tab,k]]]]]
end
section
variable{P:a7}{w:bS}{K:ao}{mg:Str->Option Value}{aD:Heap}
open VadiBase (Bytes word showNat)
structure Vt(H:Hp)(a:Addr)(rows:List (Addr×Bytes)):Prop where
 lst:H a>.lst (rows.map λx=>V.ref x.1)
 row:∀x∈rows,H x.1>.lst ((ff x.2).map V.int)
def Vt.mono(h:Vt H a rows)(s:a8 H b):Vt b a rows:=#[s _ _ h.lst,λx c=>s _ _<|h.row x c]
def KH:Sp:=λvs H Q _=>∃a rows,vs=[.ref a]/\Vt H a rows/\↑rows<=10/\(∀x∈rows,↑x.2<=20)/\∀H' q,a8 H H'->H q=none->H' q>.lst ((ff (sT (rows.map (·.2)))).map V.int)->Q (.ref q) H'
def qC:ek " "=ff [32]/\ek ";\n"=ff [59,10]/\ek "->"=ff (word "->")/\ek ":"=ff (word ":"):=dK
theorem l_(a b:Bytes):ff (a++b)=ff a++ff b:=by delta ff;rw[aJ]
def yt:∀(rows:List (Addr×Bytes)),(∀x∈rows,↑x.2<=20)->((rows.map (·.2)).flatMap λp=>p++[32]).length<=21*↑rows
 |[],_=>sP
 |a::l,h=>by let:=yt l λx b=>h x<|aR _ b;let:=h a<|aZ ..;rw[bb,dw,aW,aW,aQ];simp only[aQ,c9];omega
def Nq(h:iW K mg "line" Q8 f fd)(b:Good P w K mg aD dO 1 "codes" ["written"] xB):Good P w K mg aD dO 2 "line" ["parts"] KH:=by
 refine h.gd ["parts","row","part"] λL A outer s H vs Q E D G h=>?_;obtain⟨a,rows,rfl,o,U,I,k⟩:=h;exists _,(aw (st 1 D<|dr ib)
  (aw (dM aY rfl (qh K v0) (pn 2 D) (aw (cO<|bm K aX dm dn iV v1<|da v2)
  (aC<|cO<|bm K aX dm dn iV v1<|da<|p0 b G<|da fM)))
  (aw (cO<|bm K aX dm dn iV v1<|da<|p0 b G<|da fM)
  (aC<|bC v1))))
 lia;refine#[sZ,λq l=>?_];let s1:a8 H (upd H q<|.lst []):=lay0 l;let r:(upd H q<|.lst []) q>.lst []:=au;generalize upd H q (.lst [])=H1 at s1 r|-;let#[Pv,d]:=oh λi F e=>∃y,F=[~~~.ref a,~~~.ref q,y]/\a8 H e/\e q>.lst ((ff (((rows.take i).map (·.2)).flatMap λp=>p++[32])).map V.int);let m:∀i,(((rows.take i).map (·.2)).flatMap λp=>p++[32]).length<=210:=λi=>by
  let r:=yt (rows.take i) λx M=>I x<|eW M;let g:↑(rows.take i)<=↑rows:=by rw[bN];omega
  omega
 refine#[_,rfl,a,rfl,#[_,bW.of<|s1 _ _ o.lst],eH (K:=K) (a:=a) (xs:=rows.map λx=>V.ref x.1) Pv (d.mpr #[none,rfl,s1,r]) (λi F e _ z=>?_) ?_ ?_]
 .let#[_,_,s2,_]:=d.mp z;exact bW.of (s2 _ _ o.lst)
 .intro i v F e N j;obtain⟨y,rfl,s2,g⟩:=d.mp j;obtain⟨u,B,rfl⟩:=gm N;let O:=s2 _ _<|o.row u<|ax B;let R:=I u<|ax B;let J:=m i;lia;refine#[.inl #[rfl,_,bW.of g],_,g,_,O,by rw[aj,aj,dU,dU,aK];omega,?_];let s3:a8 H (upd e q (.lst ((ff (((rows.take i).map (·.2)).flatMap λp=>p++[32])).map V.int++(ff u.2).map V.int))):=lay s2 l;let C:(upd e q (.lst ((ff (((rows.take i).map (·.2)).flatMap λp=>p++[32])).map V.int++(ff u.2).map V.int))) q>.lst ((ff (((rows.take i).map (·.2)).flatMap λp=>p++[32])).map V.int++(ff u.2).map V.int):=au;generalize upd e q (.lst ((ff (((rows.take i).map (·.2)).flatMap λp=>p++[32])).map V.int++(ff u.2).map V.int))=X at s3 C|-;refine#[.inl #[rfl,_,bW.of C],_,rfl,dK,λS c s4 T n=>?_];rw[qC.1]at n;refine#[c,rfl,_,s4 _ _ C,_,n,by rw[aW,aj,aj,aj,dU,dU,dU,aK];simp only[aQ,c9];omega,d.mpr #[_,rfl,lay (s3.trans s4) l,?_]];rw[au,aN,B,dj,aJ,dX,l_,aJ];simp[l_]
 .intro F e j;obtain⟨y,rfl,s2,g⟩:=d.mp j;let J:=m ↑rows;rw[aj,br]at g;rw[br]at J;lia;refine#[.inl #[rfl,_,bW.of g],_,rfl,dK,λS c s4 T n=>?_];rw[qC.2.1]at n;refine#[c,rfl,_,s4 _ _ g,_,n,by rw[aj,aj,dU,dU,aK];simp only[aQ,c9];omega,k _ q (lay (s2.trans s4) l) l ?_];rw[au,<-aJ,<-l_];rfl
def Rn(CD:Addr):Sp:=λvs H Q _=>∃g d,vs=[.ref g]/\uv CD H g d/\MV d/\Th d/\↑d.boxes<=24/\↑d.edges<=40/\↑d.wishes<=16/\∀H' q,a8 H H'->H q=none->H' q>(.lst<|(ff<|eX d).map V.int)->Q (.ref q) H'
def Eu(n:Nat):ek (eK (toString (n:Int)))=ff (kF n):=by delta ek;rw[Str.ofString_eq_toList,UZ,<-Do];simp
def Cb:∀n,n<31->↑(kF n)<=2:=dC
def Iw{n:Nat}(h:n<=30):(eK (toString (n:Int))).cps.size<=1000:=by let a:=af ck<|Eu n;delta ek at a;rw[aj,dP,dU]at a;let:=Cb n oM;omega
def D8{n:Nat}(h:n<=30):((n:Int)).natAbs.log2<1920:=by rw[Int.natAbs_natCast];exact ON (Nat.log2_le_self n) oM
def yp(ps)(h:∀p∈ps,↑p<=20):↑(sT ps)<=21*↑ps+2:=by
 let:=yt (ps.map λp=>((0:Addr),p)) λx hx=>gR;rw[aS]at this;let e:ps.map ((λx=>x.2)∘λp=>((0:Addr),p))=ps:=by
  conv=>rhs;rw[<-kN ps]
  rfl
 rw[e,aj]at this;delta sT;rw[aW];simp only[aQ,c9];omega
def wj{c:Type}(g:c->Bytes)(n):∀l:List c,(∀x∈l,↑(g x)<=n)->↑(l.flatMap g)<=n*↑l
 |[],_=>sP
 |a::l,h=>by let:=wj g n l λx b=>h x<|aR _ b;let:=h a<|aZ ..;rw[dw,aW,aQ,Nat.mul_succ];omega
def Ln(h:O3 b):∀p∈[word "box",b.name.name,kF b.w,kF b.h],↑p<=20:=λp a=>by let c:=h.1;let d:=Cb b.w (by let:=h.2.1;omega);let e:=Cb b.h (by let:=h.2.2;omega);let f:↑(word "box")=3:=dC;simp only[aE,cN,or_false]at a;obtain rfl|rfl|rfl|rfl:=a<;>omega
def Df:Option Bytes->List Bytes
 |some l=>[word ":",l]
 |none=>[]
def xx(e):fC e=sT ([word "edge",e.src.name,word "->",e.dst.name]++Df e.label):=by rw[Dm];cases e.label<;>rfl
def Da(T:Txt K mg)(cD:fW K CD ["boxes","edges","labels","wishes"])(h:iW K mg "one_form" B7 f fd)(n:Good P w K mg aD dO 1 "codes" ["written"] xB)(O:Good P w K mg aD dO 2 "line" ["parts"] KH):Good P w K mg aD dO 3 "one_form" ["diagram"] (Rn CD):=by
 refine h.gd ["diagram","names","form","box","arc","label","parts"] λoz A outer s H vs Q E nd hr h=>?_;obtain⟨g,d,rfl,hD,hS,hN,n1,n2,n3,k⟩:=h;let#[gx,bl,el,lb,wl,zQ,ii,AO,ZO,hg,TK,ebl,SI,VU,eel,hlb,elb,JP,NC,ewl]:=hD;exists _,(aw (li (i:=1) rfl nd rfl rfl (nE rfl rfl rfl rfl) (qh K<|fld K v0) (pz [("box",3)]) (λ_ _ _ _ _=>(pn 3 nd)) (λ_ _ _ _ _=>jX) (λ_ _ _ _ _=>(dL (listOf K) rfl T.list i' (da<|bM (kL K) v3 aV (λ_ _=>rfl)))))
  (aw (st 2 nd<|dr ib)
  (aw (dM aY rfl (qh K<|fld K v0) (pn 3 nd) (aC<|cO<|bm K aX dm dn iV v2<|da<|p0 O hr<|da<|dr<|J5 (p0 n hr<|da fM) (dL (listOf K) rfl T.list i' (da<|bM (kL K) v3 aV (λ_ _=>rfl))) (p0 n hr<|da<|dL wa rfl T.str Pr<|da<|bM (kL K) v3 aV (λ_ _=>rfl)) (p0 n hr<|da<|dL wa rfl T.str Pr<|da<|bM (kL K) v3 aV (λ_ _=>rfl))))
  (aw (dM aY rfl (piZ K T.zip<|ir (fld K v0) (fld K v0)) (OY K 2<|eJ (pn 4 nd) (eJ (pn 5 nd) kf)) (aw (st 6 nd<|dr<|J5 (p0 n hr<|da fM) (bM (j7 K) v1 (bM (kL K) v4 aV (λ_ _=>rfl)) (λ_ _=>rfl)) (p0 n hr<|da fM) (bM (j7 K) v1 (bM (kL K) v4 aV (λ_ _=>rfl)) (λ_ _=>rfl)))
  (aw (dI (bG Ui v5 sX<|b9 _) (aC<|cO<|bm K aX dm dn iV v6<|da<|dr<|ir (p0 n hr<|da fM) (dL (listOf K) rfl T.list i' (da v5))) cg)
  (aC<|cO<|bm K aX dm dn iV v2<|da<|p0 O hr<|da v6))))
  (aw (dM aY rfl (qh K<|fld K v0) (pn 4 nd) (aC<|cO<|bm K aX dm dn iV v2<|da<|p0 O hr<|da<|dr<|AF (p0 n hr<|da fM) (bM (j7 K) v1 (bM (kL K) v4 aV (λ_ _=>rfl)) (λ_ _=>rfl)) (bM (j7 K) v1 (bM (kL K) v4 aV (λ_ _=>rfl)) (λ_ _=>rfl))))
  (aC<|bC v2))))))
 lia;refine#[_,rfl,g,CD,gx,_,_,rfl,hg,cD.cl,cD.no "boxes" sP,rfl,bl,rfl,#[_,bW.of TK],λD hD=>?_];let bat:∀{i:Nat}{x:Addr×Addr},zQ[i]?>x->∃b,d.boxes[i]?>b/\b∈d.boxes/\H x.1>.tup [.ref x.2,.int (b.w:Int),.int (b.h:Int)]/\H x.2>(.tup<|(ff b.name.name).map V.int):=λ{i x} e=>by let hi:=gl e;let#[b,M]:∃b,d.boxes[i]?>b:=#[_,aq oM];exact#[b,M,ax M,(SI i x b e M).1,(SI i x b e M).2]
 let#[Pk,P9]:=Ft λm U=>∃nr,a8 H U/\Vt U D nr/\nr.map (·.2)=(d.boxes.take m).map (λb=>b.name.name)/\∀x∈nr,x.1≠D;refine jy (K:=K) (a:=bl) (xs:=zQ.map λx=>V.ref x.1) Pk (P9.mpr #[[],lay0 hD,#[au,sP],rfl,sP]) (λm U _ z=>?_) ?_ ?_
 .let#[_,s4,_]:=P9.mp z;exact bW.of (s4 _ _ TK)
 .intro i v U hi R;let#[nr,s4,l4,e4,f4]:=P9.mp R;obtain⟨y,q,rfl⟩:=gm hi;let#[b,M,Xm,VS,ZC]:=bat q;let G8:=gl q;let hnr:↑nr<=i:=by let:=af ck e4;rw[aj,aj,bN]at this;omega
  lia;refine#[_,f9.of<|s4 _ _ VS,_,rfl,y.2,rfl,_,.inr<|f9.of<|s4 _ _ ZC,λl hl=>?_];let nlD:l≠D:=λz=>by rw[z,l4.lst]at hl;cases hl
  let s5:a8 U (upd U l<|.lst<|(ff b.name.name).map V.int):=lay0 hl;refine#[_,by rw[aH nlD.symm];exact l4.lst,sZ,P9.mpr #[nr++[(l,b.name.name)],lay (s4.trans s5) hD,#[by rw[au];simp,λx G=>?_],by rw[aJ,e4,aN,M];simp,λx G=>?_]]
  .obtain m|m:=aM.mp G
   .rw[aH (f4 x m)];exact s5 _ _ (l4.row x m)
   .rw[bd.mp m,aH nlD,au]
  .grind
 .intro U R;let#[nm,s4,l4,e4,f4]:=P9.mp R;rw[aj,ebl,br]at e4;refine#[sZ,λX hfm=>?_];let fmH:H X=none:=bh s4 hfm;let s5:a8 U (upd U X<|.lst []):=lay0 hfm;let h5:(upd U X<|.lst []) X>.lst []:=au;generalize upd U X (.lst [])=H5 at s5 h5|-;let s05:=s4.trans s5;let hnl:↑nm=↑d.boxes:=by let:=af ck e4;simpa using this
  let B:∀{p:VadiBase.PName},sj d p->∃u,nj (nm.map λx=>V.ref x.1) ((dG d p:Nat):Int)>V.ref u.1/\u.2=p.name/\u∈nm/\↑u.2<=16:=λ{p} R=>by
   let#[b,M,en]:=R;let hi:=gl M;let#[u,hu]:∃u,nm[dG d p]?>u:=#[_,aq oM];let e5:u.2=b.name.name:=by let:=af (λz=>z[dG d p]?) e4;simp only[ak,hu,M,bD]at this;exact aO this
   exact#[u,at_of (j:=dG d p) rfl (by rw[ak,hu];rfl),e5.trans en,ax hu,by rw[e5];exact(hS.bx b<|ax M).1]
  let#[Pv,TH]:=oh λi F H6=>∃x3,F=[~~~.ref g,~~~.ref D,~~~.ref X,x3,none,none,none]/\a8 U H6/\H6 X>(.lst<|(ff<|(d.boxes.take i).flatMap f_).map V.int);let lb1:∀b∈d.boxes,↑(f_ b)<=200:=λb M=>by rw[xw];let:=yp _<|Ln<|hS.bx b M;simp only[aQ,c9]at this;omega
  let fb1:∀i,↑((d.boxes.take i).flatMap f_)<=4800:=λi=>by
   let h1:=wj f_ 200 (d.boxes.take i) λb M=>lb1 b<|eW M;let h2:↑(d.boxes.take i)<=↑d.boxes:=by rw[bN];omega
   omega
  let hg5:=s05 _ _ hg;refine#[_,rfl,g,CD,gx,_,_,rfl,hg5,cD.cl,cD.no "boxes" sP,rfl,bl,rfl,#[_,bW.of<|s05 _ _ TK],eH (K:=K) (a:=bl) (xs:=zQ.map λx=>V.ref x.1) Pv (TH.mpr #[none,rfl,s5,h5]) (λi F H6 _ z=>?_) ?_ ?_]
  .let#[_,_,s6,_]:=TH.mp z;exact bW.of ((s4.trans s6) _ _ TK)
  .intro i v F H6 hi hp6;obtain⟨x3,rfl,s6,h6⟩:=TH.mp hp6;obtain⟨y,q,rfl⟩:=gm hi;let#[b,M,Xm,VS,ZC]:=bat q;let bok:=hS.bx b Xm;let Wb:=s4.trans s6;lia;refine#[.inl #[rfl,_,bW.of h6],_,rfl,dK,λH7 a1 s7 ha1 h7=>?_];let ZT:=Wb.trans s7;refine#[_,f9.of<|ZT _ _ VS,_,rfl,y.2,rfl,_,.inr<|f9.of<|ZT _ _ ZC,λa2 ha2=>?_];let s8:a8 H7 (upd H7 a2<|.lst<|(ff b.name.name).map V.int):=lay0 ha2;let h8:(upd H7 a2<|.lst<|(ff b.name.name).map V.int) a2>(.lst<|(ff b.name.name).map V.int):=au;generalize upd H7 a2 (.lst<|(ff b.name.name).map V.int)=H8 at s8 h8|-;let s08:=ZT.trans s8;refine#[_,f9.of<|s08 _ _ VS,_,rfl,_,rfl,D8 bok.2.1,_,rfl,Iw bok.2.1,λH9 Y s9 ha3 N=>?_];let s09:=s08.trans s9;refine#[_,f9.of<|s09 _ _ VS,_,rfl,_,rfl,D8<|by let:=bok.2.2;omega,_,rfl,Iw<|by let:=bok.2.2;omega,λI a4 L ha4 VP=>?_];rw[Eu]at N VP;rw[sx.1]at h7;refine#[by show 4<=sizeLine;rw[aK];omega,λpl NB=>?_];let o:a8 I (upd I pl (.lst [.ref a1,.ref a2,.ref Y,.ref a4])):=lay0 NB;let r:Vt (upd I pl (.lst [.ref a1,.ref a2,.ref Y,.ref a4])) pl [(a1,word "box"),(a2,b.name.name),(Y,kF b.w),(a4,kF b.h)]:=#[au,λx G=>by
    simp only[aE,cN,or_false]at G;obtain rfl|rfl|rfl|rfl:=G
    .exact o _ _ (L _ _<|s9 _ _<|s8 _ _ h7)
    .exact o _ _ (L _ _<|s9 _ _ h8)
    .exact o _ _ (L _ _ N)
    .exact o _ _ VP]
   generalize upd I pl (.lst [.ref a1,.ref a2,.ref Y,.ref a4])=Y5 at o r|-;let s6b:a8 H6 Y5:=s7.trans<|s8.trans<|s9.trans<|L.trans o;let bl4:=Ln bok;refine#[pl,_,rfl,r,by show 4<=10;omega,λx G=>bl4 x.2<|by let:=fk (f:=λx:Addr×Bytes=>x.2) G;exact this,λZ ql C hql J=>?_];let e12:sT ([(a1,word "box"),(a2,b.name.name),(Y,kF b.w),(a4,kF b.h)].map λx:Addr×Bytes=>x.2)=f_ b:=(xw b).symm;rw[e12]at J;let f1:=fb1 i;let f2:=lb1 b Xm;refine#[ql,rfl,_,C _ _<|s6b _ _ h6,_,J,by rw[aj,aj,dU,dU,aK];omega,TH.mpr #[_,rfl,lay (s6.trans<|s6b.trans C) hfm,?_]];rw[au,aN,M,dj,dX,l_,aJ];simp
  .intro F H6 hp6;obtain⟨x3,rfl,s6,h6⟩:=TH.mp hp6;rw[aj,ebl,br]at h6;let Wb:=s4.trans s6;let hfb:↑(d.boxes.flatMap f_)<=4800:=by let:=fb1 ↑d.boxes;rw[br]at this;exact this
   let#[Pw,hPw]:=oh λi F H7=>∃x3 x4 x5 x6,F=[~~~.ref g,~~~.ref D,~~~.ref X,x3,x4,x5,x6]/\a8 U H7/\H7 X>(.lst<|(ff<|d.boxes.flatMap f_++(d.edges.take i).flatMap fC).map V.int);let yl:↑ii=↑d.edges:=by let:=af ck eel;simpa[eY,pN]using this
   let aap:∀e∈d.edges,∀p∈([word "edge",e.src.name,word "->",e.dst.name]++Df e.label),↑p<=20:=λe he p R=>by
    let#[w1,w2]:=hN.ed e he;let#[_,_,e1,_,l1]:=B w1;let#[_,_,e2,_,l2]:=B w2;rw[e1]at l1;rw[e2]at l2;let q1:↑(word "edge")=4:=dC;let q2:↑(word "->")=2:=dC;let q3:↑(word ":")=1:=dC;obtain R|R:=aM.mp R
    .grind
    .cases ql:e.label with
     |none=>rw[ql]at R;simp[Df]at R
     |some l=>
      rw[ql]at R;let:=hS.ed e he l ql;simp only[Df,aE,cN,or_false]at R;obtain rfl|rfl:=R<;>omega
   let lb2:∀e∈d.edges,↑(fC e)<=200:=λe he=>by
    rw[xx];let:=yp _<|aap e he;let h2:↑([word "edge",e.src.name,word "->",e.dst.name]++Df e.label)<=6:=by cases e.label<;>simp[Df]
    omega
   let fb2:∀i,↑((d.edges.take i).flatMap fC)<=8000:=λi=>by
    let h1:=wj fC 200 (d.edges.take i) λb M=>lb2 b<|eW M;let h2:↑(d.edges.take i)<=↑d.edges:=by rw[bN];omega
    omega
   refine#[_,rfl,g,CD,gx,_,_,rfl,Wb _ _ hg,cD.cl,cD.no "edges" sP,rfl,_,rfl,g,CD,gx,_,_,rfl,Wb _ _ hg,cD.cl,cD.no "labels" sP,rfl,el,lb,_,_,rfl,bW.of<|Wb _ _ VU.lst,bW.of<|Wb _ _ hlb,LG (K:=K) (a:=el) (b:=lb) (xs:=ii.map λx=>V.ref x.1) (ys:=ZO) Pw (by rw[aj];omega) (hPw.mpr #[x3,none,none,none,rfl,s6,by rw[h6];simp]) (λi F H7 _ z=>?_) ?_ ?_]
   .let#[_,_,_,_,_,s7,_]:=hPw.mp z;exact#[bW.of<|(s4.trans s7) _ _ VU.lst,bW.of<|(s4.trans s7) _ _ hlb]
   .intro i v u F H7 T1 hv hu IX JO;obtain⟨x3,x4,x5,x6,rfl,s7,h7⟩:=hPw.mp IX;obtain⟨y,qa,rfl⟩:=gm hv;let G8:=gl qa;let#[e,he]:∃e,d.edges[i]?>e:=#[_,aq oM];let Xn:=ax he;let TR:y.2=((dG d e.src:Int),(dG d e.dst:Int)):=by let N:=af (λl=>l[i]?) eel;delta bR oO at N;simp only[ak,qa,he,bD]at N;exact aO N
    let Xx:=VU.tup y<|ax qa;rw[TR]at Xx;let TM:=JP i u e hu he;let#[w1,w2]:=hN.ed e Xn;let#[u1,at1,en1,um1,_]:=B w1;let#[u2,at2,en2,um2,_]:=B w2;let#[NX,hNX]:∃NX,NX=Cn (tBM K "list" FG (lN 2) (jo (YL KH E0<|jo (lN 6) oG) oG)):=#[_,rfl];rw[<-hNX];let fin:∀De H9 pt rows,De.nx=Pw (i+1)->a8 U H9->H9 X>(.lst<|(ff<|d.boxes.flatMap f_++(d.edges.take i).flatMap fC).map V.int)->Vt H9 pt rows->rows.map (·.2)=([word "edge",e.src.name,word "->",e.dst.name]++Df e.label)->NX De [~~~.ref g,~~~.ref D,~~~.ref X,x3,~~~.ref y.1,some u,~~~.ref pt] H9:=by
     intro De H9 pt rows hnx s9 N hl9 er;rw[hNX];lia;let ZI:↑rows<=6:=by let:=af ck er;rw[aj]at this;rw[this];cases e.label<;>simp[Df]
     refine#[.inl #[rfl,_,bW.of N],pt,rows,rfl,hl9,oM,λx G=>aap e Xn x.2<|by rw[<-er];exact fk G,λZ ql C hql J=>?_];rw[er,<-xx]at J;let f1:=fb2 i;let f2:=lb2 e Xn;refine#[ql,rfl,_,C _ _ N,_,J,by rw[aj,aj,dU,dU,aW,aK];omega,?_];rw[hnx];refine hPw.mpr #[_,_,_,_,rfl,lay (s9.trans C) hfm,?_];rw[au,aN,he,dj,dX,<-cJ,l_ _<|[e].flatMap fC,aJ];simp
    let s7T:a8 H7 (upd H7 T1 (.tup [.ref y.1,u])):=lay0 JO;let hT7:(upd H7 T1 (.tup [.ref y.1,u])) T1>.tup [.ref y.1,u]:=au;generalize upd H7 T1 (.tup [.ref y.1,u])=H8 at s7T hT7|-;lia;exists _,f9.of hT7,rfl;lia;let s48:=s7.trans s7T;refine#[_,rfl,dK,λH9 a1 s9 ha1 N=>?_];let S:=s48.trans s9;let l9:=l4.mono S;exists _,f9.of<|(s4.trans S) _ _ Xx,_,rfl,_,_,rfl,bW.of l9.lst,_,at1;refine#[_,rfl,dK,λI Y L ha3 VP=>?_];let US:=S.trans L;let l10:=l4.mono US;refine#[_,f9.of<|(s4.trans US) _ _ Xx,_,rfl,_,_,rfl,bW.of l10.lst,_,at2,by show 4<=sizeLine;rw[aK];omega,λpt Xt=>?_];rw[sx.2.1]at N;rw[qC.2.2.1]at VP;let o:a8 I (upd I pt (.lst [.ref a1,.ref u1.1,.ref Y,.ref u2.1])):=lay0 Xt;let r:(upd I pt (.lst [.ref a1,.ref u1.1,.ref Y,.ref u2.1])) pt>.lst [.ref a1,.ref u1.1,.ref Y,.ref u2.1]:=au;let r11:∀x∈[(a1,word "edge"),u1,(Y,word "->"),u2],(upd I pt (.lst [.ref a1,.ref u1.1,.ref Y,.ref u2.1])) x.1>(.lst<|(ff x.2).map V.int)/\x.1≠pt:=λx G=>by
     let np:∀{c:Addr}{w:HO},I c>w->c≠pt:=λh z=>by rw[z,Xt]at h;cases h
     simp only[aE,cN,or_false]at G;obtain rfl|rfl|rfl|rfl:=G
     .exact#[o _ _<|L _ _ N,np<|L _ _ N]
     .exact#[o _ _<|l10.row x um1,np<|l10.row x um1]
     .exact#[o _ _ VP,np VP]
     .exact#[o _ _<|l10.row x um2,np<|l10.row x um2]
    generalize upd I pt (.lst [.ref a1,.ref u1.1,.ref Y,.ref u2.1])=Y5 at o r r11|-;let Yx:=US.trans o;let Xi:=o _ _<|L _ _<|s9 _ _<|s7T _ _ h7;let pt4:U pt=none:=bh US Xt;cases ql:e.label with
    |none=>
     rw[ql]at TM;let TM:u=.fP:=TM;subst TM;refine(aa dC).mpr (fin _ Y5 pt [(a1,word "edge"),u1,(Y,word "->"),u2] rfl Yx Xi #[r,λx G=>(r11 x G).1] ?_);rw[ql];simp[Df,en1,en2]
    |some l=>
     rw[ql]at TM;obtain⟨la,rfl,Xo⟩:=TM;refine(ac sP).mpr #[.inl #[rfl,_,bW.of r],_,rfl,dK,λZ a5 C ha5 J=>?_];rw[qC.2.2.2]at J;let aey:=Yx.trans C;refine#[la,rfl,_,.inr<|f9.of<|(s4.trans aey) _ _ Xo,λa6 ha6=>#[Cy,λp7 IX=>?_]];let s13:a8 Z (upd Z a6<|.lst<|(ff l).map V.int):=lay0 ha6;let h13:(upd Z a6<|.lst<|(ff l).map V.int) a6>(.lst<|(ff l).map V.int):=au;generalize upd Z a6 (.lst<|(ff l).map V.int)=H13 at s13 h13 IX|-;let s14:a8 H13 (upd H13 p7 (.lst [.ref a5,.ref a6])):=lay0 IX;let h14:(upd H13 p7 (.lst [.ref a5,.ref a6])) p7>.lst [.ref a5,.ref a6]:=au;generalize upd H13 p7 (.lst [.ref a5,.ref a6])=H14 at s14 h14|-;let UR:a8 Y5 H14:=C.trans<|s13.trans s14;refine#[_,UR _ _ r,_,h14,by show 4+2<=sizeLine;rw[aK];omega,?_];let na5:a5≠pt:=λz=>by rw[z,r]at ha5;cases ha5
     let na6:a6≠pt:=λz=>by rw[z,C _ _ r]at ha6;cases ha6
     let nfm:X≠pt:=λz=>by rw[z,r]at Xi;rw[<-z,(L _ _<|s9 _ _<|s7T _ _ h7)]at Xt;cases Xt
     refine fin _ _ pt [(a1,word "edge"),u1,(Y,word "->"),u2,(a5,word ":"),(a6,l)] rfl (lay (Yx.trans UR) pt4) (by rw[aH nfm];exact UR _ _ Xi) #[au,λx G=>?_] ?_
     .let ZL:x∈[(a1,word "edge"),u1,(Y,word "->"),u2]\/x=(a5,word ":")\/x=(a6,l):=gR;obtain ZL|rfl|rfl:=ZL
      .rw[aH (r11 x ZL).2];exact UR _ _ (r11 x ZL).1
      .rw[aH na5];exact s14 _ _ (s13 _ _ J)
      .rw[aH na6];exact s14 _ _ h13
     .rw[ql];simp[Df,en1,en2]
   .intro F H7 IX;obtain⟨x3,x4,x5,x6,rfl,s7,h7⟩:=hPw.mp IX;rw[aj,yl,br]at h7;let ZT:=s4.trans s7;let hfe:↑(d.edges.flatMap fC)<=8000:=by let:=fb2 ↑d.edges;rw[br]at this;exact this
    let aek:↑AO=↑d.wishes:=by let:=af ck ewl;simpa[eY,iy]using this
    let acs:∀x∈d.wishes,∀p∈[word "above",x.1.name,x.2.name],↑p<=20:=λx G p R=>by let#[w1,w2]:=hN.wi x G;let#[_,_,e1,_,l1]:=B w1;let#[_,_,e2,_,l2]:=B w2;rw[e1]at l1;rw[e2]at l2;let q1:↑(word "above")=5:=dC;simp only[aE,cN,or_false]at R;obtain rfl|rfl|rfl:=R<;>omega
    let lb3:∀x∈d.wishes,↑(ji x)<=200:=λx G=>by rw[uU];let:=yp _<|acs x G;simp only[aQ,c9]at this;omega
    let fb3:∀i,↑((d.wishes.take i).flatMap ji)<=3200:=λi=>by
     let h1:=wj ji 200 (d.wishes.take i) λb M=>lb3 b<|eW M;let h2:↑(d.wishes.take i)<=↑d.wishes:=by rw[bN];omega
     omega
    let#[Px,hPx]:=oh λi F H8=>∃x3 x4 x5 x6,F=[~~~.ref g,~~~.ref D,~~~.ref X,x3,x4,x5,x6]/\a8 U H8/\H8 X>(.lst<|(ff<|d.boxes.flatMap f_++d.edges.flatMap fC++(d.wishes.take i).flatMap ji).map V.int);refine#[_,rfl,g,CD,gx,_,_,rfl,ZT _ _ hg,cD.cl,cD.no "wishes" sP,rfl,wl,rfl,#[_,bW.of<|ZT _ _ NC.lst],eH (K:=K) (a:=wl) (xs:=AO.map λx=>V.ref x.1) Px (hPx.mpr #[_,_,_,_,rfl,s7,by rw[h7];simp]) (λi F H8 _ z=>?_) ?_ ?_]
    .let#[_,_,_,_,_,s8,_]:=hPx.mp z;exact bW.of ((s4.trans s8) _ _ NC.lst)
    .intro i v F H8 hv hp8;obtain⟨x3,x4,x5,x6,rfl,s8,h8⟩:=hPx.mp hp8;obtain⟨y,qa,rfl⟩:=gm hv;let G8:=gl qa;let#[e,he]:∃e,d.wishes[i]?>e:=#[_,aq oM];let Xn:=ax he;let TR:y.2=((dG d e.1:Int),(dG d e.2:Int)):=by let N:=af (λl=>l[i]?) ewl;delta bR iy at N;simp only[ak,qa,he,bD]at N;exact aO N
     let Xx:=NC.tup y<|ax qa;rw[TR]at Xx;let#[w1,w2]:=hN.wi e Xn;let#[u1,at1,en1,um1,_]:=B w1;let#[u2,at2,en2,um2,_]:=B w2;lia;refine#[.inl #[rfl,_,bW.of h8],_,rfl,dK,λH9 a1 s9 ha1 N=>?_];rw[sx.2.2.1]at N;let S:=s8.trans s9;let l9:=l4.mono S;refine#[_,f9.of<|(s4.trans S) _ _ Xx,_,rfl,_,_,rfl,bW.of l9.lst,_,at1,_,f9.of<|(s4.trans S) _ _ Xx,_,rfl,_,_,rfl,bW.of l9.lst,_,at2,by show 3<=sizeLine;rw[aK];omega,λpt Xt=>?_];let o:a8 H9 (upd H9 pt (.lst [.ref a1,.ref u1.1,.ref u2.1])):=lay0 Xt;let r:Vt (upd H9 pt (.lst [.ref a1,.ref u1.1,.ref u2.1])) pt [(a1,word "above"),u1,u2]:=#[au,λx G=>by
      simp only[aE,cN,or_false]at G;obtain rfl|rfl|rfl:=G
      .exact o _ _ N
      .exact o _ _ (l9.row x um1)
      .exact o _ _<|l9.row x um2]
     generalize upd H9 pt (.lst [.ref a1,.ref u1.1,.ref u2.1])=Y5 at o r|-;let el3:[(a1,word "above"),u1,u2].map (λx:Addr×Bytes=>x.2)=[word "above",e.1.name,e.2.name]:=by simp[en1,en2]
     refine#[pt,_,rfl,r,by show 3<=10;omega,λx G=>acs e Xn x.2<|by rw[<-el3];exact fk (f:=λx:Addr×Bytes=>x.2) G,λZ ql C hql J=>?_];rw[el3,<-uU]at J;let f1:=fb3 i;let f2:=lb3 e Xn;refine#[ql,rfl,_,C _ _<|o _ _<|s9 _ _ h8,_,J,by rw[aj,aj,dU,dU,aW,aW,aK];omega,hPx.mpr #[_,_,_,_,rfl,lay (S.trans<|o.trans C) hfm,?_]];rw[au,aN,he,dj,dX,<-cJ,l_ _<|[e].flatMap ji,aJ];simp
    .intro F H8 hp8;obtain⟨x3,x4,x5,x6,rfl,s8,h8⟩:=hPx.mp hp8;rw[aj,aek,br]at h8;lia;refine k H8 X (s4.trans s8) fmH ?_;rw[h8];delta eX;rw[cJ]
def MA(CD:Addr):Sp:=λvs H Q _=>∃g d,vs=[.ref g]/\uv CD H g d/\MV d/\Th d/\↑d.boxes<=24/\↑d.edges<=40/\↑d.wishes<=16/\↑(eX d)<=10000000/\WC H Q ((↑(eX d):Int)::ff (eX d))
def JK(T:Txt K mg)(h:iW K mg "shown" Mm f fd)(b:Good P w K mg aD dO 3 "one_form" ["diagram"] (Rn j)):Good P w K mg aD dO 4 "shown" ["diagram"] (MA j):=by
 refine h.gd ["diagram","form"] λl A outer s H vs Q E m n h=>?_;obtain⟨g,d,rfl,o,r,u,v,x,y,C,q⟩:=h;exists _,(aw (st 1 m<|p0 b n<|da v0)
  (aC<|bC<|fV qM (dr<|da<|bO (ia K) rfl T.len dB (da v1)) v1))
 lia;refine#[g,d,rfl,o,r,u,v,x,y,λH1 a s1 D e=>?_];refine#[a,rfl,_,.inl<|bW.of e,one_le,λp z=>?_];rw[aj,dU];let s2:a8 H1 (upd H1 p (.lst [.int (↑(eX d):Int)])):=lay0 z;let i:(upd H1 p (.lst [.int (↑(eX d):Int)])) p>.lst [.int (↑(eX d):Int)]:=au;generalize upd H1 p (.lst [.int (↑(eX d):Int)])=F at s2 i|-;refine#[a,rfl,_,i,_,s2 _ _ e,by rw[aj,dU,aK];show 1+_<=_;omega,λB c=>?_];exact q _ B ((s1.trans s2).trans (lay0 c)) (bh (s1.trans s2) c) (by rw[au];rfl)
def mV(a b:V):List (Str×V):=[("diagram",a),("layout",b)]
def uv.via(h:uv z H g d)(n:∀b xs,H b>.lst xs->A b>.lst xs)(kt:∀b xs,H b>.tup xs->A b>.tup xs)(O:∀b N o p r wl,H b>(.ins z N<|PL o p r wl)->A b>(.ins z N<|PL o p r wl)):uv z A g d:=by
 let#[Q,o,p,r,wl,zQ,B,C,D,R,E,F,c,f,G,I,J,j,m,L]:=h;refine#[Q,o,p,r,wl,zQ,B,C,D,O _ _ _ _ _ _ R,n _ _ E,F,λi x b s y=>#[kt _ _ (c i x b s y).1,kt _ _ (c i x b s y).2],#[n _ _ f.lst,λu M=>kt _ _<|f.tup u M],G,n _ _ I,J,λi v e s y=>?_,#[n _ _ m.lst,λu M=>kt _ _<|m.tup u M],L];let:=j i v e s y;cases q:e.label with
 |none=>rw[q]at this;exact this
 |some l=>
  rw[q]at this;let#[a,S,T]:=this;exact#[a,S,kt _ _ T]
def Jb(CD:Addr)(H:Hp)(g:Addr)(d:so)(F:List Addr):Prop:=∃Hd,uv CD Hd g d/\∀b u,Hd b>u->b∉F/\H b>u
def Jb.is(h:Jb c H g d F):uv c H g d:=let#[_,f,a]:=h;f.via (λb _ e=>(a b _ e).2) (λb _ e=>(a b _ e).2) λb _ _ _ _ _ e=>(a b _ e).2
def Jb.mono(h:Jb a H g d F)(s:a' F H c)(f:∀b∈i,b∈F\/H b=none):Jb a c g d i:=by
 let#[j,l,o]:=h;refine#[j,l,λb u e=>?_];let#[n,p]:=o b u e;refine#[λm=>?_,s b u n p];obtain z|z:=f b m
 .exact n z
 .grind
structure Vm(d:so):Prop where
 sz:MV d
 nm:Th d
 n1:↑d.boxes<=24
 n2:↑d.edges<=40
 n3:↑d.wishes<=16
 mem:∀k,k∈(bZ d).ranks↔k<(bZ d).count
 wf:WF (bZ d) (cE (bZ d))
def HeldAt(CH CD CL PT:Addr)(H:Hp)(h:Addr)(F:List Addr):A0->Prop
 |none=>F=[h]/\∃dx,H h>(.ins CH dx<|mV .fP .fP)
 |some hd=>∃dx g x r d,F=[h,x,r]/\H h>(.ins CH dx<|mV (.ref g) (.ref x))/\Jb CD H g d (PT::F)/\Vm d/\hd.frame=bZ d/\dE CL H x r hd.frame hd.order/\h≠r/\h≠x/\h≠PT
def Out(CH CD CL PT:Addr)(H:Hp)(h:Addr)(F:List Addr)(Q:VK)(s':A0)(l:List Int):Prop:=∀H' q F',a' (PT::F) H H'->(∀c∈F',c∈F\/H c=none)->Tab PT H'->HeldAt CH CD CL PT H' h F' s'->H q=none->H' q>(.lst<|l.map V.int)->Q (.ref q) H'
def HeldAt.mem{b f i PT:Addr}(c:HeldAt b f i PT H h F s):h∈F/\∃a fs,H h>.ins b a fs:=by
 cases s with
 |none=>obtain⟨rfl,a,e⟩:=c;exact#[sP,a,_,e]
 |some hd=>obtain⟨a,g,x,r,d,rfl,e,_⟩:=c;exact#[sP,a,_,e]
def HeldAt.mono{f i j PT:Addr}(l:HeldAt f i j PT H h F s)(a:a8 H m):HeldAt f i j PT m h F s:=by
 cases s with
 |none=>obtain⟨rfl,c,e⟩:=l;exact#[rfl,c,a _ _ e]
 |some hd=>
  obtain⟨c,g,x,r,d,rfl,e,o,I,p,q,n⟩:=l;exact#[c,g,x,r,d,rfl,a _ _ e,o.mono (cX a) λb u=>.inl u,I,p,q.mono a,n]
def Out.lM{b d e PT:Addr}(o:Out b d e PT H h F Q s l)(f:HeldAt b d e PT H h F s)(t:Tab PT H):WC H Q l:=λg q a i h'=>o g q F (cX a) (λc j=>.inl j) (t.same a) (f.mono a) i h'
def FO(CH:Addr):Sp:=λvs H Q _=>∃x dx,vs=[.ref x]/\H x>.ins CH dx []/\Q .fP (upd H x<|.ins CH dx<|mV .fP .fP)
def Fz(F:xW K "__init__" "Held.__init__" zp f fd)(c:fW K C ["diagram","layout"]):j4 P w K mg aD dO 1 f fd ["self"] (FO C):=by refine F.gk ["self"] λb A outer s H vs Q E e g h=>?_;obtain⟨x,a,rfl,d,q⟩:=h;exists _,(aw (md K v0 sX) (aC<|md K v0 sX));lia;exists C,a,[],d,c.cl,c.no _ sP,dC,C,a,_,au,c.cl,c.no _ sP,(by show 1<1000;decide);rw[hH];exact q
def dE.acr(h:dE j H x r f o)(a:∀b xs,H b>.lst xs->c b>.lst xs)(kt:∀b xs,H b>.tup xs->c b>.tup xs)(l:∀u,H x>u->c x>u):dE j c x r f o:=by let#[m,e,k,d,rows,L]:=h;exact#[m,e,k,d,rows,l _ L.ins,#[a _ _ L.arcs.lst,λu g=>kt _ _<|L.arcs.tup u g],L.ea,a _ _ L.rk,a _ _ L.lst,λy i=>#[a _ _ (L.row y i).lst,λu g=>kt _ _<|(L.row y i).tup u g],L.eo,L.wf,L.l1,L.l2,L.l3,L.n1,L.n2,L.n3]
def Rr(CH CD CL PT:Addr):Sp:=λvs H Q _=>∃h t F s b,vs=[.ref h,.ref t]/\HeldAt CH CD CL PT H h F s/\Tab PT H/\H t>(.lst<|(ff b).map V.int)/\Out CH CD CL PT H h F Q (bP s<|.load b).1 (cW (bP s<|.load b).2)
def Tab.Yz{PT h:Addr}(t:Tab PT H)(a:H h>.ins C f fs)(s:a' [h] H d):Tab PT d:=by
 refine t.mono s (by simpa using eG (t.ne a<|by intro ps z;cases z)) λb e u c g=>?_;let:b=h:=by simpa using e
 subst this;rw[a]at c;let:=aO c;subst this;intro z;cases z
def Nr(T:Txt K mg){B CD v PT CF N fX f:Addr}(X:vS P w K mg aD CF N fX VM)(x1:Sz K N "code")(x2:Sz K N "place")(cH:fW K B ["diagram","layout"])(cL:fW K v ["edges","ranks","rows"])(h:iW K mg "load" s_load f fd)(y:GoodC P w K mg aD 6 "Layout" v ["self","diagram"] (KG v CD))
  (n:Good P w K mg aD (nG P w CF) 8 "read_diagram" ["text"] (Wm CD CF))(l:Good P w K mg aD dO 1 "passing_places" ["layout"] (Rv v))(m:Good P w K mg aD dO 5 "all_crossings" ["layout"] (uW v)):Good P w K mg aD dO 9 "load" ["held","text"] (Rr B CD v PT):=by
 let#[fR,fdR,hmR,hkR,hbR,FR]:=n;refine h.gd ["held","text","diagram","fault","layout"] λoz A outer s H vs Q E nd hr h=>?_;obtain⟨h,t,F,s,b,rfl,hh,tab,ht,out⟩:=h;exists _,(aw (Uu (i:=2) (j:=3) X.c FR (hr.mono dC) rfl hmR hkR hbR rfl X.mg nd rfl (lX rfl) rfl rfl (da v1) (λe=>aC (bC (dr (AF aV (L0 X.c x1 v3 rfl) (L0 X.c x2 v3 rfl))))) rfl rfl)
  (aw (st 4 nd (Us y (hr.mono dC) (da v2)))
  (aw (md K v0 v2)
  (aw (md K v0 v4)
  (aC (bC (dr (J5 aV (bO (ia K) rfl T.len dB (da (fld K v4))) (p0 l hr (da v4)) (p0 m hr (da v4))))))))))
 lia;exists t,b,rfl,ht;cases S:gj b with
 |error F9=>
  simp only[];intro H1 o s1 h1;let U:bP s (.load b)=(s,VadiBase.faulty F9):=by cases s<;>(show(match gj b with|.error f=>_|.ok d=>_)=_;rw[S])
  rw[U]at out;refine#[o,rfl,λe he=>#[o,he,_,h1,_,rfl,o,he,_,h1,_,rfl,by show 3<=sizeLine;rw[aK];omega,λp hp=>?_]];exact out.lM hh tab _ p (s1.trans (lay0 hp)) (bh s1 hp) au
 |ok d=>
  simp only[];intro H1 g s1 hg hD _ n1 n2 n3 D Y;let#[hSz,hNm]:=UM S;let M:↑(jS d)<=40:=by
   let:↑(jS d)=↑d.edges:=by delta jS;simp[pN]
   omega
  let I:Vm d:=#[hSz,hNm,n1,n2,n3,(count_le D Y n1 M).1,GW D Y n1 M];let U:bP s (.load b)=(some #[bZ d,cE (bZ d)],#[1,oP [(bZ d).count,(kg (cE (bZ d))).sum-↑d.boxes,dk (bZ d) (cE (bZ d))]]):=by cases s<;>(show(match gj b with|.error f=>_|.ok d=>_)=_;rw[S];rfl)
  rw[U]at out;let#[hF,O,fs,C]:=hh.mem;let G:=s1 _ _ C;let hfs:∃a c,fs=mV a c:=by
   cases s with
   |none=>have#[_,o,e]:=hh;rw[C]at e;cases e;exact#[_,_,rfl]
   |some hd=>have#[o,g,x,r,d,_,e,_]:=hh;rw[C]at e;cases e;exact#[_,_,rfl]
  obtain⟨fa,fc,rfl⟩:=hfs;let hhP:h≠PT:=tab.ne C (by intro ps z;cases z);intro x o hx Qa afc;let s2:a8 H1 (upd (upd H1 o (.own x)) x (.ins v o [])):=lay (lay0 Qa) hx;let Z:(upd (upd H1 o (.own x)) x (.ins v o [])) x>.ins v o []:=au;generalize upd (upd H1 o (.own x)) x (.ins v o [])=H2 at s2 Z|-;let VQ:uv CD H2 g d:=hD.via (λb _ e=>s2 _ _ e) (λb _ e=>s2 _ _ e) λb _ _ _ _ _ e=>s2 _ _ e;refine#[x,o,g,d,rfl,Z,VQ,n1,n2,n3,D,Y,λH3 r S3 hr3 L3=>#[rfl,?_]];let hxh:h≠x:=λz=>by rw[<-z,G]at hx;cases hx
  let J:=S3 _ _ (by simpa using hxh) (s2 _ _ G);let L:H1 r=none:=bh s2 hr3;let hrh:h≠r:=λz=>by rw[<-z,G]at L;cases L
  refine#[B,O,_,J,cH.cl,cH.no "diagram" sP,by show 2<1000;decide,B,O,_,au,cH.cl,cH.no "layout" sP,by show 2<1000;decide,?_];rw[hH,show iu "layout" (V.ref x) (iu "diagram" (V.ref g) (mV fa fc))=mV (.ref g) (.ref x)from rfl];let S5:a' [h] H3 (upd H3 h (.ins B O (mV (.ref g) (.ref x)))):=(a'.refl _ _).upd sP;let hh5:(upd H3 h (.ins B O (mV (.ref g) (.ref x)))) h>.ins B O (mV (.ref g) (.ref x)):=au;generalize upd H3 h (.ins B O (mV (.ref g) (.ref x)))=R at S5 hh5|-;let L5:dE v R x r (bZ d) (cE (bZ d)):=L3.acr (λc xs e=>S5 _ _ (by let:=eI e J sP;simpa using this) e) (λc xs e=>S5 _ _ (by let:=eI e J sP;simpa using this) e) λu e=>S5 _ _ (by simpa using eG hxh) e;let t1:=tab.same s1;let t2:Tab PT H2:=t1.same s2;let t3:Tab PT H3:=Tab.Yz t2 Z S3;let t5:Tab PT R:=Tab.Yz t3 J S5;let S15:a' [h,x] H1 R:=((cX s2).trans (S3.mono sP)).trans (S5.mono sP);let S05:a' [h,x] H R:=(cX s1).trans S15;let xH:H x=none:=bh s1 hx;let rH:H r=none:=bh s1 L;let DG:Jb CD R g d (PT::[h,x,r]):=by
   refine#[λc=>if c=h\/c=PT then none else H1 c,?_,λc u e=>?_]
   .let nk:∀{c:Addr}{u:HO},H1 c>u->u≠.ins B O (mV fa fc)->(∀ps,u≠.vL ps)->(λc=>if c=h\/c=PT then none else H1 c) c>u:=λ{c u} e h1 h2=>by let a1:c≠h:=eI e G h1;let a2:c≠PT:=t1.ne e h2;simp only[];rw[aa (by simp[a1,a2])];exact e
    exact hD.via (λc xs e=>nk e sP sP) (λc xs e=>nk e sP sP) λc o bl el lb wl e=>nk e (by simp[PL,mV]) sP
   .simp only[]at e;split at e
    .cases e
    .rename_i hn;let a1:c≠h:=λz=>hn (.inl z);let a2:c≠PT:=λz=>hn (.inr z);let a3:c≠x:=λz=>by rw[z,hx]at e;cases e
     let a4:c≠r:=λz=>by rw[z,L]at e;cases e
     exact#[by simp[a1,a2,a3,a4],S15 c u (by simp[a1,a3]) e]
  let HA:HeldAt B CD v PT R h [h,x,r] (some #[bZ d,cE (bZ d)]):=#[O,g,x,r,d,rfl,hh5,DG,I,rfl,L5,hrh,hxh,hhP];let#[dl,el,kl,ii,rows,LL]:=id L5;refine#[v,dl,_,LL.ins,cL.cl,cL.no "rows" sP,_,rfl,r,rfl,_,.inl (bW.of LL.lst),x,r,_,_,rfl,L5,λH6 s6=>#[x,r,_,_,rfl,L5.mono s6,λH7 s7=>#[by show 4<=sizeLine;rw[aK];omega,λp hp=>?_]]];let ZV:=s6.trans s7;let p5:R p=none:=bh ZV hp;let pH:H p=none:=by
   cases q:H p with
   |none=>rfl
   |some u=>
    exfalso;by_cases z:p=h
    .grind
    .by_cases z2:p=x
     .grind
     .rw[S05 p u (by simp[z,z2]) q]at p5;cases p5
  let s58:a8 R (upd H7 p (.lst [.int 1,.int (↑(rows.map λx=>V.ref x.1):Int),.int (((kg (cE (bZ d))).sum-↑(bZ d).d.boxes:Nat):Int),.int (dk (bZ d) (cE (bZ d)):Nat)])):=ZV.trans (lay0 hp);refine out _ p [h,x,r] (λc u hc e=>s58 _ _ (S05 c u ?_ e)) (λc hc=>?_) (t5.same s58) (HA.mono s58) pH ?_
  .grind
  .grind
  .rw[au,aj,LL.ou];rfl
def Lp(xs:List V)(hij:i<=j)(hj:j<=↑xs):rN xs (some (i:Int)) (some (j:Int))=(xs.drop i).take (j-i):=by delta rN;rw[HT.uh,HT.uh,iJ hj,iJ oM]
abbrev abn:List V:=[.int 0,.int 0,.int 1,.int 0,.int 1,.int 1,.int 1,.int 0,.int 0,.int 0,.int 3,.int 1]
abbrev ab2:List V:=[.int 1,.int 0,.int 0,.int 0,.int 0,.int 1,.int 0,.int 0,.int 0,.int 0,.int 0,.int 0]
def Uc{q:Nat}(h:q<12):nj abn (q:Int)>V.int (eS q:Nat):=by
 match q,h with
 |0,_|1,_|2,_|3,_|4,_|5,_|6,_|7,_|8,_|9,_|10,_|11,_=>rfl
def UO{q:Nat}(h:q<12):nj ab2 (q:Int)>V.int (zn q:Nat):=by
 match q,h with
 |0,_|1,_|2,_|3,_|4,_|5,_|6,_|7,_|8,_|9,_|10,_|11,_=>rfl
def FL(CC:Addr):Sp:=λvs H Q _=>∃x dx a l at_ c q nums row nx,vs=[.ref x,.ref a,.int (at_:Nat)]/\H x>.ins CC dx []/\(∀H',a' [x] H H'->bW K H' a (l.map V.int))/\Z3 l at_ c q nums row nx/\
 ∀H' na ra,a' [x] H H'->H na=none->H ra=none->r6 CC H' x na ra q nums row nx->Q .fP H'
def JD(c:a x>u)(s:a' [x] H a)(b:a p=none):H p=none:=by
 cases q:H p with
 |none=>rfl
 |some v=>
  exfalso;by_cases z:p=x
  .grind
  .rw[s p v (by simpa using z) q]at b;cases b
def Fy(U:qy K mg)(F:xW K "__init__" "Call.__init__" zo f fd)(c:fW K n A6):j4 P w K mg aD dO 1 f fd ["self","calls","at"] (FL (K:=K) n):=by
 let#[tN,b,sN]:=U.zL;let#[tR,d,sR]:=U.EN;refine F.gk ["self","calls","at","behind","start"] λoz A outer s H vs Q E nd hr h=>?_;obtain⟨x,g,a,l,at_,cc,q,nums,row,nx,rfl,hx,C,D,k⟩:=h;let hA:=C H (a'.refl _ _);exists _,(aw (md K v0 (bM (j7 K) v1 v2 (λ_ _=>rfl)))
  (aw (st 3 nd (fV jL (fV jL v2 aV) (bM (kL K) (pgr b) (fld K v0) (λ_ _=>rfl))))
  (aw (md K v0 (oo (YC K) v1 (lh (fV jL v2 aV)) (lh v3)))
  (aw (md K v0 (dr ib))
  (aw (dI (bG il (bM (kL K) (pgr d) (fld K v0) (λ_ _=>rfl)) aV (b9 _)) (aw (st 4 nd (fV jL v3 aV))
  (aw (st 3 nd (fV jL v4 (bM (j7 K) v1 v3 (λ_ _=>rfl))))
  (aC (md K v0 (oo (YC K) v1 (lh v4) (lh v3)))))) cg)
  (aC (md K v0 v3)))))))
 lia;let NA:=D.nxl;let ZE:=D.lt2;let hq:nj (l.map V.int) (at_:Int)>V.int (q:Int):=EV (by rw[ak,D.num];rfl);let O:at_+1+eS q<=↑l:=by
  obtain z|z:=B5 q
  .let:=(D.ab0 oM).2;omega
  .let#[m,_,_,_,e]:=D.ab1 z;omega
 let hc1:rN (l.map V.int) (some ((at_:Int)+1)) (some ((at_:Int)+1+(eS q:Int)))=nums.map V.int:=by let:=Lp (l.map V.int) (i:=at_+1) (j:=at_+1+eS q) oM (by rw[aj];exact O);rw[show((at_+1:Nat):Int)=(at_:Int)+1 from oM,show((at_+1+eS q:Nat):Int)=(at_:Int)+1+(eS q:Int)from oM]at this;rw[this,<-mI,<-iQ,show at_+1+eS q-(at_+1)=eS q from oM,D.Ea]
 exists _,hA,.int q,hq,n,g,_,hx,c.cl,c.no "number" sP,dC,n,g,_,au,c.cl,c.no "number" sP,_,rfl,_,q,rfl,sN _,_,Uc D.lt,_,rfl;rw[show iu "number" (V.int (q:Int)) []=[(("number":Str),V.int (q:Int))]from rfl];let S1:a' [x] H (upd H x (.ins n g [("number",.int (q:Int))])):=(a'.refl _ _).upd sP;let G:(upd H x (.ins n g [("number",.int (q:Int))])) x>.ins n g [("number",.int (q:Int))]:=au;generalize upd H x (.ins n g [("number",.int (q:Int))])=H1 at S1 G|-;refine#[_,C _ S1,λna I=>?_];rw[hc1];let S2:a' [x] H (upd H1 na (.lst (nums.map V.int))):=S1.trans (cX (lay0 I));let R:(upd H1 na (.lst (nums.map V.int))) x>.ins n g [("number",.int (q:Int))]:=lay0 I _ _ G;let S:(upd H1 na (.lst (nums.map V.int))) na>.lst (nums.map V.int):=au;let u:H na=none:=JD G S1 I;generalize upd H1 na (.lst (nums.map V.int))=H2 at S2 R S|-;refine#[n,g,_,R,c.cl,c.no "numbers" sP,by show 1<1000;decide,?_];rw[show iu "numbers" (V.ref na) [(("number":Str),V.int (q:Int))]=[(("number":Str),V.int (q:Int)),("numbers",.ref na)]from rfl];let y:na≠x:=λz=>by rw[z,hx]at u;cases u
 let S3:a' [x] H2 (upd H2 x (.ins n g [("number",.int (q:Int)),("numbers",.ref na)])):=(a'.refl _ _).upd sP;let J:(upd H2 x (.ins n g [("number",.int (q:Int)),("numbers",.ref na)])) x>.ins n g [("number",.int (q:Int)),("numbers",.ref na)]:=au;generalize upd H2 x (.ins n g [("number",.int (q:Int)),("numbers",.ref na)])=H3 at S3 J|-;let hn3:=S3 _ _ (by simpa using y) S;refine#[sZ,λo T=>?_];let X:=S2.trans S3;let L:H o=none:=JD J X T;let s4:a8 H3 (upd H3 o (.lst [])):=lay0 T;let Y:(upd H3 o (.lst [])) o>.lst []:=au;generalize upd H3 o (.lst [])=H4 at s4 Y|-;let hx4:=s4 _ _ J;let hn4:=s4 _ _ hn3;let Z:o≠x:=λz=>by rw[z,hx]at L;cases L
 refine#[n,g,_,hx4,c.cl,c.no "row" sP,by show 2<1000;decide,?_];rw[show iu "row" (V.ref o) [(("number":Str),V.int (q:Int)),("numbers",.ref na)]=[(("number":Str),V.int (q:Int)),("numbers",.ref na),("row",.ref o)]from rfl];let S5:a' [x] H4 (upd H4 x (.ins n g [("number",.int (q:Int)),("numbers",.ref na),("row",.ref o)])):=(a'.refl _ _).upd sP;let p:(upd H4 x (.ins n g [("number",.int (q:Int)),("numbers",.ref na),("row",.ref o)])) x>.ins n g [("number",.int (q:Int)),("numbers",.ref na),("row",.ref o)]:=au;generalize upd H4 x (.ins n g [("number",.int (q:Int)),("numbers",.ref na),("row",.ref o)])=M at S5 p|-;let hn5:=S5 _ _ (by simpa using y) hn4;let hr5:=S5 _ _ (by simpa using Z) Y;let B:a' [x] H M:=(X.trans (cX s4)).trans S5;let hA5:=C _ B;exists n,g,_,p,c.cl,c.no "number" sP,_,rfl,_,q,rfl,sR _,_,UO D.lt,rfl;obtain z|z:=B5 q
 .rw[aa (by rw[z];simp)];let#[e1,e2]:=D.ab0 oM;refine#[n,g,_,p,c.cl,c.no "behind" sP,by show 3<1000;decide,?_];let S6:a' [x] M (upd M x (.ins n g (W3 q na o nx))):=(a'.refl _ _).upd sP;let e3:iu "behind" (V.int ((at_:Int)+1+(eS q:Int))) [(("number":Str),V.int (q:Int)),("numbers",.ref na),("row",.ref o)]=W3 q na o nx:=by rw[e2];rfl
  rw[e3];exact k _ na o (B.trans S6) u L #[#[g,au],S6 _ _ (by simpa using y) hn5,by rw[e1];exact S6 _ _ (by simpa using Z) hr5]
 .rw[ac (by rw[z];simp)];let#[m,m1,m2,m3,m4]:=D.ab1 z;let hm:nj (l.map V.int) ((at_:Int)+1+(eS q:Int))>V.int (m:Int):=by let:=EV (xs:=l.map V.int) (j:=at_+1+eS q) (v:=V.int (m:Int)) (by rw[ak,m1];rfl);rwa[show((at_+1+eS q:Nat):Int)=(at_:Int)+1+(eS q:Int)from oM]at this
  let hc2:rN (l.map V.int) (some ((at_:Int)+1+(eS q:Int)+1)) (some ((at_:Int)+1+(eS q:Int)+1+(m:Int)))=row.map V.int:=by let:=Lp (l.map V.int) (i:=at_+2+eS q) (j:=at_+2+eS q+m) oM (by rw[aj];omega);rw[show((at_+2+eS q:Nat):Int)=(at_:Int)+1+(eS q:Int)+1 from oM,show((at_+2+eS q+m:Nat):Int)=(at_:Int)+1+(eS q:Int)+1+(m:Int)from oM]at this;rw[this,<-mI,<-iQ,show at_+2+eS q+m-(at_+2+eS q)=m from oM,m2]
  refine#[_,hA5,_,hm,_,rfl,_,hA5,λr hrb=>?_];rw[hc2];let s6:a8 M (upd M r (.lst (row.map V.int))):=lay0 hrb;let ZI:(upd M r (.lst (row.map V.int))) r>.lst (row.map V.int):=au;let N:H r=none:=JD p B hrb;generalize upd M r (.lst (row.map V.int))=H6 at s6 ZI|-;let hx6:=s6 _ _ p;let nxb:r≠x:=λz=>by rw[z,hx]at N;cases N
  refine#[n,g,_,hx6,c.cl,c.no "row" sP,by show 3<1000;decide,n,g,_,au,c.cl,c.no "behind" sP,by show 3<1000;decide,?_];rw[hH];let e3:iu "behind" (V.int ((at_:Int)+1+(eS q:Int)+1+(m:Int))) (iu "row" (V.ref r) [(("number":Str),V.int (q:Int)),("numbers",.ref na),("row",.ref o)])=W3 q na r nx:=by rw[m4];show[(("number":Str),V.int (q:Int)),("numbers",.ref na),("row",.ref r),("behind",V.int ((at_:Int)+1+(eS q:Int)+1+(m:Int)))]=_;delta W3;rw[show((at_+2+eS q+m:Nat):Int)=(at_:Int)+1+(eS q:Int)+1+(m:Int)from oM]
  rw[e3];let S7:a' [x] H6 (upd H6 x (.ins n g (W3 q na r nx))):=(a'.refl _ _).upd sP;exact k _ na r ((B.trans (cX s6)).trans S7) u N #[#[g,au],S7 _ _ (by simpa using y) (s6 _ _ hn5),S7 _ _ (by simpa using nxb) ZI]
def On(f)(o)(c)(h:∀b,c≠.load b):(bP (some #[f,o]) c).1>#[f,jN f o c]:=by
 let:∃a,(bP (some #[f,o]) c).1>#[f,a]:=by
  cases c with
  |load b=>exact ae rfl (h b)
  |shown=>exact#[_,rfl]
  |rank k=>
   simp only[bP,dW];cases bY k f.count<;>exact⟨_,rfl⟩
  |crossings=>exact#[_,rfl]
  |pairs k=>
   simp only[bP];cases bY k (f.count-1)<;>exact⟨_,rfl⟩
  |put k l=>
   simp only[bP,dW];cases bY k f.count with
   |none=>exact#[_,rfl]
   |some r=>simp only[];split<;>exact#[_,rfl]
  |sweep d=>
   simp only[bP];split
   .exact#[_,rfl]
   .split<;>exact#[_,rfl]
  |swaps=>exact#[_,rfl]
  |settle=>exact#[_,rfl]
  |anew=>exact#[_,rfl]
  |middle k i s=>
   simp only[bP,dW];cases bY k f.count with
   |none=>exact#[_,rfl]
   |some r=>
    simp only[];split
    .exact#[_,rfl]
    .split<;>exact#[_,rfl]
  |best k=>
   simp only[bP,dW];cases bY k f.count with
   |none=>exact#[_,rfl]
   |some r=>simp only[];split<;>exact#[_,rfl]
 let#[a,e]:=this;delta jN;rw[e];rfl
def step_ask(f)(o)(a:↑nums=eS q)(b:q=2\/q=3\/q=4\/q=10):(bP (some #[f,o]) (toCall q nums row)).1>#[f,o]:=by
 obtain rfl|rfl|rfl|rfl:=b
 .obtain⟨k,rfl⟩:=yo a;simp only[toCall,bP,dW];cases bY k f.count<;>rfl
 .rfl
 .obtain⟨k,rfl⟩:=yo a;simp only[toCall,bP];cases bY k (f.count-1)<;>rfl
 .obtain⟨k,i,s,rfl⟩:=XR a;simp only[toCall,bP,dW];cases bY k f.count with
  |none=>rfl
  |some r=>
   simp only[];split
   .rfl
   .split<;>rfl
def Ey(nums row)(h:q≠0):∀b,toCall q nums row≠.load b:=by intro b;delta toCall;split<;>simp_all
def Mt(CH CD CL CC PT:Addr):Sp:=λvs H Q _=>∃h c na ra F s q nx nums row,vs=[.ref h,.ref c]/\HeldAt CH CD CL PT H h F s/\Tab PT H/\r6 CC H c na ra q nums row nx/\q<12/\↑nums=eS q/\ra∉F/\(q=0->mi row=true)/\↑(cW (bP s<|toCall q nums row).2)<=10000000/\
 Out CH CD CL PT H h F Q (bP s<|toCall q nums row).1 (cW (bP s<|toCall q nums row).2)
def Bn(U:qy K mg){n CD O u PT f:Addr}(l:fW K n ["diagram","layout"])(v:fW K u A6)(h:iW K mg "answer_to" zq f fd)(m:Good P w K mg aD dO 9 "load" ["held","text"] (Rr n CD O PT))(i:Good P w K mg aD dO 4 "shown" ["diagram"] (MA CD))
  (j:Good P w K mg aD dO 7 "asked" ["layout","call"] (Wi O u))(a:Good P w K mg aD dO 9 "changed" ["layout","call"] (Ri O u PT)):Good P w K mg aD dO 10 "answer_to" ["held","call"] (Mt n CD O u PT):=by
 refine h.gd ["held","call"] λoz A outer s H vs Q E nd R h=>?_;obtain⟨h,c,na,S,F,s,q,nx,nums,row,rfl,D,tab,T,hq,hn,Xu,hby,hlen,out⟩:=h;exists _,(aw (dI (bG il (fld K v1) (oY U.ac4) (b9 _)) (aC (bC (p0 m R (ir v0 (fld K v1))))) cg)
  (aw (dI (bG X4 (fld K v0) sX (b9 _)) (aC (bC (dr (da (oX ls aV))))) cg)
  (aw (dI (bG il (fld K v1) (oY U.aad) (b9 _)) (aC (bC (p0 i R (da (fld K v0))))) cg)
  (aw (dI (bG (inS K) (fld K v1) (jM (J5 (oY U.aac) (oY U.Dx) (oY U.Vz) (oY U.WN))) (by with_unfolding_all rfl)) (aC (bC (p0 j R (ir (fld K v0) v1)))) cg)
  (aC (bC (p0 a R (ir (fld K v0) v1))))))))
 lia;let#[X,Y]:=T.ins;exists u,X,_,Y,v.cl,v.no "number" sP,_,rfl,rfl;by_cases q0:q=0
 .subst q0;refine(ac dC).mpr #[u,X,_,Y,v.cl,v.no "row" sP,_,rfl,h,S,F,s,_,rfl,D,tab,by rw[<-M8 (hby rfl)];exact T.UN,out]
 rw[aa (by simp only[decide_eq_true_eq,V.int.injEq];omega)];cases s with
 |none=>
  let#[L,y,G]:=id D;refine#[n,y,_,G,l.cl,l.no "layout" sP,_,rfl,(ac dC).mpr ?_];let est:bP none (toCall q nums row)=(none,VadiBase.one (-1)):=by let:=Ey nums row q0;revert this;generalize toCall q nums row=cl;intro this;cases cl<;>first|rfl|exact ae rfl (this _)
  rw[est]at out;refine#[one_le,λp Z=>out.lM D tab _ p (lay0 Z) Z au]
 |some hd=>
  let#[y,g,x,r,d,L,G,DG,I,J,hL,n1,n2,n3]:=id D;refine#[n,y,_,G,l.cl,l.no "layout" sP,_,rfl,(aa sP).mpr ?_];exists u,X,_,Y,v.cl,v.no "number" sP,_,rfl,rfl;by_cases q1:q=1
  .subst q1;refine(ac dC).mpr #[n,y,_,G,l.cl,l.no "diagram" sP,_,rfl,g,d,rfl,DG.is,I.sz,I.nm,I.n1,I.n2,I.n3,?_,?_]
   .let e:cW (bP (some hd) (toCall 1 nums row)).2=(↑(eX d):Int)::ff (eX d):=by show cW (F8 (eX hd.frame.d))=_;rw[J];rfl
    rw[e]at hlen;simp only[aQ,dU]at hlen;omega
   .let e:cW (bP (some hd) (toCall 1 nums row)).2=(↑(eX d):Int)::ff (eX d):=by show cW (F8 (eX hd.frame.d))=_;rw[J];rfl
    rw[e]at out;exact out.lM D tab
  rw[aa (by simp only[decide_eq_true_eq,V.int.injEq];omega)];refine#[u,X,_,Y,v.cl,v.no "number" sP,_,rfl,by show 4<=sizeLine;rw[aK];omega,λp Z=>?_];let s1:a8 H (upd H p (.tup [.int 2,.int 3,.int 4,.int 10])):=lay0 Z;let M:(upd H p (.tup [.int 2,.int 3,.int 4,.int 10])) p>.tup [.int 2,.int 3,.int 4,.int 10]:=au;generalize upd H p (.tup [.int 2,.int 3,.int 4,.int 10])=H1 at s1 M|-;let N:=s1 _ _ G;exists _,.inr (f9.of M),rfl,rfl;let#[fr,o]:=hd;simp only[]at J hL;by_cases q2:q=2\/q=3\/q=4\/q=10
  .rw[ac (by obtain rfl|rfl|rfl|rfl:=q2<;>decide)];refine#[n,y,_,N,l.cl,l.no "layout" sP,_,rfl,x,r,c,na,S,fr,o,q,nx,nums,row,rfl,hL.mono s1,T.mono s1,hn,q2,λH2 p2 s2 B h2=>?_];rw[step_ask fr o hn q2]at out;exact out.lM D tab _ p2 (s1.trans s2) (bh s1 B) h2
  .let q3:q=5\/q=6\/q=7\/q=8\/q=9\/q=11:=oM;rw[aa (by obtain rfl|rfl|rfl|rfl|rfl|rfl:=q3<;>decide)];let rF:S≠r:=λz=>Xu (by rw[L,z];simp);refine#[n,y,_,N,l.cl,l.no "layout" sP,_,rfl,x,r,c,na,S,fr,o,q,nx,nums,row,rfl,hL.mono s1,tab.same s1,by rw[J];exact I.mem,by rw[J];exact I.wf,T.mono s1,rF,hn,q3,λH2 p2 r2 S2 t2 TQ B L2 h2=>?_];rw[On fr o _ (Ey nums row q0)]at out;let C:a' [x,r,PT] H H2:=(cX s1).trans S2;let afg:r2=r\/H r2=none:=TQ.imp id (bh s1);let hH2:=C _ _ (by simp[n1,n2,n3]) G;refine out H2 p2 [h,x,r2] (C.mono (by rw[L];simp)) (λb hb=>?_) t2 #[y,g,x,r2,d,rfl,hH2,?_,I,J,L2,?_,n2,n3] (bh s1 B) h2
   .grind
   .refine DG.mono (C.mono (by rw[L];simp)) λb hb=>?_;rw[L];simp only[aE,cN,or_false]at hb|-;obtain z|z|z|z:=hb
    .exact .inl (.inl z)
    .grind
    .grind
    .grind
   .grind
def HeldAt.swap{l m p PT gv h:Addr}(q:HeldAt l m p PT H h F s)(a:H gv>.qc o u)(k:∀b v,b≠gv->H b>v->c b>v):HeldAt l m p PT c h F s:=by
 let z:∀b xs,H b>.lst xs->c b>.lst xs:=λb xs e=>k _ _ (eI e a sP) e;let kt:∀b xs,H b>.tup xs->c b>.tup xs:=λb xs e=>k _ _ (eI e a sP) e;cases s with
 |none=>obtain⟨rfl,f,e⟩:=q;exact#[rfl,f,k _ _ (eI e a sP) e]
 |some hd=>
  obtain⟨f,g,x,r,d,rfl,e,A,I,B,y,n⟩:=q;let#[dl,G,C,D,rows,L]:=id y;refine#[f,g,x,r,d,rfl,k _ _ (eI e a sP) e,?_,I,B,y.acr z kt λv ev=>?_,n]
  .let#[i,E,J]:=A;let j:∀{b:Addr}{v:HO},i b>v->v≠.qc o u->(λb=>if b=gv then none else i b) b>v:=λ{b v} e M=>gR;refine#[λb=>if b=gv then none else i b,E.via (λb xs e=>j e sP) (λb xs e=>j e sP) (λb _ _ _ _ _ e=>j e sP),λb v e=>?_];simp only[]at e;split at e
   .cases e
   .grind
  .rw[L.ins]at ev;cases ev;exact k _ _ (eI L.ins a sP) L.ins
def HeldAt.at{f i j PT h:Addr}(b:HeldAt f i j PT H h F s):∀c∈F,∃u,H c>u:=by
 intro c a;cases s with
 |none=>obtain⟨rfl,l,e⟩:=b;simp at a;subst a;exact#[_,e]
 |some hd=>
  obtain⟨l,g,x,r,d,rfl,e,_,_,_,m,_⟩:=b;let#[_,_,_,_,_,L]:=m;simp only[aE,cN,or_false]at a;obtain rfl|rfl|rfl:=a
  .exact#[_,e]
  .exact#[_,L.ins]
  .exact#[_,L.lst]
def Rg(PT:Addr)(K:ao):Sp:=λvs H Q _=>∃a l,vs=[.ref a]/\bW K H a (l.map V.int)/\Tab PT H/\pM l=true/\∀H' q,H' q>(.lst<|(lJ l).map V.int)->Q (.ref q) H'
def Er{a PT:Addr}(h:bW K H a xs)(t:Tab PT H)(s:a' [PT] H b):bW K b a xs:=by
 rcases h with(h|⟨o,h⟩)|h
 .exact .inl (.inl<|s _ _ (by simpa using t.ne h (by intro ps z;cases z)) h)
 .exact .inl (.inr #[o,s _ _ (by simpa using t.ne h (by intro ps z;cases z)) h])
 .exact .inr h
structure acy(CH CD CL PT a h gv:Addr)(l:List Int)(H H1:Hp)(b:L2.St)(at_:Nat)(F:List Addr)(s:A0)(done:List Int)(cs:List (List (List Int))):Prop where
 sg:∃x4 x5,b=[~~~.ref a,~~~.ref h,~~~.ref gv,some (.int (at_:Nat)),x4,x5]
 gv_:H1 gv>.lst (done.map V.int)
 held:∀o u,HeldAt CH CD CL PT (upd H1 gv (.qc o u)) h F s
 tab:Tab PT H1
 S:a' [PT] H H1
 new:∀c∈gv::F,H c=none
 ng:gv∉F
 cl:∃aaw,jR hJ aaw (l.drop at_)>cs
 ask:∀c∈cs,pC (jB c)=true
 eq:done++yT s cs=lJ l
def J4(T:Txt K mg){L CD CL r PT f:Addr}(cC:fW K r A6)(F:xW K "answers" "answers" yz f fd)(M:GoodC P w K mg aD 1 "Held" L ["self"] (FO L))(N:GoodC P w K mg aD 1 "Call" r ["self","calls","at"] (FL (K:=K) r))
  (d:Good P w K mg aD dO 10 "answer_to" ["held","call"] (Mt L CD CL r PT)):j4 P w K mg aD dO 11 f fd ["calls"] (Rg PT K):=by
 refine F.gk ["calls","held","given","at","call","answer"] λoz A outer s H vs Q E nd hr h=>?_;obtain⟨a,l,rfl,hA,tab,Xl,k⟩:=h;let#[cs0,hcs,yl,R,hlen]:=Gx Xl;rw[<-R]at hlen;exists _,(aw (st 1 nd (abr M (hr.mono dC)))
  (aw (st 2 nd (dr ib))
  (aw (st 3 nd aV)
  (aw (jm aY (bG kz v3 (bO (ia K) rfl T.len dB (da v0)) (b9 _)) (aw (st 4 nd (Us N (hr.mono dC) (ir v0 v3)))
  (aw (st 5 nd (Ul (p0 d hr (ir v1 v4))))
  (aw (cO (bm K aX bU bV fT v2 (da (bO (ia K) rfl T.len dB (da v5)))))
  (aw (cO (bm K aX dm dn iV v2 (da v5)))
  (aC (st 3 nd (fld K v4))))))))
  (aC (bC v2))))))
 lia;intro h O hh hdh hne;refine#[h,O,rfl,au,rfl,sZ,λgv B=>?_];rw[hH]at B|-;let s1:a8 H (upd (upd H O (.own h)) h (.ins L O (mV .fP .fP))):=lay (lay0 hdh) hh;let h1:(upd (upd H O (.own h)) h (.ins L O (mV .fP .fP))) h>.ins L O (mV .fP .fP):=au;generalize upd (upd H O (.own h)) h (.ins L O (mV .fP .fP))=H1 at s1 h1 B|-;let nhg:h≠gv:=λz=>by rw[z,B]at h1;cases h1
 let s2:a8 H (upd H1 gv (.lst [])):=s1.trans (lay0 B);let#[Wh,hW]:=oh λm σ H8=>∃at_ F s done cs,m=↑l-at_/\acy L CD CL PT a h gv l H H8 σ at_ F s done cs;exists Wh,#[_,hW.mpr #[0,[h],none,[],cs0,rfl,#[none,none,rfl],au,λo u=>#[rfl,O,by rw[hH,aH nhg];exact h1],tab.same s2,cX s2,λc g=>?_,by simpa using eG nhg,#[_,hcs],yl,by rw[R];rfl]]
 .simp only[aE,cN,or_false]at g;obtain rfl|rfl:=g
  .exact bh s1 B
  .exact hh
 intro m σ G hw;obtain⟨at_,F,s,done,cs,rfl,I⟩:=hW.mp hw;obtain⟨x4,x5,rfl⟩:=I.sg;lia;exists _,.inl (Er hA tab I.S);rw[aj];let#[aaw,SJ]:=I.cl;obtain⟨z1,z2⟩|⟨c,cs',q,nums,row,nx,ae1,e1,D,adv⟩:=Pz SJ
 .refine(aa (by simp only[decide_eq_true_eq];omega)).mpr ?_;refine k G gv ?_;let:=I.eq;rw[z2,M0,c8]at this;rw[<-this];exact I.gv_
 let NA:=D.nxl;let ZE:=D.lt2;subst e1;let Y:=I.ask c sP;let U:=M2 D Y;let hto:=OA D λz=>(U.1 z).1;let j:=I.eq;rw[Jp s c cs' hto]at j;refine(ac (ag oM)).mpr #[_,λ_ _ z=>z,λx X hx Qa hnx=>?_];let s4:a8 G (upd (upd G X (.own x)) x (.ins r X [])):=lay (lay0 Qa) hx;let Z:(upd (upd G X (.own x)) x (.ins r X [])) x>.ins r X []:=au;generalize upd (upd G X (.own x)) x (.ins r X [])=H4 at s4 Z|-;let S4:a' [PT] H H4:=I.S.same s4;let t4:Tab PT H4:=I.tab.same s4;let hxH:∀u,G x≠some u:=λu z=>by rw[hx]at z;cases z
 refine#[x,X,a,l,at_,c,q,nums,row,nx,rfl,Z,λH' z=>Er hA tab λb u n e=>z b u (by simp;exact λy=>hxH u (y▸I.S b u n e)) (S4 b u n e),D,λJ na ra S5 Qg Xu hC=>#[rfl,?_]];let ngx:gv≠x:=λz=>by rw[<-z,I.gv_]at hx;cases hx
 let g5:J gv>.lst (done.map V.int):=S5 _ _ (by simpa using ngx) (s4 _ _ I.gv_);let S35:∀b u,G b>u->J b>u:=λb u e=>S5 b u (by simp;exact λz=>by rw[z,hx]at e;cases e) (s4 _ _ e);refine#[gv,_,g5,trivial,λod=>?_];let t5:Tab PT J:=Tab.Yz t4 Z S5;let ngP:gv≠PT:=t5.ne g5 (by intro ps z;cases z);let S6:a' [gv] J (upd J gv (.qc od (.lst (done.map V.int)))):=(a'.refl _ _).upd sP;let g6:(upd J gv (.qc od (.lst (done.map V.int)))) gv>.qc od (.lst (done.map V.int)):=au;let H6n:∀b,(upd J gv (.qc od (.lst (done.map V.int)))) b=none->J b=none:=λb e=>by
  by_cases z:b=gv
  .grind
  .rwa[aH z]at e
 let C:HeldAt L CD CL PT (upd J gv (.qc od (.lst (done.map V.int)))) h F s:=(I.held od (.lst (done.map V.int))).swap (gv:=gv) au λb v n e=>by rw[aH n]at e|-;exact S35 b v e
 generalize upd J gv (.qc od (.lst (done.map V.int)))=H6 at S6 g6 C H6n|-;let t6:Tab PT H6:=t5.mono S6 (by simpa using eG ngP) λb n u hu φ=>gR;let nn:∀{b:Addr},H4 b=none->b≠gv:=λe z=>by rw[z,s4 _ _ I.gv_]at e;cases e
 let C6:r6 r H6 x na ra q nums row nx:=#[let#[dc,e]:=hC.ins;#[dc,S6 _ _ (by simpa using eG ngx) e],S6 _ _ (by simpa using nn Qg) hC.Ea,S6 _ _ (by simpa using nn Xu) hC.UN];let ZX:∀c∈F,∃u,G c>u:=λc g=>by let#[u,e]:=(I.held od (.lst [])).at c g;exact#[u,by rwa[aH (show c≠gv from λz=>I.ng (z▸g))]at e]
 let raF:ra∉F:=λg=>by let#[u,e]:=ZX _ g;rw[s4 _ _ e]at Xu;cases Xu
 let xF:x∉F:=λg=>gR;let hle:↑(cW (bP s (toCall q nums row)).2)<=10000000:=gR;lia;refine#[h,x,na,ra,F,s,q,nx,nums,row,rfl,C,t6,C6,D.lt,D.XY,raF,λz=>(U.1 z).1,hle,λH7 p F7 S7 hF7 t7 i IX h7=>?_];let g7:=S7 _ _ (by simp[ngP,I.ng]) g6;let hpg:p≠gv:=λz=>by rw[z,g6]at IX;cases IX
 let e8:(upd H7 gv (.lst (done.map V.int))) p>.lst ((cW (bP s (toCall q nums row)).2).map V.int):=by rw[aH hpg];exact h7
 exists g7,.inl #[rfl,_,bW.of au],p,rfl,_,.inl (bW.of e8),_,au;generalize hst:bP s (toCall q nums row)=st at j hle h7 e8 i|-;let#[s',an]:=st;simp only[]at j hle h7 e8 i|-;generalize cW an=ans at j hle h7 e8|-;let SK:=af ck j;simp only[aW,aQ,c9]at SK;rw[hH];let e9:∀xs,(upd H7 gv (.lst xs)) p>.lst (ans.map V.int):=λxs=>by rw[aH hpg];exact h7
 let#[dc,hxc]:=C6.ins;let hx7:H7 x>.ins r dc (W3 q na ra nx):=S7 _ _ (by simp[xF,t6.ne hxc (by intro ps z;cases z)]) hxc;exists sZ,.inl #[rfl,_,bW.of au],p,rfl,_,au,_,e9 _,by simp only[aW,aj,aQ,c9];rw[aK];omega,r,dc,_,by rw[hH,aH (eG ngx)];exact hx7,cC.cl,cC.no "behind" sP,_,rfl,↑l-nx,oM;rw[hH];let hF3:∀c∈F7,c∈F\/G c=none:=λc g=>(hF7 c g).imp id λz=>by
  let z:=H6n c z;cases q:G c with
  |none=>rfl
  |some u=>rw[S35 c u q]at z;cases z
 refine hW.mpr #[nx,F7,s',done++([(↑ans:Int)]++ans),cs',rfl,#[_,_,rfl],?_,λo u=>i.swap (gv:=gv) g7 λb v n e=>by rw[hH,aH n];exact e,?_,?_,?_,?_,#[_,adv],λc' VT=>I.ask c' (by simp[VT]),?_]
 .rw[au];simp
 .refine t7.mono (S:=[gv]) ((a'.refl _ _).upd sP) (by simpa using eG ngP) λb n u hu φ=>?_;let:b=gv:=by simpa using n
  subst this;rw[g7]at hu;cases hu;simp
 .intro b u n e;let hb':b≠PT:=by simpa using n
  let e3:=I.S b u n e;let bg:b≠gv:=λz=>by let:=I.new gv sP;rw[<-z,e]at this;cases this
  let bF:b∉F:=λz=>by let:=I.new b (by simp[z]);rw[e]at this;cases this
  rw[aH bg];exact S7 b u (by simp[hb',bF]) (S6 b u (by simpa using bg) (S35 b u e3))
 .intro c g;obtain rfl|g:=aE.mp g
  .exact I.new _ sP
  .obtain z|z:=hF3 c g
   .exact I.new c (by simp[z])
   .cases q:H c with
    |none=>rfl
    |some u=>
     exfalso;by_cases y:c=PT
     .obtain t|⟨_,t,_⟩:=I.tab<;>(rw[y,t]at z;cases z)
     .rw[I.S c u (by simpa using y) q]at z;cases z
 .intro g;obtain z|z:=hF3 gv g
  .exact I.ng z
  .grind
 .rw[<-j];simp
end
open PySem.W (WData Codec OpenSpec Well WellAll ReadsW ReadsAllW)
def KI{K:ao}{c PT:Addr}
  (KX:K.In s1.heap)(VX:s1.heap.Ns cV mg)(hb:s1.heap.Ns VJ mb)(hbb:∀x:Str,x≠"__name__"->mb x=eE x)(ad4:s1.heap.NoLimit)(hg:s1.gens=#[])
  (NC:rM w.params s1.heap vals ds)(NB:Al ds=true)(hwt:∀d∈ds,d.weight<=1048576)(hr:i7 k OU)(hT:s1.heap.TableAt c PT #[])(hC:iS s1.heap c PT)(hB:s1.heap.BuiltinsAt mg PT)(hKT:K.lookup PT=none)
  (F:∀aD,K.In aD->aD.Ns cV mg->iS aD c PT->aD.BuiltinsAt mg PT->j4 P w K mg aD CX k fa fd ps sp)(aa2:∀s us,↑us=↑ps->F_ s fd #[us,[]] (ps.zip us))(hlen:↑ds=↑ps)
  (hsp:∀H0 H xs,a8 H0 H->H PT>.vL #[]->r8 K H0 xs ds->sp xs H (λv H'=>Dw K H' v d0) λ_ _ _=>False)
  (hCX:∀H e s',CX [] H s1 (λ_ _ _=>False) e s'->False):
  mK (model P w) OU (.call (.ref fa) #[vals,[]]) (λr s'=>∃u as,r=.ok (.ret u)/\ReadsW R cl s'.heap u d0 as/\OldK s1.heap s'.heap/\s'.os=s1.os/\xU s'.gens) s1:=by
 obtain⟨A,ho,ar⟩:=vY ds vals NC NB hwt;let hO0:Vx (qA K s1.heap A):=M1 ar;let aa5:nI P w (qA K s1.heap A) s1.heap:=Tp ar;let hS:=E8 KX ar ds vals NC NB ho;let hV:=qb ho;let hK0:∀b u,qA K s1.heap A b>u->K.lookup b=none:=λb u q=>(Ay ar q).1;let XZ:∀{b:Addr}{o:Obj},s1.heap.get? b>o->(∀vs n,o.data≠.seq vs n)->qA K s1.heap A b=none:=λ{b o} e d=>by
  cases q:qA K s1.heap A b with
  |none=>rfl
  |some u=>
   obtain⟨_,vs,_,_,⟨e2,_⟩|⟨e2,_⟩⟩:=Ay ar q
   .rw[e2]at e;cases e;exact ae rfl (d _ _)
   .rw[e2]at e;cases e;exact ae rfl (d _ _)
 generalize qA K s1.heap A=H0 at hO0 aa5 hS hK0 XZ;let hPT:s1.heap.get? PT>{cls:=.none,data:=.fields #[]}:=hT.2;let h0P:H0 PT=none:=XZ hPT (by intro vs n z;cases z);let sm:a8 H0 (upd H0 PT (.vL #[])):=λb u e=>by rw[aH (cQ e h0P)];exact e
 let fm:nI P w (upd H0 PT (.vL #[])) s1.heap:=λb u e=>by
  by_cases hb:b=PT
  .rw[hb,au]at e;cases e;rw[hb];exact hPT
  .rw[aH hb]at e;exact(aa5 b u e).lM (λ_ _ _ q=>q) (λ_ q=>sm _ _ q) λ_ _ q=>sm _ _ q
 let hTb:(upd H0 PT (.vL #[])) PT>.vL #[]:=au;let hO:∀b,b≠PT->(upd H0 PT (.vL #[])) b=none\/∃o u,(upd H0 PT (.vL #[])) b>.qc o u:=λb hb=>by rw[aH hb];exact hO0 b
 let noA:∀{b:Addr}{o:Obj},s1.heap.get? b>o->(∀vs n,o.data≠.seq vs n)->b≠PT->(upd H0 PT (.vL #[])) b=none:=λ{b o} e d hb=>by rw[aH hb];exact XZ e d
 let nK:∀b o,K.lookup b>o->(upd H0 PT (.vL #[])) b=none:=λb o e=>by
  let hb:b≠PT:=λz=>by rw[z,hKT]at e;cases e
  rw[aH hb];cases q:H0 b with
  |none=>rfl
  |some u=>
   rw[hK0 b u q]at e;cases e
 generalize upd H0 PT (.vL #[])=H at sm fm hTb hO noA nK;let base_of:∀{b:Addr}{o:Obj},s1.heap.get? b>o->H b=none->(Bu s1.heap H).get? b>o:=λe n=>Qb e n;let neP:∀{b:Addr}{o:Obj},s1.heap.get? b>o->o.data≠.fields #[]->b≠PT:=λ{b o} e d z=>by rw[z,hPT]at e;cases e;exact d rfl
 let nsK:∀{b:Addr}{m:Str->Option Value},s1.heap.Ns b m->(Bu s1.heap H).Ns b m:=λ{b m}#[o,es,ep,e,d,r]=>#[o,es,ep,base_of e (noA e (by rw[d];intro vs n z;cases z) (neP e (by rw[d];intro z;cases z))),d,r];let hKb:K.In (Bu s1.heap H):=λb o e=>base_of (KX b o e) (nK b o e);let hM:Mod K mg (Bu s1.heap H):=#[hKb,nsK VX,#[mb,nsK hb,hbb],let#[mc,h1,h2]:=ad4;#[mc,nsK h1,h2]];let hCb:iS (Bu s1.heap H) c PT:=by obtain⟨o,vs,file,tf,flags,tg,inF,text,tt,e,e2,e3,r⟩:=hC;exact#[o,vs,file,tf,flags,tg,inF,text,tt,base_of e (noA e (by rw[e3];intro _ _ z;cases z) r.2.2.2.2.2.2),e2,e3,r]
 let hBb:(Bu s1.heap H).BuiltinsAt mg PT:=by obtain⟨bm,o,e1,e2,e3,e4,e5,e6,e7,e8⟩:=hB;exact#[bm,o,e1,e2,e3,e4,base_of e5 (noA e5 (by rw[e8];intro _ _ z;cases z) e4),e6,e7,e8]
 let e0:Jc P w K mg (Bu s1.heap H) OU [] s1 H:=#[rfl,hM,λb o e=>Ue e,yN (Nz _ _),trivial,λb hb=>ae (show b∈([]:List Addr)from hb) sP,fm,.of_eq hg];let hl:↑vals=↑ps:=by rw[pb NC];exact hlen
 refine kx ((F _ hKb (nsK VX) hCb hBb).run OU [] s1 H #[vals,[]] vals (vals.map toV) _ _ hr e0 (aa2 s1 vals hl) hV (hsp H0 H _ sm hTb hS)) λr s' x=>?_;cases r with
 |error e=>exact(hCX H e s' x).elim
 |ok fl=>
  cases fl with
  |next=>exact dJ x
  |brk=>exact dJ x
  |cont=>exact dJ x
  |ret u=>
   obtain⟨v,H',os,bare,un,Xq,r',q⟩:=x;let kept:∀b o,s1.heap.get? b>o->b≠PT->s'.heap.get? b>o:=λb o e hb=>by
    cases q2:H b with
    |none=>exact un.keep b o e q2 (by intro z;exact ae (show b∈([]:List Addr)from z) sP) sP
    |some u2=>
     obtain z|⟨ob,u3,z⟩:=hO b hb
     .rw[q2]at z;cases z
     .let z2:=un.wn b ob _ z;obtain⟨e1,_⟩:=fm b _ z;obtain⟨e2,_⟩:=Xq b _ z2;rw[e]at e1;cases e1;exact e2
   obtain⟨more,hm⟩:=un.yD PT _ hTb;let hm2:s'.heap.get? PT>{cls:=.none,data:=.fields (#[]++more)}:=Xq PT _ hm;let KX':K.In s'.heap:=λb o e=>kept b o (KX b o e) λz=>by rw[z,hKT]at e;cases e
   obtain⟨as,hrd⟩:=Dw.reads (R:=R) (cl:=cl) Xq KX' d0 v u q r';refine#[u,as,rfl,hrd,#[λb o e=>?_,λb o e=>?_],os,bare]
   .by_cases hb:b=PT
    .subst hb;rw[hPT]at e;cases e;exact .inr (.inl #[hT.isCodeTable,rfl,_,more,rfl,hm2])
    .exact .inl (kept b o e hb)
   .by_cases hb:b=PT
    .subst hb;exact#[_,hm2]
    .exact#[o,kept b o e hb]
def K5{K:Params->ao}{sp:Addr->ao->Sp}
  (aa8:r.wellSaid=true)(hdf:d.params.defaults=[])(hlen:↑r.args=↑ps)(hr:i7 k OU)
  (hY:∀w h,YP w h->(K w.params).In h)
  (F:∀w mg fa h,YP w h->(K w.params).In h->h.Ns cV mg->mg d.name>.ref fa->(∀d∈recsOf q,∃a o fd c P,mg d.name>.ref a/\h.get? a>o/\o.data=.func fd/\fd.code=.ref c/\h.IsCode c P #[]/\h.TableAt c P #[])->
   ∃(fd:ow)(c PT:Addr),(∀s us,↑us=↑ps->F_ s fd #[us,[]] (ps.zip us))/\(K w.params).lookup PT=none/\h.IsCode c PT #[]/\h.TableAt c PT #[]/\
    ∀aD,(K w.params).In aD->aD.Ns cV mg->iS aD c PT->aD.BuiltinsAt mg PT->j4 r.prog w (K w.params) mg aD CX k fa fd ps (sp PT<|K w.params))
  (hsp:∀PT K H0 H xs a,a8 H0 H->H PT>.vL #[]->Codec.withinAll r.args a=true->Codec.app r.args r.asked a=true->r8 K H0 xs (Codec.encAll r.args a)->
   sp PT K xs H (λv H'=>Dw K H' v<|r.ret.enc<|Codec.app r.args r.f a) λ_ _ _=>False)
  (hCX:∀H s e s',CX [] H s (λ_ _ _=>False) e s'->False):
  PySem.W.WalkOS q loose XP YP r d [] (λf vs=>PySem.call f vs):=by
 intro w xQ s1 mg mb G Y fa o pm cd doc dV kV ho hd hcd hD hmg hg args vals as aea ad3 hrd NC hlo;let#[a,e1,e2]:=PySem.W.os_pre_some aea;let#[e3,hwi]:=Codec.encAll_of_decAll r.args args a e1;subst e3;let KX:=hY w _ Y;let#[fd,c,PT,hb,hKT,hIC,hT,hF]:=F w mg fa _ Y KX G.T.g hmg G.T.tab;let hB:s1.heap.BuiltinsAt mg PT:=by
  let#[bm,ob,b1,b2,b3,b4,b5,b6]:=G.T.bmain;let#[o',es,ep,g1,g2,_]:=G.T.g;refine#[bm,ob,b1,b2,λz=>?_,λz=>?_,b3,b4,b5,b6]
  .rw[z,g1]at b3;cases b3;rw[g2]at b6;cases b6
  .rw[z,hT.2]at b3;cases b3;cases b6
 refine PySem.W.enter_call (kx (KI (R:=[]) (cl:=classAt xQ.heap) (d0:=r.ret.enc<|Codec.app r.args r.f a) KX G.T.g G.T.b G.T.builtins G.T.nolimit hg NC (Ed _ _) (BA ad3) hr hT (WR hIC hT) hB hKT hF hb (by rw[Bf];exact hlen)
  (λH0 H xs hs hP hS=>hsp PT _ H0 H xs a hs hP hwi e2 hS) λH e s'=>hCX H s1 e s') λr' s' hq=>?_)
 obtain⟨u,as',rfl,h1,h2,h3,h4⟩:=hq;exact#[.inl #[u,_,as',rfl,λ_=>rfl,h1,(OpenSpec.post_iff aa8 hwi _ _).mpr rfl,λz=>dY (show false=true from z)],h2,h3,h4]
end Cr
namespace Cr
open PySem PySem.Spec PyProof.Rows L2 XF
section
variable{P:a7}{w:bS}{K:ao}{h:Heap}{mg:Str->Option Value}
local macro_rules | `(tactic| walk_at "gg") => `(tactic| repeat' first | assumption | apply Ff | apply Fi | apply vi | apply wp | apply wu | apply Fj | apply vg | apply uu | apply Fh | apply G4 | apply JJ | apply uo | apply qG | apply vf | apply P8 | apply vj | apply vk | apply zZ | apply z_ | apply JM | apply uq | apply z7 | apply Ac | apply Bp | apply wz | apply z6 | apply Bt | apply zY | apply qI | apply Ad | apply Bq | apply yj | apply yk | apply Aa | apply wA | apply Bo | apply z5 | apply Af | apply Nu | apply z8 | apply C' | apply JI | apply Ab | apply wv | apply Ag | apply Dc | apply Nt | apply Db | apply Br | apply Bs | apply sI | apply yh | apply yi | apply z4 | apply wx | apply ur | apply Nr | apply Nq | apply Da | apply JK | apply Ae | apply sE | apply z9 | apply G3 | apply JH | apply JL | apply wy | apply G5 | apply No | apply sG | apply wq | apply zW | apply zX | apply Np | apply Fg | apply Bn)
set_option maxHeartbeats 0 in
def all_mk {fa:Addr} (X0:K.In h) (G:h.Ns cV mg) (hfa:mg "answers">.ref fa) (Xv:∃a o fd c P,mg "by_middles">.ref a/\h.get? a>o/\o.data=.func fd/\fd.code=.ref c/\h.IsCode c P #[]/\h.TableAt c P #[])(fx:iz K):
  ∃(fd:ow)(c PT:Addr),(∀(s:bq)(us:List Value),↑us=↑(["calls"]:List Str)->F_ s fd #[us,[]] ((["calls"]:List Str).zip us))/\K.lookup PT=none/\h.IsCode c PT #[]/\h.TableAt c PT #[]/\
   ∀aD:Heap,K.In aD->aD.Ns cV mg->iS aD c PT->aD.BuiltinsAt mg PT->j4 P w K mg aD dO 11 fa fd ["calls"] (Rg PT K):=by
 obtain⟨CT,CR,CS,CD,CL,CH,CC,CF,N,fI,cB,PT,xC,xo,xn,xa,xi,xs,xg,xh,xf,xk,xc,xp,xl,xcd,xkf,ba,bl,bc,bk,bo,b11,nPT,Z,⟨d_answers,D⟩,nToken,cT,wToken,vToken,iToken,nReader,cR,wReader,vReader,iReader,nStatements,cS,wStatements,vStatements,iStatements,nDiagram,cD,wDiagram,vDiagram,iDiagram,nLayout,cL,wLayout,vLayout,iLayout,nHeld,cH,wHeld,vHeld,iHeld,nCall,cC,wCall,vCall,iCall,i_ahead,i_take,i_take_within⟩:=fx
 let act:C2 K CF N fI:=#[#[_,_,_,_,_,_,_,_,_,_,_,_,_,xo],abm xn xa,xi,xs,xg,xh,xf,xk];let nc:Sz K N "code":=#[xc,rfl];let np:Sz K N "place":=#[xp,rfl];let FF:=Fc (st:=lj) xl xcd xkf;let Fk:iW K mg "by_middles" fH _ _:=#[Fc (st:=fH) bl bc bk,fY X0 G ba];let adx:=(λ{f d}(_:iW K mg "by_middles" fH f d)(h:d.code=.ref cB)=>h) Fk rfl;let#[tIC,tTA]:h.IsCode cB PT #[]/\h.TableAt cB PT #[]:=by
  obtain⟨a,o,fd,c,PT',t1,t2,t3,t4,t5,t6⟩:=Xv;rw[Fk.at_]at t1;cases t1
  rw[X0 _ _ bl]at t2;cases t2
  cases t3
  cases t4
  obtain⟨⟨o,vs,u1,u2,u3,u4⟩,_⟩:=id t6;rw[X0 _ _ bo]at u1;cases u1
  cases u3
  rw[b11]at u4;cases u4
  exact#[t5,t6]
 obtain⟨fa2,fdA,hA⟩:=d_answers.has X0 G;let e:=hfa.symm.trans hA.at_;cases e
 repeat(obtain⟨d,D⟩:=D;obtain⟨_,_,_⟩:=Dn.has d X0 G;clear d)
 obtain⟨Xb,acw,O6,Pb⟩:=iToken.fn;let XE:Mk K CT Xb:=#[wToken,Pb.at_,Pb.fn,vToken];let XU:=fY X0 G nToken;obtain⟨Tw,aau,K_,Le⟩:=iReader.fn;let TX:Mk K CR Tw:=#[wReader,Le.at_,Le.fn,vReader];let T5:=fY X0 G nReader;obtain⟨GS,Tx,yK,yM⟩:=iStatements.fn;let Hf:Mk K CS GS:=#[wStatements,yM.at_,yM.fn,vStatements];let Hn:=fY X0 G nStatements;obtain⟨PU,Zx,Gd,Gi⟩:=iDiagram.fn;let Qn:Mk K CD PU:=#[wDiagram,Gi.at_,Gi.fn,vDiagram];let Qv:=fY X0 G nDiagram;obtain⟨Tv,aat,K9,Ld⟩:=iLayout.fn;let TW:Mk K CL Tv:=#[wLayout,Ld.at_,Ld.fn,vLayout];let T4:=fY X0 G nLayout;obtain⟨aas,adk,Vp,Vv⟩:=iHeld.fn;let abd:Mk K CH aas:=#[wHeld,Vv.at_,Vv.fn,vHeld];let abh:=fY X0 G nHeld;obtain⟨aar,adj,Vo,Vu⟩:=iCall.fn;let abc:Mk K CC aar:=#[wCall,Vu.at_,Vu.fn,vCall];let abg:=fY X0 G nCall;obtain⟨acv,aav,K',Te⟩:=i_ahead.fn;obtain⟨adi,acx,O7,WO⟩:=i_take.fn;obtain⟨SG,PV,uw,CV⟩:=i_take_within.fn;repeat obtain⟨_,Z⟩:=Z
 let T:Txt K mg:=by constructor<;>(first|exact uC X0 G (by assumption)|exact Ci.Xy (by assumption) X0 G|exact Ct.Xy (by assumption) X0 G)
 let TT:MW K mg:=by constructor<;>(first|exact uC X0 G (by assumption)|exact Ci.Xy (by assumption) X0 G|exact Ct.Xy (by assumption) X0 G)
 let U:qy K mg:=by constructor<;>(first|exact uC X0 G (by assumption)|exact Ci.Xy (by assumption) X0 G|exact Ct.Xy (by assumption) X0 G)
 refine#[fdA,cB,PT,?bnd,nPT,tIC,tTA,λaD X1 G1 hCb hBb=>?_];case bnd=>exact Tz hA.fn
 let X:vS P w K mg aD CF N fI _:=#[act,Dj FF act nc np,FF.binds λ_ _ _ _ _ _ us hl=>match us,hl with|[_,_,_],_=>rfl,fY X0 G xC];let Ar:GoodC P w K mg aD 1 "Token" CT ["self","kind","value","place","behind"] (qY CT):=#[_,_,XU,XE,O6.binds λ_ _ _ _ _ _ us hl=>match us,hl with|[_,_,_,_,_],_=>rfl,Dk O6 cT];let Y3:GoodC P w K mg aD 1 "Diagram" CD ["self","boxes","edges","labels","wishes"] (Rj CD):=#[_,_,Qv,Qn,Gd.binds λ_ _ _ _ _ _ us hl=>match us,hl with|[_,_,_,_,_],_=>rfl,Ak Gd cD];let Z2:GoodC P w K mg aD 1 "Reader" CR ["self","tokens"] (Rw CR):=#[_,_,T5,TX,K_.binds λ_ _ _ _ _ _ us hl=>match us,hl with|[_,_],_=>rfl,BP K_ cR];let SX:GoodC P w K mg aD 1 "Statements" CS ["self"] (RB CS):=#[_,_,Hn,Hf,yK.binds λ_ _ _ _ _ _ us hl=>match us,hl with|[_],_=>rfl,vy yK cS];let BE:nT P w K mg aD dO 1 CR "ahead" ["self"] (uj CT CR):=#[_,_,cR.cl,Te,K'.binds λ_ _ _ _ _ _ us hl=>match us,hl with|[_],_=>rfl,QH K' cR];let Dg:nT P w K mg aD (nG P w CF) 4 CR "take" ["self","kind"] (vE CT CR CF):=#[_,_,cR.cl,WO,O7.binds λ_ _ _ _ _ _ us hl=>match us,hl with|[_,_],_=>rfl,Uf O7 X cR cT BE];let Z1:GoodC P w K mg aD 6 "Layout" CL ["self","diagram"] (KG CL CD):=#[_,_,T4,TW,K9.binds λ_ _ _ _ _ _ us hl=>match us,hl with|[_,_],_=>rfl,BO T K9 cL cD (by walk_at"gg") (by walk_at"gg") (by walk_at"gg")];let Ho:nT P w K mg aD (nG P w CF) 5 CR "take_within" ["self","least","greatest"] (Ch CT CR CF):=#[_,_,cR.cl,CV,uw.binds λ_ _ _ _ _ _ us hl=>match us,hl with|[_,_,_],_=>rfl,BQ uw X cT Dg];let WI:GoodC P w K mg aD 1 "Held" CH ["self"] (FO CH):=#[_,_,abh,abd,Vp.binds λ_ _ _ _ _ _ us hl=>match us,hl with|[_],_=>rfl,Fz Vp cH];let WH:GoodC P w K mg aD 1 "Call" CC ["self","calls","at"] (FL (K:=K) CC):=#[_,_,abg,abc,Vo.binds λ_ _ _ _ _ _ us hl=>match us,hl with|[_,_,_],_=>rfl,Fy U Vo cC];exact J4 T cC hA.fn WI WH (by walk_at"gg")
end
end Cr
end
set_option maxHeartbeats 0 in
theorem PySem.Challenge.cw_crossings_s01_answers_holds : PySem.Challenge.rw_crossings_s01_answers.Holds := by
  refine Cr.KK fun q l X Y d ⟨K, hd, hn, hY, hq, hF⟩ => ?_
  refine Cr.K5 (k := 11) (CX := L2.dO) (ps := ["calls"]) (sp := Cr.Rg) Cr.Tm hd rfl ⟨rfl, by decide, by decide⟩ hY ?F ?S (fun _ _ _ _ z => z)
  case F =>
    intro w mg fa h Y KX G hmg tab
    rw [hn] at hmg
    exact Cr.all_mk KX G hmg (Cr.YZ (x := "by_middles") tab hq) (hF w)
  case S =>
    intro PT K H0 H xs a hs hP hwi Xl hx
    cases hx with
    | cons h1 h2 =>
      cases h2
      cases h1 with
      | lst hq ha =>
        have e := L2.LI a.1 _ ha
        subst e
        exact ⟨_, a.1, rfl, hs.seq hq, .inl hP, Xl, fun H' p hp => .lst (L2.bW.of hp) (L2.Lw _)⟩
