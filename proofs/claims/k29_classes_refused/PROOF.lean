import PyProof.Rows.All
import Wide.All
import OpenK.AllK
import Wide.FinOn
import Lean
import PyProof.EqAt
import PyProof.EqKinds
import PyProof.TupleCall
import PyProof.CompFree
import PyProof.Cells
import PySem.Challenge.RW_changehall_k29_classes_refused
set_option Elab.async false
set_option linter.all false
set_option maxRecDepth 100000
set_option exponentiation.threshold 20000
abbrev aA:=List (List Int)
abbrev aB:=List (PySem.Addr×PySem.Obj)
abbrev aC:=PySem.Value->PySem.Shared->Prop
abbrev aE:=PySem.W.Frag
abbrev aF:=PySem.Str->Option PySem.Value
abbrev aG:=List PySem.Value
abbrev aH:=List Int
set_option compiler.extract_closed false
open Option renaming some->aa,none->aj
open Bool renaming true->ae,false->ag
open PySem renaming wpAny_bind->ah,wpAny_pure->ao,starEach->au,wpAny->ay,FuncData->az,Program->aN,mainGlobals->aO,World->aP,Around->aU,Expr->aV,Heap->aX,Stmt->aZ,cellsFrom->be,Params->bo,wpAny_mono->bt,sizeLine_eq->bv,mem_of_lookup->bz,OsState->bB,bootBuiltins->bF,compareOp->bK,NameKind->bN,wpAny_field->bR,wpAny_Call_Name_kw->bU,wpAny_truthy_bool->bW,foldedSetIterable->bX,backTo->bZ,DictEntry->cb,wpAny_holding->cj,swapsWith->cu,wpAny_rule->cB,wpAny_attempt->cH,treeTable->cJ,rawInt->cK,binaryOp->cL,keywordEach->cP,wpAny_setField_rec->cU,assignEach->cV,wpAny_passesOwn->cW,wpAny_newObj_type->di,cLine->dk,wpAny_seqItems->dm,builtinsNs->dq,IsPair->dr,wpAny_call_entry->dD,codeAny_mono->dE,behindInMarks->dI,wpAny_execs_nil->dM,letOwnedTupleGo->dN,wpAny_callSpecial?_slot->dP,wpAny_pyIter_list->dQ,backToKw->dR,sysModules->dX,wpAny_newList->eB,sliceBounds->eF,importedModules->eK,codeAmong->eQ,Arguments->eR,wpAny_setField->eS,wpAny_standAt->fq,wpAny_isInstance->fy,bindArgs->fA,Keyword->fL,wpAny_loadPart'->fP,wpAny_newTuple->fX,firstArgMember->fY,tupleKind->gi,codeAny->gj,wpAny_call->gA,closureFor->gB,wpAny_typeOf->gH,callerA->gI,wpAny_typeOf_ref->gR,wpAny_execs_cons->gU,noteFrame->gW,TriplesOk->gX,CmpOp->hV
open PySem.Value renaming ref->ak,none->bM,int->cO,type->dY,bool->fJ
open PyProof.Rows renaming wpS_bind->am,arrOf->aw,wpS_pure->aJ,pendingOf->aL,Keyed->aQ,seqObj->bh,SortSt->bi,wpS_forRange->bC,listItems_at->bE,failedOf->ci,callWith_type1->cq,wpS_modify->cy,envOfC->cz,KeyKind->cM,wpS_mono->cQ,IntsAre->cR,listUpdate_at->cS,get?_update_seq->dC,wpS_get->eJ,SortKind->eX,pairsOf->fw,seqEpoch_at->fU,AllBare->fV,wpS_lift->gm,setPending->gy,pairsOf_toList->gQ,callWith_kw->gZ,getElem?_mirror_all->ic
open Array renaming length_toList->aq,getElem?_eq_getElem->av,toList_append->bG,getElem_extract->bI,getElem?_toList->bJ,getElem_toList->bT,size_extract->ce,toList_reverse->cN,toList_extract->cY,getElem_mem_toList->dw,append_assoc->eI,toList_push->eP,map->eU,toList->gh,getElem?_setIfInBounds_ne->gp,toList_setIfInBounds->gP
open Option.some renaming inj->aM
open Or renaming inl->aR,inr->bH
open List renaming range->aT,replicate->br,getD->bA,zipWith->dg,length->eO,map->eT,lookup->gz
open PySem.W renaming nsIn->aY,mg_none_of->bg,kia_one->bq,fnOf->bO,mg_of->cw,keepIn->cD,codeIn->cX,looks_pair->dG,cellsFrom_some->dJ,kla_obj->dW,boot_heap->eG,kitx_list->eN,segRun_of->eV,piece_app->eW,hideAll_none->eZ,hideAll_get->fE,findIn->fF,piecesOf->fI,SharedT->fR,methodObj->fZ,kitx_dict->gf,kitCls->gq,OpenLaw->gu,segRunT->gw,instObj->gC,hideAll->gG,of_hideAll->gJ,lookIn->gK,kitOne->gL,exmOne->gM
open PySem.Obj renaming mapSeq->bj,data_mapFields->dO,mapFields->eD,isFreed_of_fields->fT
open PySem.PassesOwn renaming never->bp
open PySem.Builtin.SmallTypes renaming nextOrEnd->bu,ownedTupleIsFree->cI,nextOf->dH,ownedTupleHandOut->gv,stopIteration->gN
open PySem.Str renaming ofString->bw
open PySem.Heap.SameBut renaming update->bL
open PySem.Builtin.Int renaming intBits->bP
open Ne renaming symm->bQ
open PySem.NameKind renaming free->ck,cell->cZ
open List.Sublist renaming map->cC
open List.Perm renaming refl->cF,eq_of_pairwise->hJ
open False renaming elim->cG
open List.Pairwise renaming nil->cT
open PySem.F renaming slot_tuple_iterator_next->du,plainAttrs_list->fg,slot_list_lt->fG,slot_zip_next->fQ,slot_list_append->gE
open PySem.PyData renaming depth->dS,eqv->eA,depthAll->eM,canLayAll0->fe,eqvAll->ft,int->fK,canLay0->gg
open PySem.Heap renaming SameBut->dU,FlyingW->fM
open True renaming intro->eE
open Sum renaming inl->eY,inr->fW
open ForInStep renaming yield->fk
open PySem.Builtin.List renaming listTooLong->fu,listItems->fO
open Prod.mk renaming inj->fH
open PySem.Paired renaming length->gx
open List.cons renaming injEq->gF
open Prod renaming snd->gO
open PySem.Data renaming cell->gY,fields->hU
abbrev ap:=@if_pos
abbrev ax:=@if_neg
abbrev aI:=@decide_eq_true
abbrev aK:=@decide_eq_false
abbrev aW:=@absurd
abbrev ba:=@of_decide_eq_true
abbrev bV:=@congrArg
abbrev ie:=List PySem.Str
abbrev ig:=List PySem.Addr
abbrev ii:=List Nat
abbrev ik:=List PySem.Expr
abbrev io:=List PySem.Stmt
abbrev iq:=List PySem.Env
abbrev iu:=Array PySem.Value
abbrev iw:=List PySem.DictEntry
abbrev iz:=Option Int
abbrev iA:=Option PySem.Value
abbrev iB:=Option PySem.Addr
open List renaming getElem?_eq_getElem->wa,mem_cons_of_mem->wb,mem_cons_self->wd,length_map->we,mem_cons->wg,map_cons->wj,mem_map->wl,mem_append->wn,length_cons->wp,size_toArray->wq,getElem?_eq_some_iff->wr,mem_singleton->wv,getElem?_map->wx,length_append->wz,mem_append_right->wA,pairwise_iff_getElem->wC,getElem?_append_right->wE,length_set->wG,getElem_of_mem->wI,getElem?_append_left->wJ,map_map->wK,lookup_cons->wL,getElem_map->wM,mem_append_left->wO,append_assoc->wP,mem_range->wQ,getElem?_set_ne->wT,getElem?_eq_none->wU,getElem?_replicate->wV,getElem?_set->wY,drop_eq_getElem_cons->wZ,pairwise_cons->vc,append_nil->vd,nodup_cons->vf,length_take->vg,pairwise_map->vi,mem_of_getElem?->vj,take_of_length_le->vm,filter_sublist->vo,perm_append_comm->vq,getElem_zip->vt,length_zip->vy,map_append->vz,extract_eq_take_drop->vA,length_replicate->vB,mem_filterMap->vC,forIn_cons->vI,map_congr_left->vL,length_pos_iff->vM,forIn_nil->vN,not_mem_nil->vO,length_range->vW,nodup_iff_pairwise_ne->vY,getElem_inj->uc,all_eq_true->ud,ext_getElem->ue,filter_cons->ui,filterMap_cons->uj,length_zipWith->ul,mem_map_of_mem->uo,getElem?_set_self->uu,nodup_nil->uw,take_add_one->uA,drop_eq_nil_of_le->uB,zipWith_map_right->uC,nodup_append->uE,getElem?_toArray->uG,take_append_drop->uH,mem_flatMap->uL,pairwise_append->uN,map_eq_cons_iff->uP,of_mem_zip->uQ,find?_cons->uR,replicate_succ->uV,getElem?_eq_none_iff->uY,flatMap_cons->uZ,getElem?_take_of_lt->w01,getElem_mem->w04,zipIdx_cons->w05,map_fst_zip->w07,cons_append->w09,length_eq_zero_iff->w0d,map_nil->w0e,drop_of_length_le->w0f,mem_filter->w0i,nil_append->w0j,length_singleton->w0k,pairwise_reverse->w0l,set_append_right->w0m,countP_mono_left->w0n,getElem?_zipWith->w0p,mem_of_mem_take->w0q,mem_iff_getElem->w0v,getElem?_range->w0x,length_reverse->w0y,flatMap_append->w0z,forIn_toArray->w0E,zip_map_right->w0F,append_of_mem->w0G,reverse_perm->w0L,foldl_append->w0O,countP_cons->w0R,zipWith_map->w0U,map_id->w0W,zipIdx_nil->w13,length_nil->w14,foldl_cons->w15,take_zero->w19,drop_zero->w1a
open Nat renaming le_refl->wf,lt_of_lt_of_le->wt,le_trans->wu,pow_le_pow_right->ww,zero_le->wy,mul_le_mul_right->wB,ne_of_lt->wD,le_of_lt->wN,lt_irrefl->wR,mul_le_mul_left->wS,lt_succ_self->wW,mul_le_mul->vE,mul_assoc->vG,ne_of_gt->vQ,zero_add->vR,lt_of_le_of_lt->vS,le_succ_of_le->vV,pow_add->vZ,mul_comm->uf,pow_succ->ug,eq_or_lt_of_le->ut,le_of_succ_le->uv,succ_mul->uD,le_of_not_lt->uI,add_mul->uO,two_pow_pos->uS,strongRecOn->uT,mul_add->w00,add_sub_cancel_left->w08,le_add_right->w0a,mul_lt_mul''->w0b,le_mul_of_pos_right->w0c,sub_self->w0g,min_self->w0h,mul_pos->w0u,pow_le_pow_left->w0A,add_assoc->w0B,lt_succ_of_lt->w0H,lt_trans->w0I,le_of_eq->w0J,add_comm->w0M,lt_of_not_le->w0Q,succ_le_succ->w0S,log2_lt->w0V,min_eq_left->w17,not_lt->w18
open Int renaming natAbs_mul->wX,fmod_nonneg_of_pos->vx,fmod_lt_of_pos->vH,toNat_natCast->vK,mul_eq_zero->vT,mul_left_comm->uF,mul_le_mul_of_nonneg_right->uK,gcd->uM,mul_comm->uW,mul_assoc->w02,mul_fdiv_cancel_left->w03,mul_nonneg->w0r,natAbs_neg->w0s,neg_mul->w0t,natAbs_eq_zero->w0D,lt_trichotomy->w0N,mul_sub->w0X,mul_neg->w0Y,neg_mul_neg->w16
open Option renaming map_eq_some_iff->vF,isSome_iff_exists->uq,any_some->ur,isSome_some->w0C,isSome_map->w0K,getD_none->w0P,bind_some->w0T,map_some->w12
open PySem.Heap renaming get?_push_of_some->wc,lt_size->wm,get?_push_size->wo,get?_update_other->vv,size_push->vw,get?_none_of_le->vD,get?_update_self->vU,get?_push_ne->uz,get?_update_ne->uU,size_update->w06
open Bool renaming and_eq_true->wF,false_ne_true->wH,or_eq_true->vJ,not_eq_true'->vX,false_eq_true->uX,beq_eq_decide_eq->w0o,and_eq_true_iff->w0w,eq_iff_iff->w0Z
open Classical renaming byContradiction->vn,choose_spec->vp,propDecidable->vP,choose->uJ
local macro_rules|`(tactic|rfl')=>`(tactic|omega)
local macro_rules|`(())=>`(by rfl')
section
open PySem PySem.Spec PyProof.Rows
section
local macro_rules|`(tactic|rfl')=>`(tactic|first|lia|omega +splitDisjunctions)
namespace L2
abbrev Key:=Sum Int Str
def Iw:Key->Value->Bool
 |.inl k,v=>Value.isInt k v
 |.inr x,v=>Value.isStrOf x v
def keyH(w:aP):Key->Int
 |.inl k=>hashInt k
 |.inr x=>hashStr w x
theorem B5:∀{k:Key}{v:Value},Iw k v=ae->(∃i t,k=eY i/\v=cO i t)\/(∃x t,k=fW x/\v=Value.str x t)
 |.inl i,v,h=>by
  obtain⟨t,e⟩:=Value.isInt_shape (k:=i) (v:=v) h;exact .inl ⟨i,t,rfl,e⟩
 |.inr x,v,h=>by
  obtain⟨t,e⟩:=Value.isStrOf_shape (x:=x) (v:=v) h;exact .inr ⟨x,t,rfl,e⟩
theorem SO(i:Int)(t:Tok):Iw (.inl i) (.int i t)=ae:=by simp[Iw,Value.isInt]
theorem SQ(x:Str)(t:Tok):Iw (.inr x) (.str x t)=ae:=by simp[Iw,Value.isStrOf]
theorem key_ll(a b:Int):decide ((eY a:Key)=eY b)=(a==b):=by
 by_cases e:a=b
 .subst e;simp
 .have h:¬(eY a:Key)=eY b:=λq=>e (Sum.inl.inj q);rw[aK h];exact(beq_eq_false_iff_ne.mpr e).symm
theorem key_rr(a b:Str):decide ((fW a:Key)=fW b)=decide (a=b):=by
 by_cases e:a=b
 .subst e;simp
 .have h:¬(fW a:Key)=fW b:=λq=>e (Sum.inr.inj q);rw[aK h,aK e]
theorem key_lr(a:Int)(b:Str):decide ((eY a:Key)=fW b)=ag:=aK (λq=>nomatch q)
theorem key_rl(a:Str)(b:Int):decide ((fW a:Key)=eY b)=ag:=aK (λq=>nomatch q)
def J0(prog:Program)(w:World):PySem.KeyKind prog w Key where
 is:=Iw
 hash:=keyH w
 inj:=λv a b ha hb=>by
  rcases B5 ha with⟨i,t,rfl,rfl⟩|⟨x,t,rfl,rfl⟩
  .rcases B5 hb with⟨j,u,rfl,e⟩|⟨y,u,rfl,e⟩
   .injection e with e1 _;rw[e1]
   .exact nomatch e
  .rcases B5 hb with⟨j,u,rfl,e⟩|⟨y,u,rfl,e⟩
   .exact nomatch e
   .injection e with e1 _;rw[e1]
 byValue:=λk v h=>by
  rcases B5 h with⟨i,t,rfl,rfl⟩|⟨x,t,rfl,rfl⟩<;>rfl
 pyHash:=λhv h=>by
  rcases B5 hv with⟨i,t,rfl,rfl⟩|⟨x,t,rfl,rfl⟩
  .exact wpAny_pyHash_int h
  .exact wpAny_pyHash_str h
 eqBool:=λhu hv h=>by
  rcases B5 hu with⟨i,t,rfl,rfl⟩|⟨x,t,rfl,rfl⟩
  .rcases B5 hv with⟨j,u,rfl,rfl⟩|⟨y,u,rfl,rfl⟩
   .rw[key_ll]at h;exact wpAny_eqBool_int h
   .rw[key_lr]at h;exact SeqAt.EqAt.int_str i t y u _ _ _ _ h
  .rcases B5 hv with⟨j,u,rfl,rfl⟩|⟨y,u,rfl,rfl⟩
   .rw[key_rl]at h;exact SeqAt.EqAt.str_int x t j u _ _ _ _ h
   .rw[key_rr]at h;exact wpAny_eqBool_str h
 «strs»:=λk x t v h=>by
  rcases B5 h with⟨i,u,rfl,e⟩|⟨y,u,rfl,e⟩
  .exact nomatch e
  .injection e with e1 _
   subst e1;cases v<;>rfl
theorem LB(prog:aN)(w:aP)(i:Int)(t:Tok):(J0 prog w).is (.inl i) (.int i t)=ae:=SO i t
theorem LC(prog:aN)(w:aP)(x:Str)(t:Tok):(J0 prog w).is (.inr x) (.str x t)=ae:=SQ x t
inductive V where
 |non|bl (b:Bool)|int (i:Int)|str (x:Str)|byt (b:Array UInt8)|flt (b:UInt64)|ref (a:Addr)|ty (n:String)
 deriving DecidableEq
abbrev iD:=List V
def RelV:V->Value->Prop
 |.non,u=>u=bM
 |.bl b,u=>u=fJ b
 |.int i,u=>∃t,u=cO i t
 |.str x,u=>∃t,u=Value.str x t
 |.byt b,u=>∃t,u=Value.bytes b t
 |.flt b,u=>∃t,u=Value.float b t
 |.ref a,u=>u=ak a
 |.ty n,u=>u=dY n
abbrev Vals:iD->aG->Prop:=Paired RelV
theorem Vals.length{xs:iD}{us:aG}(r:Vals xs us):xs.length=us.length:=gx r
theorem Vals.get:∀{xs:iD}{us:aG}{i:Nat}{x:V},Vals xs us->xs[i]?=aa x->∃u,us[i]?=aa u/\RelV x u
 |_,_,_,_,.nil,e=>by simp at e
 |_,_,0,_,.cons r _,e=>by simp at e;subst e;exact⟨_,rfl,r⟩
 |_,_,i+1,x,.cons _ t,e=>by
  obtain⟨u,h1,h2⟩:=Vals.get (i:=i) (x:=x) t (by simpa using e);exact⟨u,by simpa using h1,h2⟩
theorem Vals.set{x:V}{u:Value}(r:RelV x u):∀{xs:iD}{us:aG}(i:Nat),Vals xs us->Vals (xs.set i x) (us.set i u)
 |_,_,_,.nil=>.nil
 |_,_,0,.cons _ t=>.cons r t
 |_,_,i+1,.cons q t=>.cons q (Vals.set r i t)
theorem Vals.append:∀{xs ys:iD}{us ws:aG},Vals xs us->Vals ys ws->Vals (xs++ys) (us++ws)
 |_,_,_,_,.nil,s=>s
 |_,_,_,_,.cons r t,s=>.cons r (Vals.append t s)
theorem Vals.take:∀{xs:iD}{us:aG}(n:Nat),Vals xs us->Vals (xs.take n) (us.take n)
 |_,_,0,_=>.nil
 |_,_,_+1,.nil=>.nil
 |_,_,n+1,.cons r t=>.cons r (Vals.take n t)
theorem Vals.drop:∀{xs:iD}{us:aG}(n:Nat),Vals xs us->Vals (xs.drop n) (us.drop n)
 |_,_,0,r=>r
 |_,_,_+1,.nil=>.nil
 |_,_,n+1,.cons _ t=>Vals.drop n t
theorem Vals.none_of:∀{xs:iD}{us:aG}{i:Nat},Vals xs us->xs[i]?=aj->us[i]?=aj:=λ{xs us i}r e=>by
 have h1:=r.length;have h2:xs.length<=i:=uY.mp e;exact uY.mpr ()
def RelO:Option V->iA->Prop
 |some v,aa u=>RelV v u
 |none,aj=>True
 |_,_=>False
def KV{κ:Type}:List (κ×V)->List (κ×Value)->Prop:=Paired λ(p:κ×V)(q:κ×Value)=>p.1=q.1/\RelV p.2 q.2
def kV:Key->V
 |.inl i=>.int i
 |.inr x=>.str x
inductive HO where
 |lst (xs:iD)
 |tup (xs:iD)
 |dK (kvs:List (Key×V))|dT (kvs:List (List Key×V))
 |set (S:Int->Bool) (n:Nat)
 |ins (C dx:Addr) (fs:List (Str×V))
 |own (x:Addr)
 |xd (fs:List (Str×V))
 |met (f x:Addr)
 |rng (lo hi:Int)
 |frz (o:Obj) (u:HO)
 |tbl (ps:iu) (q:Str)
 |ext (φ:aX->Prop)
abbrev Hp:=Addr->Option HO
def upd(H:Hp)(a:Addr)(o:HO):Hp:=λb=>if b=a then aa o else H b
theorem j6{H:Hp}{a:Addr}{o:HO}:upd H a o a=aa o:=by unfold upd;rw[ap rfl]
theorem i7{H:Hp}{a b:Addr}{o:HO}(h:b≠a):upd H a o b=H b:=by unfold upd;rw[ax h]
theorem An{H:Hp}{a b:Addr}{o u:HO}(h:H a=aa o)(h':H b=aa u)(d:o≠u):a≠b:=by
 intro e;subst e;rw[h]at h';exact d (aM h')
theorem A0{H:Hp}{a b:Addr}{o:HO}(h:H a=aa o)(h':H b=aj):a≠b:=by
 intro e;subst e;rw[h]at h';cases h'
section
variable (P:aN)(w:aP)
def ObjOk(H:Hp)(h:aX)(a:Addr):HO->Prop
 |.lst xs=>xs.length<=sizeLine/\∃(its:aG)(n:Nat),Vals xs its/\h.get? a=aa { cls:=.type "list",data:=.seq its.toArray n }
 |.tup xs=>xs.length<=sizeLine/\∃its:aG,Vals xs its/\IsTup h a its.toArray
 |.dK kvs=>kvs.length<=sizeLine/\(a==dX)=ag/\∃vs,KV kvs vs/\h.DictOf (J0 P w) a vs
 |.dT kvs=>kvs.length<=sizeLine/\(a==dX)=ag/\∃xs:List (List Key×Addr×Value),
  Paired (λ(p:List Key×V)(q:List Key×Addr×Value)=>p.1=q.1/\H q.2.1=aa (.tup (p.1.map kV))/\RelV p.2 q.2.2) kvs xs /\
  ∃o es ep,h.get? a=aa o/\o.ExactDict/\o.data=.dict es ep/\es.toList=xs.map (entryOfKey (gi (J0 P w)))/\(xs.map (·.1)).Nodup
 |.set S n=>h.SetOf (intKind P w) a S n
 |.ins C dx fs=>H dx=aa (.own a)/\fs.length<=1000/\dx≠a/\h.get? a=aa (gC C dx) /\
  ∃mA,h.Ns1 dx mA/\(∀f,RelO (fs.lookup f) (mA f))/\PySem.Within mA (fs.map (·.1))
 |.own _=>∃o,h.get? a=aa o
 |.xd fs=>∃mA,h.Ns1 a mA/\∀f,RelO (fs.lookup f) (mA f)
 |.rng lo hi=>∃t u v,h.get? a=aa { cls:=.type "range",data:=.fields #[.int lo t,.int hi u,.int 1 v] }
 |.frz o u=>h.get? a=aa o/\ObjOk H h a u
 |.tbl ps q=>∃more:iu,h.get? a=aa { cls:=.none,data:=.fields (ps++more) }/\gX (ps++more).toList/\∀pos cv,eQ pos (ps++more).toList=aa cv->∃c o u vs t,cv=.ref c/\H c=aa (.frz o u)/\o.data=.fields vs/\vs[1]?=aa (.str q t)
 |.met f x=>h.get? a=aa (fZ (.ref f) (.ref x))
 |.ext φ=>φ h/\(∃o,h.get? a=aa o)/\∀h1 h2:aX,φ h1->(∀o,h1.get? a=aa o->h2.get? a=aa o)->φ h2
def HOk(H:Hp)(h:aX):Prop:=∀a o,H a=aa o->ObjOk P w H h a o
end
section
variable {P:aN}{w:aP}{H H':Hp}{h h':aX}{a:Addr}{o:HO}
theorem ObjOk.lt(x:ObjOk P w H h a o):a<h.objs.size:=by
 cases o with
 |lst xs=>obtain⟨_,_,_,_,e⟩:=x;exact wm e
 |tup xs=>obtain⟨_,_,_,p⟩:=x;exact p.lt
 |dK kvs=>obtain⟨_,_,_,_,o,_,_,e,_⟩:=x;exact wm e
 |dT kvs=>obtain⟨_,_,_,_,o,_,_,e,_⟩:=x;exact wm e
 |set S n=>obtain⟨o,_,_,_,e,_⟩:=x;exact wm e
 |ins C dx fs=>obtain⟨_,_,_,e,_⟩:=x;exact wm e
 |own y=>obtain⟨_,e⟩:=x;exact wm e
 |xd fs=>obtain⟨_,⟨_,_,_,e,_⟩,_⟩:=x;exact wm e
 |rng lo hi=>obtain⟨_,_,_,e⟩:=x;exact wm e
 |frz ob u=>obtain⟨e,_⟩:=x;exact wm e
 |tbl ps q=>obtain⟨_,e,_⟩:=x;exact wm e
 |met f y=>exact wm (show h.get? a=aa _ from x)
 |ext φ=>obtain⟨_,⟨_,e⟩,_⟩:=x;exact wm e
theorem Paired.mapP{α β:Type}{F G:α->β->Prop}:∀{l₁:List α}{l₂:List β},Paired F l₁ l₂->(∀a b,F a b->G a b)->Paired G l₁ l₂
 |_,_,.nil,_=>.nil
 |_,_,.cons r t,f=>.cons (f _ _ r) (Paired.mapP t f)
theorem ObjOk.stay(x:ObjOk P w H h a o)(k:∀b u,(b=a\/H b=aa (.own a))->h.get? b=aa u->h'.get? b=aa u)
  (ho:∀b,H b=aa (.own a)->H' b=aa (.own a)) (ht:∀b xs,H b=aa (.tup xs)->H' b=aa (.tup xs)) (hf:∀b o u,H b=aa (.frz o u)->H' b=aa (.frz o u)):ObjOk P w H' h' a o:=by
 induction o with
 |lst xs=>obtain⟨z,its,n,r,e⟩:=x;exact⟨z,its,n,r,k _ _ (.inl rfl) e⟩
 |tup xs=>obtain⟨z,its,r,ob,e,c⟩:=x;exact⟨z,its,r,ob,k _ _ (.inl rfl) e,c⟩
 |dK kvs=>obtain⟨z,y,vs,r,ob,es,ep,e,c⟩:=x;exact⟨z,y,vs,r,ob,es,ep,k _ _ (.inl rfl) e,c⟩
 |dT kvs=>
  obtain⟨z,y,xs,r,ob,es,ep,e,c⟩:=x;exact⟨z,y,xs,Paired.mapP r λp q z=>⟨z.1,ht _ _ z.2.1,z.2.2⟩,ob,es,ep,k _ _ (.inl rfl) e,c⟩
 |set S n=>obtain⟨ob,es,ep,t,e,c⟩:=x;exact⟨ob,es,ep,t,k _ _ (.inl rfl) e,c⟩
 |ins C dx fs=>
  obtain⟨d,z,ne,e,mA,⟨od,es,ep,e2,c⟩,r⟩:=x;exact⟨ho _ d,z,ne,k _ _ (.inl rfl) e,mA,⟨od,es,ep,k _ _ (.inr d) e2,c⟩,r⟩
 |own y=>obtain⟨ob,e⟩:=x;exact⟨ob,k _ _ (.inl rfl) e⟩
 |xd fs=>obtain⟨mA,⟨od,es,ep,e,c⟩,r⟩:=x;exact⟨mA,⟨od,es,ep,k _ _ (.inl rfl) e,c⟩,r⟩
 |rng lo hi=>obtain⟨t,u,v,e⟩:=x;exact⟨t,u,v,k _ _ (.inl rfl) e⟩
 |frz ob u ih=>obtain⟨e,q⟩:=x;exact⟨k _ _ (.inl rfl) e,ih q⟩
 |tbl ps q=>
  obtain⟨more,e,tr,z⟩:=x;refine⟨more,k a _ (.inl rfl) e,tr,λpos cv y=>?_⟩;obtain⟨c,o,u,vs,t,e1,e2,e3⟩:=z pos cv y;exact⟨c,o,u,vs,t,e1,hf _ _ _ e2,e3⟩
 |met f y=>
  have e:h.get? a=aa (fZ (.ref f) (.ref y)):=x;show h'.get? a=aa (fZ (.ref f) (.ref y));exact k a _ (.inl rfl) e
 |ext φ=>obtain⟨p,⟨o,e⟩,st⟩:=x;exact⟨st _ _ p λo q=>k _ _ (.inl rfl) q,⟨o,k _ _ (.inl rfl) e⟩,st⟩
theorem HOk.lt(x:HOk P w H h)(e:H a=aa o):a<h.objs.size:=(x a o e).lt
theorem HOk.fresh(x:HOk P w H h)(e:h.objs.size<=a):H a=aj:=by
 cases q:H a with
 |none=>rfl
 |some u=>exact aW (wt (x.lt q) e) (wR _)
theorem HOk.kept(x:HOk P w H h)(k:∀b u,h.get? b=aa u->h'.get? b=aa u):HOk P w H h':=λa o e=>
 (x a o e).stay (λb u _ q=>k b u q) (λ_ q=>q) (λ_ _ q=>q) λ_ _ _ q=>q
theorem HOk.laid(x:HOk P w H h)(k:∀b u,h.get? b=aa u->h'.get? b=aa u)(hp:h.objs.size<=a)(new:ObjOk P w (upd H a o) h' a o):HOk P w (upd H a o) h':=λb u e=>by
 have hn:=x.fresh hp;by_cases hb:b=a
 .subst hb;rw[j6]at e;cases e;exact new
 .rw[i7 hb]at e;exact(x b u e).stay (λc v _ q=>k c v q) (λc q=>by rw[i7 (A0 q hn)];exact q) (λc xs q=>by rw[i7 (A0 q hn)];exact q) λc _ _ q=>by rw[i7 (A0 q hn)];exact q
end
def Rd(H:Hp)(a:Addr)(u:HO):Prop:=H a=aa u\/∃o,H a=aa (.frz o u)
theorem Rd.ok{P:aN}{w:aP}{H:Hp}{h:aX}{a:Addr}{u:HO}(r:Rd H a u)(x:HOk P w H h):ObjOk P w H h a u:=by
 rcases r with r|⟨o,r⟩
 .exact x a u r
 .obtain⟨_,q⟩:=x a _ r;exact q
def Mut:Option HO->Prop
 |some (.lst _)=>True
 |some (.dK _)=>True
 |some (.dT _)=>True
 |some (.set _ _)=>True
 |some (.ins _ _ _)=>True
 |some (.ext _)=>True
 |_=>False
section
variable {P:aN}{w:aP}{H:Hp}{h h':aX}{x e:Addr}{o':HO}
theorem HOk.write(ok:HOk P w H h)(mu:Mut (H x))(he:e=x\/H e=aa (.own x))(k:∀b u,b≠e->h.get? b=aa u->h'.get? b=aa u)(heo:∃u,h'.get? e=aa u)
   (new:ObjOk P w (upd H x o') h' x o'):HOk P w (upd H x o') h':=λb u q=>by
 have nown:∀c y,H c=aa (.own y)->c≠x:=λc y r z=>by subst z;rw[r]at mu;exact mu
 have ntup:∀c xs,H c=aa (.tup xs)->c≠x:=λc xs r z=>by subst z;rw[r]at mu;exact mu
 by_cases hb:b=x
 .subst hb;rw[j6]at q;cases q;exact new
 .rw[i7 hb]at q;by_cases hbe:b=e
  .have q':H b=aa (.own x):=by
     rcases he with z|z
     .exact aW (hbe.trans z) hb
     .rw[hbe];exact z
   rw[q]at q';cases q';obtain⟨v,hv⟩:=heo;exact⟨v,by rw[hbe];exact hv⟩
  .refine(ok b u q).stay (λc v hc r=>k c v ?_ r) (λc r=>by rw[i7 (nown c b r)];exact r) (λc xs r=>by rw[i7 (ntup c xs r)];exact r) λc _ _ r=>by rw[i7 (λz=>by subst z;rw[r]at mu;exact mu)];exact r
   rcases hc with rfl|hc
   .exact hbe
   .rintro rfl;rcases he with z|z
    .exact nown c b hc z
    .rw[hc]at z;cases z;exact hb rfl
end
structure Un(fs ex:ig)(H H':Hp)(h h':aX):Prop where
 keep:∀b o,h.get? b=aa o->H b=aj->b∉fs->b∉ex->h'.get? b=aa o
 slot:∀b o,h.get? b=aa o->H b=aj->b∈fs->b∉ex->∃sl,h'.get? b=aa { o with slots:=sl }
 free:∀b o,h.get? b=aa o->H b=aj->b∉ex->H' b=aj
 there:∀b o,h.get? b=aa o->b∉ex->∃o',h'.get? b=aa o'
 tups:∀b xs,H b=aa (.tup xs)->H' b=aa (.tup xs)
 frzs:∀b o u,H b=aa (.frz o u)->H' b=aa (.frz o u)
 tbls:∀b ps q,H b=aa (.tbl ps q)->H' b=aa (.tbl ps q)
section
variable {fs fs' ex ex':ig}{H H1 H2:Hp}{h h1 h2 h':aX}{a x e:Addr}{o:HO}
theorem Un.any(u:Un fs ex H H1 h h1){b:Addr}{ob:Obj}(q:h.get? b=aa ob)(n:H b=aj)(hx:b∉ex):∃sl,h1.get? b=aa { ob with slots:=sl }:=by
 by_cases hb:b∈fs
 .exact u.slot b ob q n hb hx
 .exact⟨ob.slots,u.keep b ob q n hb hx⟩
theorem Un.trans(a:Un fs ex H H1 h h1)(b:Un fs ex H1 H2 h1 h2):Un fs ex H H2 h h2 where
 keep:=λc ob q n hc hx=>b.keep c ob (a.keep c ob q n hc hx) (a.free c ob q n hx) hc hx
 slot:=λc ob q n hc hx=>by
  obtain⟨sl,e1⟩:=a.slot c ob q n hc hx;obtain⟨sl',e2⟩:=b.slot c _ e1 (a.free c ob q n hx) hc hx;exact⟨sl',e2⟩
 free:=λc ob q n hx=>by
  obtain⟨o',e1⟩:=a.there c ob q hx;exact b.free c o' e1 (a.free c ob q n hx) hx
 there:=λc ob q hx=>by
  obtain⟨o',e1⟩:=a.there c ob q hx;exact b.there c o' e1 hx
 tups:=λc xs q=>b.tups c xs (a.tups c xs q)
 frzs:=λc ob xs q=>b.frzs c ob xs (a.frzs c ob xs q)
 tbls:=λc ps q e=>b.tbls c ps q (a.tbls c ps q e)
theorem Un.kept(k:∀b u,h.get? b=aa u->h'.get? b=aa u):Un fs ex H H h h':=
 ⟨λb ob q _ _ _=>k b ob q,λb ob q _ _ _=>⟨ob.slots,k b ob q⟩,λ_ _ _ n _=>n,λb ob q _=>⟨ob,k b ob q⟩,λ_ _ q=>q,λ_ _ _ q=>q,λ_ _ _ q=>q⟩
theorem Un.refl:Un fs ex H H h h:=Un.kept λ_ _ q=>q
theorem Un.laid(k:∀b u,h.get? b=aa u->h'.get? b=aa u)(hp:h.objs.size<=a)(hn:H a=aj):Un fs ex H (upd H a o) h h' where
 keep:=λb u q _ _ _=>k b u q
 slot:=λb u q _ _ _=>⟨u.slots,k b u q⟩
 free:=λb u q n _=>by rw[i7 (wD (wt (wm q) hp))];exact n
 there:=λb u q _=>⟨u,k b u q⟩
 tups:=λb xs q=>by rw[i7 (A0 q hn)];exact q
 frzs:=λb u xs q=>by rw[i7 (A0 q hn)];exact q
 tbls:=λb ps _ q=>by rw[i7 (A0 q hn)];exact q
theorem Un.write(mu:Mut (H x))(he:e=x\/H e=aa (.own x))(k:∀b u,b≠e->h.get? b=aa u->h'.get? b=aa u)(heo:∃u,h'.get? e=aa u):Un fs ex H (upd H x o) h h':=by
 have hx:∀b,H b=aj->b≠x:=λb n z=>by subst z;rw[n]at mu;exact mu
 have hb:∀b,H b=aj->b≠e:=λb n z=>by
   subst z;rcases he with r|r
   .exact hx b n r
   .rw[n]at r;cases r
 have hm:∀b u,H b=aa u->¬Mut (aa u)->b≠x:=λb u q nm z=>by subst z;rw[q]at mu;exact nm mu
 refine⟨λb u q n _ _=>k b u (hb b n) q,λb u q n _ _=>⟨u.slots,k b u (hb b n) q⟩,λb u q n _=>by rw[i7 (hx b n)];exact n,λb u q _=>?_,
   λb xs q=>by rw[i7 (hm b _ q λz=>z)];exact q,λb u xs q=>by rw[i7 (hm b _ q λz=>z)];exact q,λb ps _ q=>by rw[i7 (hm b _ q λz=>z)];exact q⟩
 by_cases hbe:b=e
 .subst hbe;exact heo
 .exact⟨u,k b u hbe q⟩
end
def trk(h:aX)(H:Hp):ig:=(aT h.objs.size).filter λa=>(H a).isSome
def hidT(h:aX)(H:Hp):aX:=gG h (trk h H)
theorem SR(h:aX)(H:Hp):(hidT h H).objs.size=h.objs.size:=PySem.W.hideAll_size _ _
theorem Uh{h:aX}{H:Hp}{b:Addr}{o:Obj}(e:h.get? b=aa o)(n:H b=aj):(hidT h H).get? b=aa o:=
 fE _ e λhm=>by
  have q:(H b).isSome=ae:=(w0i.mp hm).2;rw[n]at q;simp at q
theorem Yd{h:aX}{H:Hp}{b:Addr}{o:Obj}(e:(hidT h H).get? b=aa o):h.get? b=aa o/\H b=aj:=by
 have e':h.get? b=aa o:=gJ (trk h H) e;refine⟨e',?_⟩;cases q:H b with
 |none=>rfl
 |some x=>
  have hm:b∈trk h H:=w0i.mpr ⟨wQ.mpr (wm e'),by simp[q]⟩;have z:(hidT h H).get? b=aj:=eZ (trk h H) hm;rw[z]at e;cases e
def Ye(g h:aX)(L:Addr):aB:=(aT h.objs.size).filterMap λa=>if a=L\/(g.get? a).isSome=ae then aj else(h.get? a).map λo=>(a,o)
def rest(g h:aX)(L d:Addr):aB:=(Ye g h L).filter λp=>decide (p.1≠d)
structure Mod(K:aE)(mg:aF)(base:aX):Prop where
 kin:K.In base
 glob:base.Ns aO mg
 blt:∃mb,base.Ns dq mb/\∀x:Str,x ≠ "__name__" -> mb x=bF x
 nolimit:base.NoLimit
structure Cx where
 prog:aN
 w:aP
 K:aE
 mg:aF
 base:aX
 A:aU
 N:ie
 s₀:Shared
 H₀:Hp
 env:Env
 outer:iq
 stack:iq
 ex:ig
 fn:Str->Bool
 calm:Bool
 pn:aB
 xe:aC
def frs(l:iq):ig:=l.filterMap (·.frame)
abbrev Cx.fs(X:Cx):ig:=frs X.outer
def Vis(sc:Scope)(x:Str):Prop:=sc.names.lookup x=aa .local\/sc.names.lookup x=aa .cell\/sc.names.lookup x=aa .free
def Loc(sc:Scope)(x:Str):Prop:=sc.names.lookup x=aa .local\/sc.names.lookup x=aa .cell
def Look(env:Env)(h:aX)(m:aF)(x:Str)(u:Value):Prop:=
 (env.kindOf x=aa .local/\m x=aa u)\/((env.kindOf x=aa .cell\/env.kindOf x=aa .free)/\∃c,env.cells.lookup x=aa c/\h.IsCell c (aa u))
structure Cx.Ok(X:Cx):Prop where
 mod:Mod X.K X.mg X.base
 kind:X.env.scope.kind=.function
 glob:X.env.globals=aO
 blt:X.env.builtins=dq
 above:X.s₀.heap.objs.size<=X.env.locals
 inj:∀x y c,X.env.cells.lookup x=aa c->X.env.cells.lookup y=aa c->x=y
 has:∀x,(X.env.kindOf x=aa .cell\/X.env.kindOf x=aa .free)->∃c,X.env.cells.lookup x=aa c
 cab:∀x c,X.fn x=ae->X.env.cells.lookup x=aa c->X.s₀.heap.objs.size<=c
 hd:X.calm=ae->X.A.handled=aj
 frames:X.A.frames=aa X.stack
 stk:X.stack=X.outer\/(X.stack=X.env::X.outer/\X.env.frame=aa X.env.locals)
 exf:∀b∈X.ex,b≠X.env.locals/\∀x c,X.env.cells.lookup x=aa c->c≠b
 bs:∀b o,X.base.get? b=aa o->X.s₀.heap.get? b=aa o/\X.H₀ b=aj
 bsz:X.base.objs.size<=X.s₀.heap.objs.size
 noex:∀b o,X.base.get? b=aa o->b∉X.ex
 exfs:∀b∈X.ex,b∉X.fs
 funs:X.s₀.heap.FunFrames X.base X.outer
 frf:∀b∈X.fs,X.H₀ b=aj
structure Inv(X:Cx)(π:aB)(σ:List (Option V))(H:Hp)(s:Shared):Prop where
 ok:X.Ok
 os:s.os=X.s₀.os
 bare:fV s.gens
 base:Un X.fs X.ex X.H₀ H X.s₀.heap s.heap
 loc:∃m,s.heap.Ns X.env.locals m/\∀(i:Nat)(x:Str)(v:V),X.N[i]?=aa x->σ[i]?=aa (aa v)->Vis X.env.scope x->∃u,RelV v u/\Look X.env s.heap m x u
 cell:∀x c,X.env.cells.lookup x=aa c->∃v,s.heap.IsCell c v
 free:H X.env.locals=aj
 freeC:∀x c,X.env.cells.lookup x=aa c->H c=aj
 pin:∀p∈X.pn++π,s.heap.get? p.1=aa p.2/\H p.1=aj/\p.1≠X.env.locals/\p.1∉X.fs/\∀v,p.2.data ≠ .cell v
 hok:HOk X.prog X.w H s.heap
 len:σ.length=X.N.length
section
variable {X:Cx}{π:aB}{σ:List (Option V)}{H H':Hp}{s:Shared}{h':aX}
theorem Cx.Ok.nofr(ok:X.Ok){b:Addr}{o:Obj}(e:X.base.get? b=aa o):b∉X.fs:=λhb=>by
 have:=(ok.funs.mem hb).1;rw[e]at this;cases this
theorem Inv.bs(I:Inv X π σ H s):∀b o,X.base.get? b=aa o->s.heap.get? b=aa o/\H b=aj:=λb o e=>
 ⟨I.base.keep b o (I.ok.bs b o e).1 (I.ok.bs b o e).2 (I.ok.nofr e) (I.ok.noex b o e),I.base.free b o (I.ok.bs b o e).1 (I.ok.bs b o e).2 (I.ok.noex b o e)⟩
theorem Inv.bk(I:Inv X π σ H s):∀b o,X.base.get? b=aa o->s.heap.get? b=aa o:=λb o e=>(I.bs b o e).1
theorem Inv.mod(I:Inv X π σ H s):Mod X.K X.mg X.base:=I.ok.mod
theorem Inv.kIn(I:Inv X π σ H s):X.K.In s.heap:=I.ok.mod.kin.keeps I.bk
theorem Inv.fr(I:Inv X π σ H s):∃m,Fr X.base X.env.locals s.heap m:=
 let ⟨m,hn,_⟩:=I.loc
 ⟨m,hn,I.bk,wu I.ok.bsz I.ok.above⟩
theorem Inv.lt(I:Inv X π σ H s):X.env.locals<s.heap.objs.size:=let ⟨_,hn,_⟩:=I.loc;hn.lt
theorem Inv.sz(I:Inv X π σ H s):X.s₀.heap.objs.size<=s.heap.objs.size:=wu I.ok.above (wN I.lt)
theorem Inv.nofs(I:Inv X π σ H s){a:Addr}(h:s.heap.objs.size<=a):a∉X.fs:=λhb=>by
 obtain⟨_,o,ho,_⟩:=I.ok.funs.mem hb;exact aW (wt (wm ho) (wu I.sz h)) (wR _)
theorem Inv.cne(I:Inv X π σ H s):∀x c,X.env.cells.lookup x=aa c->c≠X.env.locals:=λx c e z=>by
 obtain⟨v,o,ho,hd⟩:=I.cell x c e;obtain⟨m,⟨o',es,ep,ho',hd',_⟩,_⟩:=I.loc;rw[z,ho']at ho;cases ho;rw[hd']at hd;cases hd
theorem Inv.funs(I:Inv X π σ H s):s.heap.FunFrames X.base X.outer:=by
 have all:∀(l:iq),(∀b∈frs l,b∈X.fs)->X.s₀.heap.FunFrames X.base l->s.heap.FunFrames X.base l:=by
  intro l
  induction l with
  |nil=>intro _ _;trivial
  |cons env r ih=>
   intro hs hl;obtain⟨hk,⟨L,o,hf,hn,ho,hd⟩,hr⟩:=hl;have hL:L∈X.fs:=hs L (by unfold frs;rw[uj,hf];exact wd);obtain⟨sl,e⟩:=I.base.slot L o ho (I.ok.frf L hL) hL λz=>I.ok.exfs L z hL;exact⟨hk,⟨L,_,hf,hn,e,hd⟩,ih (λb hb=>hs b (by unfold frs;rw[uj,hf];exact wb _ hb)) hr⟩
 exact all X.outer (λ_ hb=>hb) I.ok.funs
theorem Inv.stack(I:Inv X π σ H s):s.heap.FunFrames X.base X.stack:=by
 rcases I.ok.stk with e|⟨e,hf⟩
 .rw[e];exact I.funs
 .rw[e];obtain⟨m,hn,_⟩:=I.loc;refine .cons (by rw[I.ok.kind];decide) hf hn ?_ I.funs;exact vD (wu I.ok.bsz I.ok.above)
theorem Inv.stkSub(I:Inv X π σ H s):∀b∈frs X.stack,b∈X.env.locals::X.fs:=λb hb=>by
 rcases I.ok.stk with e|⟨e,hf⟩
 .rw[e]at hb;exact wb _ hb
 .rw[e]at hb;unfold frs at hb;rw[uj,hf]at hb;exact hb
theorem Inv.stkFree(I:Inv X π σ H s):∀b∈frs X.stack,H b=aj:=λb hb=>by
 rcases wg.mp (I.stkSub b hb)with e|hb
 .rw[e];exact I.free
 .obtain⟨_,o,ho,_⟩:=I.ok.funs.mem hb;exact I.base.free b o ho (I.ok.frf b hb) λz=>I.ok.exfs b z hb
theorem Inv.step{g':Array GenState}{t':Nat}{d':Drawn}{ch:ig}(I:Inv X π σ H s)
   (hch:∀b∈ch,(b∈X.ex\/X.s₀.heap.objs.size<=b)/\b≠X.env.locals/\(∀x c,X.env.cells.lookup x=aa c->c≠b)/\∀p∈X.pn++π,p.1≠b)
   (keep:∀b o,b≠X.env.locals->b∉X.fs->b∉ch->s.heap.get? b=aa o->H b=aj->h'.get? b=aa o)
   (slot:∀b o,b≠X.env.locals->b∈X.fs->b∉ch->s.heap.get? b=aa o->H b=aj->∃sl,h'.get? b=aa { o with slots:=sl }) (free:∀b o,b∉ch->s.heap.get? b=aa o->H b=aj->H' b=aj)
   (there:∀b o,b∉ch->s.heap.get? b=aa o->∃o',h'.get? b=aa o')
   (tups:∀b xs,H b=aa (.tup xs)->H' b=aa (.tup xs)) (frzs:∀b o u,H b=aa (.frz o u)->H' b=aa (.frz o u)) (tbls:∀b ps q,H b=aa (.tbl ps q)->H' b=aa (.tbl ps q))
   (ns:∀m,s.heap.Ns X.env.locals m->h'.Ns X.env.locals m) (hok:HOk X.prog X.w H' h') (hg:fV g') :
   Inv X π σ H' { s with heap:=h',gens:=g',drawn:=d',toks:=t' }:=by
 have neL:∀b o,X.s₀.heap.get? b=aa o->b≠X.env.locals:=λb o e=>wD (wt (wm e) I.ok.above);have neC:∀b o,X.s₀.heap.get? b=aa o->b∉X.ex->b∉ch:=λb o e hx hb=>by
   rcases(hch b hb).1 with z|z
   .exact hx z
   .exact aW (wt (wm e) z) (wR _)
 have cellK:∀x c,X.env.cells.lookup x=aa c->∀v,s.heap.IsCell c v->h'.IsCell c v:=λx c e v⟨o,ho,hd⟩=>by
   have nch:c∉ch:=λz=>(hch c z).2.2.1 x c e rfl;by_cases hc:c∈X.fs
   .obtain⟨sl,q⟩:=slot c o (I.cne x c e) hc nch ho (I.freeC x c e);exact⟨_,q,hd⟩
   .exact⟨o,keep c o (I.cne x c e) hc nch ho (I.freeC x c e),hd⟩
 refine⟨I.ok,I.os,hg,⟨λb o e n hb hx=>?_,λb o e n hb hx=>?_,λb o e n hx=>?_,λb o e hx=>?_,λb xs e=>tups b xs (I.base.tups b xs e),λb o xs e=>frzs b o xs (I.base.frzs b o xs e),λb ps _ e=>?_⟩,?_,λx c e=>?_,?_,λx c e=>?_,λp hp=>?_,hok,I.len⟩
 .exact keep b o (neL b o e) hb (neC b o e hx) (I.base.keep b o e n hb hx) (I.base.free b o e n hx)
 .obtain⟨sl,e1⟩:=I.base.slot b o e n hb hx;obtain⟨sl',e2⟩:=slot b _ (neL b o e) hb (neC b o e hx) e1 (I.base.free b o e n hx);exact⟨sl',e2⟩
 .obtain⟨o',e1⟩:=I.base.there b o e hx;exact free b o' (neC b o e hx) e1 (I.base.free b o e n hx)
 .obtain⟨o',e1⟩:=I.base.there b o e hx;exact there b o' (neC b o e hx) e1
 .exact tbls b _ _ (I.base.tbls b ps _ e)
 .obtain⟨m,hn,hl⟩:=I.loc;refine⟨m,ns m hn,λi x v e1 e2 e3=>?_⟩;obtain⟨u,r,l⟩:=hl i x v e1 e2 e3;refine⟨u,r,?_⟩;rcases l with l|⟨k,c,e,z⟩
  .exact .inl l
  .exact .inr ⟨k,c,e,cellK x c e _ z⟩
 .obtain⟨v,z⟩:=I.cell x c e;exact⟨v,cellK x c e v z⟩
 .obtain⟨m,⟨o,_,_,ho,_⟩,_⟩:=I.loc;exact free _ o (λz=>(hch _ z).2.1 rfl) ho I.free
 .obtain⟨v,o,ho,hd⟩:=I.cell x c e;exact free c o (λz=>(hch c z).2.2.1 x c e rfl) ho (I.freeC x c e)
 .obtain⟨e,n,ne,nf,d⟩:=I.pin p hp;have nch:p.1∉ch:=λz=>(hch p.1 z).2.2.2 p hp rfl;exact⟨keep p.1 p.2 ne nf nch e n,free p.1 p.2 nch e n,ne,nf,d⟩
theorem Inv.un{t':Nat}(I:Inv X π σ H s)(u:Un X.fs [] H H' s.heap h')(hok:HOk X.prog X.w H' h'):Inv X π σ H' { s with heap:=h',toks:=t' }:=by
 obtain⟨m,⟨o,es,ep,ho,r⟩,_⟩:=id I.loc;obtain⟨sl,hL⟩:=u.any ho I.free (by simp);exact I.step (g':=s.gens) (d':=s.drawn) (ch:=[]) (λ_ z=>nomatch z) (λb o _ hb _ e n=>u.keep b o e n hb (by simp)) (λb o _ hb _ e n=>u.slot b o e n hb (by simp)) (λb o _ e n=>u.free b o e n (by simp)) (λb o _ e=>u.there b o e (by simp)) u.tups u.frzs u.tbls (λm' hm=>by
  obtain⟨o',es',ep',ho',r'⟩:=hm;rw[ho]at ho';cases ho';exact⟨_,es',ep',hL,r'⟩) hok I.bare
theorem Inv.call{g':Array GenState}{t':Nat}{d':Drawn}{ch:ig}(I:Inv X π σ H s)(u:Un (frs X.stack) ch H H' s.heap h')(hok:HOk X.prog X.w H' h')(hg:fV g')
  (hch:∀b∈ch,(b∈X.ex\/X.s₀.heap.objs.size<=b)/\b≠X.env.locals/\(∀x c,X.env.cells.lookup x=aa c->c≠b)/\∀p∈X.pn++π,p.1≠b) :
  Inv X π σ H' { s with heap:=h',gens:=g',drawn:=d',toks:=t' }:=by
 obtain⟨m,⟨o,es,ep,ho,r⟩,_⟩:=id I.loc;obtain⟨sl,hL⟩:=u.any ho I.free λz=>(hch _ z).2.1 rfl;exact I.step (ch:=ch) hch (λb o hL hb hc e n=>u.keep b o e n (λz=>(wg.mp (I.stkSub b z)).elim hL hb) hc) (λb o _ _ hc e n=>u.any e n hc) (λb o hc e n=>u.free b o e n hc) (λb o hc e=>u.there b o e hc) u.tups u.frzs u.tbls (λm' hm=>by
  obtain⟨o',es',ep',ho',r'⟩:=hm;rw[ho]at ho';cases ho';exact⟨_,es',ep',hL,r'⟩) hok hg
theorem Inv.turned{t':Nat}{it:Addr}(I:Inv X π σ H s)(k:∀b o,b≠it->s.heap.get? b=aa o->h'.get? b=aa o)(hn:H it=aj)(hL:it≠X.env.locals)
   (h1:it∈X.ex\/X.s₀.heap.objs.size<=it) (h2:∀x c,X.env.cells.lookup x=aa c->c≠it) (h3:∀p∈X.pn++π,p.1≠it):Inv X π σ H { s with heap:=h',toks:=t' }:=by
 have nit:∀b u,H b=aa u->b≠it:=λb u e z=>by rw[z,hn]at e;cases e
 refine I.step (g':=s.gens) (d':=s.drawn) (ch:=[it]) (λb hb=>?_) (λb o _ _ hc e _=>k b o (λz=>hc (by simp[z])) e) (λb o _ _ hc e _=>⟨o.slots,k b o (λz=>hc (by simp[z])) e⟩) (λ_ _ _ _ n=>n)
   (λb o hc e=>⟨o,k b o (λz=>hc (by simp[z])) e⟩) (λ_ _ e=>e) (λ_ _ _ e=>e) (λ_ _ _ e=>e) (λm hm=>?_) (λb u e=>?_) I.bare
 .have e:b=it:=by simpa using hb
  subst e;exact⟨h1,hL,h2,h3⟩
 .obtain⟨o,es,ep,ho,r⟩:=hm;exact⟨o,es,ep,k _ o (bQ hL) ho,r⟩
 .refine(I.hok b u e).stay (λc v hc q=>k c v ?_ q) (λ_ q=>q) (λ_ _ q=>q) λ_ _ _ q=>q;rcases hc with z|z
  .rw[z];exact nit b u e
  .exact nit c _ z
theorem Inv.tok(I:Inv X π σ H s)(t:Nat):Inv X π σ H { s with toks:=t }:=I.un (h':=s.heap) (t':=t) Un.refl I.hok
theorem Inv.kept{t':Nat}(I:Inv X π σ H s)(k:∀b u,s.heap.get? b=aa u->h'.get? b=aa u):Inv X π σ H { s with heap:=h',toks:=t' }:=I.un (Un.kept k) (I.hok.kept k)
theorem Inv.laid{a:Addr}{o:HO}{t':Nat}(I:Inv X π σ H s)(k:∀b u,s.heap.get? b=aa u->h'.get? b=aa u)(hp:s.heap.objs.size<=a)(new:ObjOk X.prog X.w (upd H a o) h' a o):
 Inv X π σ (upd H a o) { s with heap:=h',toks:=t' }:=I.un (Un.laid k hp (I.hok.fresh hp)) (I.hok.laid k hp new)
theorem Inv.write{x e:Addr}{o:HO}{t':Nat}(I:Inv X π σ H s)(mu:Mut (H x))(he:e=x\/H e=aa (.own x))(k:∀b u,b≠e->s.heap.get? b=aa u->h'.get? b=aa u)(heo:∃u,h'.get? e=aa u)
 (new:ObjOk X.prog X.w (upd H x o) h' x o):Inv X π σ (upd H x o) { s with heap:=h',toks:=t' }:=I.un (Un.write mu he k heo) (I.hok.write mu he k heo new)
theorem Inv.weak{σ':List (Option V)}(I:Inv X π σ H s)(hl:σ'.length=σ.length)(w:∀(i:Nat)v,σ'[i]?=aa (aa v)->σ[i]?=aa (aa v)):Inv X π σ' H s:=
 ⟨I.ok,I.os,I.bare,I.base,let ⟨m,hn,hl'⟩:=I.loc;⟨m,hn,λi x v e1 e2 e3=>hl' i x v e1 (w i v e2) e3⟩,I.cell,I.free,I.freeC,I.pin,I.hok,hl.trans I.len⟩
theorem Inv.pins_of{pins':aB}(I:Inv X π σ H s)(h:∀p∈pins',s.heap.get? p.1=aa p.2/\H p.1=aj/\p.1≠X.env.locals/\p.1∉X.fs/\∀v,p.2.data ≠ .cell v):Inv X pins' σ H s:=
 ⟨I.ok,I.os,I.bare,I.base,I.loc,I.cell,I.free,I.freeC,λp hp=>(wn.mp hp).elim (λz=>I.pin p (wO _ z)) (h p),I.hok,I.len⟩
theorem Gd{N:ie}(hN:N.Nodup){i j:Nat}{x:Str}(a:N[i]?=aa x)(b:N[j]?=aa x):i=j:=by
 obtain⟨h1,e1⟩:=wr.mp a;obtain⟨h2,e2⟩:=wr.mp b;exact(uc hN).mp (e1.trans e2.symm)
theorem Ix{M:Model}{A:aU}{E:aC}{i:Nat}{x:Str}{v:V}{u:Value}{Q:Unit->Shared->Prop}(I:Inv X π σ H s)(hN:X.N.Nodup)(hi:X.N[i]?=aa x)(hx:Loc X.env.scope x)(r:RelV v u)
   (h:∀s',Inv X π (σ.set i (aa v)) H s'->(∃a,dU a s.heap s'.heap/\(a=X.env.locals\/X.env.cells.lookup x=aa a))->Q .unit s') (hf:X.fn x=ae\/X.env.scope.names.lookup x=aa .local:=by first|exact .inl rfl|exact .inr rfl|assumption):ay M A (storeName X.env x u) Q E s:=by
 obtain⟨m,hn,hl⟩:=id I.loc;have hcls:(X.env.scope.kind==.class||(X.env.scope.kind==.module&&X.env.locals != X.env.globals))=ag:=by rw[I.ok.kind];rfl
 have hiσ:i<σ.length:=by rw[I.len];exact(wr.mp hi).1
 have cne:=I.cne;have tracked:∀{a:Addr}{h':aX},(∃o,s.heap.get? a=aa o/\H a=aj)->dU a s.heap h'->HOk X.prog X.w H h':=λ{a h'}ha hs b ob e=>by
   obtain⟨_,_,hfree⟩:=ha;refine(I.hok b ob e).stay (λc w' hc q=>(hs.2 c ?_).trans q) (λ_ q=>q) (λ_ _ q=>q) λ_ _ _ q=>q;rintro rfl;rcases hc with rfl|hc
   .rw[hfree]at e;cases e
   .rw[hfree]at hc;cases hc
 rcases hx with hk|hk
 .refine wpAny_storeName_local hk hn (λh' hn' hs=>?_) hcls;obtain⟨oL,_,_,hoL,_⟩:=id hn;refine h _ ⟨I.ok,I.os,I.bare,⟨λb o e n hb hx=>?_,λb o e n hb hx=>?_,I.base.free,λb o e hx=>?_,I.base.tups,I.base.frzs,I.base.tbls⟩,⟨_,hn',λj y v' e1 e2 e3=>?_⟩,λy c e=>?_,I.free,I.freeC,λp hp=>?_,tracked ⟨oL,hoL,I.free⟩ hs,by simpa using I.len⟩ ⟨_,hs,.inl rfl⟩
  .exact(hs.2 b (wD (wt (wm e) I.ok.above))).trans (I.base.keep b o e n hb hx)
  .obtain⟨sl,e1⟩:=I.base.slot b o e n hb hx;exact⟨sl,(hs.2 b (wD (wt (wm e) I.ok.above))).trans e1⟩
  .obtain⟨o',e1⟩:=I.base.there b o e hx;exact⟨o',(hs.2 b (wD (wt (wm e) I.ok.above))).trans e1⟩
  .by_cases hj:j=i
   .subst hj;rw[hi]at e1;cases e1;rw[uu hiσ]at e2;cases e2;exact⟨u,r,.inl ⟨hk,by simp⟩⟩
   .rw[wT (bQ hj)]at e2;obtain⟨u',r',q⟩:=hl j y v' e1 e2 e3;refine⟨u',r',?_⟩;rcases q with⟨k,e⟩|⟨k,c,e,z⟩
    .refine .inl ⟨k,?_⟩;have:y≠x:=λe=>hj (Gd hN e1 (e ▸ hi));simp[this,e]
    .exact .inr ⟨k,c,e,z.sameBut hs (cne y c e)⟩
  .obtain⟨w',z⟩:=I.cell y c e;exact⟨w',z.sameBut hs (cne y c e)⟩
  .obtain⟨e,n,ne,nf,d⟩:=I.pin p hp;exact⟨(hs.2 p.1 ne).trans e,n,ne,nf,d⟩
 .have hfn:X.fn x=ae:=by
    rcases hf with z|z
    .exact z
    .rw[z]at hk;cases hk
  obtain⟨c,hc⟩:=I.ok.has x (.inl hk);obtain⟨w',z⟩:=I.cell x c hc;refine wpAny_storeName_cell I.ok.kind hk hc z (λh' hc' hs=>?_);obtain⟨oc,hoc,hocd⟩:=id z;refine h { s with heap:=h' } ⟨I.ok,I.os,I.bare,⟨λb o e n hb hx=>?_,λb o e n hb hx=>?_,I.base.free,λb o e hx=>?_,I.base.tups,I.base.frzs,I.base.tbls⟩,⟨m,hn.sameBut hs (bQ (cne x c hc)),λj y v' e1 e2 e3=>?_⟩,λy c' e=>?_,I.free,I.freeC,λp hp=>?_,tracked ⟨oc,hoc,I.freeC x c hc⟩ hs,by simpa using I.len⟩ ⟨c,hs,.inr hc⟩
  .exact(hs.2 b (wD (wt (wm e) (I.ok.cab x c hfn hc)))).trans (I.base.keep b o e n hb hx)
  .obtain⟨sl,e1⟩:=I.base.slot b o e n hb hx;exact⟨sl,(hs.2 b (wD (wt (wm e) (I.ok.cab x c hfn hc)))).trans e1⟩
  .obtain⟨o',e1⟩:=I.base.there b o e hx;exact⟨o',(hs.2 b (wD (wt (wm e) (I.ok.cab x c hfn hc)))).trans e1⟩
  .by_cases hj:j=i
   .subst hj;rw[hi]at e1;cases e1;rw[uu hiσ]at e2;cases e2;exact⟨u,r,.inr ⟨.inl hk,c,hc,hc'⟩⟩
   .rw[wT (bQ hj)]at e2;obtain⟨u',r',q⟩:=hl j y v' e1 e2 e3;refine⟨u',r',?_⟩;rcases q with q|⟨k,c',e,z'⟩
    .exact .inl q
    .refine .inr ⟨k,c',e,z'.sameBut hs ?_⟩;rintro rfl;exact hj (Gd hN e1 (I.ok.inj _ _ _ e hc ▸ hi))
  .by_cases hcc:c'=c
   .subst hcc;exact⟨_,hc'⟩
   .obtain⟨w2,z2⟩:=I.cell y c' e;exact⟨w2,z2.sameBut hs hcc⟩
  .obtain⟨e,n,ne,nf,d⟩:=I.pin p hp;refine⟨(hs.2 p.1 ?_).trans e,n,ne,nf,d⟩;intro q;rw[q,hoc]at e;have q':oc=p.2:=aM e;exact d w' (by rw[<-q'];exact hocd)
theorem Ge{M:Model}{A:aU}{E:aC}{i:Nat}{x:Str}{v:V}{u:Value}{Q:Unit->Shared->Prop}(I:Inv X π σ H s)(hN:X.N.Nodup)(hi:X.N[i]?=aa x)(hx:Loc X.env.scope x)(r:RelV v u)
  (h:∀s',Inv X π (σ.set i (aa v)) H s'->Q .unit s') (hf:X.fn x=ae\/X.env.scope.names.lookup x=aa .local:=by first|exact .inl rfl|exact .inr rfl|assumption):ay M A (storeName X.env x u) Q E s:=
 Ix I hN hi hx r (λs' I' _=>h s' I') hf
theorem Inv.call'{s':Shared}{ch:ig}(I:Inv X π σ H s)(ho:s'.os=s.os)(u:Un (frs X.stack) ch H H' s.heap s'.heap)(hok:HOk X.prog X.w H' s'.heap)(hg:fV s'.gens)
  (hch:∀b∈ch,(b∈X.ex\/X.s₀.heap.objs.size<=b)/\b≠X.env.locals/\(∀x c,X.env.cells.lookup x=aa c->c≠b)/\∀p∈X.pn++π,p.1≠b):Inv X π σ H' s':=by
 obtain⟨h',g',d',t',o'⟩:=s';have e:o'=s.os:=ho;subst e;exact I.call (g':=g') (t':=t') (d':=d') u hok hg hch
end
abbrev XK:=Value->iB->Hp->Prop
abbrev St:=List (Option V)
abbrev VK:=V->Hp->Prop
abbrev TE:=St->Hp->VK->Prop
abbrev TT:=St->Hp->(Bool->Hp->Prop)->Prop
abbrev TA:=St->Hp->(iD->Hp->Prop)->Prop
structure Ends where
 nx:St->Hp->Prop
 rt:VK
 bk:St->Hp->Prop:=λ_ _=>False
 ct:St->Hp->Prop:=λ_ _=>False
abbrev TS:=Ends->St->Hp->Prop
def EP(X:Cx)(π:aB)(σ:St)(Q:VK)(u:Value)(s':Shared):Prop:=∃v H',Inv X π σ H' s'/\RelV v u/\Q v H'
def TP(X:Cx)(π:aB)(σ:St)(Q:Bool->Hp->Prop)(b:Bool)(s':Shared):Prop:=∃H',Inv X π σ H' s'/\Q b H'
def AP(X:Cx)(π:aB)(σ:St)(Q:iD->Hp->Prop)(us:aG)(s':Shared):Prop:=∃vs H',Inv X π σ H' s'/\Vals vs us/\Q vs H'
def SP(X:Cx)(π:aB)(D:Ends)(f:Flow)(s':Shared):Prop:=
 match f with
 |.next=>∃σ' H',Inv X π σ' H' s'/\D.nx σ' H'
 |.brk=>∃σ' H',Inv X π σ' H' s'/\D.bk σ' H'
 |.cont=>∃σ' H',Inv X π σ' H' s'/\D.ct σ' H'
 |.ret u=>∃v σ' H',Inv X π σ' H' s'/\RelV v u/\D.rt v H'
def PE(X:Cx)(e:aV)(t:TE):Prop:=
 ∀(π:aB)(s:Shared)(σ:St)(H:Hp)(Q:VK),Inv X π σ H s->t σ H Q->ay (model X.prog X.w) X.A (eval e X.env) (EP X π σ Q) X.xe s
def PT(X:Cx)(e:aV)(t:TT):Prop:=
 ∀(π:aB)(s:Shared)(σ:St)(H:Hp)(Q:Bool->Hp->Prop),Inv X π σ H s->t σ H Q->ay (model X.prog X.w) X.A (isTrue e X.env (eval e X.env)) (TP X π σ Q) X.xe s
def PW(X:Cx)(e:aV)(t:TT):Prop:=
 ∀(whole:Sem Value)(π:aB)(s:Shared)(σ:St)(H:Hp)(Q:Bool->Hp->Prop),Inv X π σ H s->t σ H Q->ay (model X.prog X.w) X.A (isTrue e X.env whole) (TP X π σ Q) X.xe s
theorem PW.pt{X:Cx}{e:aV}{t:TT}(h:PW X e t):PT X e t:=h _
def PA(X:Cx)(es:ik)(t:TA):Prop:=
 ∀(pos:Pos)(π:aB)(s:Shared)(σ:St)(H:Hp)(Q:iD->Hp->Prop),Inv X π σ H s->t σ H Q->ay (model X.prog X.w) X.A (spliced (bZ pos (au es X.env))) (AP X π σ Q) X.xe s
def PS(X:Cx)(st:aZ)(t:TS):Prop:=
 ∀(π:aB)(s:Shared)(σ:St)(H:Hp)(D:Ends),Inv X π σ H s->t D σ H->ay (model X.prog X.w) X.A (exec st X.env) (SP X π D) X.xe s
def PSs(X:Cx)(st:io)(t:TS):Prop:=
 ∀(π:aB)(s:Shared)(σ:St)(H:Hp)(D:Ends),Inv X π σ H s->t D σ H->ay (model X.prog X.w) X.A (execs st X.env) (SP X π D) X.xe s
theorem thn{α:Type}{t:Sem α}{Q Q':α->Shared->Prop}{M:Model}{A:aU}{E:aC}{s:Shared}(h:ay M A t Q E s)(hQ:∀a s,Q a s->Q' a s):ay M A t Q' E s:=bt h hQ λ_ _ x=>x
section
variable {X:Cx}
def tVar(i:Nat):TE:=λσ H Q=>∃v,σ[i]?=aa (aa v)/\Q v H
def tC(v:V):TE:=λ_ H Q=>Q v H
theorem Dz{i:Nat}{x:Str}{pos:Pos}(hN:X.N[i]?=aa x)(hv:Vis X.env.scope x)(hd:(x==("__debug__":Str))=ag:=by decide)(hcd:(x==("__classdict__":Str))=ag:=by decide):PE X (.Name x pos) (tVar i):=by
 intro π s σ H Q I h;obtain⟨v,e,h⟩:=h;obtain⟨m,hn,hl⟩:=I.loc;obtain⟨u,r,l⟩:=hl i x v hN e hv;have fin:EP X π σ Q u s:=⟨v,H,I,r,h⟩;rcases l with⟨hk,hm⟩|⟨hk,c,hc,hcell⟩
 .exact wpAny_Name (wpAny_loadName_local I.ok.kind hk hn hm fin) hd
 .rcases hk with hk|hk
  .exact wpAny_Name (wpAny_loadName_cell I.ok.kind hk hc hcell fin) hd
  .exact wpAny_Name (wpAny_loadName_free I.ok.kind hk hc hcell fin hcd) hd
theorem Gf{i j pos}:PE X (.Constant (.int i) j pos) (tC (.int i)):=λ_ _ _ H _ I h=>wpAny_Constant_int ⟨.int i,H,I.tok _,⟨_,rfl⟩,h⟩
theorem RF{b j pos}:PE X (.Constant (.bool b) j pos) (tC (.bl b)):=λ_ _ _ H _ I h=>Constant_bool ⟨.bl b,H,I,rfl,h⟩
theorem pe_non{j pos}:PE X (.Constant .none j pos) (tC .non):=λ_ _ _ H _ I h=>Constant_none ⟨.non,H,I,rfl,h⟩
theorem pe_str{x j pos}:PE X (.Constant (.str x) j pos) (tC (.str x)):=λ_ _ _ H _ I h=>Calls.Constant_str ⟨.str x,H,I.tok _,⟨_,rfl⟩,h⟩
def Gl(X:Cx)(x:Str):Prop:=X.env.kindOf x=aa .globalImplicit
theorem CA{E:aC}{π:aB}{s:Shared}{σ:St}{H:Hp}{x:Str}{u:Value}{pos:Pos}{Q:aC}(I:Inv X π σ H s)(hg:Gl X x)(hm:X.mg x=aa u)(h:Q u s)
  (hd:(x==("__debug__":Str))=ag:=by decide):ay (model X.prog X.w) X.A (eval (.Name x pos) X.env) Q E s:=
 Calls.Name_function_global I.ok.kind hg (Calls.loadGlobal_global (by rw[I.ok.glob];exact I.mod.glob.keeps I.bk) hm h) hd
theorem V4{E:aC}{π:aB}{s:Shared}{σ:St}{H:Hp}{x:Str}{u:Value}{pos:Pos}{Q:aC}(I:Inv X π σ H s)(hg:Gl X x)(hm:X.mg x=aj)(hv:bF x=aa u)(h:Q u s)
  (hn:x ≠ "__name__":=by decide) (hd:(x==("__debug__":Str))=ag:=by decide):ay (model X.prog X.w) X.A (eval (.Name x pos) X.env) Q E s:=by
 obtain⟨mb,h1,h2⟩:=I.mod.blt;exact Calls.Name_function_global I.ok.kind hg (Calls.loadGlobal_builtin (by rw[I.ok.glob];exact I.mod.glob.keeps I.bk) hm (by rw[I.ok.blt];exact h1.keeps I.bk) ((h2 x hn).trans hv) h) hd
theorem RG{x:Str}{v:V}{u:Value}{pos:Pos}(hg:Gl X x)(hm:X.mg x=aa u)(r:RelV v u)(hd:(x==("__debug__":Str))=ag:=by decide):PE X (.Name x pos) (tC v):=
 λ_ _ _ H _ I h=>CA I hg hm ⟨v,H,I,r,h⟩ hd
theorem Yg{x:Str}{v:V}{u:Value}{pos:Pos}(hg:Gl X x)(hm:X.mg x=aj)(hv:bF x=aa u)(r:RelV v u)(hn:x ≠ "__name__":=by decide)(hd:(x==("__debug__":Str))=ag:=by decide):PE X (.Name x pos) (tC v):=
 λ_ _ _ H _ I h=>V4 I hg hm hv ⟨v,H,I,r,h⟩ hn hd
variable {a b:aV}{ta tb:TE}{pos:Pos}
def PC(X:Cx)(op:hV)(a b:aV)(t:TE):Prop:=
 ∀(π:aB)(s:Shared)(σ:St)(H:Hp)(Q:VK),Inv X π σ H s->t σ H Q ->
  ay (model X.prog X.w) X.A (eval a X.env) (λv s₁=>ay (model X.prog X.w) X.A (eval b X.env) (λu s₂=>ay (model X.prog X.w) X.A (bK op v u) (EP X π σ Q) X.xe s₂) X.xe s₁) X.xe s
def tB(t:TE):TT:=λσ H Q=>t σ H λx H1=>∃c,x=.bl c/\Q c H1
theorem pt_cmp{op:hV}{t:TE}(h:PC X op a b t)(h1:dI op b=ag:=by first|exact nobehind _ (by decide) (by decide)|rfl):PT X (.Compare a [op] [b] pos) (tB t):=by
 intro π s σ H Q I hw;refine wpAny_isTrue_Compare1 (thn (h π s σ H _ I hw) λv s1 h1=>thn h1 λu s2 h2=>thn h2 λc s3⟨x,H1,I1,r1,q1⟩=>?_) h1;obtain⟨d,rfl,q⟩:=q1;cases r1;exact bW ⟨H1,I1,q⟩
variable {tA tB':TT}{rest:ik}
def tAnd(t u:TT):TT:=λσ H Q=>t σ H λc H1=>if c=ae then u σ H1 Q else Q ag H1
def tOr(t u:TT):TT:=λσ H Q=>t σ H λc H1=>if c=ae then Q ae H1 else u σ H1 Q
def tNot(t:TT):TT:=λσ H Q=>t σ H λc H1=>Q (!c) H1
theorem Yh(ha:PT X a tA):PW X (.BoolOp .And [a] pos) tA:=by
 intro wh π s σ H Q I h;refine isTrue_and (thn (ha π s σ H Q I h) λc s1 e=>?_);cases c with
 |true=>exact isTrue_and_nil e
 |false=>exact e
theorem pw_or1(ha:PT X a tA):PW X (.BoolOp .Or [a] pos) tA:=by
 intro wh π s σ H Q I h;refine isTrue_or (thn (ha π s σ H Q I h) λc s1 e=>?_);cases c with
 |false=>exact isTrue_or_nil e
 |true=>exact e
theorem pw_and(ha:PT X a tA)(hb:PW X (.BoolOp .And (b::rest) pos) tB'):PW X (.BoolOp .And (a::b::rest) pos) (tAnd tA tB'):=by
 intro wh π s σ H Q I h;refine isTrue_and (thn (ha π s σ H _ I h) ?_);rintro c s1 ⟨H1,I1,q1⟩;cases c with
 |true=>exact hb wh π s1 σ H1 Q I1 q1
 |false=>exact⟨H1,I1,q1⟩
theorem pw_or(ha:PT X a tA)(hb:PW X (.BoolOp .Or (b::rest) pos) tB'):PW X (.BoolOp .Or (a::b::rest) pos) (tOr tA tB'):=by
 intro wh π s σ H Q I h;refine isTrue_or (thn (ha π s σ H _ I h) ?_);rintro c s1 ⟨H1,I1,q1⟩;cases c with
 |true=>exact⟨H1,I1,q1⟩
 |false=>exact hb wh π s1 σ H1 Q I1 q1
theorem pt_not(ha:PT X a tA):PT X (.UnaryOp .Not a pos) (tNot tA):=by
 intro π s σ H Q I h;exact isTrue_not (ha π s σ H (λc H1=>Q (!c) H1) I h)
def tAndV(ta tb:TE):TE:=λσ H Q=>ta σ H λx H1=>∃c,x=.bl c/\if c=ae then tb σ H1 Q else Q (.bl ag) H1
def tNotV(ta:TE):TE:=λσ H Q=>ta σ H λx H1=>∃c,x=.bl c/\Q (.bl (!c)) H1
theorem pe_one{op}{t:TE}(h:PE X a t):PE X (.BoolOp op [a] pos) t:=λπ s σ H Q I hw=>BoolOp_one (h π s σ H Q I hw)
theorem pe_and(ha:PE X a ta)(hb:PE X (.BoolOp .And (b::rest) pos) tb):PE X (.BoolOp .And (a::b::rest) pos) (tAndV ta tb):=by
 intro π s σ H Q I h;refine BoolOp_and (thn (ha π s σ H _ I h) ?_);rintro v s1 ⟨x,H1,I1,r1,q1⟩;obtain⟨c,rfl,q1⟩:=q1;cases r1;refine bW ?_;cases c with
 |true=>exact hb π s1 σ H1 Q I1 q1
 |false=>exact⟨.bl ag,H1,I1,rfl,q1⟩
theorem pe_not(ha:PE X a ta):PE X (.UnaryOp .Not a pos) (tNotV ta):=by
 intro π s σ H Q I h;refine UnaryOp_ (thn (ha π s σ H _ I h) ?_);rintro v s1 ⟨x,H1,I1,r1,q1⟩;obtain⟨c,rfl,q1⟩:=q1;cases r1;exact not_of (bW ⟨.bl (!c),H1,I1,rfl,q1⟩)
def tIf(t:TT)(ta tb:TE):TE:=λσ H Q=>t σ H λc H1=>if c=ae then ta σ H1 Q else tb σ H1 Q
theorem Ui{c:aV}(hc:PT X c tA)(ha:PE X a ta)(hb:PE X b tb):PE X (.IfExp c a b pos) (tIf tA ta tb):=by
 intro π s σ H Q I h;refine wpAny_IfExp (thn (hc π s σ H _ I h) ?_);rintro d s1 ⟨H1,I1,q1⟩;cases d with
 |true=>exact ha π s1 σ H1 Q I1 q1
 |false=>exact hb π s1 σ H1 Q I1 q1
end
def SqL(K:aE)(H:Hp)(a:Addr)(xs:iD):Prop:=
 Rd H a (.lst xs) \/
  ∃(o:Obj)(its:iu)(n:Nat),K.lookup a=aa o/\o.cls=.type "list" /\ o.dict=aj/\o.data=.seq its n/\its.size<=sizeLine/\Vals xs its.toList
def SqT(K:aE)(H:Hp)(a:Addr)(xs:iD):Prop:=
 Rd H a (.tup xs) \/
  ∃(o:Obj)(its:iu)(n:Nat),K.lookup a=aa o/\o.cls=.type "tuple" /\ o.data=.seq its n/\its.size<=sizeLine/\Vals xs its.toList
def absV:Value->Option V
 |.none=>aa .non
 |.bool b=>aa (.bl b)
 |.int i _=>aa (.int i)
 |.str x _=>aa (.str x)
 |.bytes b _=>aa (.byt b)
 |.float b _=>aa (.flt b)
 |.ref a=>aa (.ref a)
 |.type n=>aa (.ty n)
 |_=>aj
theorem RelV.abs{x:V}{u:Value}(r:RelV x u):absV u=aa x:=by
 cases x with
 |non=>cases r;rfl
 |bl _=>cases r;rfl
 |int _=>obtain⟨t,rfl⟩:=r;rfl
 |str _=>obtain⟨t,rfl⟩:=r;rfl
 |byt _=>obtain⟨t,rfl⟩:=r;rfl
 |flt _=>obtain⟨t,rfl⟩:=r;rfl
 |ref _=>cases r;rfl
 |ty _=>cases r;rfl
theorem RelV.inj{x y:V}{u:Value}(r:RelV x u)(q:RelV y u):x=y:=aM (r.abs.symm.trans q.abs)
theorem Vals.inj:∀{xs ys:iD}{us:aG},Vals xs us->Vals ys us->xs=ys
 |_,_,_,.nil,.nil=>rfl
 |_,_,_,.cons r t,.cons r' t'=>by rw[r.inj r',Vals.inj t t']
section
variable {X:Cx}{π:aB}{σ:St}{H:Hp}{s:Shared}{a:Addr}{xs ys:iD}
theorem SqL.of{K:aE}(h:H a=aa (.lst xs)):SqL K H a xs:=.inl (.inl h)
theorem SqT.of{K:aE}(h:H a=aa (.tup xs)):SqT K H a xs:=.inl (.inl h)
theorem Inv.list(I:Inv X π σ H s)(h:SqL X.K H a xs):∃its:aG,Vals xs its/\PlainL s.heap a its.toArray/\xs.length<=sizeLine:=by
 rcases h with h|⟨o,its,n,hk,hc,hd,hs,hz,r⟩
 .obtain⟨z,its,n,r,e⟩:=h.ok I.hok;exact⟨its,r,⟨_,n,e,rfl,rfl,rfl⟩,z⟩
 .refine⟨its.toList,r,⟨o,n,I.kIn a o hk,hc,hd,by simpa using hs⟩,?_⟩;have e:=r.length;simp only[aq]at e;rfl'
theorem Inv.tuple(I:Inv X π σ H s)(h:SqT X.K H a xs):∃its:aG,Vals xs its/\IsTup s.heap a its.toArray/\xs.length<=sizeLine:=by
 rcases h with h|⟨o,its,n,hk,hc,hs,hz,r⟩
 .obtain⟨z,its,r,p⟩:=h.ok I.hok;exact⟨its,r,p,z⟩
 .refine⟨its.toList,r,⟨o,I.kIn a o hk,hc,n,by simpa using hs⟩,?_⟩;have e:=r.length;simp only[aq]at e;rfl'
theorem Inv.list_inj(I:Inv X π σ H s)(h:SqL X.K H a xs)(h':SqL X.K H a ys):xs=ys:=by
 obtain⟨its,r,⟨o,n,e,_,_,d⟩,_⟩:=I.list h;obtain⟨its',r',⟨o',n',e',_,_,d'⟩,_⟩:=I.list h';rw[e]at e';cases e';rw[d]at d';injection d' with d1 _
 have:its=its':=by simpa using bV gh d1
 subst this;exact r.inj r'
theorem Inv.tuple_inj(I:Inv X π σ H s)(h:SqT X.K H a xs)(h':SqT X.K H a ys):xs=ys:=by
 obtain⟨its,r,⟨o,e,_,n,d⟩,_⟩:=I.tuple h;obtain⟨its',r',⟨o',e',_,n',d'⟩,_⟩:=I.tuple h';rw[e]at e';cases e';rw[d]at d';injection d' with d1 _
 have:its=its':=by simpa using bV gh d1
 subst this;exact r.inj r'
end
abbrev Cx.wish(X:Cx)(E:aC):Cx:={ X with xe:=E }
abbrev Cx.nox(X:Cx):Cx:=X.wish λ_ _=>False
theorem Cx.Ok.wish{X:Cx}(ok:X.Ok)(E:aC):(X.wish E).Ok:=
 ⟨ok.mod,ok.kind,ok.glob,ok.blt,ok.above,ok.inj,ok.has,ok.cab,ok.hd,ok.frames,ok.stk,ok.exf,ok.bs,ok.bsz,ok.noex,ok.exfs,ok.funs,ok.frf⟩
theorem Cx.Ok.unwish{X:Cx}{E:aC}(ok:(X.wish E).Ok):X.Ok:=
 ⟨ok.mod,ok.kind,ok.glob,ok.blt,ok.above,ok.inj,ok.has,ok.cab,ok.hd,ok.frames,ok.stk,ok.exf,ok.bs,ok.bsz,ok.noex,ok.exfs,ok.funs,ok.frf⟩
section
variable {X:Cx}{π:aB}{σ:St}{H:Hp}{s:Shared}{E:aC}
theorem Inv.wish(I:Inv X π σ H s)(E:aC):Inv (X.wish E) π σ H s:=⟨I.ok.wish E,I.os,I.bare,I.base,I.loc,I.cell,I.free,I.freeC,I.pin,I.hok,I.len⟩
theorem Inv.unwish(I:Inv (X.wish E) π σ H s):Inv X π σ H s:=⟨I.ok.unwish,I.os,I.bare,I.base,I.loc,I.cell,I.free,I.freeC,I.pin,I.hok,I.len⟩
theorem SP.unwish{D:Ends}{f:Flow}{s':Shared}(h:SP (X.wish E) π D f s'):SP X π D f s':=by
 cases f with
 |next=>obtain⟨σ',H',I,q⟩:=h;exact⟨σ',H',I.unwish,q⟩
 |brk=>obtain⟨σ',H',I,q⟩:=h;exact⟨σ',H',I.unwish,q⟩
 |cont=>obtain⟨σ',H',I,q⟩:=h;exact⟨σ',H',I.unwish,q⟩
 |ret u=>obtain⟨v,σ',H',I,r,q⟩:=h;exact⟨v,σ',H',I.unwish,r,q⟩
theorem PSs.nox{st:io}{t:TS}(h:PSs X.nox st t):PSs X st t:=λπ s σ H D I hw=>
 bt (h π s σ H D (I.wish _) hw) (λ_ _ q=>q.unwish) λ_ _ z=>cG z
end
section
variable {X:Cx}{st:aZ}{rest:io}{t u:TS}{e:aV}{te:TE}{pos:Pos}
def tNext:TS:=λD σ H=>D.nx σ H
def tSeq(t u:TS):TS:=λD σ H=>t { D with nx:=u D } σ H
theorem RH:PSs X [] tNext:=λ_ _ σ H _ I h=>dM ⟨σ,H,I,h⟩
theorem A8(h1:PS X st t)(h2:PSs X rest u):PSs X (st::rest) (tSeq t u):=by
 intro π s σ H D I h;refine gU (thn (h1 π s σ H { D with nx:=u D } I h) λf s1 q=>?_);cases f with
 |next=>
  obtain⟨σ',H',I',q⟩:=q;exact h2 π s1 σ' H' D I' q
 |ret v=>exact q
 |brk=>exact q
 |cont=>exact q
theorem Y0(h1:PS X st t):PSs X [st] t:=by
 intro π s σ H D I h;refine gU (thn (h1 π s σ H D I h) λf s1 q=>?_);cases f with
 |next=>exact dM q
 |ret v=>exact q
 |brk=>exact q
 |cont=>exact q
theorem Inv.quiet{π:aB}{σ:St}{H:Hp}{s:Shared}(I:Inv X π σ H s):interactive X.env=ag:=by simp[interactive,I.ok.kind]
def RI(te:TE):TS:=λD σ H=>te σ H λ_ H1=>D.nx σ H1
theorem U3(he:PE X e te)(hs:cu e aj pos.line X.env=pure ag:=by rfl):PS X (.Expr e pos) (RI te):=by
 intro π s σ H D I h;exact wpAny_Expr_any (thn (he π s σ H _ I h) λv s1⟨x,H1,I1,r1,q1⟩=>⟨σ,H1,I1,q1⟩) I.quiet hs
def tRet(te:TE):TS:=λD σ H=>te σ H D.rt
theorem ND(he:PE X e te):PS X (.Return (aa e) pos) (tRet te):=by
 intro π s σ H D I h;exact wpAny_Return_some (thn (he π s σ H _ I h) λv s1⟨x,H1,I1,r1,q1⟩=>⟨x,σ,H1,I1,r1,q1⟩)
def tIfS(c:TT)(t u:TS):TS:=λD σ H=>c σ H λb H1=>if b=ae then t D σ H1 else u D σ H1
theorem ps_if{c:aV}{a b:io}{tc:TT}(hc:PT X c tc)(ha:PSs X a t)(hb:PSs X b u):PS X (.If c a b pos) (tIfS tc t u):=by
 intro π s σ H D I h;refine wpAny_If (thn (hc π s σ H _ I h) ?_);rintro d s1 ⟨H1,I1,q1⟩;cases d with
 |true=>exact ha π s1 σ H1 D I1 q1
 |false=>exact hb π s1 σ H1 D I1 q1
end
abbrev TG:=V->St->Hp->(St->Hp->Prop)->Prop
abbrev TGs:=iD->St->Hp->(St->Hp->Prop)->Prop
def PG(X:Cx)(target:aV)(t:TG):Prop:=
 ∀(π:aB)(s:Shared)(σ:St)(H:Hp)(v:V)(u:Value)(Q:St->Hp->Prop),Inv X π σ H s->RelV v u->t v σ H Q ->
  ay (model X.prog X.w) X.A (assign target X.env u) (λ_ s'=>∃σ' H',Inv X π σ' H' s'/\Q σ' H') X.xe s
def PGs(X:Cx)(ts:ik)(t:TGs):Prop:=
 ∀(π:aB)(s:Shared)(σ:St)(H:Hp)(vs:iD)(us:aG)(Q:St->Hp->Prop),Inv X π σ H s->Vals vs us->t vs σ H Q ->
  ay (model X.prog X.w) X.A (assignInOrder ((cV ts X.env).map (·.2)) us) (λ_ s'=>∃σ' H',Inv X π σ' H' s'/\Q σ' H') X.xe s
abbrev TSet:=V->V->V->Hp->(Hp->Prop)->Prop
def PSet(X:Cx)(t:TSet):Prop:=
 ∀(π:aB)(s:Shared)(σ:St)(H:Hp)(o i v:V)(ov iv u:Value)(Q:Hp->Prop),Inv X π σ H s->RelV o ov->RelV i iv->RelV v u->t o i v H Q ->
  ay (model X.prog X.w) X.A (setItem ov iv u) (λ_ s'=>∃H',Inv X π σ H' s'/\Q H') X.xe s
section
variable {X:Cx}{pos:Pos}
def G2(i:Nat):TG:=λv σ H Q=>Q (σ.set i (aa v)) H
theorem F5{i:Nat}{x:Str}(hN:X.N.Nodup)(hi:X.N[i]?=aa x)(hx:Loc X.env.scope x)(hf:X.fn x=ae\/X.env.scope.names.lookup x=aa .local:=by first|exact .inl rfl|exact .inr rfl|assumption):PG X (.Name x pos) (G2 i):=by
 intro π s σ H v u Q I r h;exact wpAny_assign_Name (Ge I hN hi hx r (λs' I'=>⟨_,H,I',h⟩) hf)
def gNil:TGs:=λvs σ H Q=>vs=[]/\Q σ H
def gCons(t:TG)(u:TGs):TGs:=λvs σ H Q=>∃v r,vs=v::r/\t v σ H λσ' H'=>u r σ' H' Q
theorem Yi:PGs X [] gNil:=by
 intro π s σ H vs us Q I r h;obtain⟨e,h⟩:=h;subst e;cases r;exact assignInOrder_nil ⟨σ,H,I,h⟩
theorem Uj{e:aV}{es:ik}{t:TG}{u:TGs}(h1:PG X e t)(h2:PGs X es u)
  (hs:(cV (e::es) X.env).map (·.2)=assign e X.env::(cV es X.env).map (·.2):=by rfl):PGs X (e::es) (gCons t u):=by
 intro π s σ H vs us Q I r h;obtain⟨v,vr,e1,h⟩:=h;subst e1;cases r with
 |cons r rr=>
  rw[hs];refine assignInOrder_cons (thn (h1 π s σ H _ _ _ I r h) ?_);rintro _ s1 ⟨σ1,H1,I1,q1⟩;exact h2 π s1 σ1 H1 _ _ Q I1 rr q1
def gTup(K:aE)(n:Nat)(t:TGs):TG:=λv σ H Q=>∃a xs,v=.ref a/\SqT K H a xs/\xs.length=n/\t xs σ H Q
theorem pg_tup{es:ik}{k:Nat}{t:TGs}{n:Nat}(hc:X.calm=ae)(h:PGs X es t)
  (hn:(cV es X.env).length=n:=by rfl) (hst:(cV es X.env).findIdx? (·.1)=aj:=by rfl):PG X (.Tuple es k pos) (gTup X.K n t):=by
 intro π s σ H v u Q I r hw;obtain⟨a,xs,e1,hq,hl,hw⟩:=hw;subst e1;cases r;obtain⟨its,rv,ht,hz⟩:=I.tuple hq;refine assign_Tuple_tuple (I.ok.hd hc) ht (by simp[hn,<-hl,rv.length]) hst λh' hx=>?_;have I1:Inv X π σ H { s with heap:=h' }:=I.kept (t':=s.toks) λb o e=>hx b o (wD (wm e)) e;exact h π _ σ H xs _ Q I1 (by simpa using rv) hw
def gSub(to ti:TE)(t:TSet):TG:=λv σ H Q=>to σ H λo H1=>ti σ H1 λi H2=>t o i v H2 λH3=>Q σ H3
theorem pg_sub{o i:aV}{to ti:TE}{t:TSet}(ho:PE X o to)(hi:PE X i ti)(hs:PSet X t)
  (ha:∀ v,assign (.Subscript o i pos) X.env v=(do
   let ov <-holding [v] (eval o X.env);let iv <-holding [v,ov] (eval i X.env)
   standAt pos
   holding [v,ov,iv] (setItem ov iv v)
   release [v,ov,iv] []):=by intro _;rfl):PG X (.Subscript o i pos) (gSub to ti t):=by
 intro π s σ H v u Q I r h;rw[ha];refine ah (cj (thn (ho π s σ H _ I h) ?_));rintro ov s1 ⟨x,H1,I1,r1,q1⟩;refine ah (cj (thn (hi π s1 σ H1 _ I1 q1) ?_));rintro iv s2 ⟨y,H2,I2,r2,q2⟩;refine ah (fq (ah (cj (thn (hs π s2 σ H2 x y v ov iv u _ I2 r1 r2 r q2) ?_))));rintro _ s3 ⟨H3,I3,q3⟩;exact wpAny_release ⟨σ,H3,I3,q3⟩
def tAsg(te:TE)(g:TG):TS:=λD σ H=>te σ H λx H1=>g x σ H1 D.nx
theorem ps_asg{tg e:aV}{te:TE}{g:TG}(he:PE X e te)(hg:PG X tg g)(hs:swapsWithSole [tg] e pos.line X.env=pure ag:=by rfl)(hw:swappedStores [tg] e X.env=pure aj:=by rfl)
  (h1:(cV [tg] X.env).map (·.2)=[assign tg X.env]:=by rfl):PS X (.Assign [tg] e pos) (tAsg te g):=by
 intro π s σ H D I h;refine wpAny_Assign_stores (thn (he π s σ H _ I h) λv s1⟨x,H1,I1,r1,q1⟩=>?_) hs hw;rw[h1];exact thn (hg π s1 σ H1 x v _ I1 r1 q1) λ_ s2 q=>q
theorem M2{i:Nat}{x:Str}{e:aV}{te:TE}{pos':Pos}(hN:X.N.Nodup)(hi:X.N[i]?=aa x)(hx:Loc X.env.scope x)(he:PE X e te)(hs:cu e (aa (.Name x pos')) pos.line X.env=pure ag:=by rfl)(hf:X.fn x=ae\/X.env.scope.names.lookup x=aa .local:=by first|exact .inl rfl|exact .inr rfl|assumption):
  PS X (.Assign [.Name x pos'] e pos) (tAsg te (G2 i)):=by
 intro π s σ H D I h;refine wpAny_Assign_Name (thn (he π s σ H _ I h) λv s1⟨y,H1,I1,r1,q1⟩=>?_) hs;exact Ge I1 hN hi hx r1 (λs2 I2=>⟨_,H1,I2,q1⟩) hf
end
section
variable {X:Cx}{pos:Pos}
def Kd(c:TT)(tb:TS):TS:=λD σ H=>∃W:Nat->St->Hp->Prop,(∃m,W m σ H)/\∀m σ H,W m σ H ->
 c σ H λb H1=>if b=ae then ∃N:St->Hp->Prop,(∀σ' H',N σ' H'->∃m',m'<m/\W m' σ' H')/\tb { D with nx:=N,ct:=N,bk:=D.nx } σ H1 else D.nx σ H1
theorem LD{c:aV}{body:io}{tc:TT}{tb:TS}(hp:PassesOwn (model X.prog X.w) X.A X.env X.xe)(hc:PT X c tc)(hb:PSs X body tb):PS X (.While c body [] pos) (Kd tc tb):=by
 intro π s σ H D I h;obtain⟨W,⟨m0,w0⟩,turn⟩:=h;refine wpAny_While (codeAny_whileLoop (λn s'=>∃σ' H',Inv X π σ' H' s'/\W n σ' H') ?_ m0 ⟨σ,H,I,w0⟩);rintro n s1 ⟨σ1,H1,I1,w1⟩;refine cW hp (thn (hc π s1 σ1 H1 _ I1 (turn n σ1 H1 w1)) ?_);rintro b s2 ⟨H2,I2,q2⟩;cases b with
 | true =>
  obtain⟨N,hN,q2⟩:=q2;rw[ap rfl];refine cW hp (thn (hb π s2 σ1 H2 _ I2 q2) λf s3 q3=>?_);cases f with
  |next=>
   obtain⟨σ3,H3,I3,n3⟩:=q3;obtain⟨m',hm,w3⟩:=hN σ3 H3 n3;exact⟨m',hm,σ3,H3,I3,w3⟩
  |cont=>
   obtain⟨σ3,H3,I3,n3⟩:=q3;obtain⟨m',hm,w3⟩:=hN σ3 H3 n3;exact⟨m',hm,σ3,H3,I3,w3⟩
  |brk=>exact q3
  |ret v=>exact q3
 |false=>
  rw[ax wH];exact dM ⟨σ1,H2,I2,q2⟩
end
structure It where
 go:Nat->Hp->Prop
 yld:Nat->Hp->V->Hp->Prop
 stop:Nat->Hp->Prop
def FpOk(X:Cx)(π:aB)(H:Hp)(b:Addr):Prop:=
 H b=aj/\b≠X.env.locals/\b∉X.fs/\(b∈X.ex\/X.s₀.heap.objs.size<=b)/\(∀x c,X.env.cells.lookup x=aa c->c≠b)/\∀p∈X.pn++π,p.1≠b
theorem Inv.fpOk{X:Cx}{π:aB}{σ:St}{H H':Hp}{s:Shared}{b:Addr}(I:Inv X π σ H s)(hb:s.heap.objs.size<=b)(hn:H' b=aj):FpOk X π H' b:=by
 refine⟨hn,vQ (wt I.lt hb),I.nofs hb,.inr (wu I.sz hb),λx c e z=>?_,λp hp z=>?_⟩
 .obtain⟨v,q⟩:=I.cell x c e;exact aW (wt q.lt (by rw[z];exact hb)) (wR _)
 .exact aW (wt (wm (I.pin p hp).1) (by rw[z];exact hb)) (wR _)
structure Turn(P:aN)(w:aP)(K:aE)(tg:aV)(J:It)(fp:ig)(it:Addr)(tn:Nat->aX->Prop):Prop where
 mem:it∈fp
 obj:∀i h,tn i h->∀b∈fp,∃o,h.get? b=aa o/\∀v,o.data ≠ .cell v
 keep:∀i h h',tn i h->(∀b∈fp,∀o,h.get? b=aa o->h'.get? b=aa o)->tn i h'
 item:∀(X:Cx),X.prog=P->X.w=w->X.K=K->X.calm=ae->∀(i:Nat)(π:aB)(s:Shared)(σ:St)(H:Hp)(E:aC),Inv X π σ H s->(∀b∈fp,FpOk X π H b)->tn i s.heap->J.go i H ->
  ay (model P w) X.A (pyNext (.ref it)) (λr s1=>∃u,r=aa u /\
   ay (model P w) X.A (dN tg (.ref it) u) (λ_ s2=>∃x H',Inv X π σ H' s2/\RelV x u/\J.yld i H x H'/\tn (i+1) s2.heap/\∀b∈fp,H' b=aj) E s1) E s
 done:∀(X:Cx),X.prog=P->X.w=w->X.K=K->X.calm=ae->∀(i:Nat)(π:aB)(s:Shared)(σ:St)(H:Hp)(E:aC),Inv X π σ H s->(∀b∈fp,FpOk X π H b)->tn i s.heap->J.stop i H ->
  ay (model P w) X.A (pyNext (.ref it)) (λr s1=>r=aj/\Inv X π σ H s1) E s
 self:∀(A:aU)(i:Nat)(s:Shared)(Q:aC)(E:aC),tn i s.heap->Q (.ref it) s->ay (model P w) A (pyIter (.ref it)) Q E s
abbrev TI:=St->Hp->(It->Hp->Prop)->Prop
def PIE(X:Cx)(π:aB)(σ:St)(tg:aV)(R:It->Hp->Prop)(itv:Value)(s2:Shared):Prop:=
 ∃(it:Addr)(fp:ig)(tn:Nat->aX->Prop)(J:It)(H':Hp),itv=.ref it/\Inv X π σ H' s2/\Turn X.prog X.w X.K tg J fp it tn/\tn 0 s2.heap/\(∀b∈fp,FpOk X π H' b)/\R J H'
def PI(X:Cx)(tg iter:aV)(wi:TI):Prop:=
 ∀(π:aB)(s:Shared)(σ:St)(H:Hp)(R:It->Hp->Prop),Inv X π σ H s->wi σ H R ->
  ay (model X.prog X.w) X.A (eval iter X.env) (λv s1=>ay (model X.prog X.w) X.A (pyIter v) (PIE X π σ tg R) X.xe s1) X.xe s
theorem RJ{M:Model}{A:Around}{E:Value→Shared→Prop}{s:Shared}{tg:Expr}{it:Addr}{u:Value}{o:Obj}{n:String}{vs:Array Value}{Q:Unit→Shared→Prop}(ho:s.heap.get? it=some o)(hc:o.cls = .type n)(hd:o.data = .fields vs)
    (hn:["enumerate","zip","dict_itemiterator","dict_reverseitemiterator","odict_iterator","itertools.zip_longest","itertools.pairwise"].contains n=ag) (hQ:Q .unit s):ay M A (dN tg (.ref it) u) Q E s:=by
  unfold dN
  cases tg<;>first
    |exact ao hQ
    |(cases u<;>first
        |exact ao hQ
        | (refine wpAny_bind (wpAny_load ho ?_)
           rw[hc,hd];show ay M A (if(["enumerate","zip","dict_itemiterator","dict_reverseitemiterator","odict_iterator","itertools.zip_longest","itertools.pairwise"].contains n&&vs[0]?==aa (cK _))=ae then _ else _) Q E s;rw[ax (by intro h;rw[hn,Bool.false_and]at h;cases h)];exact ao hQ))
def Itl(K:aE)(a:Addr):It:=
 ⟨λi H=>∃xs x,SqL K H a xs/\xs[i]?=aa x,λi H x H'=>H'=H/\∀xs,SqL K H a xs->xs[i]?=aa x,λi H=>∃xs,SqL K H a xs/\xs.length<=i⟩
def Itt(K:aE)(a:Addr):It:=
 ⟨λi H=>∃xs x,SqT K H a xs/\xs[i]?=aa x,λi H x H'=>H'=H/\∀xs,SqT K H a xs->xs[i]?=aa x,λi H=>∃xs,SqT K H a xs/\xs.length<=i⟩
def Itr(lo:Int)(n:Nat):It:=⟨λi _=>i<n,λi H x H'=>H'=H/\x=.int (lo+i),λi _=>n<=i⟩
theorem Iy{P:aN}{w:aP}{K:aE}{tg:aV}(a it:Addr):Turn P w K tg (Itl K a) [it] it (λi h=>h.IsListIter it a i) where
 mem:=by simp
 obj:=λi h st b hb=>by
  have e:b=it:=by simpa using hb
  subst e;obtain⟨o,e,c,d⟩:=st;exact⟨o,e,λv z=>by rw[d]at z;cases z⟩
 keep:=λi h h' st k=>st.at λo e=>k it (by simp) o e
 item:=by
  intro X hP hw hK hc i π s σ H E I hf st hg;subst hP hw hK;obtain⟨xs,x,hq,hx⟩:=hg;obtain⟨its,rv,p,hz⟩:=I.list hq;obtain⟨u,hu,ru⟩:=rv.get hx;obtain⟨f0,f1,f2,f3,f4,f5⟩:=hf it (by simp);refine wpAny_pyNext_list_item st p.isList (x:=u) (by simpa using hu) λh' st' sb=>?_;have I1:Inv X π σ H { s with heap:=h' }:=I.turned (t':=s.toks) (λb o hb e=>(sb.2 b hb).trans e) f0 f1 f3 f4 f5;obtain⟨o,e,c,d⟩:=id st';exact⟨u,rfl,RJ (s:={ s with heap:=h' }) e c d (by decide) ⟨x,H,I1,ru,⟨rfl,λys hy=>by rw[I.list_inj hy hq];exact hx⟩,st',λb hb=>(hf b hb).1⟩⟩
 done:=by
  intro X hP hw hK hc i π s σ H E I hf st hg;subst hP hw hK;obtain⟨xs,hq,hx⟩:=hg;obtain⟨its,rv,p,hz⟩:=I.list hq;obtain⟨f0,f1,f2,f3,f4,f5⟩:=hf it (by simp);have hl:=rv.length;exact wpAny_pyNext_list_end (I.ok.hd hc) st p.isList (by simp;rfl') λh' eb=>⟨rfl,I.turned (t':=s.toks) (λb o hb e=>eb b o hb e) f0 f1 f3 f4 f5⟩
 self:=λ_ _ _ _ _ st h=>wpAny_pyIter_listiter st h
theorem NE{P:aN}{w:aP}{K:aE}{tg:aV}(a it:Addr):Turn P w K tg (Itt K a) [it] it (λi h=>h.IsTupleIter it a i) where
 mem:=by simp
 obj:=λi h st b hb=>by
  have e:b=it:=by simpa using hb
  subst e;obtain⟨o,e,c,d⟩:=st;exact⟨o,e,λv z=>by rw[d]at z;cases z⟩
 keep:=λi h h' st k=>st.at λo e=>k it (by simp) o e
 item:=by
  intro X hP hw hK hc i π s σ H E I hf st hg;subst hP hw hK;obtain⟨xs,x,hq,hx⟩:=hg;obtain⟨its,rv,p,hz⟩:=I.tuple hq;obtain⟨u,hu,ru⟩:=rv.get hx;obtain⟨f0,f1,f2,f3,f4,f5⟩:=hf it (by simp);refine wpAny_pyNext_tuple_item st (show s.heap.IsTuple a its.toArray from p) (x:=u) (by simpa using hu) λh' st' sb=>?_;have I1:Inv X π σ H { s with heap:=h' }:=I.turned (t':=s.toks) (λb o hb e=>(sb.2 b hb).trans e) f0 f1 f3 f4 f5;obtain⟨o,e,c,d⟩:=id st';exact⟨u,rfl,RJ (s:={ s with heap:=h' }) e c d (by decide) ⟨x,H,I1,ru,⟨rfl,λys hy=>by rw[I.tuple_inj hy hq];exact hx⟩,st',λb hb=>(hf b hb).1⟩⟩
 done:=by
  intro X hP hw hK hc i π s σ H E I hf st hg;subst hP hw hK;obtain⟨xs,hq,hx⟩:=hg;obtain⟨its,rv,p,hz⟩:=I.tuple hq;obtain⟨f0,f1,f2,f3,f4,f5⟩:=hf it (by simp);have hl:=rv.length;exact wpAny_pyNext_tuple_end (I.ok.hd hc) st (show s.heap.IsTuple a its.toArray from p) (by simp;rfl') λh' eb=>⟨rfl,I.turned (t':=s.toks) (λb o hb e=>eb b o hb e) f0 f1 f3 f4 f5⟩
 self:=λ_ _ _ _ _ st h=>wpAny_pyIter_tupleiter st h
theorem NF{P:aN}{w:aP}{K:aE}{tg:aV}(it:Addr)(lo:Int)(n:Nat):Turn P w K tg (Itr lo n) [it] it (λi h=>IsRangeIter h it (lo+(i:Nat)*1) ((n:Int)-(i:Nat)) 1) where
 mem:=by simp
 obj:=λi h st b hb=>by
  have e:b=it:=by simpa using hb
  subst e;exact⟨_,st,λv z=>by
   have z':hU _=gY v:=z;cases z'⟩
 keep:=λi h h' st k=>k it (by simp) _ st
 item:=by
  intro X hP hw hK hc i π s σ H E I hf st hg;subst hP hw hK;obtain⟨f0,f1,f2,f3,f4,f5⟩:=hf it (by simp);have W:=Walks.range (prog:=X.prog) (w:=X.w) (I.ok.hd hc) it lo 1 n;refine W.item i s _ _ hg st λv h' tk hv st' kk=>?_;obtain⟨t,rfl⟩:=hv;have I1:Inv X π σ H { s with heap:=h',toks:=tk }:=I.turned (λb o hb e=>kk b o (by simpa using hb) e) f0 f1 f3 f4 f5;refine⟨_,rfl,RJ (s:={ s with heap:=h',toks:=tk }) (n :="range_iterator") st' rfl rfl (by decide) ⟨.int (lo+i),H,I1,⟨t,?_⟩,⟨rfl,rfl⟩,st',λb hb=>(hf b hb).1⟩⟩;rw[Int.mul_one]
 done:=by
  intro X hP hw hK hc i π s σ H E I hf st hg;subst hP hw hK;obtain⟨f0,f1,f2,f3,f4,f5⟩:=hf it (by simp);exact wpAny_pyNext_range_end (I.ok.hd hc) st (by have:n<=i:=hg;rfl') λh' eb=>⟨rfl,I.turned (t':=s.toks) (λb o hb e=>eb b o hb e) f0 f1 f3 f4 f5⟩
 self:=λ_ _ _ _ _ st h=>wpAny_pyIter_rangeiter st h
section
variable {X:Cx}{tg:aV}
def Uk(K:aE)(tl:TE):TI:=λσ H R=>tl σ H λx H1=>∃a,x=.ref a/\(∃xs,SqL K H1 a xs)/\R (Itl K a) H1
theorem RK{l:aV}{tl:TE}(hl:PE X l tl):PI X tg l (Uk X.K tl):=by
 intro π s σ H R I h;refine thn (hl π s σ H _ I h) ?_;rintro v s1 ⟨x,H1,I1,r1,q1⟩;obtain⟨a,e,⟨xs,hq⟩,q⟩:=q1;subst e;cases r1;obtain⟨its,rv,p,hz⟩:=I1.list hq;refine dQ p.isList ?_;refine⟨s1.heap.objs.size,[s1.heap.objs.size],_,_,H1,rfl,I1.kept (t':=s1.toks) λb o e=>wc _ e,Iy a _,⟨_,wo _ rfl,rfl,rfl⟩,λb hb=>?_,q⟩;have e:b=s1.heap.objs.size:=by simpa using hb
 subst e;exact I1.fpOk (wf _) (I1.hok.fresh (wf _))
theorem LG{π:aB}{σ:St}{H:Hp}{s:Shared}{R:It->Hp->Prop}{E:aC}{lo hi:Int}{t u v:Tok}{tk:Nat}(I:Inv X π σ H s)(h1 : -(2^62)<=lo)(h2:lo<2^62)(h3 : -(2^62)<=hi)(h4:hi<2^62)
   (q:R (Itr lo (hi-lo).toNat) H):ay (model X.prog X.w) X.A (pyIter (.ref s.heap.objs.size)) (PIE X π σ tg R) E { s with heap:=s.heap.push { cls:=.type "range",data:=.fields #[.int lo t,.int hi u,.int 1 v] },toks:=tk }:=by
 refine wpAny_pyIter_range (IsRange.new ..) (small_one h1 h2 h3 h4) ?_;have I1:Inv X π σ H { s with heap:=s.heap.push { cls:=.type "range",data:=.fields #[.int lo t,.int hi u,.int 1 v] },toks:=tk }:=I.kept λb o e=>wc _ e;refine⟨(s.heap.push { cls:=.type "range",data:=.fields #[.int lo t,.int hi u,.int 1 v] }).objs.size,[(s.heap.push { cls:=.type "range",data:=.fields #[.int lo t,.int hi u,.int 1 v] }).objs.size],_,_,H,rfl,
   I1.kept (t':=tk) λb o e=>wc _ e,NF _ lo (hi-lo).toNat,?_,λb hb=>?_,q⟩
 .have e1:lo+((0:Nat):Int)*1=lo:=by simp
  have e2:(((hi-lo).toNat:Nat):Int)-((0:Nat):Int)=Builtin.Range.rangeSize lo hi 1:=by rw[rangeSize_one];split<;>rfl'
  show IsRangeIter _ _ (lo+((0:Nat):Int)*1) ((((hi-lo).toNat:Nat):Int)-((0:Nat):Int)) 1;rw[e1,e2];exact wo _ rfl
 .have e:b=(s.heap.push { cls:=.type "range",data:=.fields #[.int lo t,.int hi u,.int 1 v] }).objs.size:=by simpa using hb
  subst e;exact I1.fpOk (wf _) (I1.hok.fresh (wf _))
def iRng1(ta:TA):TI:=λσ H R=>ta σ H λvs H1=>∃j:Int,vs=[.int j] /\ -(2^62)<=j/\j<2^62/\R (Itr 0 j.toNat) H1
def iRng2(ta:TA):TI:=λσ H R=>ta σ H λvs H1=>∃i j:Int,vs=[.int i,.int j]/\(-(2^62)<=i/\i<2^62 /\ -(2^62)<=j/\j<2^62)/\R (Itr i (j-i).toNat) H1
theorem SS{a:aV}{ta:TA}{p pos:Pos}(hg:Gl X "range")(hm:X.mg "range"=aj)(ha:PA X [a] ta)(hs:au [a] X.env=[(ag,eval a X.env)]:=by rfl):PI X tg (.Call (.Name "range" p) [a] [] pos) (iRng1 ta):=by
 intro π s σ H R I h;refine Call_ (V4 I hg hm boot_range (cq (thn (ha pos π s σ H _ I h) λus s1⟨vs,H1,I1,r1,q1⟩=>?_) hs rfl));obtain⟨j,e,q1,q2,q⟩:=q1;subst e;cases r1 with
 |cons r rr=>
  cases rr;obtain⟨t,rfl⟩:=r;exact call_range_1 (LG I1 () () q1 q2 (by simpa using q))
theorem SU{a b:aV}{ta:TA}{p pos:Pos}(hg:Gl X "range")(hm:X.mg "range"=aj)(ha:PA X [a,b] ta)(hs:au [a,b] X.env=[(ag,eval a X.env),(ag,eval b X.env)]:=by rfl)(hs2:au [b] X.env=[(ag,eval b X.env)]:=by rfl):
  PI X tg (.Call (.Name "range" p) [a,b] [] pos) (iRng2 ta):=by
 intro π s σ H R I h;refine Call_ (V4 I hg hm boot_range (cq (thn (ha pos π s σ H _ I h) λus s1⟨vs,H1,I1,r1,q1⟩=>?_) (by rw[hs,hs2]) (by rw[hs2];rfl)));obtain⟨i,j,e,⟨q1,q2,q3,q4⟩,q⟩:=q1;subst e;cases r1 with
 | cons r rr =>
  cases rr with
  |cons r' rr=>
   cases rr;obtain⟨t,rfl⟩:=r;obtain⟨t',rfl⟩:=r';exact call_range_2 (LG I1 q1 q2 q3 q4 q)
def tFor(wi:TI)(g:TG)(tb:TS):TS:=λD σ H=>wi σ H λJ H1=>∃W:Nat->Nat->St->Hp->Prop,(∃m,W 0 m σ H1)/\∀i m σ H,W i m σ H ->
 (J.stop i H/\D.nx σ H)\/(J.go i H/\∃N:St->Hp->Prop,(∀σ' H',N σ' H'->∃m',m'<m/\W (i+1) m' σ' H')/\∀x H',J.yld i H x H'->g x σ H' λσ2 H2=>tb { D with nx:=N,ct:=N,bk:=D.nx } σ2 H2)
def Gg(fp:ig)(h:aX):aB:=fp.filterMap λb=>(h.get? b).map λo=>(b,o)
theorem Y1{fp:ig}{h:aX}{b:Addr}{o:Obj}(hb:b∈fp)(e:h.get? b=aa o):(b,o)∈Gg fp h:=vC.mpr ⟨b,hb,by rw[e];rfl⟩
theorem SV{fp:ig}{h:aX}{p:Addr×Obj}(hp:p∈Gg fp h):p.1∈fp/\h.get? p.1=aa p.2:=by
 obtain⟨b,hb,e⟩:=vC.mp hp;cases q:h.get? b with
 |none=>rw[q]at e;cases e
 |some o=>
  rw[q]at e;have e':(b,o)=p:=aM e;subst e';exact⟨hb,q⟩
theorem Inv.pinned{π:aB}{σ:St}{H:Hp}{s:Shared}{fp:ig}(I:Inv X π σ H s)(hf:∀b∈fp,FpOk X π H b)(ho:∀b∈fp,∃o,s.heap.get? b=aa o/\∀v,o.data ≠ .cell v):Inv X (π++Gg fp s.heap) σ H s:=
 I.pins_of λp hp=>(wn.mp hp).elim (λz=>I.pin p (wA _ z)) λz=>by
  obtain⟨hb,e⟩:=SV z;obtain⟨f0,f1,f2,_⟩:=hf p.1 hb;obtain⟨o,e',d⟩:=ho p.1 hb;rw[e]at e';cases e';exact⟨e,f0,f1,f2,d⟩
theorem Inv.unpinned{π pl:aB}{σ:St}{H:Hp}{s:Shared}(I:Inv X (π++pl) σ H s):Inv X π σ H s:=I.pins_of λp hp=>I.pin p (wA _ (wO _ hp))
theorem NG{iter:aV}{body:io}{wi:TI}{g:TG}{tb:TS}{pos:Pos}(hp:PassesOwn (model X.prog X.w) X.A X.env X.xe)(hc:X.calm=ae)(hi:PI X tg iter wi)(hg:PG X tg g)(hb:PSs X body tb)
   (hs:∀x,bX iter X.env x=pure x:=by intro _;rfl):PS X (.For tg iter body [] pos) (tFor wi g tb):=by
 intro π s σ H D I h;refine wpAny_For (thn (hi π s σ H _ I h) λv s1 h1=>thn h1 λitv s2 h2=>?_) hs;obtain⟨it,fp,tn,J,H2,e,I2,T,st2,f2,W,⟨m0,w0⟩,turn⟩:=h2;subst e;have stat:∀{H':Hp},(∀b∈fp,H' b=aj)->∀b∈fp,FpOk X π H' b:=λhn b hb=>⟨hn b hb,(f2 b hb).2⟩;refine codeAny_forLoop_any (λn s'=>∃i σ' H',Inv X π σ' H' s'/\tn i s'.heap/\(∀b∈fp,H' b=aj)/\W i n σ' H') ?_ m0 ⟨0,σ,H2,I2,st2,λb hb=>(f2 b hb).1,w0⟩;rintro n s3 ⟨i,σ3,H3,I3,st3,fr3,w3⟩;rcases turn i n σ3 H3 w3 with⟨stop,qn⟩|⟨go,N,hN,step⟩
 .refine cW hp (thn (T.done X rfl rfl rfl hc i π s3 σ3 H3 X.xe I3 (stat fr3) st3 stop) ?_);rintro r s4 ⟨hr,I4⟩;subst hr;exact dM ⟨σ3,H3,I4,qn⟩
 .refine cW hp (thn (T.item X rfl rfl rfl hc i π s3 σ3 H3 X.xe I3 (stat fr3) st3 go) ?_);rintro r s4 ⟨u,hr,h4⟩;subst hr;refine cW hp (thn h4 ?_);rintro _ s5 ⟨x,H5,I5,r5,y5,st5,fr5⟩;have I5':=I5.pinned (stat fr5) (T.obj _ _ st5);refine cW hp (thn (hg _ s5 σ3 H5 x u _ I5' r5 (step x H5 y5)) ?_);rintro _ s6 ⟨σ6,H6,I6,q6⟩;refine cW hp (thn (hb _ s6 σ6 H6 _ I6 q6) λf s7 q7=>?_);have again:∀{σ7:St}{H7:Hp},Inv X (π++Gg fp s5.heap) σ7 H7 s7->N σ7 H7->∃m,m<n/\∃i σ' H',Inv X π σ' H' s7/\tn i s7.heap/\(∀b∈fp,H' b=aj)/\W i m σ' H':=λ{σ7 H7}I7 n7=>by
   obtain⟨m',hm,w7⟩:=hN σ7 H7 n7;refine⟨m',hm,i+1,σ7,H7,I7.unpinned,T.keep _ _ _ st5 λb hb o e=>(I7.pin (b,o) (wA _ (wA _ (Y1 hb e)))).1,λb hb=>?_,w7⟩;obtain⟨o,e,d⟩:=T.obj _ _ st5 b hb;exact(I7.pin (b,o) (wA _ (wA _ (Y1 hb e)))).2.1
  cases f with
  |next=>obtain⟨σ7,H7,I7,n7⟩:=q7;exact again I7 n7
  |cont=>obtain⟨σ7,H7,I7,n7⟩:=q7;exact again I7 n7
  |brk=>obtain⟨σ7,H7,I7,q7⟩:=q7;exact⟨σ7,H7,I7.unpinned,q7⟩
  |ret v=>obtain⟨x7,σ7,H7,I7,r7,q7⟩:=q7;exact⟨x7,σ7,H7,I7.unpinned,r7,q7⟩
end
theorem LH{K:aE}{a:Addr}{xs:iD}{g:TG}{tb:TS}{D:Ends}{σ:St}{H:Hp}(Pv:Nat->St->Hp->Prop)(h0:Pv 0 σ H)(hl:∀i σ H,i<=xs.length->Pv i σ H->SqL K H a xs)
   (hs:∀i x σ H,xs[i]?=aa x->Pv i σ H->g x σ H λσ2 H2=>tb { D with nx:=Pv (i+1),ct:=Pv (i+1),bk:=D.nx } σ2 H2) (hd:∀σ H,Pv xs.length σ H->D.nx σ H) :
   ∃W:Nat->Nat->St->Hp->Prop,(∃m,W 0 m σ H)/\∀i m σ H,W i m σ H ->
    ((Itl K a).stop i H/\D.nx σ H)\/((Itl K a).go i H/\∃N:St->Hp->Prop,(∀σ' H',N σ' H'->∃m',m'<m/\W (i+1) m' σ' H')/\∀x H',(Itl K a).yld i H x H'->g x σ H' λσ2 H2=>tb { D with nx:=N,ct:=N,bk:=D.nx } σ2 H2):=by
 refine⟨λi m σ H=>m=xs.length-i/\i<=xs.length/\Pv i σ H,⟨xs.length,by simp,wy _,h0⟩,?_⟩;rintro i m σ H ⟨rfl,hi,p⟩;have q:=hl i σ H hi p;by_cases hlt:i<xs.length
 .refine .inr ⟨⟨xs,xs[i],q,by simp[hlt]⟩,Pv (i+1),λσ' H' p'=>⟨xs.length-(i+1),(),rfl,hlt,p'⟩,λx H' y=>?_⟩;obtain⟨e,y⟩:=y;subst e;exact hs i x σ _ (y xs q) p
 .have e:i=xs.length:=()
  subst e;exact .inl ⟨⟨xs,q,wf _⟩,hd σ H p⟩
abbrev R2:=V->V->Hp->VK->Prop
def OpR(X:Cx)(f:Value->Value->Sem Value)(r:R2):Prop:=
 ∀(π:aB)(s:Shared)(σ:St)(H:Hp)(x y:V)(v u:Value)(Q:VK),Inv X π σ H s->RelV x v->RelV y u->r x y H Q ->
  ay (model X.prog X.w) X.A (f v u) (EP X π σ Q) X.xe s
def UnR(X:Cx)(f:Value->Sem Value)(r:V->Hp->VK->Prop):Prop:=
 ∀(π:aB)(s:Shared)(σ:St)(H:Hp)(x:V)(v:Value)(Q:VK),Inv X π σ H s->RelV x v->r x H Q ->
  ay (model X.prog X.w) X.A (f v) (EP X π σ Q) X.xe s
def Ao(X:Cx)(f:Value)(r:iD->Hp->VK->Prop):Prop:=
 ∀(π:aB)(s:Shared)(σ:St)(H:Hp)(xs:iD)(us:aG)(Q:VK),Inv X π σ H s->Vals xs us->r xs H Q ->
  ay (model X.prog X.w) X.A (call f us) (EP X π σ Q) X.xe s
def TruR(X:Cx)(r:V->Hp->(Bool->Hp->Prop)->Prop):Prop:=
 ∀(π:aB)(s:Shared)(σ:St)(H:Hp)(x:V)(v:Value)(Q:Bool->Hp->Prop),Inv X π σ H s->RelV x v->r x H Q ->
  ay (model X.prog X.w) X.A (truthy v) (TP X π σ Q) X.xe s
def tOp(r:R2)(ta tb:TE):TE:=λσ H Q=>ta σ H λx H1=>tb σ H1 λy H2=>r x y H2 Q
def tUn(r:V->Hp->VK->Prop)(ta:TE):TE:=λσ H Q=>ta σ H λx H1=>r x H1 Q
def rI(C:Int->Int->Prop)(g:Int->Int->V):R2:=λx y H Q=>∃i j,x=.int i/\y=.int j/\C i j/\Q (g i j) H
def rI0(g:Int->Int->V):R2:=λx y H Q=>∃i j,x=.int i/\y=.int j/\Q (g i j) H
def rU(g:Int->V):V->Hp->VK->Prop:=λx H Q=>∃i,x=.int i/\Q (g i) H
section
variable {X:Cx}{a b c:aV}{ta tb tc:TE}{pos:Pos}
theorem binT(ha:PE X a ta)(hb:PE X b tb){π:aB}{s:Shared}{σ:St}{H:Hp}{R:V->V->Hp->Prop}(I:Inv X π σ H s)
  (h:ta σ H λx H1=>tb σ H1 λy H2=>R x y H2) {Q:aC} {f:Value->Value->Sem Value}
  (hf:∀v u s2 x y H2,Inv X π σ H2 s2->RelV x v->RelV y u->R x y H2->ay (model X.prog X.w) X.A (f v u) Q X.xe s2) :
  ay (model X.prog X.w) X.A (eval a X.env) (λv s₁=>ay (model X.prog X.w) X.A (eval b X.env) (λu s₂=>ay (model X.prog X.w) X.A (f v u) Q X.xe s₂) X.xe s₁) X.xe s:=by
 refine thn (ha π s σ H _ I h) ?_;rintro v s1 ⟨x,H1,I1,r1,q1⟩;refine thn (hb π s1 σ H1 _ I1 q1) ?_;rintro u s2 ⟨y,H2,I2,r2,q2⟩;exact hf v u s2 x y H2 I2 r1 r2 q2
theorem pe_op{op:Operator}{r:R2}(ho:OpR X (cL op) r)(ha:PE X a ta)(hb:PE X b tb):PE X (.BinOp a op b pos) (tOp r ta tb):=by
 intro π s σ H Q I h;exact wpAny_BinOp (binT ha hb I h λv u s2 x y H2 I2 rx ry q=>ho π s2 σ H2 x y v u Q I2 rx ry q)
theorem pe_un{op:UnaryOp}{r:V->Hp->VK->Prop}(ho:UnR X (unaryOp op) r)(ha:PE X a ta):PE X (.UnaryOp op a pos) (tUn r ta):=by
 intro π s σ H Q I h;exact UnaryOp_ (thn (ha π s σ H _ I h) λv s1⟨x,H1,I1,r1,q1⟩=>ho π s1 σ H1 x v Q I1 r1 q1)
theorem opI{f:Value->Value->Sem Value}{C:Int->Int->Prop}{g:Int->Int->Int}
  (rule:∀(i j:Int)(t u:Tok)(s:Shared)(Q:aC)(E:aC),C i j->Q (.int (g i j) s.toks) { s with toks:=s.toks+1 }->ay (model X.prog X.w) X.A (f (.int i t) (.int j u)) Q E s) :
  OpR X f (rI C λi j=>.int (g i j)):=by
 intro π s σ H x y v u Q I rx ry h;obtain⟨i,j,rfl,rfl,hc,q⟩:=h;obtain⟨t,rfl⟩:=rx;obtain⟨t',rfl⟩:=ry;exact rule i j t t' s _ _ hc ⟨.int (g i j),H,I.tok _,⟨_,rfl⟩,q⟩
theorem opI0{f:Value->Value->Sem Value}{g:Int->Int->Int}
  (rule:∀(i j:Int)(t u:Tok)(s:Shared)(Q:aC)(E:aC),Q (.int (g i j) s.toks) { s with toks:=s.toks+1 }->ay (model X.prog X.w) X.A (f (.int i t) (.int j u)) Q E s) :
  OpR X f (rI0 λi j=>.int (g i j)):=by
 intro π s σ H x y v u Q I rx ry h;obtain⟨i,j,rfl,rfl,q⟩:=h;obtain⟨t,rfl⟩:=rx;obtain⟨t',rfl⟩:=ry;exact rule i j t t' s _ _ ⟨.int (g i j),H,I.tok _,⟨_,rfl⟩,q⟩
theorem opB0{f:Value->Value->Sem Value}{g:Int->Int->Bool}
  (rule:∀(i j:Int)(t u:Tok)(s:Shared)(Q:aC)(E:aC),Q (.bool (g i j)) s->ay (model X.prog X.w) X.A (f (.int i t) (.int j u)) Q E s) :
  OpR X f (rI0 λi j=>.bl (g i j)):=by
 intro π s σ H x y v u Q I rx ry h;obtain⟨i,j,rfl,rfl,q⟩:=h;obtain⟨t,rfl⟩:=rx;obtain⟨t',rfl⟩:=ry;exact rule i j t t' s _ _ ⟨.bl (g i j),H,I,rfl,q⟩
def CPow(i j:Int):Prop:=0<=j/\j<=1000000/\i.natAbs<2^64
def CMul(i j:Int):Prop:=(-(2^64)<i/\i<2^64)\/(-(2^64)<j/\j<2^64)
theorem CMul.ok{i j:Int}(h:CMul i j):IntMulOk i j:=by
 rcases h with⟨h1,h2⟩|⟨h1,h2⟩
 .exact .of_left (intBits_le_64 h1 h2)
 .exact .of_right (intBits_le_64 h1 h2)
theorem op_add:OpR X (cL .Add) (rI0 λi j=>.int (i+j)):=opI0 λ_ _ _ _ _ _ _ q=>add_int q
theorem op_sub:OpR X (cL .Sub) (rI0 λi j=>.int (i-j)):=opI0 λ_ _ _ _ _ _ _ q=>sub_int q
theorem Yj:OpR X (cL .Mod) (rI (λ_ j=>j≠0) λi j=>.int (i.fmod j)):=opI λ_ _ _ _ _ _ _ hc q=>mod_int' hc q
theorem op_pow:OpR X (cL .Pow) (rI CPow λi j=>.int (i^j.toNat)):=opI λ_ _ _ _ _ _ _ hc q=>pow_int_small hc.1 hc.2.1 hc.2.2 q
theorem unI{f:Value->Sem Value}{g:Int->Int}
  (rule:∀(i:Int)(t:Tok)(s:Shared)(Q:aC)(E:aC),Q (.int (g i) s.toks) { s with toks:=s.toks+1 }->ay (model X.prog X.w) X.A (f (.int i t)) Q E s) :
  UnR X f (rU λi=>.int (g i)):=by
 intro π s σ H x v Q I rx h;obtain⟨i,rfl,q⟩:=h;obtain⟨t,rfl⟩:=rx;exact rule i t s _ _ ⟨.int (g i),H,I.tok _,⟨_,rfl⟩,q⟩
theorem un_neg:UnR X (unaryOp .USub) (rU λi=>.int (-i)):=unI λ_ _ _ _ _ q=>neg_int q
end
def scal:V->V->Bool
 |.non,.non=>ae|.non,.int _=>ae|.int _,.non=>ae|.non,.bl _=>ae|.bl _,.non=>ae|.non,.str _=>ae|.str _,.non=>ae
 |.int _,.int _=>ae|.bl _,.bl _=>ae|.str _,.str _=>ae|.byt _,.byt _=>ae
 |.int _,.str _=>ae|.str _,.int _=>ae|.bl _,.str _=>ae|.str _,.bl _=>ae
 |_,_=>ag
section
variable {X:Cx}{a b c:aV}{ta tb tc:TE}{pos:Pos}
theorem fin_bl{π:aB}{σ:St}{H:Hp}{s:Shared}{Q:VK}{k k':Bool}(I:Inv X π σ H s)(q:Q (.bl k) H)(e:k=k'):EP X π σ Q (.bool k') s:=by
 subst e;exact⟨.bl k,H,I,rfl,q⟩
theorem op_lt:OpR X (bK .Lt) (rI0 λi j=>.bl (decide (i<j))):=opB0 λ_ _ _ _ _ _ _ q=>lt_int q
theorem op_le:OpR X (bK .LtE) (rI0 λi j=>.bl (decide (i<=j))):=opB0 λ_ _ _ _ _ _ _ q=>le_int q
theorem op_gt:OpR X (bK .Gt) (rI0 λi j=>.bl (decide (j<i))):=opB0 λ_ _ _ _ _ _ _ q=>gt_int q
theorem op_isN:OpR X (bK .Is) (λx y H Q=>y=.non/\Q (.bl (decide (x=.non))) H):=by
 intro π s σ H x y v u Q I rx ry h;obtain⟨rfl,q⟩:=h;cases ry;refine is_none_gen (fin_bl I q ?_);cases x<;>first
  |(cases rx;rfl)
  |(obtain⟨t,rfl⟩:=rx;rfl)
theorem Ul(b:aV){op:hV}(h:op ≠ .In:=by decide)(h2:op ≠ .NotIn:=by decide):dI op b=ag:=by
 have e1:(op==CmpOp.In)=ag:=by cases op<;>first|rfl|exact aW rfl h
 have e2:(op==CmpOp.NotIn)=ag:=by cases op<;>first|rfl|exact aW rfl h2
 cases b<;>simp[dI,e1,e2]
theorem Yk{op:hV}{r:R2}(ho:OpR X (bK op) r)(ha:PE X a ta)(hb:PE X b tb)(hm:dI op b=ag):PE X (.Compare a [op] [b] pos) (tOp r ta tb):=by
 intro π s σ H Q I h;exact wpAny_Compare1 (binT ha hb I h λv u s2 x y H2 I2 rx ry q=>ho π s2 σ H2 x y v u Q I2 rx ry q) hm
def tTest(t:TE):TT:=λσ H Q=>t σ H λx H'=>∃k,x=.bl k/\Q k H'
theorem Yl{op:hV}{r:R2}(ho:OpR X (bK op) r)(ha:PE X a ta)(hb:PE X b tb)(hm:dI op b=ag):PT X (.Compare a [op] [b] pos) (tTest (tOp r ta tb)):=by
 intro π s σ H Q I h;refine wpAny_isTrue_Compare1 (thn (ha π s σ H _ I h) λv s1⟨x,H1,I1,r1,q1⟩=>thn (hb π s1 σ H1 _ I1 q1) λu s2⟨y,H2,I2,r2,q2⟩=>
  thn (ho π s2 σ H2 x y v u _ I2 r1 r2 q2) λc s3⟨z,H3,I3,r3,k,e,q3⟩=>?_) hm
 subst e;cases r3;exact bW ⟨H3,I3,q3⟩
def Um(r r':R2)(ta tb tc:TE):TE:=λσ H Q=>ta σ H λx H1=>tb σ H1 λy H2=>r x y H2 λz H3=>∃k,z=.bl k /\
 (if k=ae then tc σ H3 λw' H4=>r' y w' H4 Q else Q (.bl ag) H3)
theorem Uo{op op':hV}{r r':R2}(ho:OpR X (bK op) r)(ho':OpR X (bK op') r')(ha:PE X a ta)(hb:PE X b tb)(hc:PE X c tc)
  (hm:lastMarks [op,op'] [b,c]=ag:=by with_unfolding_all rfl):PE X (.Compare a [op,op'] [b,c] pos) (Um r r' ta tb tc):=by
 intro π s σ H Q I h;refine Compare_chain (thn (ha π s σ H _ I h) λv s1⟨x,H1,I1,r1,q1⟩=>chain_link (thn (hb π s1 σ H1 _ I1 q1) λu s2⟨y,H2,I2,r2,q2⟩=>
  thn (ho π s2 σ H2 x y v u _ I2 r1 r2 q2) λd s3⟨z,H3,I3,r3,k,e,q3⟩=>?_)) hm
 subst e;cases r3;refine bW ?_;cases k with
 |false=>exact ite_ff ⟨.bl ag,H3,I3,rfl,q3⟩
 |true=>exact ite_tt (chain_last (thn (hc π s3 σ H3 _ I3 q3) λw' s4⟨z',H4,I4,r4,q4⟩=>ho' π s4 σ H4 y z' u w' Q I4 r2 r4 q4))
def TruV(K:aE)(x:V)(H:Hp)(k:Bool):Prop:=
 match x with
 |.non=>k=ag
 |.bl b=>k=b
 |.int i=>k=(i != 0)
 |.str y=>y.length<=sizeLine/\k=((y.length:Int) != 0)
 |.byt y=>y.size<=sizeLine/\k=((y.size:Int) != 0)
 |.ref p=>(∃xs,SqL K H p xs/\k=!xs.isEmpty)\/(∃xs,SqT K H p xs/\k=!xs.isEmpty)\/∃kvs,H p=aa (.dK kvs)/\k=!kvs.isEmpty
 |_=>False
theorem NH{κ:Type}{kvs:List (κ×V)}{vs:List (κ×Value)}(r:KV kvs vs):(!vs.isEmpty)=!kvs.isEmpty:=by
 cases r<;>rfl
theorem Gh{xs:iD}{its:aG}(r:Vals xs its):(!its.toArray.isEmpty)=!xs.isEmpty:=by
 cases r<;>simp
theorem DA:(sizeLine:Nat)<2^63:=by rw[bv];decide
theorem tru_ok:TruR X (λx H Q=>∃k,TruV X.K x H k/\Q k H):=by
 intro π s σ H x v Q I rx h;obtain⟨k,e,q⟩:=h;have hl:=DA;have hs:sizeLine=16777216:=bv;cases x with
 |non=>
  cases rx;have e':k=ag:=e;subst e';exact truthy_none ⟨H,I,q⟩
 |bl b=>
  cases rx;have e':k=b:=e;subst e';exact bW ⟨H,I,q⟩
 |int i=>
  obtain⟨t,rfl⟩:=rx;have e':k=(i != 0):=e;subst e';exact PySem.P.truthy_int ⟨H,I,q⟩
 |str y=>
  obtain⟨t,rfl⟩:=rx;obtain⟨hy,e'⟩:y.length<=sizeLine/\k=((y.length:Int) != 0):=e;subst e';exact PySem.P.truthy_str () ⟨H,I.tok _,q⟩
 |byt y=>
  obtain⟨t,rfl⟩:=rx;obtain⟨hy,e'⟩:y.size<=sizeLine/\k=((y.size:Int) != 0):=e;subst e';exact PySem.W.truthy_bytes () ⟨H,I.tok _,q⟩
 |ref p=>
  cases rx;have e':(∃xs,SqL X.K H p xs/\k=!xs.isEmpty)\/(∃xs,SqT X.K H p xs/\k=!xs.isEmpty)\/∃kvs,H p=aa (.dK kvs)/\k=!kvs.isEmpty:=e;rcases e' with⟨xs,hx,e'⟩|⟨xs,hx,e'⟩|⟨kvs,hx,e'⟩
  .subst e';obtain⟨its,r,pl,hz⟩:=I.list hx;have hlen:=r.length;exact wpAny_truthy_list pl.isList (by simp only[wq];rfl') ⟨H,I.tok _,by rw[Gh r];exact q⟩
  .subst e';obtain⟨its,r,pl,hz⟩:=I.tuple hx;have hlen:=r.length;exact truthy_tuple pl (by simp only[wq];rfl') ⟨H,I.tok _,by rw[Gh r];exact q⟩
  .subst e';obtain⟨hz,hS,vs,r,m⟩:kvs.length<=sizeLine/\(p==dX)=ag/\∃vs,KV kvs vs/\s.heap.DictOf (J0 X.prog X.w) p vs:=I.hok p _ hx;have hlen:kvs.length=vs.length:=gx r;exact wpAny_truthy_dict hS m () ⟨H,I.tok _,by rw[NH r];exact q⟩
 |_=>exact(show False from e).elim
theorem Up(ha:PE X a ta)(he:∀whole,isTrue a X.env whole=(do let v <-whole;standAt a.pos;holding [v] (truthy v))):
  PT X a (λσ H Q=>ta σ H λx H'=>∃k,TruV X.K x H' k/\Q k H'):=by
 intro π s σ H Q I h;exact isTrue_plain (thn (ha π s σ H _ I h) λv s1⟨x,H1,I1,r1,q1⟩=>tru_ok π s1 σ H1 x v Q I1 r1 q1) (he _)
theorem Iz{x:V}{us:aG}(r:Vals [x] us):∃u,us=[u]/\RelV x u:=by
 cases r with
 |cons r1 r2=>cases r2;exact⟨_,rfl,r1⟩
theorem vals2{x y:V}{us:aG}(r:Vals [x,y] us):∃u w',us=[u,w']/\RelV x u/\RelV y w':=by
 cases r with
 |cons r1 r2=>
  cases r2 with
  |cons r3 r4=>cases r4;exact⟨_,_,rfl,r1,r3⟩
theorem Uq:Ao X (.builtin "abs") (λxs H Q=>∃i,xs=[.int i]/\Q (.int (if i<0 then -i else i)) H):=by
 intro π s σ H xs us Q I r h;obtain⟨i,rfl,q⟩:=h;obtain⟨u,rfl,t,rfl⟩:=Iz r;exact call_abs_int λu tk=>⟨.int (if i<0 then -i else i),H,I.tok _,⟨_,rfl⟩,q⟩
theorem IA:Ao X (.type "int") (λxs H Q=>(∃i,xs=[.int i]/\Q (.int i) H)\/∃k,xs=[.bl k]/\Q (.int (if k then 1 else 0)) H):=by
 intro π s σ H xs us Q I r h;rcases h with⟨i,rfl,q⟩|⟨k,rfl,q⟩
 .obtain⟨u,rfl,t,rfl⟩:=Iz r;exact call_int_int ⟨.int i,H,I,⟨_,rfl⟩,q⟩
 .obtain⟨u,rfl,r1⟩:=Iz r;cases r1;exact call_int_bool ⟨.int (if k then 1 else 0),H,I.tok _,⟨_,rfl⟩,q⟩
end
structure ObjM(h:aX)(x dx C:Addr)(mA:aF):Prop where
 obj:h.get? x=aa (gC C dx)
 ns:h.Ns1 dx mA
 ne:dx≠x
theorem SW{h:aX}{dx:Addr}{mA:aF}(n:h.Ns1 dx mA):∃od,h.get? dx=aa od/\∀name,gK name od=aa (mA name):=by
 obtain⟨o,es,ep,ho,hd,hk,_,hm⟩:=n;refine⟨o,ho,λname=>?_⟩;have e:=hm name;unfold nsFind findBy at e;rw[<-Array.find?_toList]at e;unfold gK;rw[hd];dsimp only;split
 .rename_i y q;rw[q]at e;exact bV aa e
 .rename_i q;rw[q]at e;have a:es.toList.any (·.refKey)=ag:=by
   rw[List.any_eq_false];intro y hy;obtain⟨z,t,hkey⟩:=hk y (Array.mem_toList_iff.mp hy);simp[DictEntry.refKey,hkey]
  have a':¬es.toList.any (·.refKey)=ae:=by rw[a];exact wH
  rw[ax a'];exact bV aa e
theorem ObjM.look{h:aX}{x dx C:Addr}{mA:aF}(I:ObjM h x dx C mA):∃od,PySem.W.InstAt h x (gC C dx) C (aa od)/\∀name,gK name od=aa (mA name):=
 let ⟨od,ho,hl⟩:=SW I.ns
 ⟨od,⟨I.obj,rfl,rfl,ho⟩,hl⟩
section
variable {prog:aN}{w:aP}{A:aU}{E:aC}{s:Shared}{K:aE}{x dx C f:Addr}{mA:aF}{name:Str}{v:Value}
end
section
variable {P:aN}{w:aP}{H H':Hp}{h h':aX}{a C dx:Addr}{fs fs':List (Str×V)}
theorem Ym(hok:HOk P w H h)(e:H a=aa (.ins C dx fs)):∃mA,ObjM h a dx C mA/\(∀f,RelO (fs.lookup f) (mA f))/\PySem.Within mA (fs.map (·.1))/\fs.length<=1000/\H dx=aa (.own a):=by
 obtain⟨d,z,ne,ob,mA,n,r,q⟩:=(show ObjOk P w H h a (.ins C dx fs)from hok a _ e);exact⟨mA,⟨ob,n,ne⟩,r,q,z,d⟩
end
structure Cls(K:aE)(C:Addr):Prop where
 pg:PySem.W.plainGet K C Str.empty=ae
 hd:PySem.W.hasDictIn K C=ae
 po:PySem.W.plainOver K C=ae
 sa:fF K (.ref C) "__setattr__"=aa (aa (.builtin "object.__setattr__"))
theorem Cls.get{K:aE}{C:Addr}(c:Cls K C)(f:Str):PySem.W.plainGet K C f=ae:=c.pg
def NI(K:aE)(C:Addr)(f:Str):Prop:=fF K (.ref C) f=aa aj
section
variable {X:Cx}{π:aB}{σ:St}{H:Hp}{s:Shared}{a C dx:Addr}{fs:List (Str×V)}{f:Str}{v:V}{A:aU}{E:aC}
end
section
variable {X:Cx}{o e value:aV}{f:Str}{pos pos' tpos:Pos}{ta tv:TE}
end
section
variable {X:Cx}{π:aB}{σ:St}{H:Hp}{s:Shared}{A:aU}{E:aC}{Q:aC}{c:Value}{b:Bool}
inductive TyOf (K:aE) (H:Hp):V->Value->Prop where
 |non:TyOf K H .non (.type "NoneType")
 |bl (x:Bool):TyOf K H (.bl x) (.type "bool")
 |int (i:Int):TyOf K H (.int i) (.type "int")
 |str (x:Str):TyOf K H (.str x) (.type "str")
 |flt (x:UInt64):TyOf K H (.flt x) (.type "float")
 |lst {a:Addr} {xs:iD} (e:H a=aa (.lst xs)):TyOf K H (.ref a) (.type "list")
 |frz {a:Addr} {o:Obj} {xs:iD} (e:H a=aa (.frz o (.lst xs))):TyOf K H (.ref a) (.type "list")
 |tup {a:Addr} {xs:iD} (e:H a=aa (.tup xs)):TyOf K H (.ref a) (.type "tuple")
 |dK {a:Addr} {kvs:List (Key×V)} (e:H a=aa (.dK kvs)):TyOf K H (.ref a) (.type "dict")
 |dT {a:Addr} {kvs:List (List Key×V)} (e:H a=aa (.dT kvs)):TyOf K H (.ref a) (.type "dict")
 |ins {a C dx:Addr} {fs:List (Str×V)} (e:H a=aa (.ins C dx fs)) (cl:Cls K C) (ha:fF K (.ref C) "__class__"=aa (aa (.builtin "object.__class__")))
  (hn:PySem.W.specialIn K (.builtin "object.__class__") "__get__"=aa (aa (.builtin "getset_descriptor.__get__"))) (htk:PySem.W.takesIn K (.builtin "object.__class__")=aa ae)
  (hm:PySem.W.mroIn K C (.type "object")=aa ae):TyOf K H (.ref a) (.ref C)
theorem W5{x:V}{u t:Value}(I:Inv X π σ H s)(rx:RelV x u)(ty:TyOf X.K H x t)(e:gL X.K t c=aa b)(h:∀tk,Q (.bool b) { s with toks:=tk }):
  ay (model X.prog X.w) A (call (.builtin "isinstance") [u,c]) Q E s:=by
 cases ty with
 |non=>cases (show u=bM from rx);exact bq PySem.W.kitx_none I.kIn eE e (λz=>nomatch z) h
 |bl y=>cases (show u=fJ y from rx);exact bq PySem.W.kitx_bool I.kIn eE e (λz=>nomatch z) h
 |int i=>obtain⟨t,q⟩:=(show ∃t,u=cO i t from rx);cases q;exact bq PySem.W.kitx_int I.kIn eE e (λz=>nomatch z) h
 |str y=>obtain⟨t,q⟩:=(show ∃t,u=Value.str y t from rx);cases q;exact bq PySem.W.kitx_str I.kIn eE e (λz=>nomatch z) h
 |flt y=>obtain⟨t,q⟩:=(show ∃t,u=Value.float y t from rx);cases q;exact bq PySem.W.kitx_float I.kIn eE e (λz=>nomatch z) h
 | @lst a xs ea=>
  cases (show u=ak a from rx);obtain⟨_,_,n,_,h1⟩:=(show ObjOk X.prog X.w H s.heap a (.lst xs)from I.hok a _ ea);exact bq eN I.kIn ⟨_,h1,rfl⟩ e (λz=>nomatch z) h
 | @frz a ob xs ea=>
  cases (show u=ak a from rx);obtain⟨_,_,_,n,_,h1⟩:=(show ObjOk X.prog X.w H s.heap a (.frz ob (.lst xs))from I.hok a _ ea);exact bq eN I.kIn ⟨_,h1,rfl⟩ e (λz=>nomatch z) h
 | @tup a xs ea=>
  cases (show u=ak a from rx);obtain⟨_,_,_,p⟩:=(show ObjOk X.prog X.w H s.heap a (.tup xs)from I.hok a _ ea);obtain⟨o,h1,h2,_⟩:=p;exact bq PySem.W.kitx_tuple I.kIn ⟨o,h1,h2⟩ e (λz=>nomatch z) h
 | @dK a kvs ea=>
  cases (show u=ak a from rx);obtain⟨_,_,vs,_,p⟩:=(show ObjOk X.prog X.w H s.heap a (.dK kvs)from I.hok a _ ea);obtain⟨o,es,ep,h1,h2,_⟩:=p;exact bq gf I.kIn ⟨o,h1,h2.1⟩ e (λz=>nomatch z) h
 | @dT a kvs ea=>
  cases (show u=ak a from rx);obtain⟨_,_,xs,_,o,es,ep,h1,h2,_⟩:=(show ObjOk X.prog X.w H s.heap a (.dT kvs)from I.hok a _ ea);exact bq gf I.kIn ⟨o,h1,h2.1⟩ e (λz=>nomatch z) h
 | @ins a C dx fs ea cl ha hn htk hm=>
  cases (show u=ak a from rx);obtain⟨mA,O,_⟩:=Ym I.hok ea;obtain⟨od,J,_⟩:=O.look;exact bq (PySem.W.kitx_own (cl.get _) cl.hd ha hn htk hm) I.kIn J e (λz=>nomatch z) h
end
structure Room(k:Nat)(A:aU):Prop where
 hd:A.handled=aj
 dp:A.depth+3*k+5<recursionLimit
 un:A.units+16*k+200<dk
theorem Room.mono{j k:Nat}{A:aU}(r:Room k A)(h:j<=k):Room j A:=⟨r.hd,by have:=r.dp;rfl',by have:=r.un;rfl'⟩
theorem Room.deeper{k:Nat}{A:aU}(r:Room (k+1) A)(env:Env):Room k (A.deeper env):=
 ⟨r.hd,by have:=r.dp;show A.depth+1+3*k+5<_;rfl',by have:=r.un;show A.units+3+16*k+200<_;rfl'⟩
theorem Room.in1{k:Nat}{A:aU}(r:Room (k+1) A):Room k A.in1:=
 ⟨r.hd,by have:=r.dp;show A.depth+3*k+5<_;rfl',by have:=r.un;show A.units+1+16*k+200<_;rfl'⟩
theorem Room.depth{k:Nat}{A:aU}(r:Room k A):A.depth<recursionLimit:=by have:=r.dp;rfl'
theorem Room.units{k:Nat}{A:aU}(r:Room k A):A.units+64<dk:=by have:=r.un;rfl'
def tNil:TA:=λ_ H Q=>Q [] H
def D4(ta:TE)(tr:TA):TA:=λσ H Q=>ta σ H λx H1=>tr σ H1 λxs H2=>Q (x::xs) H2
section
variable {X:Cx}{e:aV}{es:ik}{te:TE}{t:TA}{pos:Pos}
theorem A4:PA X [] tNil:=λ_ _ _ _ H Q I h=>Calls.spliced_nil ⟨[],H,I,.nil,h⟩
theorem m9(ha:PE X e te)(hr:PA X es t)(hs:au (e::es) X.env=(ag,eval e X.env)::au es X.env:=by rfl):PA X (e::es) (D4 te t):=by
 intro pos π s σ H Q I h;rw[hs];show ay _ _ (spliced ((ag,eval e X.env)::bZ pos (au es X.env))) _ _ s;refine Calls.spliced_cons (thn (ha π s σ H _ I h) ?_);rintro u s1 ⟨x,H1,I1,r1,q1⟩;exact thn (hr pos π s1 σ H1 _ I1 q1) λus s2⟨xs,H2,I2,r2,q2⟩=>⟨x::xs,H2,I2,.cons r1 r2,q2⟩
def tTup(t:TA):TE:=λσ H Q=>t σ H λxs H1=>xs.length<=sizeLine/\∀p,H1 p=aj->Q (.ref p) (upd H1 p (.tup xs))
def tLst(t:TA):TE:=λσ H Q=>t σ H λxs H1=>xs.length<=sizeLine/\∀p,H1 p=aj->Q (.ref p) (upd H1 p (.lst xs))
theorem NJ{x1}(h:PA X es t):PE X (.Tuple es x1 pos) (tTup t):=by
 intro π s σ H Q I hq;refine wpAny_Tuple_spliced (thn (h pos π s σ H _ I hq) λus s1⟨xs,H1,I1,r,z,q⟩=>⟨by rw[<-r.length];exact z,?_⟩);have hf:H1 s1.heap.objs.size=aj:=I1.hok.fresh (wf _);refine⟨.ref s1.heap.objs.size,upd H1 s1.heap.objs.size (.tup xs),I1.laid (t':=s1.toks) (λb u e=>wc _ e) (wf _) ?_,rfl,q _ hf⟩;exact⟨z,us,r,⟨_,wo _ rfl,rfl,_,rfl⟩⟩
theorem Kf(h:PA X es t):PE X (.List es pos) (tLst t):=by
 intro π s σ H Q I hq;refine wpAny_List_spliced (thn (h pos π s σ H _ I hq) λus s1⟨xs,H1,I1,r,z,q⟩=>⟨by rw[<-r.length];exact z,?_⟩);have hf:H1 s1.heap.objs.size=aj:=I1.hok.fresh (wf _);refine⟨.ref s1.heap.objs.size,upd H1 s1.heap.objs.size (.lst xs),I1.laid (t':=s1.toks) (λb u e=>wc _ e) (wf _) ?_,rfl,q _ hf⟩;exact⟨z,us,0,r,wo _ rfl⟩
end
abbrev Sp:=iD->Hp->VK->XK->Prop
abbrev CXT:=iq->Hp->Shared->XK->aC
structure Env0(P:aN)(w:aP)(K:aE)(mg:aF)(base:aX)(A:aU)(outer:iq)(s:Shared)(H:Hp):Prop where
 frames:A.frames=aa outer
 mod:Mod K mg base
 bs:∀b o,base.get? b=aa o->s.heap.get? b=aa o/\H b=aj
 bsz:base.objs.size<=s.heap.objs.size
 funs:s.heap.FunFrames base outer
 frf:∀b∈frs outer,H b=aj
 hok:HOk P w H s.heap
 bare:fV s.gens
def CE(outer:iq)(P:aN)(w:aP)(H:Hp)(s:Shared)(Q:VK)(u:Value)(s':Shared):Prop:=
 ∃v H',s'.os=s.os/\fV s'.gens/\Un (frs outer) [] H H' s.heap s'.heap/\HOk P w H' s'.heap/\RelV v u/\Q v H'
def CR(CX:CXT)(outer:iq)(P:aN)(w:aP)(H:Hp)(s:Shared)(Q:VK)(E:XK)(r:Result)(s':Shared):Prop:=
 match r with
 |.ok (.ret u)=>CE outer P w H s Q u s'
 |.ok _=>False
 |.error e=>CX outer H s E e s'
structure FnOk(P:aN)(w:aP)(K:aE)(mg:aF)(base:aX)(CX:CXT)(k:Nat)(f:Addr)(fd:az)(ps:ie)(sp:Sp):Prop where
 len:∀vs H Q E,sp vs H Q E->vs.length=ps.length
 run:∀(A:aU)(outer:iq)(s:Shared)(H:Hp)(args:Args)(us:aG)(vs:iD)(Q:VK)(E:XK),Room k A->Env0 P w K mg base A outer s H->BindsTo s fd args (ps.zip us)->Vals vs us->sp vs H Q E ->
  gj (model P w) A (.call (.ref f) args) (CR CX outer P w H s Q E) s
theorem FnOk.imp{P:aN}{w:aP}{K:aE}{mg:aF}{base:aX}{CX:CXT}{k:Nat}{f:Addr}{fd:az}{ps:ie}{sp sp':Sp}(F:FnOk P w K mg base CX k f fd ps sp)
  (h:∀vs H Q E,sp' vs H Q E->sp vs H Q E):FnOk P w K mg base CX k f fd ps sp':=
 ⟨λvs H Q E q=>F.len vs H Q E (h _ _ _ _ q),λA outer s H args us vs Q E hr he hb hv hs=>F.run A outer s H args us vs Q E hr he hb hv (h _ _ _ _ hs)⟩
theorem Env0.in1{P:aN}{w:aP}{K:aE}{mg:aF}{base:aX}{A:aU}{outer:iq}{s:Shared}{H:Hp}(e:Env0 P w K mg base A outer s H):
 Env0 P w K mg base A.in1 outer s H:=⟨e.frames,e.mod,e.bs,e.bsz,e.funs,e.frf,e.hok,e.bare⟩
section
variable {X:Cx}{π:aB}{σ:St}{H:Hp}{s s':Shared}
theorem Inv.env0(I:Inv X π σ H s):Env0 X.prog X.w X.K X.mg X.base X.A X.stack s H:=
 ⟨I.ok.frames,I.ok.mod,I.bs,wu I.ok.bsz I.sz,I.stack,I.stkFree,I.hok,I.bare⟩
theorem Inv.after{Q:VK}{u:Value}(I:Inv X π σ H s)(h:CE X.stack X.prog X.w H s Q u s'):EP X π σ Q u s':=by
 obtain⟨v,H',os,bare,un,hok,r,q⟩:=h;obtain⟨hh,g,d,t,os'⟩:=s';obtain rfl:os'=s.os:=os;exact⟨v,H',I.call (h':=hh) (g':=g) (d':=d) (t':=t) (ch:=[]) un hok bare (λb z=>aW z (by simp)),r,q⟩
end
def EC(sp:Sp)(dvs:iD)(E:XK)(t:TA):TE:=λσ H Q=>t σ H λvs H1=>sp (vs++dvs) H1 Q E
def Binds(K:aE)(fd:az)(ps:ie)(ds:aG):Prop:=
 ∀(s:Shared)(us:aG),K.In s.heap->(us++ds).length=ps.length->BindsTo s fd ⟨us,[]⟩ (ps.zip (us++ds))
theorem Binds.all{K:aE}{fd:az}{ps:ie}(h:∀us:aG,us.length=ps.length->fA fd ⟨us,[]⟩=pure (ps.zip us)):Binds K fd ps []:=λs us _ hl=>by
 rw[vd]at hl|-;exact .of_eq (h us hl)
def Ap(CX:CXT)(X:Cx)(E:XK):Prop:=∀(π:aB)(σ:St)(H:Hp)(s:Shared)(e:Value)(s':Shared),Inv X π σ H s->CX X.stack H s E e s'->X.xe e s'
section
variable {X:Cx}{CX:CXT}{k:Nat}{f C:Addr}{fd:az}{ps:ie}{sp:Sp}{dvs:iD}{ds:aG}{E:XK}{x m:Str}{p pos apos:Pos}{e o:aV}{es:ik}{ta:TE}{t:TA}
theorem run_fn{π:aB}{σ:St}{H:Hp}{s:Shared}{Q:VK}{us:aG}{vs:iD}(F:FnOk X.prog X.w X.K X.mg X.base CX k f fd ps sp)(hr:Room k X.A)(hb:Binds X.K fd ps ds)(hd:Vals dvs ds)(hx:Ap CX X E)
  (I:Inv X π σ H s) (r:Vals vs us) (h:sp (vs++dvs) H Q E):ay (model X.prog X.w) X.A (call (.ref f) us) (EP X π σ Q) X.xe s:=by
 have r2:Vals (vs++dvs) (us++ds):=r.append hd;have hl:(us++ds).length=ps.length:=by rw[<-r2.length];exact F.len _ _ _ _ h
 refine gA (dE (F.run X.A X.stack s H ⟨us,[]⟩ (us++ds) (vs++dvs) Q E hr I.env0 (hb s us I.kIn hl) r2 h) λr s' hq=>?_);cases r with
 |error e=>exact hx π σ H s e s' I hq
 |ok fl=>
  cases fl with
  |ret u=>exact I.after hq
  |next=>exact cG hq
  |brk=>exact cG hq
  |cont=>exact cG hq
theorem E6(F:FnOk X.prog X.w X.K X.mg X.base CX k f fd ps sp)(hr:Room k X.A)(hg:Gl X x)(hm:X.mg x=aa (.ref f))(hk:cD X.K (.ref f)=ae)(hb:Binds X.K fd ps ds)(hd:Vals dvs ds)(hx:Ap CX X E)
  (ha:PA X (e::es) t) (hdb:(x==("__debug__":Str))=ag:=by decide) (he:au (e::es) X.env=(ag,eval e X.env)::au es X.env:=by rfl) (hpl:(bZ pos (au es X.env)).any (·.1)=ag:=by rfl) :
  PE X (.Call (.Name x p) (e::es) [] pos) (EC sp dvs E t):=by
 intro π s σ H Q I h;refine bU (CA I hg hm ?_ hdb);refine PySem.W.callWith_K (h₀:=X.base) I.ok.mod.kin hk (thn (ha pos π s σ H _ I h) λus s1⟨vs,H1,I1,r,q⟩=>⟨I1.kIn,?_⟩) he hpl;exact run_fn F hr hb hd hx I1 r q
end
def PK(X:Cx)(kws:List fL)(t:TA):Prop:=
 ∀(pos:Pos)(π:aB)(s:Shared)(σ:St)(H:Hp)(Q:iD->Hp->Prop),Inv X π σ H s->t σ H Q->ay (model X.prog X.w) X.A (evalAll ((dR pos (cP kws X.env)).map (·.2))) (AP X π σ Q) X.xe s
section
variable {X:Cx}{CX:CXT}{k:Nat}{f C:Addr}{fd:az}{ps ks:ie}{sp:Sp}{E:XK}{x m:Str}{p pos apos kpos:Pos}{e o:aV}{es:ik}{kws:List fL}{te ta:TE}{t tk:TA}{nm:Option Str}
theorem NK:PK X [] tNil:=λ_ _ _ _ H Q I h=>wpAny_evalAll_nil ⟨[],H,I,.nil,h⟩
theorem Kg(ha:PE X e te)(hr:PK X kws t):PK X (⟨nm,e,kpos⟩::kws) (D4 te t):=by
 intro pos π s σ H Q I h;show ay _ _ (evalAll ((do let v <-eval e X.env;standAt pos;pure v)::(dR pos (cP kws X.env)).map (·.2))) _ _ s;refine wpAny_evalAll_cons (ah (thn (ha π s σ H _ I h) λu s1⟨x,H1,I1,r1,q1⟩=>ah (fq (ao ?_))));exact thn (hr pos π s1 σ H1 _ I1 q1) λus s2⟨xs,H2,I2,r2,q2⟩=>⟨x::xs,H2,I2,.cons r1 r2,q2⟩
variable {g:aG->aG->aG}{gV:iD->iD->iD}
end
structure FnScope(N P:ie)(sc:Scope):Prop where
 kind:sc.kind=.function
 co:sc.isCoroutine=ag
 gen:sc.isGenerator=ag
 nd:N.Nodup
 pre:N.take P.length=P
 par:∀x∈P,sc.names.lookup x=aa .local\/sc.names.lookup x=aa .cell
 nofree:∀y∈sc.names,y.2 ≠ .free
theorem IB{kindOf:Str->Option bN}{x:Str}:∀{binds:List (Str×Value)}{m:aF},(∀v,(x,v)∉binds)->bindL kindOf binds m x=m x
 |[],_,_=>rfl
 | (n,v)::r,m,h=>by
  unfold bindL;rw[IB λw hw=>h w (wb _ hw)];split
  .have:x≠n:=by rintro rfl;exact h v wd
   simp[this]
  .rfl
theorem IC{kindOf:Str->Option bN}{x:Str}:∀{binds:List (Str×Value)}{m:aF},(∀v,(x,v)∉binds)->bindC kindOf binds m x=m x
 |[],_,_=>rfl
 | (n,v)::r,m,h=>by
  unfold bindC;rw[IC λw hw=>h w (wb _ hw)];split
  .rfl
  .have:x≠n:=by rintro rfl;exact h v wd
   simp[this]
theorem ID{kindOf:Str->Option bN}{x:Str}{v:Value}:∀{P:ie}{vs:aG}{i:Nat}{m:aF},P.Nodup->P[i]?=aa x->vs[i]?=aa v->kindOf x=aa .local ->
  bindL kindOf (P.zip vs) m x=aa v
 |[],_,_,_,_,h,_,_=>by simp at h
 |_::_,[],_,_,_,_,h,_=>by simp at h
 |p::P,w::vs,0,m,nd,h1,h2,hk=>by
  simp at h1 h2;subst h1;subst h2;show bindL kindOf ((p,w)::P.zip vs) m p=_;unfold bindL;rw[IB λv hv=>(vf.mp nd).1 (uQ hv).1,ap hk];simp
 |p::P,w::vs,i+1,m,nd,h1,h2,hk=>by
  show bindL kindOf ((p,w)::P.zip vs) m x=_;unfold bindL;exact ID (i:=i) (vf.mp nd).2 (by simpa using h1) (by simpa using h2) hk
theorem IE{kindOf:Str->Option bN}{x:Str}{v:Value}:∀{P:ie}{vs:aG}{i:Nat}{m:aF},P.Nodup->P[i]?=aa x->vs[i]?=aa v->kindOf x≠aa .local ->
  bindC kindOf (P.zip vs) m x=aa v
 |[],_,_,_,_,h,_,_=>by simp at h
 |_::_,[],_,_,_,_,h,_=>by simp at h
 |p::P,w::vs,0,m,nd,h1,h2,hk=>by
  simp at h1 h2;subst h1;subst h2;show bindC kindOf ((p,w)::P.zip vs) m p=_;unfold bindC;rw[IC λv hv=>(vf.mp nd).1 (uQ hv).1,ax hk];simp
 |p::P,w::vs,i+1,m,nd,h1,h2,hk=>by
  show bindC kindOf ((p,w)::P.zip vs) m x=_;unfold bindC;exact IE (i:=i) (vf.mp nd).2 (by simpa using h1) (by simpa using h2) hk
def start(N:ie)(vs:iD):St:=vs.map aa++br (N.length-vs.length) aj
def cxOf(CX:CXT)(P:aN)(w:aP)(K:aE)(mg:aF)(base:aX)(N:ie)(qual:Str)(scope:Scope)(f:Addr)(cd:Value)(A:aU)(outer:iq)(s:Shared)(H:Hp)(E:XK):Cx where
 prog:=P
 w:=w
 K:=K
 mg:=mg
 base:=base
 A:=A.deeper (cz qual scope s.heap.objs.size f cd)
 N:=N
 s₀:=s
 H₀:=H
 env:=cz qual scope s.heap.objs.size f cd
 outer:=outer
 stack:=cz qual scope s.heap.objs.size f cd::outer
 ex:=[]
 calm:=ae
 fn:=λ_=>ae
 pn:=[]
 xe:=λe s'=>ay (model P w) (A.deeper (cz qual scope s.heap.objs.size f cd)) (leaving (cz qual scope s.heap.objs.size f cd) e) (λ_ s''=>CX outer H s E e s'') (λe' s''=>CX outer H s E e' s'') s'
theorem LI{sc:Scope}{n:Nat}{x:Str}(h:sc.names.lookup x=aa .cell):∃c,(be n sc.names []).lookup x=aa c:=by
 have q:=dJ sc.names n [] (.inl h);exact uq.mp q
theorem IF{CX:CXT}{P:aN}{w:aP}{K:aE}{mg:aF}{base:aX}{N ps:ie}{qual:Str}{scope:Scope}{f:Addr}{cd:Value}{A:aU}{outer:iq}{s s1:Shared}{H:Hp}{E:XK}{us:aG}{vs:iD}
   (S:FnScope N ps scope) (hd:A.handled=aj) (e0:Env0 P w K mg base A outer s H) (hl:vs.length=ps.length) (r:Vals vs us)
   (x:InCallC s s.heap.objs.size (bindL (cz qual scope s.heap.objs.size f cd).kindOf (ps.zip us) λ_=>aj) (be (s.heap.objs.size+1) scope.names []) (bindC (cz qual scope s.heap.objs.size f cd).kindOf (ps.zip us) λ_=>aj) s1) :
   Inv (cxOf CX P w K mg base N qual scope f cd A outer s H E) [] (start N vs) H s1:=by
 have hpl:ps.length<=N.length:=by have:=bV eO S.pre;rw[vg]at this;rfl'
 obtain⟨h1,tk,rfl,hk⟩:=x.done;have noA:∀b:Addr,b∉(cxOf CX P w K mg base N qual scope f cd A outer s H E).ex:=λb z=>aW (show b∈([]:ig)from z) (by simp);refine⟨⟨e0.mod,S.kind,rfl,rfl,wf _,λy z c h1 h2=>?_,λy hy=>?_,λy c _ h=>?_,λ_=>hd,Around.frames_deeper e0.frames,.inr ⟨rfl,rfl⟩,λb z=>aW z (noA b),e0.bs,e0.bsz,λb _ _=>noA b,λb z=>aW z (noA b),e0.funs,e0.frf⟩,
   rfl,e0.bare,Un.kept hk,⟨_,x.toInCall.ns,λi y v h1 h2 h3=>?_⟩,λy c h=>⟨_,x.cell y c h⟩,e0.hok.fresh (wf _),λy c h=>?_,λp hp=>aW (show p∈([]:aB)from hp) (by simp),e0.hok.kept hk,?_⟩
 .exact name_of_addr x.apart (bz h1) (bz h2)
 .have hy:scope.names.lookup y=aa .cell\/scope.names.lookup y=aa .free:=hy;rcases hy with hy|hy
  .exact LI hy
  .exact aW rfl (S.nofree _ (bz hy))
 .exact wN (x.above y c (bz h))
 .have hi:i<vs.length:=by
    unfold start at h2;by_cases hi:i<vs.length
    .exact hi
    .rw[wE (by simpa using hi)]at h2;rw[wV]at h2;split at h2<;>cases h2
  have ha:vs[i]?=aa v:=by
    unfold start at h2;rw[wJ (by simpa using hi),wx]at h2;cases e:vs[i]? with
    |none=>rw[e]at h2;cases h2
    |some a=>rw[e]at h2;cases h2;rfl
  obtain⟨u,hu,rv⟩:=r.get ha;have hp:ps[i]?=aa y:=by
    rw[<-S.pre,w01 ()];exact h1
  have ndP:ps.Nodup:=by rw[<-S.pre];exact S.nd.sublist (List.take_sublist _ _)
  refine⟨u,rv,?_⟩;rcases S.par y (vj hp)with k|k
  .exact .inl ⟨k,ID ndP hp hu k⟩
  .obtain⟨c,e⟩:=LI (n:=s.heap.objs.size+1) k;refine .inr ⟨.inl k,c,e,?_⟩;have q:=x.cell y c e;rw[IE ndP hp hu (by show scope.names.lookup y≠_;rw[k];decide)]at q;exact q
 .exact e0.hok.fresh (wN (x.above y c (bz h)))
 .unfold start;show _=N.length;rw[wz,we,vB];rfl'
theorem RL{CX:CXT}{P:aN}{w:aP}{K:aE}{mg:aF}{base:aX}{k:Nat}{f:Addr}{name qual:Str}{params:eR}{body:io}{scope:Scope}{dV kV doc pm cdv ct oc:Value}{an od:iB}
  {osl:Array (iA)} {N ps:ie} {sp:Sp} (lk:K.lookup f=aa ⟨oc,od,.func (bO name qual params body scope dV kV doc pm an cdv ct),osl⟩) (hcd:cX K cdv qual=ae) (S:FnScope N ps scope)
  (len:∀vs H Q E,sp vs H Q E->vs.length=ps.length)
  (hbody:∀(A:aU)(outer:iq)(s:Shared)(H:Hp)(vs:iD)(Q:VK)(E:XK),Room k (A.deeper (cz qual scope s.heap.objs.size f cdv))->sp vs H Q E ->
    ∃t,PSs (cxOf CX P w K mg base N qual scope f cdv A outer s H E) body t/\t { nx:=λ_ H'=>Q .non H',rt:=Q } (start N vs) H) :
  FnOk P w K mg base CX (k+1) f (bO name qual params body scope dV kV doc pm an cdv ct) ps sp:=by
 refine⟨len,λA outer s H args us vs Q E hr e0 hb r hsp=>?_⟩;have hl:=len _ _ _ _ hsp;have KX:K.In s.heap:=e0.mod.kin.keeps λb o e=>(e0.bs b o e).1;have lim:s.heap.NoLimit:=e0.mod.nolimit.keeps λb o e=>(e0.bs b o e).1;have hkind:∀y∈ps.zip us,scope.names.lookup y.1=aa .local\/(scope.names.lookup y.1=aa .cell/\((be (s.heap.objs.size+1) scope.names []).lookup y.1).isSome=ae):=λ⟨n,v⟩hy=>by
  rcases S.par n (uQ hy).1 with q|q
  .exact .inl q
  .exact .inr ⟨q,dJ _ _ _ (.inl q)⟩
 refine codeAny_call_function hr.depth (KX _ _ lk) rfl S.co S.gen rfl (PySem.W.codeRec_of KX hcd) (hb _ _ _ _ ?_);refine wpAny_newFunctionEnv_cells S.kind hkind λenv he s1 x=>?_;subst he;refine⟨lim.keeps x.toInCall.keep,codeAny_func ?_⟩;obtain⟨t,ht,hq⟩:=hbody A outer s H vs Q E (hr.deeper _) hsp;have I:Inv (cxOf CX P w K mg base N qual scope f cdv A outer s H E) [] (start N vs) H s1:=IF S hr.hd e0 hl r x;refine bt (ht [] s1 (start N vs) H _ I hq) (λfl s' hs=>?_) λe s' hs=>hs;have fin:∀{σ':St}{H':Hp}{v:V}{u:Value},Inv (cxOf CX P w K mg base N qual scope f cdv A outer s H E) [] σ' H' s'->RelV v u->Q v H'->CE outer P w H s Q u s':=
  λ{σ' H' v u}J rv q=>⟨v,H',J.os,J.bare,J.base,J.hok,rv,q⟩
 cases fl with
 |ret u=>
  obtain⟨v,σ',H',J,rv,q⟩:=hs;exact fin J rv q
 |next=>
  obtain⟨σ',H',J,q⟩:=hs;exact fin (v:=V.non) (u:=bM) J rfl q
 |brk=>
  obtain⟨_,_,_,q⟩:=hs;exact cG q
 |cont=>
  obtain⟨_,_,_,q⟩:=hs;exact cG q
section
variable {X:Cx}{x:Str}{p pos:Pos}{e:aV}{es:ik}{t:TA}{id T:String}{r:iD->Hp->VK->Prop}
def tCB(r:iD->Hp->VK->Prop)(t:TA):TE:=λσ H Q=>t σ H λvs H1=>r vs H1 Q
theorem CB(hc:Ao X (.builtin id) r)(hg:Gl X x)(hm:X.mg x=aj)(hv:bF x=aa (.builtin id))(ha:PA X (e::es) t)(hn:x ≠ "__name__":=by decide)(hdb:(x==("__debug__":Str))=ag:=by decide)
  (he:au (e::es) X.env=(ag,eval e X.env)::au es X.env:=by rfl) (hpl:(bZ pos (au es X.env)).any (·.1)=ag:=by rfl):PE X (.Call (.Name x p) (e::es) [] pos) (tCB r t):=by
 intro π s σ H Q I h;refine bU (V4 I hg hm hv ?_ hn hdb);exact PyProof.Rows.callWith_builtin1 (thn (ha pos π s σ H _ I h) λus s1⟨vs,H1,I1,r1,q1⟩=>hc π s1 σ H1 vs us Q I1 r1 q1) he hpl
theorem Bb(hc:Ao X (.type T) r)(hg:Gl X x)(hm:X.mg x=aj)(hv:bF x=aa (.type T))(ha:PA X (e::es) t)(hn:x ≠ "__name__":=by decide)(hdb:(x==("__debug__":Str))=ag:=by decide)
  (he:au (e::es) X.env=(ag,eval e X.env)::au es X.env:=by rfl) (hpl:(bZ pos (au es X.env)).any (·.1)=ag:=by rfl):PE X (.Call (.Name x p) (e::es) [] pos) (tCB r t):=by
 intro π s σ H Q I h;refine bU (V4 I hg hm hv ?_ hn hdb);exact cq (thn (ha pos π s σ H _ I h) λus s1⟨vs,H1,I1,r1,q1⟩=>hc π s1 σ H1 vs us Q I1 r1 q1) he hpl
end
end L2
namespace HT
def lexLt:aH->aH->Bool
 |[],[]=>ag
 |[],_::_=>ae
 |_::_,[]=>ag
 |x::xs,y::ys=>if x=y then lexLt xs ys else decide (x<y)
theorem lexLt_cons(x y:Int)(xs ys:aH):lexLt (x::xs) (y::ys)=if x=y then lexLt xs ys else decide (x<y):=rfl
theorem lexLt_nil_nil:lexLt [] []=ag:=rfl
theorem lexLt_nil_cons(y:Int)(ys:aH):lexLt [] (y::ys)=ae:=rfl
theorem lexLt_cons_nil(x:Int)(xs:aH):lexLt (x::xs) []=ag:=rfl
theorem eqAt_int(A:aU)(s:Shared)(a:Int)(t:Tok)(c:Int)(u:Tok):∃e,SeqAt.EqAt A s (.int a t) (.int c u) e/\(e=ae↔a=c):=
 ⟨(a==c),SeqAt.EqAt.int_int a t c u,by simp⟩
theorem rcLt_int(A:aU)(s:Shared)(a:Int)(t:Tok)(c:Int)(u:Tok)(prog:aN)(w:aP)(E:aC)(Q:aC)(h:Q (.bool (decide (a<c))) s):
  ay (model prog w) A (richCompare .Lt (.int a t) (.int c u)) Q E s:=
 (PyProof.Rows.lt_int h:ay (model prog w) A (bK .Lt (.int a t) (.int c u)) Q E s)
section
open PySem.SeqAt
open PySem.AutoSeq1 (wpAny_loadPart')
open PySem.MeetsSeq PySem.MeetsSeq2 PySem.MeetsSeq3
end
section
variable {prog:aN}{w:aP}{A:aU}{E:aC}{s:Shared}
def sIx(n d:Nat):iz->Nat
 |none=>d
 |some v=>if v<0 then(v+(n:Int)).toNat else min v.toNat n
end
end HT
namespace L2
abbrev TO:=St->Hp->(iz->Hp->Prop)->Prop
def PO(X:Cx)(e:Option aV)(t:TO):Prop:=
 ∀(π:aB)(s:Shared)(σ:St)(H:Hp)(Q:iz->Hp->Prop),Inv X π σ H s->t σ H Q ->
  ay (model X.prog X.w) X.A (evalPart e X.env) (λu s'=>∃o H',Inv X π σ H' s'/\IsPart u o/\Q o H') X.xe s
def Yn:TO:=λ_ H Q=>Q aj H
def tPart(t:TE):TO:=λσ H Q=>t σ H λx H1=>∃i,x=.int i/\Q (aa i) H1
theorem NL{ns:aH}:∀{us:aG},Vals (ns.map V.int) us->cR us ns:=by
 induction ns with
 |nil=>intro us r;rw[w0e]at r;cases r;exact .nil
 | cons n ns ih =>
  intro us r;rw[wj]at r;cases r with
  |cons r1 r2=>
   obtain⟨t,e⟩:=r1;subst e;exact .cons n t (ih r2)
section
variable {X:Cx}{e:aV}{te:TE}{lo hi:Option aV}{tl th:TO}{pos p2:Pos}
theorem Yo:PO X aj Yn:=by
 intro π s σ H Q I h;rw[evalPart_none];exact ao ⟨aj,H,I,.none,h⟩
theorem Yp(h:PE X e te):PO X (aa e) (tPart te):=by
 intro π s σ H Q I hw;rw[evalPart_some];refine thn (h π s σ H _ I hw) ?_;rintro u s1 ⟨x,H1,I1,r1,q1⟩;obtain⟨i,rfl,q⟩:=q1;obtain⟨t,rfl⟩:=r1;exact⟨aa i,H1,I1,.int i t,q⟩
def SlR(X:Cx)(r:V->iz->iz->Hp->VK->Prop):Prop:=
 ∀(π:aB)(s:Shared)(σ:St)(H:Hp)(x:V)(v vl vu:Value)(lo hi:iz)(sl:Addr)(Q:VK),Inv X π σ H s->RelV x v->s.heap.IsSliceOf sl vl vu .none->IsPart vl lo->IsPart vu hi->r x lo hi H Q ->
  ∃T id,typeLookup (.type T) "__getitem__"=pure (aa (.builtin id))/\s.TypeIs v T/\ay (model X.prog X.w) X.A (getItem v (.ref sl)) (EP X π σ Q) X.xe s
def tSl(r:V->iz->iz->Hp->VK->Prop)(te:TE)(tl th:TO):TE:=λσ H Q=>te σ H λx H1=>tl σ H1 λl H2=>th σ H2 λu H3=>r x l u H3 Q
theorem Ur{r:V->iz->iz->Hp->VK->Prop}(hr:SlR X r)(he:PE X e te)(hl:PO X lo tl)(hu:PO X hi th):PE X (.Subscript e (.Slice lo hi aj p2) pos) (tSl r te tl th):=by
 intro π s σ H Q I h;refine Subscript_ (thn (he π s σ H _ I h) ?_);rintro v s1 ⟨x,H1,I1,r1,q1⟩;refine wpAny_Slice (thn (hl π s1 σ H1 _ I1 q1) λvl s2⟨l,H2,I2,pl,q2⟩=>thn (hu π s2 σ H2 _ I2 q2) ?_);rintro vu s3 ⟨u,H3,I3,pu,q3⟩;rw[evalPart_none];refine ao ?_;have I4:Inv X π σ H3 { s3 with heap:=s3.heap.push { cls:=.type "slice",data:=.fields #[vl,vu,.none] } }:=I3.kept (t':=s3.toks) λb ob q=>wc _ q;obtain⟨T,id,hT,ht,hg⟩:=hr π { s3 with heap:=s3.heap.push { cls:=.type "slice",data:=.fields #[vl,vu,.none] } } σ H3 x v vl vu l u s3.heap.objs.size Q I4 r1 (Heap.IsSliceOf.new ..) pl pu q3;show ay (model X.prog X.w) X.A (subscriptTail e (.Slice lo hi aj p2) v (.ref s3.heap.objs.size)) (EP X π σ Q) X.xe { s3 with heap:=s3.heap.push { cls:=.type "slice",data:=.fields #[vl,vu,.none] } };exact tail_any (ops:=[.ref s3.heap.objs.size,v]) ht hT hg (by with_unfolding_all rfl)
def cutV(xs:iD)(lo hi:iz):iD:=(xs.drop (HT.sIx xs.length 0 lo)).take (HT.sIx xs.length xs.length hi-HT.sIx xs.length 0 lo)
theorem LJ(xs:iD)(lo hi:iz):(cutV xs lo hi).length<=xs.length:=by
 unfold cutV;rw[vg,List.length_drop];rfl'
end
def ixN(n:Nat)(i:Int):Option Nat:=if 0<=i then(if i<n then aa i.toNat else aj) else if -(n:Int)<=i then aa (i+n).toNat else aj
def atI{α:Type}(xs:List α)(i:Int):Option α:=(ixN xs.length i).bind λj=>xs[j]?
theorem RM{n:Nat}{i:Int}{j:Nat}(h:ixN n i=aa j):seqIndex? i n=aa j/\j<n /\ -(n:Int)<=i/\i<n:=by
 unfold ixN at h;by_cases h0:0<=i
 .rw[ap h0]at h;by_cases h1:i<n
  .rw[ap h1]at h;have e:i.toNat=j:=aM h;exact⟨by rw[seqIndex_of h0 h1,e],(),(),h1⟩
  .rw[ax h1]at h;cases h
 .rw[ax h0]at h;by_cases h1 : -(n:Int)<=i
  .rw[ap h1]at h;have e:(i+n).toNat=j:=aM h;exact⟨by rw[seqIndex_neg () h1,e],(),h1,()⟩
  .rw[ax h1]at h;cases h
theorem Kh{α:Type}{xs:List α}{i:Int}{v:α}(h:atI xs i=aa v):∃j,seqIndex? i xs.length=aa j/\xs[j]?=aa v/\j<xs.length /\ -(xs.length:Int)<=i/\i<xs.length:=by
 unfold atI at h;cases e:ixN xs.length i with
 |none=>rw[e]at h;cases h
 |some j=>
  rw[e]at h;obtain⟨h1,h2,h3,h4⟩:=RM e;exact⟨j,h1,h,h2,h3,h4⟩
theorem CC{α:Type}{xs:List α}{j:Nat}{v:α}(h:xs[j]?=aa v):atI xs (j:Int)=aa v:=by
 have hj:j<xs.length:=(wr.mp h).1;have e:ixN xs.length (j:Int)=aa j:=by
  unfold ixN;rw[ap (),ap ()];simp
 unfold atI;rw[e];exact h
def Ki(b:aV):Prop:=∀o i,subscripted b ag o i=operate [o,i] (getItem o i)
def IxR(X:Cx)(r:R2):Prop:=
 ∀(value slice:aV)(π:aB)(s:Shared)(σ:St)(H:Hp)(x y:V)(v u:Value)(Q:VK),Inv X π σ H s->RelV x v->RelV y u->r x y H Q ->
  subscripted slice ag v u=operate [v,u] (getItem v u)->ay (model X.prog X.w) X.A (subscriptTail value slice v u) (EP X π σ Q) X.xe s
def MtR(X:Cx)(id:String)(r:V->iD->Hp->VK->Prop):Prop:=
 ∀(π:aB)(s:Shared)(σ:St)(H:Hp)(x:V)(xs:iD)(v:Value)(us:aG)(Q:VK),Inv X π σ H s->RelV x v->Vals xs us->r x xs H Q ->
  ay (model X.prog X.w) X.A (call (.builtin id) (v::us)) (EP X π σ Q) X.xe s
section
variable {X:Cx}{a b:aV}{ta tb:TE}{pos:Pos}
theorem IxR.or{r r':R2}(h:IxR X r)(h':IxR X r'):IxR X (λx y H Q=>r x y H Q\/r' x y H Q):=by
 intro value slice π s σ H x y v u Q I rx ry q hs;rcases q with q|q
 .exact h value slice π s σ H x y v u Q I rx ry q hs
 .exact h' value slice π s σ H x y v u Q I rx ry q hs
theorem RN{r:R2}(hr:IxR X r)(ha:PE X a ta)(hb:PE X b tb)(hs:Ki b):PE X (.Subscript a b pos) (tOp r ta tb):=by
 intro π s σ H Q I h;exact Subscript_ (binT ha hb I h λv u s2 x y H2 I2 rx ry q=>hr a b π s2 σ H2 x y v u Q I2 rx ry q (hs _ _))
def rIxL(K:aE):R2:=λx y H Q=>∃p xs i v,x=.ref p/\y=.int i/\SqL K H p xs/\atI xs i=aa v/\Q v H
def rIxT(K:aE):R2:=λx y H Q=>∃p xs i v,x=.ref p/\y=.int i/\SqT K H p xs/\atI xs i=aa v/\Q v H
def rIxS:R2:=λx y H Q=>∃z i c,x=.str z/\y=.int i/\z.length<=sizeLine/\atI z.cps.toList i=aa c/\Q (.str ⟨#[c]⟩) H
theorem Yq:IxR X (rIxL X.K):=by
 intro value slice π s σ H x y v u Q I rx ry h hs;obtain⟨p,xs,i,z,rfl,rfl,hq,he,q⟩:=h;cases rx;obtain⟨t,rfl⟩:=ry;obtain⟨its,r,pl,hz⟩:=I.list hq;obtain⟨j,h1,h2,h3,h4,h5⟩:=Kh he;obtain⟨w,ew,rw'⟩:=r.get h2;have hl:=r.length;have hn:=DA;have fin:EP X π σ Q w s:=⟨z,H,I,rw',q⟩;by_cases h0:0<=i
 .have hj:i.toNat=j:=by
   rw[seqIndex_of h0 h5]at h1;exact aM h1
  exact item_listR pl.isList h0 () (by rw[hj];simpa using ew) fin hs
 .have hj:(i+(its.toArray.size:Int)).toNat=j:=by
   rw[seqIndex_neg () h4]at h1;rw[wq,<-hl];exact aM h1
  exact subscriptTail_builtinR (x:=w) pl.isList.typeIs slot_list_getitem.lookup
   (wpAny_getItem_list_neg (Q:=λr s'=>r=w/\EP X π σ Q r s') pl.isList () (by rw[wq]<;>rfl') () (by rw[hj];simpa using ew) ⟨rfl,fin⟩) hs
theorem Kj:IxR X (rIxT X.K):=by
 intro value slice π s σ H x y v u Q I rx ry h hs;obtain⟨p,xs,i,z,rfl,rfl,hq,he,q⟩:=h;cases rx;obtain⟨t,rfl⟩:=ry;obtain⟨its,r,pl,hz⟩:=I.tuple hq;obtain⟨j,h1,h2,h3,h4,h5⟩:=Kh he;obtain⟨w,ew,rw'⟩:=r.get h2;have hl:=r.length;have hn:=DA;have fin:EP X π σ Q w s:=⟨z,H,I,rw',q⟩;exact subscriptTail_builtinR (x:=w) pl.typeIs slot_tuple_getitem.lookup
  (getItem_tuple (j:=j) (Q:=λr s'=>r=w/\EP X π σ Q r s') pl () () (by rw[wq,<-hl];exact h1) (by simpa using ew) ⟨rfl,fin⟩) hs
theorem ix_str:IxR X rIxS:=by
 intro value slice π s σ H x y v u Q I rx ry h hs;obtain⟨z,i,c,rfl,rfl,hz,he,q⟩:=h;obtain⟨t,rfl⟩:=rx;obtain⟨t',rfl⟩:=ry;obtain⟨j,h1,h2,h3,h4,h5⟩:=Kh he;have hl:z.cps.toList.length=z.length:=by simp[Str.length]
 rw[hl]at h1 h4 h5;have hn:=DA;exact tail_any (typeIs_str s z t) slot_str_getitem.lookup (getItem_str (c:=c) (by
  have e1:decide (i < -(2^63:Int))=ag:=aK ();have e2:decide (i≥2^63)=ag:=aK ();rw[e1,e2,Bool.or_false]) (by rw[h1];simpa using h2) ⟨.str ⟨#[c]⟩,H,I.tok _,⟨_,rfl⟩,q⟩) hs
def rIx(K:aE):R2:=λx y H Q=>rIxL K x y H Q\/rIxT K x y H Q\/rIxS x y H Q
theorem ix_seq:IxR X (rIx X.K):=Yq.or (Kj.or ix_str)
theorem NM(its:aG)(n j:Nat)(u:Value):bj (·.setIfInBounds j u) { cls:=.type "list",data:=.seq its.toArray n }={ cls:=.type "list",data:=.seq (its.set j u).toArray n }:=by
 simp[bj]
theorem Inv.lst{π:aB}{σ:St}{H:Hp}{s:Shared}{p:Addr}{xs:iD}(I:Inv X π σ H s)(h:H p=aa (.lst xs)):
  ∃(its:aG)(n:Nat),Vals xs its/\s.heap.get? p=aa { cls:=.type "list",data:=.seq its.toArray n }/\xs.length<=sizeLine:=by
 obtain⟨z,its,n,r,e⟩:=I.hok p _ h;exact⟨its,n,r,e,z⟩
theorem Inv.lstUpd{π:aB}{σ:St}{H:Hp}{s:Shared}{p:Addr}{xs ys:iD}{its its':aG}{n n':Nat}{f:Obj->Obj}(I:Inv X π σ H s)(h:H p=aa (.lst xs))
  (ho:s.heap.get? p=aa { cls:=.type "list",data:=.seq its.toArray n }) (hf:f { cls:=.type "list",data:=.seq its.toArray n }={ cls:=.type "list",data:=.seq its'.toArray n' }) (r:Vals ys its') (hz:ys.length<=sizeLine) (t:Nat) :
  Inv X π σ (upd H p (.lst ys)) { s with heap:=s.heap.update p f,toks:=t }:=by
 have e:(s.heap.update p f).get? p=aa { cls:=.type "list",data:=.seq its'.toArray n' }:=by
  rw[vU f ho (by rw[hf]<;>rfl),hf]
 refine I.write (x:=p) (e:=p) (by rw[h];trivial) (.inl rfl) (λb u hb q=>(vv _ _ (bQ hb)).trans q) ⟨_,e⟩ ?_;exact⟨hz,its',n',r,e⟩
def rSetL:V->V->V->Hp->(Hp->Prop)->Prop:=λo i v H Q=>∃p xs k j,o=.ref p/\i=.int k/\H p=aa (.lst xs)/\ixN xs.length k=aa j/\Q (upd H p (.lst (xs.set j v)))
theorem Us:PSet X rSetL:=by
 intro π s σ H o i v ov iv u Q I ro ri rv h;obtain⟨p,xs,k,j,rfl,rfl,hp,hj,q⟩:=h;cases ro;obtain⟨t,rfl⟩:=ri;obtain⟨its,n,r,ho,hz⟩:=I.lst hp;obtain⟨h1,h2,h3,h4⟩:=RM hj;have hl:=r.length;have hn:=DA;have I':Inv X π σ (upd H p (.lst (xs.set j v))) { s with heap:=s.heap.update p (bj (·.setIfInBounds j u)) }:=
   I.lstUpd hp ho (NM its n j u) (r.set rv j) (by rw[wG];exact hz) s.toks
 by_cases h0:0<=k
 .have hk:k.toNat=j:=by
   rw[seqIndex_of h0 h4]at h1;exact aM h1
  exact PySem.W.ki_setAt ho h0 () (by rw[wq,<-hl];exact h4) (by rw[hk];exact⟨_,I',q⟩)
 .have hk:(k+(its.toArray.size:Int)).toNat=j:=by
   rw[seqIndex_neg () h3]at h1;rw[wq,<-hl];exact aM h1
  exact PySem.W.ki_setBack ho () (by rw[wq,<-hl];exact h3) () (by rw[hk];exact⟨_,I',q⟩)
theorem Kk(lo hi:iz)(n:Nat):(eF lo hi aj n).1=((HT.sIx n 0 lo:Nat):Int)/\(eF lo hi aj n).2.1=((HT.sIx n n hi:Nat):Int)/\(eF lo hi aj n).2.2=1:=by
 refine⟨?_,?_,rfl⟩
 .cases lo with
  |none=>simp[eF,HT.sIx]
  |some i=>
   simp only[eF,HT.sIx,w0P,show(1:Int) > 0 by decide,if_true];by_cases h:i<0
   .simp only[h,if_true]<;>rfl'
   .simp only[h,if_false]<;>rfl'
 .cases hi with
  |none=>simp[eF,HT.sIx]
  |some i=>
   simp only[eF,HT.sIx,w0P,show(1:Int) > 0 by decide,if_true];by_cases h:i<0
   .simp only[h,if_true]<;>rfl'
   .simp only[h,if_false]<;>rfl'
theorem Il(its:aG)(lo hi:iz):slicePick its.toArray lo hi aj=((its.drop (HT.sIx its.length 0 lo)).take (HT.sIx its.length its.length hi-HT.sIx its.length 0 lo)).toArray:=by
 obtain⟨h1,h2,h3⟩:=Kk lo hi its.toArray.size;unfold slicePick;rw[h1,h2,h3];simp only[sliceRange_one,pick_run,wq]<;>rfl
def rSlL(K:aE):V->iz->iz->Hp->VK->Prop:=λx lo hi H Q=>∃a xs,x=.ref a/\SqL K H a xs/\∀p,H p=aj->Q (.ref p) (upd H p (.lst (cutV xs lo hi)))
theorem Yr:SlR X (rSlL X.K):=by
 intro π s σ H x v vl vu lo hi sl Q I rx hs pl pu h;obtain⟨a,xs,rfl,hx,q⟩:=h;cases rx;obtain⟨its,r,ht,hz⟩:=I.list hx;have hlen:=r.length;refine⟨"list",_,slot_list_getitem.lookup,ht.isList.typeIs,?_⟩;refine wpAny_getItem_list_slice ht.isList hs pl pu .none (by simp) ?_ (by rw[wq]<;>rfl');rw[Il,<-hlen];refine⟨.ref s.heap.objs.size,_,I.laid (t':=s.toks) (o:=.lst (cutV xs lo hi)) (λb ob q=>wc _ q) (wf _) ?_,rfl,q _ (I.hok.fresh (wf _))⟩;exact⟨wu (LJ xs lo hi) hz,_,0,(r.drop (HT.sIx xs.length 0 lo)).take (HT.sIx xs.length xs.length hi-HT.sIx xs.length 0 lo),wo _ rfl⟩
theorem Y2:Ao X (.builtin "len") (λxs H Q=>∃p ys,xs=[.ref p]/\(SqL X.K H p ys\/SqT X.K H p ys)/\Q (.int ys.length) H):=by
 intro π s σ H xs us Q I r h;obtain⟨p,ys,rfl,hq,q⟩:=h;obtain⟨u,rfl,rx⟩:=Iz r;cases rx;have hn:=DA;rcases hq with hq|hq
 .obtain⟨its,r',pl,hz⟩:=I.list hq;have hlen:=r'.length;exact Calls.call_len_list pl.isList (by simp only[wq]<;>rfl') ⟨.int ys.length,H,I.tok _,⟨s.toks+1,by rw[wq,hlen]⟩,q⟩
 .obtain⟨its,r',pl,hz⟩:=I.tuple hq;have hlen:=r'.length;exact len_tuple pl (by simp only[wq]<;>rfl') ⟨.int ys.length,H,I.tok _,⟨s.toks+1,by rw[wq,hlen]⟩,q⟩
theorem CD:Ao X (.type "list") (λxs H Q=>∃p ys,xs=[.ref p]/\(SqL X.K H p ys\/SqT X.K H p ys)/\∀l,H l=aj->Q (.ref l) (upd H l (.lst ys))):=by
 intro π s σ H xs us Q I r h;obtain⟨p,ys,rfl,hq,q⟩:=h;obtain⟨u,rfl,rx⟩:=Iz r;cases rx;have fin:∀(its:aG),Vals ys its->ys.length<=sizeLine->∀(h':aX)(c':Nat),(∀b o',s.heap.get? b=aa o'->h'.get? b=aa o') ->
    h'.get? s.heap.objs.size=aa { cls:=.type "list",dict:=aj,data:=.seq its.toArray c',slots:=#[] }->EP X π σ Q (.ref s.heap.objs.size) { s with heap:=h' }:=λits r' hz h' c' kp e=>
   ⟨.ref s.heap.objs.size,_,I.laid (t':=s.toks) kp (wf _) (show ObjOk X.prog X.w _ h' _ (.lst ys) from⟨hz,its,c',r',e⟩),rfl,q _ (I.hok.fresh (wf _))⟩
 rcases hq with hq|hq
 .obtain⟨its,r',pl,hz⟩:=I.list hq;have hlen:=r'.length;obtain⟨o,ho,hc,n,hd⟩:=pl.isList;exact call_list_seq p (.inl rfl) ho hc hd (λh' c' kp e=>fin its r' hz h' c' kp e) (by simp only[wq]<;>rfl')
 .obtain⟨its,r',pl,hz⟩:=I.tuple hq;have hlen:=r'.length;obtain⟨o,ho,hc,n,hd⟩:=pl;exact call_list_seq p (.inr rfl) ho hc hd (λh' c' kp e=>fin its r' hz h' c' kp e) (by simp only[wq]<;>rfl')
theorem G3:Ao X (.type "tuple") (λxs H Q=>∃p ys,xs=[.ref p]/\((SqL X.K H p ys/\∀l,H l=aj->Q (.ref l) (upd H l (.tup ys)))\/(SqT X.K H p ys/\Q (.ref p) H))):=by
 intro π s σ H xs us Q I r h;obtain⟨p,ys,rfl,h⟩:=h;obtain⟨u,rfl,rx⟩:=Iz r;cases rx;rcases h with⟨hq,q⟩|⟨hq,q⟩
 .obtain⟨its,r',pl,hz⟩:=I.list hq;have hlen:=r'.length;refine call_tuple_list pl.isList (λh' kp=>?_) (by simp only[wq]<;>rfl');have I1:Inv X π σ H { s with heap:=h' }:=I.kept (t':=s.toks) kp;have I2:Inv X π σ (upd H h'.objs.size (.tup ys)) { s with heap:=h'.push { cls:=.type "tuple",data:=.seq its.toArray } }:=
   I1.laid (t':=s.toks) (λb o e=>wc _ e) (wf _) (show ObjOk X.prog X.w _ _ _ (.tup ys) from⟨hz,its,r',IsTup.new _ _⟩)
  exact⟨.ref h'.objs.size,_,I2,rfl,q _ (I1.hok.fresh (wf _))⟩
 .obtain⟨its,r',pl,hz⟩:=I.tuple hq;exact call_tuple_same pl ⟨.ref p,H,I,rfl,q⟩
def tyV(K:aE)(T:String)(x:V)(H:Hp):Prop:=match x with
 |.str _=>T ="str"
 |.int _=>T ="int"
 |.ref p=>(T ="list" /\ ∃xs,SqL K H p xs)\/(T ="tuple" /\ ∃o,K.lookup p=aa o/\o.cls=.type "tuple" /\ o.dict=aj) \/
  (T ="dict" /\ ((∃kvs,H p=aa (.dK kvs))\/∃kvs,H p=aa (.dT kvs)))\/(T ="set" /\ ∃S n,H p=aa (.set S n))
 |_=>False
theorem tyV_is{π:aB}{σ:St}{H:Hp}{s:Shared}{T:String}{x:V}{v:Value}(I:Inv X π σ H s)(r:RelV x v)(ty:tyV X.K T x H):
  s.TypeIs v T/\∀a,v=.ref a->∃ob,s.heap.get? a=aa ob/\ob.dict=aj:=by
 cases x with
 |str z=>
  obtain⟨t,rfl⟩:=r;cases (show T ="str" from ty);exact⟨typeIs_str s z t,λ_ e=>nomatch e⟩
 |int i=>
  obtain⟨t,rfl⟩:=r;cases (show T ="int" from ty);exact⟨typeIs_int s i t,λ_ e=>nomatch e⟩
 |ref p=>
  cases r;rcases ty with⟨rfl,xs,hq⟩|⟨rfl,o,hk,hc,hd⟩|⟨rfl,hk⟩|⟨rfl,S,n,hk⟩
  .obtain⟨its,_,pl,_⟩:=I.list hq;refine⟨pl.isList.typeIs,λa e=>?_⟩;cases e;obtain⟨o,n,e,c,hd,_⟩:=pl;exact⟨o,e,hd⟩
  .refine⟨⟨o,I.kIn p o hk,hc⟩,λa e=>?_⟩;cases e;exact⟨o,I.kIn _ o hk,hd⟩
  .have z:∃o,s.heap.get? p=aa o/\o.ExactDict:=by
    rcases hk with⟨kvs,hk⟩|⟨kvs,hk⟩
    .obtain⟨_,_,_,_,o,_,_,e,ex,_⟩:=I.hok p _ hk;exact⟨o,e,ex⟩
    .obtain⟨_,_,_,_,o,_,_,e,ex,_⟩:=I.hok p _ hk;exact⟨o,e,ex⟩
   obtain⟨o,e,ex⟩:=z;refine⟨⟨o,e,ex.1⟩,λa e2=>?_⟩;cases e2;exact⟨o,e,ex.2.1⟩
  .obtain⟨o,_,_,_,e,ex,_⟩:=I.hok p _ hk;refine⟨⟨o,e,ex.1⟩,λa e2=>?_⟩;cases e2;exact⟨o,e,ex.2.1⟩
 |_=>exact cG ty
def tBM(K:aE)(T:String)(r:V->iD->Hp->VK->Prop)(to:TE)(t:TA):TE:=λσ H Q=>to σ H λx H1=>tyV K T x H1/\t σ H1 λxs H2=>r x xs H2 Q
variable {o e:aV}{es:ik}{to:TE}{t:TA}{name:Str}{apos cpos:Pos}{T id:String}{r:V->iD->Hp->VK->Prop}
theorem RO(pa:PlainAttrs T)(slot:Slot T name id)(hty:typeOf (.builtin id)=pure (.type "method_descriptor"))(hm:MtR X id r)(ho:PE X o to)(ha:PA X (e::es) t)
  (hbase:attributeBase o name X.env (eval o X.env)=eval o X.env:=by rfl)
  (hfew:((backTo cpos (starEach (e::es) X.env)).all (fun x=>!x.1)&&(backToKw cpos (keywordEach [] X.env)).all (fun x=>x.1.isSome)
   && decide ((e::es).length+([]:List fL).length+(if([]:List fL).isEmpty then 0 else 1)<30))=ae:=by rfl)
  (hline:(apos.endLine==cpos.line)=ae:=by rfl) (hs:au (e::es) X.env=(ag,eval e X.env)::au es X.env:=by rfl) (hplain:(bZ cpos (au es X.env)).any (·.1)=ag:=by rfl) :
  PE X (.Call (.Attribute o name apos) (e::es) [] cpos) (tBM X.K T r to t):=by
 intro π s σ H Q I h;refine wpAny_Call_method_late hbase hfew hline rfl (thn (ho π s σ H _ I h) ?_);rintro v s1 ⟨x,H1,I1,r1,ty,q1⟩;obtain⟨h1,h2⟩:=tyV_is I1 r1 ty;refine⟨T,id,pa,slot,hty,h1,h2,?_⟩;have hA:=ha cpos π s1 σ H1 _ I1 q1;rw[hs]at hA|-;refine Calls.callWith_builtin (by show(ag||(bZ cpos (au es X.env)).any (·.1))=ag;rw[hplain]<;>rfl) (Calls.evalArgs_plain ?_);exact thn hA λus s2⟨vs,H2,I2,r2,q2⟩=>hm π s2 σ H2 x vs v us Q I2 r1 r2 q2
end
def MtM(X:Cx)(id:String)(r:V->iD->Hp->VK->Prop):Prop:=
 ∀(π:aB)(s:Shared)(σ:St)(H:Hp)(x:V)(xs:iD)(v:Value)(us:aG)(Q:VK),Inv X π σ H s->RelV x v->Vals xs us->r x xs H Q ->
  ay (model X.prog X.w) X.A (call (.builtin id) (v::us)) (EP X π σ Q) X.xe s
theorem Vals.zero:∀{us:aG},Vals [] us->us=[]
 |_,.nil=>rfl
theorem Vals.uncons{x:V}{xs:iD}{us:aG}(h:Vals (x::xs) us):∃u vs,us=u::vs/\RelV x u/\Vals xs vs:=by
 cases h with
 |cons r t=>exact⟨_,_,rfl,r,t⟩
theorem Vals.one{x:V}{us:aG}(h:Vals [x] us):∃u,us=[u]/\RelV x u:=by
 obtain⟨u,vs,e,r,t⟩:=h.uncons;rw[t.zero]at e;exact⟨u,e,r⟩
theorem Vals.two{x y:V}{us:aG}(h:Vals [x,y] us):∃u v,us=[u,v]/\RelV x u/\RelV y v:=by
 obtain⟨u,vs,e,r,t⟩:=h.uncons;obtain⟨v,e2,q⟩:=t.one;rw[e2]at e;exact⟨u,v,e,r,q⟩
section
variable {X:Cx}{π:aB}{σ:St}{H:Hp}{s:Shared}{l b:Addr}{xs ys zs:iD}
theorem Inv.lset{its its':aG}{n:Nat}{f:iu->iu}{t':Nat}(I:Inv X π σ H s)(hH:H l=aa (.lst xs))
  (e:s.heap.get? l=aa { cls:=.type "list",data:=.seq its.toArray n }) (hf:f its.toArray=its'.toArray) (hv:Vals ys its') (hz:ys.length<=sizeLine) :
  Inv X π σ (upd H l (.lst ys)) { s with heap:=s.heap.update l (bj f),toks:=t' }:=by
 have q:=PySem.IsL.update e f;rw[hf]at q;refine I.write (x:=l) (e:=l) (by rw[hH];exact trivial) (.inl rfl) (λb' u hb hu=>(vv s.heap (bj f) (bQ hb)).trans hu) ⟨_,q⟩ ?_;exact⟨hz,its',_,hv,q⟩
theorem Inv.lnew{its:aG}{t':Nat}(I:Inv X π σ H s)(hv:Vals ys its)(hz:ys.length<=sizeLine):
  Inv X π σ (upd H s.heap.objs.size (.lst ys)) { s with heap:=s.heap.push { cls:=.type "list",data:=.seq its.toArray },toks:=t' }:=
 I.laid (λ_ _ q=>wc _ q) (wf _) ⟨hz,its,0,hv,wo _ rfl⟩
theorem Inv.fresh(I:Inv X π σ H s):H s.heap.objs.size=aj:=I.hok.fresh (wf _)
theorem Inv.lstM(I:Inv X π σ H s)(hH:H l=aa (.lst xs)):xs.length<=sizeLine/\∃(its:aG)(n:Nat),Vals xs its/\xs.length=its.length/\s.heap.get? l=aa { cls:=.type "list",data:=.seq its.toArray n }:=by
 obtain⟨z,its,n,r,e⟩:=I.hok l _ hH;exact⟨z,its,n,r,r.length,e⟩
theorem Ut{n:Nat}(h:n<=sizeLine):fu n=ag:=by
 unfold fu;exact aK ()
end
section
variable {X:Cx}
def RP:V->iD->Hp->VK->Prop:=λx vs H Q=>∃l xs y,x=.ref l/\vs=[y]/\H l=aa (.lst xs)/\xs.length<sizeLine/\Q .non (upd H l (.lst (xs++[y])))
theorem DB:MtM X "list.append" RP:=by
 intro π s σ H x vs v us Q I rx rv h;obtain⟨l,xs,y,rfl,rfl,hH,hz,q⟩:=h;cases rx;obtain⟨u,rfl,ru⟩:=rv.one;obtain⟨z,its,n,r,hl,e⟩:=I.lstM hH;refine call_meets gE ⟨_,e,rfl⟩ F.entry_list_append (F.args_list_append_2 _ _) (PySem.list_append l its.toArray n u (by rw[wq];rfl')) ⟨e,?_⟩;refine⟨.non,_,I.lset (its':=its++[u]) hH e (by simp) (r.append (.cons ru .nil)) ?_,rfl,q⟩;rw[wz,w0k];rfl'
def RQ:V->iD->Hp->VK->Prop:=λx vs H Q=>∃l b xs zs,x=.ref l/\vs=[.ref b]/\H l=aa (.lst xs)/\H b=aa (.lst zs)/\xs.length+zs.length<=sizeLine/\Q .non (upd H l (.lst (xs++zs)))
theorem SX:MtM X "list.extend" RQ:=by
 intro π s σ H x vs v us Q I rx rv h;obtain⟨l,b,xs,zs,rfl,rfl,hH,hB,hz,q⟩:=h;cases rx;obtain⟨u,rfl,ru⟩:=rv.one;cases ru;obtain⟨z,its,n,r,hl,e⟩:=I.lstM hH;obtain⟨z2,its2,n2,r2,hl2,e2⟩:=I.lstM hB;have hsz:its.toArray.size+its2.toArray.size<=sizeLine:=by rw[wq,wq];rfl'
 have hlong:¬(!its.toArray.isEmpty&&fu (its.toArray.size+its2.toArray.size))=ae:=by
  rw[Ut hsz,Bool.and_false];exact wH
 refine call_meets F.slot_list_extend ⟨_,e,rfl⟩ F.entry_list_extend (F.args_list_extend_2 _ _)
  (AutoSeq1.list_extend_list_list_0 l its.toArray n b its2.toArray n2 hlong (by rw[wq];rfl') ()) ⟨e,e2,?_⟩
 refine⟨.non,_,I.lset (its':=its++its2) hH e (by simp) (r.append r2) ?_,rfl,q⟩;rw[wz];rfl'
def rCat:R2:=λx y H Q=>∃l b xs zs,x=.ref l/\y=.ref b/\H l=aa (.lst xs)/\H b=aa (.lst zs)/\xs.length+zs.length<=sizeLine/\∀p,H p=aj->Q (.ref p) (upd H p (.lst (xs++zs)))
theorem op_cat:OpR X (cL .Add) rCat:=by
 intro π s σ H x y v u Q I rx ry h;obtain⟨l,b,xs,zs,rfl,rfl,hH,hB,hz,q⟩:=h;cases rx;cases ry;obtain⟨z,its,n,r,hl,e⟩:=I.lstM hH;obtain⟨z2,its2,n2,r2,hl2,e2⟩:=I.lstM hB;refine PySem.P.add_list e e2 ?_ (by rw[wq,wq];rfl');have ea:its.toArray++its2.toArray=(its++its2).toArray:=by simp
 rw[ea];exact⟨.ref _,_,I.lnew (t':=s.toks) (r.append r2) (by rw[wz];rfl'),rfl,q _ I.fresh⟩
end
section
variable {prog:aN}{w:aP}{A:aU}{E:aC}{s:Shared}
end
section
variable {X:Cx}
end
end L2
namespace Att
open PySem.W PySem.Calls
theorem FD{P:bo}{h:aX}:∀(ns:aH)(vs:aG),WellAll P h vs (ns.map WData.int)->cR vs ns:=by
 intro ns
 induction ns with
 |nil=>
  intro vs w;rw[w0e]at w;cases w;exact .nil
 | cons n ns ih =>
  intro vs w;rw[wj]at w;cases w with
  |cons a b=>
   cases a;exact .cons _ _ (ih _ b)
theorem SY{l:gu}{n:Nat}(hn:l.most=aa n){P:bo}{h:aX}{args:List WData}{vals:aG}
  (hpre:l.row.toRowW.claim.pre args=ae) (hwl:WellAll P h vals args) :
  ∃a vs ns,vals=[ak a]/\args=[WData.list (ns.map WData.int)]/\h.get? a=aa { cls:=.type "list",data:=.seq vs.toArray }/\cR vs ns/\ns.length<=n:=by
 have hsh:WShape.hasAll [] args [.list .int]=ae:=(pre_splitW hpre).1;have hc:l.pre.holds [] { args:=args }=ae:=(pre_splitW hpre).2;obtain⟨d,r,rfl,h1,h2⟩:=hasAllW_cons hsh;obtain rfl:=hasAllW_nil h2;obtain⟨xs,rfl,h3⟩:=hasW_list h1;obtain⟨ns,rfl⟩:=items_int h3;have hlen:ns.length<=n:=by
  unfold OpenLaw.pre at hc;have h4:(WTm.not (.lt (.lit (.int (n:Int))) (.len (.arg 0)))).holds [] { args:=[.list (ns.map .int)] }=ae:=by
   have h4:=(holds_andW hc).1;rw[hn]at h4;exact h4
  have h5:=condW_of h4 (w_not (w_lt w_lit (w_len_list (w_arg rfl))));rw[we]at h5;refine uI λq=>?_;have q':(n:Int)<((ns.length:Nat):Int):=()
  first
   |(rw[aI q']at h5;exact aW h5 (by decide))
   |(simp at h5;rfl')
 cases hwl with
 |cons w1 w2=>
  cases w2;cases w1 with
  |list ho hall=>exact⟨_,_,ns,rfl,rfl,ho,FD ns _ hall,hlen⟩
theorem SZ(l:gu)(args:List WData):l.row.toRowW.claim.post args (.bool ae) args=ae:=
 postW_of (r:=l.row.toRowW) (X:=(ae==ae))
  (show WShape.has [] (.bool ae) .bool=ae by first|rfl|decide|simp[WShape.has,WShape.arms,WShape.armsAll])
  (show(WTm.eq .res (.lit (.bool ae))).value [] { args:=args,res:=aa (.bool ae),after:=args }=aa (.bool (ae==ae))from w_eq_bool (w_res rfl) w_lit) rfl
theorem attach_call{l:gu}{n:Nat}{q:aN}{loose:ie}{XP:(aF)->aX->Prop}{YP:aP->aX->Prop}{d:DefRec}
  (hn:l.most=aa n) (hdf:d.params.defaults=[])
  (call:∀(w:World) (s₀ s₁:Shared) (mg mb:Str→Option Value) (fa:Addr) (o:Obj) (pm cd doc:Value) (a:Addr) (vs:List Value) (ns:List Int),
   Ground q loose [] XP w s₀ mg mb s₁.heap->YP w s₁.heap ->
   s₁.heap.get? fa=aa o->o.data=.func (docDef d.name d.params d.body d.scope pm cd doc)->s₁.heap.CodeRec cd d.name->mg d.name=aa (.ref fa) ->
   s₁.heap.get? a=aa { cls:=.type "list",data:=.seq vs.toArray }->cR vs ns->ns.length<=n->s₁.gens=#[] ->
   gj (model l.prog w) gI (.call (.ref fa) ⟨[.ref a],[]⟩) (λr s'=>r=.ok (.ret (.bool ae))/\OldK s₁.heap s'.heap/\s'.os=s₁.os/\fV s'.gens) s₁) :
  WalkO q loose XP YP l.row.toRowW d [] (λf vs=>PySem.call f vs):=by
 intro w s₀ s₁ mg mb G Y fa o pm cd doc dV kV ho hd hcd hD hmg hg args vals as hpre hlay hrd hwl hlo;obtain rfl:dV=.none:=Dflts.none hD hdf;obtain rfl:kV=.none:=Dflts.noKw hD;obtain⟨a,vs,ns,rfl,rfl,hobj,hints,hlen⟩:=SY hn hpre hwl;refine enter_call (dE (call w s₀ s₁ mg mb fa o pm cd doc a vs ns G Y ho (fd_plain hd) hcd hmg hobj hints hlen hg) λr s' hq=>?_);obtain⟨rfl,h2,h3,h4⟩:=hq;exact⟨.inl ⟨.bool ae,.bool ae,[],rfl,λ_=>rfl,.bool ae,SZ l _,λ_=>⟨cT,λ_ hm=>(nomatch hm)⟩⟩,h2,h3,h4⟩
section
variable {prog:aN}{w:aP}{A:aU}{E:aC}{s:Shared}{K:Frag}
end
end Att
namespace L2
theorem IG:∀{vs:aG}{ns:aH},cR vs ns->Vals (ns.map V.int) vs
 |_,_,.nil=>.nil
 |_,_,.cons n t h=>.cons ⟨t,rfl⟩ (IG h)
def J1(s:aZ):eR:=match s with
 |.FunctionDef _ a _ _ _ _ _ _ _ _=>a
 |_=>{ posonlyargs:=[],args:=[],vararg:=aj,kwonlyargs:=[],kw_defaults:=[],kwarg:=aj,defaults:=[] }
def A3(s:aZ):io:=match s with
 |.FunctionDef _ _ b _ _ _ _ _ _ _=>b
 |_=>[]
def d7(s:aZ):Scope:=match s with
 |.FunctionDef _ _ _ _ _ _ sc _ _ _=>sc
 |_=>{ kind:=.function,names:=[],isGenerator:=ag,isCoroutine:=ag }
abbrev CX0:CXT:=λ_ _ _ _ _ _=>False
abbrev E0:XK:=λ_ _ _=>False
theorem Aq{X:Cx}:Ap CX0 X E0:=λ_ _ _ _ _ _ _ h=>h.elim
structure Fun(K:aE)(x qual:Str)(st:aZ)(f:Addr)(fd:az):Prop where
 ex:∃(oc:Value)(od:iB)(kV doc pm:Value)(an:iB)(cdv ct:Value)(osl:Array (iA)),
  fd=bO x qual (J1 st) (A3 st) (d7 st) .none kV doc pm an cdv ct/\K.lookup f=aa ⟨oc,od,.func fd,osl⟩/\cX K cdv qual=ae
 kp:cD K (.ref f)=ae
section
variable {P:aN}{w:aP}{K:aE}{mg:aF}{base:aX}
theorem Fun.ok{x qual:Str}{st:aZ}{f:Addr}{fd:az}{N ps:ie}{k:Nat}{sp:Sp}(F:Fun K x qual st f fd)(S:FnScope N ps (d7 st))(len:∀vs H Q E,sp vs H Q E->vs.length=ps.length)
  (hbody:∀(cdv:Value) (A:Around) (outer:List Env) (s:Shared) (H:Hp) (vs:List V) (Q:VK) (E:XK),Room k (A.deeper (envOfC qual (d7 st) s.heap.objs.size f cdv))→sp vs H Q E →
   ∃t,PSs (cxOf CX0 P w K mg base N qual (d7 st) f cdv A outer s H E).nox (A3 st) t/\t { nx:=λ_ H'=>Q .non H',rt:=Q } (start N vs) H):FnOk P w K mg base CX0 (k+1) f fd ps sp:=by
 obtain⟨oc,od,kV,doc,pm,an,cdv,ct,osl,rfl,lk,hcd⟩:=F.ex;refine RL lk hcd S len λA outer s H vs Q E hr hsp=>?_;obtain⟨t,h,q⟩:=hbody cdv A outer s H vs Q E hr hsp;exact⟨t,h.nox,q⟩
theorem Fun.binds{x qual:Str}{st:aZ}{f:Addr}{fd:az}{ps:ie}(F:Fun K x qual st f fd)
  (h:∀(kV doc pm:Value)(an:iB)(cdv ct:Value)(us:aG),us.length=ps.length->fA (bO x qual (J1 st) (A3 st) (d7 st) .none kV doc pm an cdv ct) ⟨us,[]⟩=pure (ps.zip us)):Binds K fd ps []:=by
 obtain⟨oc,od,kV,doc,pm,an,cdv,ct,osl,rfl,lk,hcd⟩:=F.ex;exact .all (h kV doc pm an cdv ct)
theorem Uu{x qual:Str}{st:aZ}{f:Addr}{oc:Value}{od an:iB}{osl:Array (iA)}{kV doc pm cdv ct:Value}(l:K.lookup f=aa ⟨oc,od,.func (bO x qual (J1 st) (A3 st) (d7 st) .none kV doc pm an cdv ct),osl⟩)
 (c:cX K cdv qual=ae) (k:cD K (.ref f)=ae):Fun K x qual st f (bO x qual (J1 st) (A3 st) (d7 st) .none kV doc pm an cdv ct):=⟨⟨oc,od,kV,doc,pm,an,cdv,ct,osl,rfl,l,c⟩,k⟩
end
section
variable {X:Cx}
theorem pv(i:Nat){x:Str}{pos:Pos}(hN:X.N[i]?=aa x:=by rfl)(hv:Vis X.env.scope x:=by first|exact aR rfl|exact bH (aR rfl)|exact bH (bH rfl))(hd:(x==("__debug__":Str))=ag:=by decide)
 (hcd:(x==("__classdict__":Str))=ag:=by decide):PE X (.Name x pos) (tVar i):=Dz hN hv hd hcd
end
def Same(H H':Hp):Prop:=∀b o,H b=aa o->H' b=aa o
theorem Same.refl(H:Hp):Same H H:=λ_ _ h=>h
theorem Same.trans{H H1 H2:Hp}(a:Same H H1)(b:Same H1 H2):Same H H2:=λc o h=>b c o (a c o h)
theorem Same.free{H H':Hp}(e:Same H H'){l:Addr}(h:H' l=aj):H l=aj:=by
 cases q:H l with
 |none=>rfl
 |some o=>
  rw[e l o q]at h;cases h
theorem Same.seq{K:aE}{H H':Hp}{a:Addr}{xs:iD}(e:Same H H')(h:SqL K H a xs):SqL K H' a xs:=by
 rcases h with(h|⟨o,h⟩)|h
 .exact .inl (.inl (e _ _ h))
 .exact .inl (.inr ⟨o,e _ _ h⟩)
 .exact .inr h
end L2
end
section
namespace L2
theorem Uv{x:Str}{lo:Nat}:∀(names:List (Str×bN))(n:Nat)(acc:List (Str×Addr))(c:Addr),lo<=n->(∀c,acc.lookup x=aa c->lo<=c)->(be n names acc).lookup x=aa c->lo<=c
 |[],_,_,_,_,h,e=>h _ e
 | (y,k)::r,n,acc,c,hn,h,e=>by
  unfold be at e;split at e
  .refine Uv r (n+1) _ c (vV hn) (λc' e'=>?_) e;rw[wL]at e';split at e'
   .cases e';exact hn
   .exact h c' e'
  .exact Uv r n acc c hn h e
theorem NN{x:Str}:∀(names:List (Str×bN))(n:Nat)(acc:List (Str×Addr))(c:Addr),names.lookup x=aa .cell->(be n names acc).lookup x=aa c->n<=c
 |[],_,_,_,h,_=>by cases h
 | (y,k)::r,n,acc,c,h,e=>by
  rw[wL]at h;unfold be at e;cases hb:x==y with
  |true=>
   rw[hb]at h;have hk:k=.cell:=by cases h;rfl
   subst hk;rw[ap (show(cZ==cZ)=ae from rfl)]at e;refine Uv r (n+1) _ c (Nat.le_succ _) (λc' e'=>?_) e;rw[wL,hb]at e';cases e';exact wf _
  |false=>
   rw[hb]at h;split at e
   .exact uv (NN r (n+1) _ c h e)
   .exact NN r n acc c h e
theorem NO{x:Str}:∀(names:List (Str×bN))(n:Nat)(acc:List (Str×Addr)),(∀y∈names,y.1=x->y.2 ≠ .cell)->(be n names acc).lookup x=acc.lookup x
 |[],_,_,_=>rfl
 | (y,k)::r,n,acc,h=>by
  unfold be;have hr:∀y∈r,y.1=x->y.2 ≠ .cell:=λz hz=>h z (wb _ hz);split
  .rename_i hk;rw[NO r (n+1) _ hr,wL];have hne:(x==y)=ag:=by
    cases hb:x==y with
    |false=>rfl
    |true=>exact aW (beq_iff_eq.mp hk) (h (y,k) wd (beq_iff_eq.mp hb).symm)
   rw[hne]
  .exact NO r n acc hr
theorem NP:∀(names:List (Str×bN))(n:Nat)(acc:List (Str×Addr))(p:Str×Addr),p∈be n names acc->n<=p.2\/p∈acc
 |[],_,_,_,e=>.inr e
 | (y,k)::r,n,acc,p,e=>by
  unfold be at e;split at e
  .rcases NP r (n+1) _ p e with q|q
   .exact .inl (uv q)
   .rcases wg.mp q with q|q
    .subst q;exact .inl (wf _)
    .exact .inr q
  .exact NP r n acc p e
theorem Gi:∀(names:List (Str×bN))(n:Nat)(acc:List (Str×Addr)),(∀p∈acc,p.2<n)->(acc.Pairwise λx y=>x.2≠y.2)->(be n names acc).Pairwise λx y=>x.2≠y.2
 |[],_,_,_,h=>h
 | (y,k)::r,n,acc,hl,h=>by
  unfold be;split
  .refine Gi r (n+1) _ (λp hp=>?_) (vc.mpr ⟨λp hp e=>?_,h⟩)
   .rcases wg.mp hp with q|q
    .subst q;exact wW _
    .exact w0H (hl p q)
   .have e':n=p.2:=e;have q:=hl p hp;rw[<-e']at q;exact aW q (wR _)
  .exact Gi r n acc hl h
theorem Gj:∀(names:List (Str×bN))(n:Nat)(acc:List (Str×Addr)),be n names acc=be n names []++acc
 |[],_,_=>rfl
 |(y,k)::r,n,acc=>by
  unfold be;split
  .rw[Gj r (n+1) ((y,n)::acc),Gj r (n+1) [(y,n)],wP];rfl
  .exact Gj r n acc
def w6(env:Env):List (Str×bN)->List (Str×Addr)->List (Str×Addr)
 |[],acc=>acc
 |(y,k)::r,acc=>if k==.free then w6 env r (match env.cells.lookup y with|some c=>(y,c)::acc|none=>acc) else w6 env r acc
theorem V5{env:Env}{x:Str}:∀(names:List (Str×bN))(acc:List (Str×Addr)),(∀c,acc.lookup x=aa c->env.cells.lookup x=aa c)->∀c,(w6 env names acc).lookup x=aa c->env.cells.lookup x=aa c
 |[],_,h=>h
 | (y,k)::r,acc,h=>by
  unfold w6;split
  .refine V5 r _ λc e=>?_;cases hy:env.cells.lookup y with
   |none=>rw[hy]at e;exact h c e
   |some d=>
    rw[hy]at e;dsimp only at e;rw[wL]at e;split at e
    .rename_i hb;cases e;rw[beq_iff_eq.mp hb];exact hy
    .exact h c e
  .exact V5 r acc h
theorem BV{env:Env}:∀(names:List (Str×bN))(acc:List (Str×Addr))(p:Str×Addr),p∈w6 env names acc->p∈acc\/env.cells.lookup p.1=aa p.2
 |[],_,_,h=>.inl h
 | (y,k)::r,acc,p,h=>by
  unfold w6 at h;split at h
  .rcases BV r _ p h with q|q
   .cases hy:env.cells.lookup y with
    |none=>rw[hy]at q;exact .inl q
    |some d=>
     rw[hy]at q;rcases wg.mp q with q|q
     .subst q;exact .inr hy
     .exact .inl q
   .exact .inr q
  .exact BV r acc p h
theorem Y3{env:Env}{x:Str}:∀(names:List (Str×bN))(acc:List (Str×Addr)),(acc.lookup x).isSome=ae->((w6 env names acc).lookup x).isSome=ae
 |[],_,h=>h
 | (y,k)::r,acc,h=>by
  unfold w6;split
  .refine Y3 r _ ?_;cases hy:env.cells.lookup y with
   |none=>exact h
   |some d=>
    show(gz x ((y,d)::acc)).isSome=ae;rw[wL];split
    .rfl
    .exact h
  .exact Y3 r acc h
theorem BW{env:Env}{x:Str}{c:Addr}:∀(names:List (Str×bN))(acc:List (Str×Addr)),names.lookup x=aa .free->env.cells.lookup x=aa c->((w6 env names acc).lookup x).isSome=ae
 |[],_,h,_=>by cases h
 | (y,k)::r,acc,h,hc=>by
  rw[wL]at h;unfold w6;cases hb:x==y with
  |true=>
   rw[hb]at h;have hk:k=.free:=by cases h;rfl
   subst hk;rw[ap (show(ck==ck)=ae from rfl)];refine Y3 r _ ?_;have hxy:x=y:=beq_iff_eq.mp hb;subst hxy;rw[hc];show(gz x ((x,c)::acc)).isSome=ae;rw[wL,hb];rfl
  |false=>
   rw[hb]at h;split
   .exact BW r _ h hc
   .exact BW r _ h hc
theorem BX{env:Env}:∀(names:List (Str×bN))(acc:List (Str×Addr))(f:Str×bN->List (Str×Addr)->Sem (ForInStep (List (Str×Addr)))),
  (∀name kind cs,f (name,kind) cs=if kind==.free then(do let a <-cellOf env name;pure (.yield ((name,a)::cs))) else pure (.yield cs)) ->
  (∀y∈names,y.2=.free->∃c,env.cells.lookup y.1=aa c)->forIn names acc f=(pure (w6 env names acc):Sem _)
 |[],acc,f,hf,h=>by rw[vN];rfl
 | (y,k)::r,acc,f,hf,h=>by
  have hr:∀z∈r,z.2=.free->∃c,env.cells.lookup z.1=aa c:=λz hz=>h z (wb _ hz);rw[vI,hf];unfold w6;by_cases hk:(k==ck)=ae
  .rw[ap hk,ap hk];obtain⟨c,hc⟩:=h (y,k) wd (beq_iff_eq.mp hk);have hc':env.cells.lookup y=aa c:=hc;have e:cellOf env y=(pure c:Sem Addr):=by unfold cellOf;rw[hc']
   rw[e,hc'];simp only[pure_bind];exact BX r _ f hf hr
  .rw[ax hk,ax hk];simp only[pure_bind];exact BX r _ f hf hr
theorem NQ{scope:Scope}{env:Env}(h:∀y∈scope.names,y.2=.free->∃c,env.cells.lookup y.1=aa c):gB scope env=pure (w6 env scope.names []):=by
 unfold gB;simp only[];rw[BX scope.names [] _ (λname kind cs=>by cases hk:kind==ck<;>simp[hk]) h];rfl
end L2
end
section
namespace L2
section
variable {prog:aN}{w:aP}{A:aU}{R:Result->Shared->Prop}{s:Shared}
theorem Kl{elt target iter:aV}{ifs:ik}{scope:Scope}{pos:Pos}{it acc:Value}{env:Env}(I:Nat->Shared->Prop)
  (turn:∀ n s,I n s→wpAny (model prog w) A (pyNext it) (fun r s₁=>match r with
   |none=>R (.ok .next) s₁
   | some v=>wpAny (model prog w) A (letOwnedTupleGo target it v) (fun _ s₁'=>wpAny (model prog w) A (assign target env v) (fun _ s₂ =>
    ay (model prog w) A (forIn ifs ae λc r=>if r=ae then do let ok <-isTrue c env (eval c env);pure (fk ok) else pure (fk r)) (λok s₃=>
     if ok=ae then ay (model prog w) A (eval elt env) (λx s₄=>
      ay (model prog w) A (call (.builtin "list.append") [acc,x]) (λ_ s₅=>∃m,m<n/\I m s₅) (notedBy (model prog w) A env λe s'=>R (.error e) s') s₄) (notedBy (model prog w) A env λe s'=>R (.error e) s') s₃
     else ∃m,m<n/\I m s₃) (notedBy (model prog w) A env λe s'=>R (.error e) s') s₂) (notedBy (model prog w) A env λe s'=>R (.error e) s') s₁')
    (notedBy (model prog w) A env λe s'=>R (.error e) s') s₁) (notedBy (model prog w) A env λe s'=>R (.error e) s') s)
  (n:Nat) (h:I n s) :
  gj (model prog w) A (.compLoop (.ListComp elt [⟨target,iter,ifs,0⟩] scope pos) 0 it acc env) R s:=by
 refine codeAny_loop rfl I (λn s hI=>?_) n h;show ay _ A ((compTurn (.ListComp elt [⟨target,iter,ifs,0⟩] scope pos) 0 it acc env).onRaise (λx=>do gW x env;theTreesLotGoes x)) _ _ s;refine wpAny_noted ?_;rw[compTurn_list];refine ah (fq (ah (bt (turn n s hI) (λr s₁ h₁=>?_) λ_ _ h'=>h')));cases r with
 |none=>exact ao h₁
 | some v =>
  refine ah (bt h₁ (λ_ s₁' h₁'=>?_) λ_ _ h'=>h');refine ah (bt h₁' (λ_ s₂ h₂=>ah (bt h₂ (λok s₃ h₃=>?_) λ_ _ h'=>h')) λ_ _ h'=>h');cases ok with
  |false=>exact ao ⟨rfl,h₃⟩
  |true=>
   exact ah (ah (bt h₃ (λx s₄ h₄=>ah (bt h₄ (λ_ s₅ h₅=>ao (ao ⟨rfl,h₅⟩)) λ_ _ h'=>h')) λ_ _ h'=>h'))
theorem Uw{M:Model}{E:aC}{scope:Scope}{globals:Addr}{cl:List (Str×Addr)}{qual:Str}{func:iB}{code:Value}{env:Env}{Q:Env->Shared->Prop}
  (hQ:∀ h',h'.Ns s.heap.objs.size (fun _=>none)→(∀ b o,s.heap.get? b=some o→h'.get? b=some o)→(∀ n c,(n,c)∈cellsFrom (s.heap.objs.size+1) scope.names []→h'.IsCell c none) →
   Q (newEnv scope s.heap.objs.size globals (be (s.heap.objs.size+1) scope.names cl) qual func code (aa env) dq) { s with heap:=h' }) :
  ay M A (newFunctionEnv scope globals cl [] qual func code (aa env)) Q E s:=by
 simp only[newFunctionEnv,w0C,if_true];refine ah (wpAny_alloc ?_);refine ah (wpAny_layCells _ (λname kind cells=>by cases hkc:kind==cZ<;>simp[hkc]) _ _ _ _ ?_);have ok:=cellsFrom_ok scope.names (s.heap.push { cls:=.type "dict",data:=.dict #[] }) (s.heap.objs.size+1) [] ⟨λ_ _ hm=>(nomatch hm),cT⟩ (by rw[vw];exact wf _);rw[vw]at ok;rw[show({ s with heap:=s.heap.push { cls:=.type "dict",data:=.dict #[] } }:Shared).heap.objs.size=s.heap.objs.size+1 from vw ..];refine ah ?_;rw[vN];refine ao (ao ?_);exact hQ _ ((Heap.Ns.new s.heap (.type "dict")).keeps (pushCells_keeps _ _)) (λb o e=>pushCells_keeps _ _ b o (wc _ e)) λn c hm=>(ok.empty n c hm).1
end
end L2
end
section
namespace L2
def A1(X:Cx)(N:ie)(scope:Scope)(cl:List (Str×Addr))(C:Addr)(fp:ig)(s:Shared)(H:Hp):Cx where
 prog:=X.prog
 w:=X.w
 K:=X.K
 mg:=X.mg
 base:=X.base
 A:=X.A
 N:=N
 s₀:=s
 H₀:=H
 env:=compEnvC scope cl C X.env
 outer:=X.stack
 stack:=X.stack
 ex:=fp
 fn:=λx=>scope.names.lookup x==aa .cell
 calm:=X.calm
 pn:=[]
 xe:=λ_ _=>False
structure CompScope(X:Cx)(N:ie)(scope:Scope)(nt:Nat)(js:ii):Prop where
 kind:scope.kind=.function
 nd:(scope.names.map (·.1)).Nodup
 loc:∀x∈scope.names,x.2=.local->scope.names.lookup x.1=aa .local
 len:N.length=nt+js.length
 names:∀k j,js[k]?=aa j->∃x,N[nt+k]?=aa x/\X.N[j]?=aa x/\scope.names.lookup x=aa .free
 fre:∀x∈scope.names,x.2=.free->X.env.kindOf x.1=aa .cell\/X.env.kindOf x.1=aa .free
def sig(nt:Nat)(js:ii)(σ:St):St:=br nt aj++js.map λj=>(σ[j]?).join
def PTs(X:Cx)(ifs:ik)(t:TT):Prop:=
 ∀(π:aB)(s:Shared)(σ:St)(H:Hp)(Q:Bool->Hp->Prop),Inv X π σ H s->t σ H Q ->
  ay (model X.prog X.w) X.A (forIn ifs ae λc r=>if r=ae then do let ok <-isTrue c X.env (eval c X.env);pure (fk ok) else pure (fk r)) (TP X π σ Q) X.xe s
def tYes:TT:=λ_ H Q=>Q ae H
theorem Ys{X:Cx}:PTs X [] tYes:=λπ s σ H Q I h=>wpAny_tests_nil ⟨H,I,h⟩
theorem Yt{X:Cx}{c:aV}{t:TT}(hc:PT X c t):PTs X [c] t:=λπ s σ H Q I h=>wpAny_tests_one (hc π s σ H Q I h)
theorem nlt{a b:Nat}(h1:a+1<=b)(h2:b<a):False:=()
theorem P4{α:Type}:∀{l:List (Str×α)}{p:Str×α},(l.map (·.1)).Nodup->p∈l->l.lookup p.1=aa p.2
 |[],_,_,h=>by cases h
 | (y,k)::r,p,nd,h=>by
  have nd:(y::r.map (·.1)).Nodup:=nd;obtain⟨n1,n2⟩:=vf.mp nd;rw[wL];rcases wg.mp h with e|e
  .subst e;show(match y==y with|true=>aa k|false=>_)=aa k;rw[beq_self_eq_true]
  .cases hb:p.1==y with
   |true=>
    rw[<-beq_iff_eq.mp hb]at n1;exact aW (wl.mpr ⟨p,e,rfl⟩) n1
   |false=>exact P4 n2 e
theorem Ar{env:Env}{x:Str}:∀{names:List (Str×bN)}{k:bN},names.lookup x=aa k ->
  (names.map λ(n,k)=>if(k==ck&&env.scope.kind==.function&&env.kindOf n==aa .cell) then(n,cZ) else(n,k)).lookup x=aa (if(k==ck&&env.scope.kind==.function&&env.kindOf x==aa .cell)=ae then .cell else k)
 |[],_,h=>by cases h
 | (y,k')::r,k,h=>by
  rw[wL]at h;show gz x ((if(k'==ck&&env.scope.kind==.function&&env.kindOf y==aa .cell)=ae then(y,cZ) else(y,k'))::_)=_;cases hb:x==y with
  |true=>
   rw[hb]at h;have hk:k'=k:=by cases h;rfl
   have hxy:x=y:=beq_iff_eq.mp hb;subst hk;subst hxy;split<;>(rw[wL];rw[hb])
  |false=>
   rw[hb]at h;have ih:=@Ar env x r k h;split<;>(rw[wL];rw[hb];exact ih)
theorem Y4{env:Env}{x:Str}{k:bN}:∀{names:List (Str×bN)},
  (names.map λ(n,k)=>if(k==ck&&env.scope.kind==.function&&env.kindOf n==aa .cell) then(n,cZ) else(n,k)).lookup x=aa k->∃k',names.lookup x=aa k'/\(k=k'\/(k'=.free/\k=.cell))
 |[],h=>by cases h
 | (y,k')::r,h=>by
  have h:gz x ((if(k'==ck&&env.scope.kind==.function&&env.kindOf y==aa .cell)=ae then(y,cZ) else(y,k'))::r.map λ(n,k)=>if(k==ck&&env.scope.kind==.function&&env.kindOf n==aa .cell) then(n,cZ) else(n,k))=aa k:=h;rw[wL];cases hb:x==y with
  |true=>
   split at h
   .rename_i hc;rw[wL,hb]at h;have hf:(k'==ck)=ae:=by
     rw[wF,wF]at hc;exact hc.1.1
    cases h;exact⟨k',rfl,.inr ⟨beq_iff_eq.mp hf,rfl⟩⟩
   .rw[wL,hb]at h;cases h;exact⟨k,rfl,.inl rfl⟩
  |false=>
   split at h
   all_goals
     rw[wL,hb]at h;exact Y4 h
section
variable {X:Cx}{N:ie}{scope:Scope}{nt:Nat}{js:ii}{π:aB}{σ:St}{H:Hp}{s:Shared}{fp:ig}
theorem Ux{s2:Shared}{H2:Hp}(S:CompScope X N scope nt js)(I2:Inv X π σ H2 s2)(I:Inv X π σ H s)(hu:Un (frs X.stack) fp H2 H s2.heap s.heap)(hos:s.os=s2.os)(hz:s2.heap.objs.size<=s.heap.objs.size)
   (hf:∀b∈fp,FpOk X π H b) (ho:∀b∈fp,∃o,s.heap.get? b=aa o) {h':aX}
   (ns:h'.Ns s.heap.objs.size (λ_=>aj)) (k:∀b o,s.heap.get? b=aa o->h'.get? b=aa o) (nc:∀n c,(n,c)∈be (s.heap.objs.size+1) scope.names []->h'.IsCell c aj) :
   Inv (A1 X N scope (be (s.heap.objs.size+1) scope.names (w6 X.env scope.names [])) s.heap.objs.size fp s2 H2) [] (sig nt js σ) H { s with heap:=h' }:=by
 have ok:=I.ok;have hcl:∀p∈w6 X.env scope.names [],X.env.cells.lookup p.1=aa p.2:=λp hp=>(BV _ _ p hp).resolve_left (by simp);have hlt:∀x c,X.env.cells.lookup x=aa c->c<s.heap.objs.size:=λx c e=>by
   obtain⟨v,o,ho,_⟩:=I.cell x c e;exact wm ho
 have mem:∀x c,(be (s.heap.objs.size+1) scope.names (w6 X.env scope.names [])).lookup x=aa c->s.heap.objs.size+1<=c\/X.env.cells.lookup x=aa c:=λx c e=>by
   rcases NP _ _ _ _ (bz e)with q|q
   .exact .inl q
   .exact .inr (hcl _ q)
 have frec:∀x,scope.names.lookup x=aa .free->∃c,X.env.cells.lookup x=aa c/\(be (s.heap.objs.size+1) scope.names (w6 X.env scope.names [])).lookup x=aa c:=λx hx=>by
   obtain⟨c,hc⟩:=ok.has x (S.fre (x,.free) (bz hx) rfl);refine⟨c,hc,?_⟩;rw[NO _ _ _ λy hy e=>?_]
   .obtain⟨d,hd⟩:=uq.mp (BW (env:=X.env) scope.names [] hx hc);have:=V5 (env:=X.env) (x:=x) scope.names [] (λc e=>by simp at e) d hd;rw[hc]at this;cases this;exact hd
   .have q:=P4 S.nd hy;rw[e,hx]at q;intro z;rw[z]at q;cases q
 refine⟨⟨ok.mod,S.kind,ok.glob,ok.blt,hz,λx y c hx hy=>?_,λx hx=>?_,λx c hx e=>?_,ok.hd,ok.frames,.inl rfl,λb hb=>⟨?_,λx c e=>?_⟩,λb o e=>?_,?_,λb o e hb=>?_,λb hb=>?_,I2.stack,I2.stkFree⟩,
   hos,I.bare,hu.trans (Un.kept k),⟨_,ns,λi x v h1 h2 h3=>?_⟩,λx c e=>?_,?_,λx c e=>?_,λp hp=>aW (show p∈([]:aB)from hp) (by simp),I.hok.kept k,?_⟩
 ·
   rcases mem x c hx with q|q
   .rcases mem y c hy with q'|q'
    .have in1:∀z:Str,(z,c)∈be (s.heap.objs.size+1) scope.names (w6 X.env scope.names [])->(z,c)∈be (s.heap.objs.size+1) scope.names []:=λz hz=>by
       rw[Gj]at hz;rcases wn.mp hz with hz|hz
       .exact hz
       .exact(nlt q (hlt _ _ (hcl _ hz))).elim
     exact name_of_addr (Gi scope.names (s.heap.objs.size+1) [] (λp hp=>by simp at hp) cT) (in1 x (bz hx)) (in1 y (bz hy))
    .exact(nlt q (hlt _ _ q')).elim
   .rcases mem y c hy with q'|q'
    .exact(nlt q' (hlt _ _ q)).elim
    .exact ok.inj x y c q q'
 ·
   have hx:(relabel scope X.env).names.lookup x=aa .cell\/(relabel scope X.env).names.lookup x=aa .free:=hx;have cs:scope.names.lookup x=aa .cell\/scope.names.lookup x=aa .free:=by
     rcases hx with q|q
     .obtain⟨k',e1,e2⟩:=Y4 q;rcases e2 with e2|⟨e2,_⟩
      .rw[<-e2]at e1;exact .inl e1
      .rw[e2]at e1;exact .inr e1
     .obtain⟨k',e1,e2⟩:=Y4 q;rcases e2 with e2|⟨_,e2⟩
      .rw[<-e2]at e1;exact .inr e1
      .cases e2
   rcases cs with q|q
   .exact uq.mp (dJ scope.names _ _ (.inl q))
   .obtain⟨c,_,e⟩:=frec x q;exact⟨c,e⟩
 ·
   have hx:(scope.names.lookup x==aa .cell)=ae:=hx;exact wu hz (uv (NN scope.names _ _ c (beq_iff_eq.mp hx) e))
 ·
   intro e;obtain⟨o,hb'⟩:=ho b hb;exact aW (wm hb') (by rw[e];exact wR _)
 .rcases mem x c e with q|q
  .intro z;obtain⟨o,hb'⟩:=ho b hb;have:=wm hb';rw[<-z]at this;exact nlt q this
  .exact(hf b hb).2.2.2.2.1 x c q
 .exact I2.bs b o e
 .exact wu ok.bsz I2.sz
 ·
   rcases(hf b hb).2.2.2.1 with q|q
   .exact ok.noex b o e q
   .exact aW (wt (wm e) (wu ok.bsz q)) (wR _)
 ·
   intro z;rcases wg.mp (I.stkSub b z)with q|q
   .exact(hf b hb).2.1 q
   .exact(hf b hb).2.2.1 q
 ·
   have hi:nt<=i:=by
     by_cases hi:i<nt
     .unfold sig at h2;rw[wJ (by simpa using hi),wV]at h2;split at h2<;>cases h2
     .rfl'
   unfold sig at h2;rw[wE (by simpa using hi),vB,wx]at h2;cases ej:js[i-nt]? with
   |none=>rw[ej]at h2;cases h2
   | some j =>
     rw[ej]at h2;have h2:(σ[j]?).join=aa v:=aM h2;obtain⟨y,n1,n2,n3⟩:=S.names _ _ ej;have hxy:x=y:=by
       have e:nt+(i-nt)=i:=()
       rw[e]at n1;have h1:N[i]?=aa x:=h1;rw[h1]at n1;exact aM n1
     subst hxy;have h2':σ[j]?=aa (aa v):=by
       cases eσ:σ[j]? with
       |none=>rw[eσ]at h2;cases h2
       | some a =>
         rw[eσ]at h2;have h2:a=aa v:=h2;rw[h2]
     obtain⟨m,hn,hl⟩:=I.loc;have kd:=S.fre (x,.free) (bz n3) rfl;obtain⟨u,ru,lk⟩:=hl j x v n2 h2' (.inr kd);refine⟨u,ru,?_⟩;obtain⟨c,c1,c2⟩:=frec x n3;rcases lk with⟨z,_⟩|⟨_,d,d1,d2⟩
     .have kd':X.env.kindOf x=aa .cell\/X.env.kindOf x=aa .free:=kd;rw[z]at kd';rcases kd' with q|q<;>cases q
     .rw[c1]at d1;cases d1;refine .inr ⟨?_,c,c2,d2.keeps k⟩;have:=Ar (env:=X.env) n3;show(relabel scope X.env).names.lookup x=aa .cell\/(relabel scope X.env).names.lookup x=aa .free;unfold relabel;dsimp only;rw[this];split
      .exact .inl rfl
      .exact .inr rfl
 ·
   have e:(be (s.heap.objs.size+1) scope.names (w6 X.env scope.names [])).lookup x=aa c:=e;have hm:=bz e;rw[Gj]at hm;rcases wn.mp hm with q|q
   .exact⟨aj,nc x c q⟩
   .obtain⟨v,hv⟩:=I.cell x c (hcl _ q);exact⟨v,hv.keeps k⟩
 .exact I.hok.fresh (wf _)
 .rcases mem x c e with q|q
  .exact I.hok.fresh (uv q)
  .exact I.freeC x c q
 .show(sig nt js σ).length=N.length;unfold sig;rw[wz,vB,we,S.len]
end
end L2
end
section
namespace L2
def RR(nt:Nat)(js:ii)(wi:TI)(g:TG)(tc:Hp->TT)(te:Hp->TE):TE:=λσ H Q=>wi σ H λJ H1=>∀D,H1 D=aj ->
 ∃ W:Nat→Nat→List V→Hp→Prop,(∃ m,W 0 m [] (upd H1 D (.lst [])))∧∀ i m ys H,W i m ys H →
  (J.stop i H∧Q (.ref D) H)∨(J.go i H∧∀ x H',J.yld i H x H'→g x (sig nt js σ) H' fun σ2 H2=>tc H1 σ2 H2 fun b H3 =>
   if b=ae then te H1 σ2 H3 λv H4=>H4 D=aa (.lst ys)/\ys.length<sizeLine/\∃m',m'<m/\W (i+1) m' (ys++[v]) (upd H4 D (.lst (ys++[v])))
   else ∃m',m'<m/\W (i+1) m' ys H3)
section
variable {X:Cx}{N:ie}{scope:Scope}{nt:Nat}{js:ii}{tg elt iter:aV}{ifs:ik}{wi:TI}{g:TG}{tc:Hp->TT}{te:Hp->TE}{pos:Pos}
theorem Uy{σ σ2:St}(hl:σ2.length=(sig nt js σ).length)(h:∀i,nt<=i->σ2[i]?=(sig nt js σ)[i]?):∀(i:Nat)v,(sig nt js σ)[i]?=aa (aa v)->σ2[i]?=aa (aa v):=λi v e=>by
 by_cases hi:nt<=i
 .rw[h i hi];exact e
 .unfold sig at e;rw[wJ (by rw[vB];rfl'),wV]at e;split at e<;>cases e
def TgOk(nt:Nat)(g:TG):Prop:=∀x σ H(Q:St->Hp->Prop),g x σ H Q->g x σ H λσ2 H2=>(σ2.length=σ.length/\∀i,nt<=i->σ2[i]?=σ[i]?)/\Q σ2 H2
theorem LK(S:CompScope X N scope nt js)(hc:X.calm=ae)(hi:PI X tg iter wi)
  (hg:∀cl C fp s H,PG (A1 X N scope cl C fp s H) tg g) (ht:TgOk nt g) (hcs:∀cl C fp s H,PTs (A1 X N scope cl C fp s H) ifs (tc H)) (he:∀cl C fp s H,PE (A1 X N scope cl C fp s H) elt (te H))
  {use:Option (Value->Sem Unit)} {π:aB} {s:Shared} {σ:St} {H:Hp} {Q:VK} {Q':aC} (I:Inv X π σ H s) (h:RR nt js wi g tc te σ H Q)
  (hs:∀x,bX iter X.env x=pure x)
  (fin:∀(D C:Addr)(H':Hp)(s':Shared),Inv X π σ H' s'->Q (.ref D) H'->H' C=aj->C≠X.env.locals->(X.s₀.heap.objs.size<=C)->(∀x c,X.env.cells.lookup x=aa c->c≠C)->(∀p∈X.pn++π,p.1≠C)->(∃m,s'.heap.Ns C m) ->
    compPost (model X.prog X.w) X.A X.xe use Q' (.ref D) C (.ok .next) s') :
  ay (model X.prog X.w) X.A (comprehension (.ListComp elt [⟨tg,iter,ifs,0⟩] scope pos) scope X.env (firstIterPos [⟨tg,iter,ifs,0⟩] pos) (newList []) ag (eval iter X.env) use) Q' X.xe s:=by
 have clo:gB scope X.env=pure (w6 X.env scope.names []):=NQ λy hy e=>I.ok.has y.1 (S.fre y hy e);refine wpAny_comprehension_free (cl:=w6 X.env scope.names []) rfl hs clo S.kind S.loc (thn (hi π s σ H _ I h) λxv s1 h1=>thn h1 λitv s2 h2=>?_);obtain⟨it,fp,tn,J,H2,rfl,I2,T,st2,f2,q2⟩:=h2;refine di (hd:=by size_fits) ?_;have fresh2:H2 s2.heap.objs.size=aj:=I2.fresh;have I3:=I2.lnew (ys:=[]) (its:=[]) (t':=s2.toks) .nil (wy _);obtain⟨W,⟨m0,w0⟩,turn⟩:=q2 s2.heap.objs.size fresh2;have ltf:∀b∈fp,b<s2.heap.objs.size:=λb hb=>by
  obtain⟨o,e,_⟩:=T.obj 0 _ st2 b hb;exact wm e
 have ned:∀b∈fp,b≠s2.heap.objs.size:=λb hb=>wD (ltf b hb);have f3:∀b∈fp,FpOk X π (upd H2 s2.heap.objs.size (.lst [])) b:=λb hb=>⟨by rw[i7 (ned b hb)];exact(f2 b hb).1,(f2 b hb).2⟩;generalize e3:({ s2 with heap:=s2.heap.push { cls:=.type "list",dict:=aj,data:=.seq ([]:aG).toArray } }:Shared)=s3 at *;have k3:∀b o,s2.heap.get? b=aa o->s3.heap.get? b=aa o:=λb o e=>by rw[<-e3];exact wc _ e
 have os3:s3.os=s2.os:=by rw[<-e3]
 have sz3:s2.heap.objs.size<s3.heap.objs.size:=by rw[<-e3];show _<(s2.heap.push _).objs.size;rw[vw];exact wW _
 refine Uw λh4 ns4 k4 nc4=>?_;have I4:=Ux S I2 I3 (Un.laid k3 (wf _) fresh2) os3 (wN sz3) f3 (λb hb=>by obtain⟨o,e,_⟩:=T.obj 0 _ st2 b hb;exact⟨o,k3 b o e⟩) ns4 k4 nc4;have st4:tn 0 h4:=T.keep _ _ _ st2 λb _ o e=>k4 b o (k3 b o e);generalize eC:s3.heap.objs.size=C at *;have stat:∀{H':Hp},(∀b∈fp,H' b=aj)->∀b∈fp,FpOk (A1 X N scope (be (C+1) scope.names (w6 X.env scope.names [])) C fp s2 H2) [] H' b:=λhn b hb=>
  ⟨hn b hb,(I4.ok.exf b hb).1,I4.ok.exfs b hb,.inl hb,(I4.ok.exf b hb).2,λp hp=>aW (show p∈([]:aB)from hp) (by simp)⟩
 have loop:∀ s4:Shared,s4={ s3 with heap:=h4 }→codeAny (model X.prog X.w) X.A (.compLoop (.ListComp elt [⟨tg,iter,ifs,0⟩] scope pos) 0 (.ref it) (.ref s2.heap.objs.size) (compEnvC scope (cellsFrom (C+1) scope.names (w6 X.env scope.names [])) C X.env))
    (compPost (model X.prog X.w) X.A X.xe use Q' (.ref s2.heap.objs.size) C) s4:=by
  rintro s4 rfl;refine Kl (λn s'=>∃i ys H',Inv (A1 X N scope (be (C+1) scope.names (w6 X.env scope.names [])) C fp s2 H2) [] (sig nt js σ) H' s'/\tn i s'.heap/\(∀b∈fp,H' b=aj)/\W i n ys H') ?_ m0
    ⟨0,[],_,I4,st4,λb hb=>(f3 b hb).1,w0⟩
  rintro n s5 ⟨i,ys,H5,I5,st5,fr5,w5⟩;rcases turn i n ys H5 w5 with⟨stop,q⟩|⟨go,step⟩
  .refine bt (T.done (A1 X N scope (be (C+1) scope.names (w6 X.env scope.names [])) C fp s2 H2) rfl rfl rfl hc i [] s5 _ H5 _ I5 (stat fr5) st5 stop) (λr s6⟨hr,I6⟩=>?_) λ_ _ z=>z;subst hr;have u:Un (frs X.stack) fp H2 H5 s2.heap s6.heap:=I6.base;have J6:Inv X π σ H5 s6:=I2.call' I6.os u I6.hok I6.bare λb hb=>⟨(f2 b hb).2.2.2.1,(f2 b hb).2.1,(f2 b hb).2.2.2.2.1,(f2 b hb).2.2.2.2.2⟩;have hCs:s2.heap.objs.size<=C:=wN sz3;refine fin _ C H5 s6 J6 q I6.free (λz=>?_) (wu I2.sz hCs) (λx c e z=>?_) (λp hp z=>?_) ?_
   .exact aW I2.lt (by rw[<-z];exact w18.mpr hCs)
   .obtain⟨v,o,ho,_⟩:=I2.cell x c e;exact aW (wm ho) (by rw[z];exact w18.mpr hCs)
   .exact aW (wm (I2.pin p hp).1) (by rw[z];exact w18.mpr hCs)
   .obtain⟨m,hm,_⟩:=I6.loc;exact⟨m,hm⟩
  .refine bt (T.item (A1 X N scope (be (C+1) scope.names (w6 X.env scope.names [])) C fp s2 H2) rfl rfl rfl hc i [] s5 _ H5 _ I5 (stat fr5) st5 go) (λr s6⟨u,hr,h6⟩=>?_) λ_ _ z=>z;subst hr;refine bt h6 (λ_ s7⟨x,H7,I7,r7,y7,st7,fr7⟩=>?_) λ_ _ z=>z;have I7':=I7.pinned (stat fr7) (T.obj _ _ st7);refine bt (hg _ _ _ _ _ _ s7 _ H7 x u _ I7' r7 (ht _ _ _ _ (step x H7 y7))) (λ_ s8⟨σ8,H8,I8,⟨l8,o8⟩,q8⟩=>?_) λ_ _ z=>z.elim;have again:∀{s9:Shared}{H9:Hp}{ys9:iD},Inv (A1 X N scope (be (C+1) scope.names (w6 X.env scope.names [])) C fp s2 H2) ([]++Gg fp s7.heap) σ8 H9 s9->(∃m',m'<n/\W (i+1) m' ys9 H9) ->
      ∃m,m<n/\∃i ys H',Inv (A1 X N scope (be (C+1) scope.names (w6 X.env scope.names [])) C fp s2 H2) [] (sig nt js σ) H' s9/\tn i s9.heap/\(∀b∈fp,H' b=aj)/\W i m ys H':=λ{s9 H9 ys9}I9⟨m',hm,w9⟩=>by
     refine⟨m',hm,i+1,ys9,H9,I9.unpinned.weak l8.symm (Uy l8 o8),T.keep _ _ _ st7 λb hb o e=>(I9.pin (b,o) (wA _ (wA _ (Y1 hb e)))).1,λb hb=>?_,w9⟩;obtain⟨o,e,_⟩:=T.obj _ _ st7 b hb;exact(I9.pin (b,o) (wA _ (wA _ (Y1 hb e)))).2.1
   refine bt (hcs _ _ _ _ _ _ s8 σ8 H8 _ I8 q8) (λok s9⟨H9,I9,q9⟩=>?_) λ_ _ z=>z.elim;cases ok with
   | false =>
     rw[ax wH]at q9|-;exact again I9 q9
   | true =>
     rw[ap rfl]at q9|-;refine bt (he _ _ _ _ _ _ s9 σ8 H9 _ I9 q9) (λy s10⟨v,H10,I10,r10,d10,l10,w10⟩=>?_) λ_ _ z=>z.elim;refine bt (DB (X:=A1 X N scope (be (C+1) scope.names (w6 X.env scope.names [])) C fp s2 H2) _ s10 σ8 H10 (.ref s2.heap.objs.size) [v] (.ref s2.heap.objs.size) [y] (λz H'=>∃m',m'<n/\W (i+1) m' (ys++[v]) H') I10 rfl (.cons r10 .nil) ⟨_,ys,v,rfl,rfl,d10,l10,w10⟩) (λ_ s11⟨_,H11,I11,_,w11⟩=>?_) λ_ _ z=>z.elim;exact again I11 w11
 exact codeAny_compStart_list (loop _ rfl) (T.self _ _ _ _ _ st4 (loop _ rfl))
theorem Yu(S:CompScope X N scope nt js)(hc:X.calm=ae)(hi:PI X tg iter wi)
  (hg:∀cl C fp s H,PG (A1 X N scope cl C fp s H) tg g) (ht:TgOk nt g) (hcs:∀cl C fp s H,PTs (A1 X N scope cl C fp s H) ifs (tc H)) (he:∀cl C fp s H,PE (A1 X N scope cl C fp s H) elt (te H))
  (hs:∀x,bX iter X.env x=pure x:=by intro _;rfl):PE X (.ListComp elt [⟨tg,iter,ifs,0⟩] scope pos) (RR nt js wi g tc te):=by
 intro π s σ H Q I h;rw[eval_ListComp];refine LK (use:=aj) S hc hi hg ht hcs he I h hs ?_;rintro D C H' s' I' q hC hL hz hcl hpn ⟨m,hm⟩;exact⟨m,hm,λh' sb=>⟨.ref D,H',I'.turned (λb o hb e=>sb.extBut b o hb e) hC hL (.inr hz) hcl hpn,rfl,q⟩⟩
theorem Yv{i:Nat}{x:Str}{pos' spos:Pos}(hN:X.N.Nodup)(hix:X.N[i]?=aa x)(hx:X.env.scope.names.lookup x=aa .local)(S:CompScope X N scope nt js)(hc:X.calm=ae)(hi:PI X tg iter wi)
  (hg:∀cl C fp s H,PG (A1 X N scope cl C fp s H) tg g) (ht:TgOk nt g) (hcs:∀cl C fp s H,PTs (A1 X N scope cl C fp s H) ifs (tc H)) (he:∀cl C fp s H,PE (A1 X N scope cl C fp s H) elt (te H))
  (hsw:cu (.ListComp elt [⟨tg,iter,ifs,0⟩] scope pos) (aa (.Name x pos')) spos.line X.env=pure ae)
  (hs:∀x,bX iter X.env x=pure x:=by intro _;rfl):PS X (.Assign [.Name x pos'] (.ListComp elt [⟨tg,iter,ifs,0⟩] scope pos) spos) (tAsg (RR nt js wi g tc te) (G2 i)):=by
 intro π s σ H D0 I h;rw[exec_Assign_Name_used _ _ _ _ hsw];refine ah (fq (ah ?_));show ay _ X.A (do let _ <-comprehension (.ListComp elt [⟨tg,iter,ifs,0⟩] scope pos) scope X.env _ (newList []) ag (eval iter X.env) (aa (assign (.Name x pos') X.env))) _ _ s;refine ah (bt (LK (use:=aa (assign (.Name x pos') X.env)) (Q':=λ_ s'=>SP X π D0 .next s') S hc hi hg ht hcs he I h hs λD C H' s' I' q hC hL hz hcl hpn⟨m,hm⟩=>?_) (λ_ s' hq=>ao (ao hq)) λ_ _ e=>e);show ay _ X.A (assign (.Name x pos') X.env (.ref D)) _ _ s';refine wpAny_assign_Name (Ix (v:=.ref D) I' hN hix (.inl hx) rfl (λs'' I''⟨a,sb,ha⟩=>?_) (.inr hx));have hCa:C≠a:=by
  rintro rfl;rcases ha with ha|ha
  .exact hL ha
  .exact hcl x C ha rfl
 refine⟨m,hm.sameBut sb hCa,λh' sb'=>⟨_,H',I''.turned (λb o hb e=>sb'.extBut b o hb e) hC hL (.inr hz) hcl hpn,q⟩⟩
end
end L2
end
section
namespace L2
section
variable {X:Cx}
def CDivG(_ j:Int):Prop:=j≠0/\j.natAbs.log2<9000
theorem Uz:OpR X (cL .FloorDiv) (rI CDivG λi j=>.int (i.fdiv j)):=opI λ_ _ _ _ _ _ _ hc q=>floordiv_int hc.1 q (.inl (PyProof.noPylong_of_log2 hc.2))
theorem Km{i:Int}{k:Nat}(h:i.natAbs<2^k):bP i<=k:=by
 unfold bP;split
 .exact wy _
 .rename_i h0;have h1:i.natAbs≠0:=by
   intro e;apply h0;have:i=0:=w0D.mp e;subst this;rfl
  exact Nat.succ_le_of_lt ((w0V h1).mpr h)
theorem pe_ty{x:Str}{T:String}{pos:Pos}(hg:Gl X x)(hm:X.mg x=aj)(hv:bF x=aa (.type T))(hn:x ≠ "__name__":=by decide)(hd:(x==("__debug__":Str))=ag:=by decide):PE X (.Name x pos) (tC (.ty T)):=Yg (v:=V.ty T) hg hm hv rfl hn hd
end
end L2
end
section
namespace L2
def hidL(A:ig)(H:Hp):Hp:=λb=>if b∈A then aj else H b
def C9(A:ig)(H H':Hp):Hp:=λb=>if b∈A then H b else H' b
section
variable {A:ig}{H H' H1:Hp}{a b:Addr}{o:HO}
theorem J2(h:b∈A):hidL A H b=aj:=ap h
theorem i8(h:b∉A):hidL A H b=H b:=ax h
theorem B2(h:hidL A H b=aa o):b∉A/\H b=aa o:=by
 unfold hidL at h;split at h
 .cases h
 .rename_i q;exact⟨q,h⟩
theorem l9:Same (hidL A H) H:=λb o e=>(B2 e).2
theorem LM:hidL [] H=H:=funext λb=>by unfold hidL;simp
theorem Bc(h:b∈A):C9 A H H' b=H b:=ap h
theorem B0(h:b∉A):C9 A H H' b=H' b:=ax h
theorem Same.glue(h:Same (hidL A H) H')(hn:∀a∈A,H' a=aj):Same H (C9 A H H'):=λb o e=>by
 by_cases q:b∈A
 .rw[Bc q];exact e
 .rw[B0 q];exact h b o (by rw[i8 q];exact e)
theorem R9(hn:∀a∈A,H' a=aj):hidL A (C9 A H H')=H':=funext λb=>by
 by_cases q:b∈A
 .rw[J2 q,hn b q]
 .rw[i8 q,B0 q]
end
def OwnL(X:Cx)(A:ig)(H:Hp):Prop:=∀a∈A,(∃vs,H a=aa (.lst vs))/\X.H₀ a=aj
section
variable {X:Cx}{A:ig}{π:aB}{σ:St}{H H':Hp}{s s':Shared}
def LN(h:aX)(A:ig):aB:=A.filterMap λa=>(h.get? a).map λo=>(a,o)
theorem II{h:aX}{a:Addr}{o:Obj}(ha:a∈A)(e:h.get? a=aa o):(a,o)∈LN h A:=vC.mpr ⟨a,ha,by rw[e];rfl⟩
theorem UA{h:aX}{p:Addr×Obj}(hp:p∈LN h A):p.1∈A/\h.get? p.1=aa p.2:=by
 obtain⟨a,ha,e⟩:=vC.mp hp;cases q:h.get? a with
 |none=>rw[q]at e;cases e
 |some o=>rw[q]at e;cases e;exact⟨ha,q⟩
theorem Inv.fsFree(I:Inv X π σ H s){b:Addr}(hb:b∈X.fs):H b=aj:=by
 obtain⟨_,o,ho,_⟩:=I.ok.funs.mem hb;exact I.base.free b o ho (I.ok.frf b hb) λz=>I.ok.exfs b z hb
theorem Inv.hide(I:Inv X π σ H s)(hA:OwnL X A H):Inv X (π++LN s.heap A) σ (hidL A H) s:=by
 have nl:∀b o,H b=aa o->(∀vs,o ≠ .lst vs)->b∉A:=λb o e n hb=>by
   obtain⟨⟨vs,q⟩,_⟩:=hA b hb;rw[e]at q;exact n vs (aM q)
 refine⟨I.ok,I.os,I.bare,⟨I.base.keep,I.base.slot,λb o e n hx=>?_,I.base.there,λb xs e=>?_,λb o u e=>?_,λb ps _ e=>?_⟩,I.loc,I.cell,?_,λx c e=>?_,λp hp=>?_,λa o e=>?_,I.len⟩
 .have:=I.base.free b o e n hx;unfold hidL;split
  .rfl
  .exact this
 .have:=I.base.tups b xs e;rw[i8 (nl b _ this λ_ z=>by cases z)];exact this
 .have:=I.base.frzs b o u e;rw[i8 (nl b _ this λ_ z=>by cases z)];exact this
 .have:=I.base.tbls b ps _ e;rw[i8 (nl b _ this λ_ z=>by cases z)];exact this
 .have:=I.free;unfold hidL;split
  .rfl
  .exact this
 .have:=I.freeC x c e;unfold hidL;split
  .rfl
  .exact this
 .rw[<-wP]at hp;rcases wn.mp hp with hp|hp
  .obtain⟨q1,q2,q3⟩:=I.pin p hp;refine⟨q1,?_,q3⟩;unfold hidL;split
   .rfl
   .exact q2
  .obtain⟨q1,q2⟩:=UA hp;obtain⟨⟨vs,q⟩,_⟩:=hA _ q1;refine⟨q2,J2 q1,λz=>?_,λz=>?_,λv z=>?_⟩
   .rw[z,I.free]at q;cases q
   .rw[I.fsFree z]at q;cases q
   .obtain⟨_,its,n,_,e⟩:=I.hok _ _ q;rw[q2]at e;have e:=aM e;rw[e]at z;cases z
 .obtain⟨q1,q2⟩:=B2 e;refine(I.hok a o q2).stay (λb u _ z=>z) (λb z=>?_) (λb xs z=>?_) (λb _ _ z=>?_)
  .rw[i8 (nl b _ z λ_ z=>by cases z)];exact z
  .rw[i8 (nl b _ z λ_ z=>by cases z)];exact z
  .rw[i8 (nl b _ z λ_ z=>by cases z)];exact z
theorem Inv.unhide{σ':St}(I:Inv X π σ H s)(hA:OwnL X A H)(J:Inv X (π++LN s.heap A) σ' H' s'):(∀a∈A,H' a=aj)/\Inv X π σ' (C9 A H H') s':=by
 have pn:∀a∈A,∃o,s.heap.get? a=aa o/\s'.heap.get? a=aa o/\H' a=aj:=λa ha=>by
   obtain⟨⟨vs,q⟩,_⟩:=hA a ha;obtain⟨_,its,n,_,e⟩:=I.hok _ _ q;have:=J.pin _ (wA _ (wA _ (II ha e)));exact⟨_,e,this.1,this.2.1⟩
 have hn:∀a∈A,H' a=aj:=λa ha=>by obtain⟨o,_,_,q⟩:=pn a ha;exact q
 have out:∀b,H b=aj->b∉A:=λb e hb=>by
   obtain⟨⟨vs,q⟩,_⟩:=hA b hb;rw[e]at q;cases q
 have tr:∀b o,H' b=aa o->b∉A:=λb o e hb=>by rw[hn b hb]at e;cases e
 refine⟨hn,J.ok,J.os,J.bare,⟨J.base.keep,J.base.slot,λb o e n hx=>?_,J.base.there,λb xs e=>?_,λb o u e=>?_,λb ps _ e=>?_⟩,J.loc,J.cell,?_,λx c e=>?_,λp hp=>?_,λa o e=>?_,J.len⟩
 .rw[B0 (out b (I.base.free b o e n hx))];exact J.base.free b o e n hx
 .have:=J.base.tups b xs e;rw[B0 (tr b _ this)];exact this
 .have:=J.base.frzs b o u e;rw[B0 (tr b _ this)];exact this
 .have:=J.base.tbls b ps _ e;rw[B0 (tr b _ this)];exact this
 .rw[B0 (out _ I.free)];exact J.free
 .rw[B0 (out _ (I.freeC x c e))];exact J.freeC x c e
 .have hp':p∈X.pn++(π++LN s.heap A):=by
    rw[<-wP];exact wO _ hp
  obtain⟨q1,q2,q3⟩:=J.pin p hp';refine⟨q1,?_,q3⟩;rw[B0 (out _ (I.pin p hp).2.1)];exact q2
 .by_cases ha:a∈A
  .rw[Bc ha]at e;obtain⟨⟨vs,q⟩,_⟩:=hA a ha;rw[q]at e;cases e;obtain⟨hz,its,n,r,e1⟩:=I.hok _ _ q;obtain⟨o,e2,e3,_⟩:=pn a ha;rw[e1]at e2;cases e2;exact⟨hz,its,n,r,e3⟩
  .rw[B0 ha]at e;refine(J.hok a o e).stay (λb u _ z=>z) (λb z=>?_) (λb xs z=>?_) (λb _ _ z=>?_)
   .rw[B0 (tr b _ z)];exact z
   .rw[B0 (tr b _ z)];exact z
   .rw[B0 (tr b _ z)];exact z
theorem PE.frame{e:aV}{t:TE}(h:PE X e t):PE X e (λσ H Q=>∃A,OwnL X A H/\t σ (hidL A H) λv H'=>(∀a∈A,H' a=aj)->Q v (C9 A H H')):=by
 intro π s σ H Q I ⟨A,hA,z⟩;refine thn (h _ s σ _ _ (I.hide hA) z) ?_;rintro u s' ⟨v,H',J,r,q⟩;obtain⟨hn,J'⟩:=I.unhide hA J;exact⟨v,_,J',r,q hn⟩
theorem PA.frame{es:ik}{t:TA}(h:PA X es t):PA X es (λσ H Q=>∃A,OwnL X A H/\t σ (hidL A H) λv H'=>(∀a∈A,H' a=aj)->Q v (C9 A H H')):=by
 intro pos π s σ H Q I ⟨A,hA,z⟩;refine thn (h pos _ s σ _ _ (I.hide hA) z) ?_;rintro u s' ⟨v,H',J,r,q⟩;obtain⟨hn,J'⟩:=I.unhide hA J;exact⟨v,_,J',r,q hn⟩
def hidD(A:ig)(H:Hp)(D:Ends):Ends where
 nx:=λσ H'=>(∀a∈A,H' a=aj)->D.nx σ (C9 A H H')
 rt:=λv H'=>(∀a∈A,H' a=aj)->D.rt v (C9 A H H')
 bk:=λσ H'=>(∀a∈A,H' a=aj)->D.bk σ (C9 A H H')
 ct:=λσ H'=>(∀a∈A,H' a=aj)->D.ct σ (C9 A H H')
theorem PS.frame{st:aZ}{t:TS}(h:PS X st t):PS X st (λD σ H=>∃A,OwnL X A H/\t (hidD A H D) σ (hidL A H)):=by
 intro π s σ H D I ⟨A,hA,z⟩;refine thn (h _ s σ _ _ (I.hide hA) z) λf s' q=>?_;cases f with
 |next=>obtain⟨σ',H',J,q⟩:=q;obtain⟨hn,J'⟩:=I.unhide hA J;exact⟨_,_,J',q hn⟩
 |brk=>obtain⟨σ',H',J,q⟩:=q;obtain⟨hn,J'⟩:=I.unhide hA J;exact⟨_,_,J',q hn⟩
 |cont=>obtain⟨σ',H',J,q⟩:=q;obtain⟨hn,J'⟩:=I.unhide hA J;exact⟨_,_,J',q hn⟩
 |ret u=>obtain⟨v,σ',H',J,r,q⟩:=q;obtain⟨hn,J'⟩:=I.unhide hA J;exact⟨_,_,_,J',r,q hn⟩
theorem PI.frame{tg e:aV}{t:TI}(h:PI X tg e t):PI X tg e (λσ H R=>∃A,OwnL X A H/\t σ (hidL A H) λJ H'=>(∀a∈A,H' a=aj)->R J (C9 A H H')):=by
 intro π s σ H R I ⟨A,hA,z⟩;refine thn (h _ s σ _ _ (I.hide hA) z) λv s1 q=>thn q ?_;rintro itv s2 ⟨it,fp,tn,J,H',e,I2,T,st,hf,r⟩;obtain⟨hn,I3⟩:=I.unhide hA I2;refine⟨it,fp,tn,J,_,e,I3,T,st,λb hb=>?_,r hn⟩;obtain⟨f1,f2,f3,f4,f5,f6⟩:=hf b hb;have hbA:b∉A:=λha=>by
  obtain⟨⟨vs,q⟩,_⟩:=hA b ha;obtain⟨_,its,n,_,e⟩:=I.hok _ _ q;exact f6 _ (wA _ (wA _ (II ha e))) rfl
 refine⟨by rw[B0 hbA];exact f1,f2,f3,f4,f5,λp hp=>f6 p ?_⟩;rw[<-wP];exact wO _ hp
end
end L2
end
section
namespace L2
inductive Dt where
 |non|bl (b:Bool)|int (i:Int)|str (x:Str)|lst (xs:List Dt)|tup (xs:List Dt)|scr (ns:aH)|dic|obj (C:Addr) (k b:Dt) (es:List Dt)
abbrev iC:=List Dt
structure Bk(K:aE)(C:Addr):Prop where
 cls:Cls K C
 n1:NI K C "kinds"
 n2:NI K C "bills"
 n3:NI K C "earlier"
 ha:fF K (.ref C) "__class__"=aa (aa (.builtin "object.__class__"))
 hn:PySem.W.specialIn K (.builtin "object.__class__") "__get__"=aa (aa (.builtin "getset_descriptor.__get__"))
 tk:PySem.W.takesIn K (.builtin "object.__class__")=aa ae
 hm:PySem.W.mroIn K C (.type "object")=aa ae
 is:∀T∈["int","bool","str","list","tuple","dict"],gL K (.ref C) (.type T)=aa ag
def emp:Hp:=λ_=>aj
def SqF(K:aE)(H:Hp)(a:Addr)(xs:iD):Prop:=
 (∃ q,H a=some (.frz q (.lst xs))) ∨
  ∃(o:Obj)(its:iu)(n:Nat),K.lookup a=aa o/\o.cls=.type "list" /\ o.dict=aj/\o.data=.seq its n/\its.size<=sizeLine/\Vals xs its.toList
section
variable {K:aE}{H H':Hp}{a:Addr}{xs:iD}
theorem SqF.sq(h:SqF K H a xs):SqL K H a xs:=h.elim (λh=>.inl (.inr h)) .inr
theorem SqF.mono(h:SqF K H a xs)(e:Same H H'):SqF K H' a xs:=h.elim (λ⟨q,h⟩=>.inl ⟨q,e _ _ h⟩) .inr
theorem SqF.hid{A:ig}(h:SqF K H a xs)(n:a∉A):SqF K (hidL A H) a xs:=h.elim (λ⟨q,h⟩=>.inl ⟨q,by rw[i8 n];exact h⟩) .inr
end
theorem W6{A C:ig}{H:Hp}:hidL A (hidL C H)=hidL C (hidL A H):=funext λb=>by
 unfold hidL;by_cases p:b∈A<;>by_cases q:b∈C<;>simp[p,q]
theorem A6{A:ig}{H H':Hp}(h:Same H H'):Same (hidL A H) (hidL A H'):=λb o e=>by
 obtain⟨q1,q2⟩:=B2 e;rw[i8 q1];exact h b o q2
theorem S3{A B:ig}{H:Hp}(h:∀a∈B,a∈A):Same (hidL A H) (hidL B H):=λb o e=>by
 obtain⟨q1,q2⟩:=B2 e;rw[i8 λz=>q1 (h b z)];exact q2
theorem Same.seqT{K:aE}{H H':Hp}{a:Addr}{xs:iD}(e:Same H H')(h:SqT K H a xs):SqT K H' a xs:=by
 rcases h with(h|⟨o,h⟩)|h
 .exact .inl (.inl (e _ _ h))
 .exact .inl (.inr ⟨o,e _ _ h⟩)
 .exact .inr h
theorem Same.emp{H:Hp}:Same emp H:=λ_ _ e=>by cases e
def dicAt(a:Addr)(h:aX):Prop:=h.get? a=aa { cls:=.type "dict",data:=.dict #[] }
mutual
def Rp(K:aE)(B:Hp):Dt->Hp->V->Prop
 |.non,_,v=>v=.non
 |.bl b,_,v=>v=.bl b
 |.int i,_,v=>v=.int i
 |.str x,_,v=>v=.str x
 |.dic,H,v=>∃a,v=.ref a/\H a=aa (.ext (dicAt a))
 |.lst ds,H,v=>∃a vs,v=.ref a/\B a=aj/\H a=aa (.lst vs)/\Rps K B ds (hidL [a] H) vs
 |.tup ds,H,v=>∃a vs,v=.ref a/\SqT K H a vs/\Rps K B ds H vs
 |.scr ns,H,v=>∃a,v=.ref a/\B a=aj/\SqF K H a (ns.map V.int)
 |.obj C k b es,H,v=>∃a dx vk vb e vs,v=.ref a/\B a=aj/\H a=aa (.ins C dx [("kinds",vk),("bills",vb),("earlier",.ref e)])/\H dx=aa (.own a)/\B e=aj/\H e=aa (.lst vs)/\Bk K C/\Rp K B k (hidL [a,e] H) vk/\Rp K B b (hidL [a,e] H) vb/\Rps K B es (hidL [a,e] H) vs
def Rps(K:aE)(B:Hp):iC->Hp->iD->Prop
 |[],_,vs=>vs=[]
 |d::ds,H,vs=>∃v r,vs=v::r/\Rp K B d H v/\Rps K B ds H r
end
section
variable {K:aE}{B B' H H':Hp}
theorem Rp.int_{i:Int}{v:V}:Rp K B (.int i) H v↔v=.int i:=by unfold Rp;exact Iff.rfl
theorem Rp.bl_{b:Bool}{v:V}:Rp K B (.bl b) H v↔v=.bl b:=by unfold Rp;exact Iff.rfl
theorem Rp.non_{v:V}:Rp K B .non H v↔v=.non:=by unfold Rp;exact Iff.rfl
theorem Rp.str_{x:Str}{v:V}:Rp K B (.str x) H v↔v=.str x:=by unfold Rp;exact Iff.rfl
theorem Rp.dic_{v:V}:Rp K B .dic H v↔∃a,v=.ref a/\H a=aa (.ext (dicAt a)):=by unfold Rp;exact Iff.rfl
theorem Rp.lst_{ds:iC}{v:V}:Rp K B (.lst ds) H v↔∃a vs,v=.ref a/\B a=aj/\H a=aa (.lst vs)/\Rps K B ds (hidL [a] H) vs:=by rw[Rp]
theorem Rp.tup_{ds:iC}{v:V}:Rp K B (.tup ds) H v↔∃a vs,v=.ref a/\SqT K H a vs/\Rps K B ds H vs:=by rw[Rp]
theorem Rp.obj_{C:Addr}{k b:Dt}{es:iC}{v:V}:Rp K B (.obj C k b es) H v↔∃a dx vk vb e vs,v=.ref a/\B a=aj/\H a=aa (.ins C dx [("kinds",vk),("bills",vb),("earlier",.ref e)])/\H dx=aa (.own a)/\B e=aj/\H e=aa (.lst vs)/\Bk K C/\Rp K B k (hidL [a,e] H) vk/\Rp K B b (hidL [a,e] H) vb/\Rps K B es (hidL [a,e] H) vs:=by rw[Rp]
theorem Rp.scr_{ns:aH}{v:V}:Rp K B (.scr ns) H v↔∃a,v=.ref a/\B a=aj/\SqF K H a (ns.map V.int):=by rw[Rp]
theorem Rps.nil_{vs:iD}:Rps K B [] H vs↔vs=[]:=by rw[Rps]
theorem Rps.cons_{d:Dt}{ds:iC}{vs:iD}:Rps K B (d::ds) H vs↔∃v r,vs=v::r/\Rp K B d H v/\Rps K B ds H r:=by rw[Rps]
mutual
theorem Rp.mono:∀(d:Dt){H H':Hp}{v:V},Same H H'->Rp K B d H v->Rp K B d H' v
 |.non,_,_,v,e,h=>by unfold Rp at h|-;exact h
 |.bl b,_,_,v,e,h=>by unfold Rp at h|-;exact h
 |.int i,_,_,v,e,h=>by unfold Rp at h|-;exact h
 |.str x,_,_,v,e,h=>by unfold Rp at h|-;exact h
 |.dic,_,_,v,e,h=>by unfold Rp at h|-;obtain⟨a,q,r⟩:=h;exact⟨a,q,e _ _ r⟩
 |.lst ds,_,_,v,e,h=>by
  unfold Rp at h|-;obtain⟨a,vs,rfl,h0,h1,h2⟩:=h;exact⟨a,vs,rfl,h0,e _ _ h1,Rps.mono ds (A6 e) h2⟩
 |.tup ds,_,_,v,e,h=>by
  unfold Rp at h|-;obtain⟨a,vs,rfl,h1,h2⟩:=h;exact⟨a,vs,rfl,e.seqT h1,Rps.mono ds e h2⟩
 |.scr ns,_,_,v,e,h=>by
  unfold Rp at h|-;obtain⟨a,rfl,h0,h1⟩:=h;exact⟨a,rfl,h0,h1.mono e⟩
 |.obj C k b es,_,_,v,e,h=>by
  unfold Rp at h|-;obtain⟨a,dx,vk,vb,l,vs,rfl,h0,h1,h2,h3,h4,h5,h6,h7,h8⟩:=h;exact⟨a,dx,vk,vb,l,vs,rfl,h0,e _ _ h1,e _ _ h2,h3,e _ _ h4,h5,Rp.mono k (A6 e) h6,Rp.mono b (A6 e) h7,Rps.mono es (A6 e) h8⟩
theorem Rps.mono:∀(ds:iC){H H':Hp}{vs:iD},Same H H'->Rps K B ds H vs->Rps K B ds H' vs
 |[],_,_,vs,e,h=>by unfold Rps at h|-;exact h
 |d::ds,_,_,vs,e,h=>by
  unfold Rps at h|-;obtain⟨v,r,rfl,h1,h2⟩:=h;exact⟨v,r,rfl,Rp.mono d e h1,Rps.mono ds e h2⟩
end
mutual
theorem Rp.anti(e:Same B' B):∀(d:Dt){H:Hp}{v:V},Rp K B d H v->Rp K B' d H v
 |.non,_,v,h=>by unfold Rp at h|-;exact h
 |.bl b,_,v,h=>by unfold Rp at h|-;exact h
 |.int i,_,v,h=>by unfold Rp at h|-;exact h
 |.str x,_,v,h=>by unfold Rp at h|-;exact h
 |.dic,_,v,h=>by unfold Rp at h|-;exact h
 |.lst ds,_,v,h=>by
  unfold Rp at h|-;obtain⟨a,vs,rfl,h0,h1,h2⟩:=h;exact⟨a,vs,rfl,e.free h0,h1,Rps.anti e ds h2⟩
 |.tup ds,_,v,h=>by
  unfold Rp at h|-;obtain⟨a,vs,rfl,h1,h2⟩:=h;exact⟨a,vs,rfl,h1,Rps.anti e ds h2⟩
 |.scr ns,_,v,h=>by
  unfold Rp at h|-;obtain⟨a,rfl,h0,h1⟩:=h;exact⟨a,rfl,e.free h0,h1⟩
 |.obj C k b es,_,v,h=>by
  unfold Rp at h|-;obtain⟨a,dx,vk,vb,l,vs,rfl,h0,h1,h2,h3,h4,h5,h6,h7,h8⟩:=h;exact⟨a,dx,vk,vb,l,vs,rfl,e.free h0,h1,h2,e.free h3,h4,h5,Rp.anti e k h6,Rp.anti e b h7,Rps.anti e es h8⟩
theorem Rps.anti(e:Same B' B):∀(ds:iC){H:Hp}{vs:iD},Rps K B ds H vs->Rps K B' ds H vs
 |[],_,vs,h=>by unfold Rps at h|-;exact h
 |d::ds,_,vs,h=>by
  unfold Rps at h|-;obtain⟨v,r,rfl,h1,h2⟩:=h;exact⟨v,r,rfl,Rp.anti e d h1,Rps.anti e ds h2⟩
end
theorem SqT.hid{A:ig}{a:Addr}{xs:iD}(hA:∀b∈A,∀o,H b=aa o->∃vs,o=.lst vs)(h:SqT K H a xs):SqT K (hidL A H) a xs:=by
 rcases h with(h|⟨o,h⟩)|h
 .refine .inl (.inl ?_);rw[i8 λz=>by obtain⟨vs,e⟩:=hA a z _ h;cases e];exact h
 .refine .inl (.inr ⟨o,?_⟩);rw[i8 λz=>by obtain⟨vs,e⟩:=hA a z _ h;cases e];exact h
 .exact .inr h
mutual
theorem Rp.hid{A:ig}(hB:∀b∈A,B b≠aj):∀(d:Dt){H:Hp}{v:V},(∀b∈A,∀o,H b=aa o->∃vs,o=.lst vs)->Rp K B d H v->Rp K B d (hidL A H) v
 |.non,_,v,_,h=>by unfold Rp at h|-;exact h
 |.bl b,_,v,_,h=>by unfold Rp at h|-;exact h
 |.int i,_,v,_,h=>by unfold Rp at h|-;exact h
 |.str x,_,v,_,h=>by unfold Rp at h|-;exact h
 |.dic,_,v,hA,h=>by unfold Rp at h|-;obtain⟨a,q,r⟩:=h;exact⟨a,q,by rw[i8 λz=>by obtain⟨vs,e⟩:=hA a z _ r;cases e];exact r⟩
 |.lst ds,H,v,hA,h=>by
  unfold Rp at h|-;obtain⟨a,vs,rfl,h0,h1,h2⟩:=h;refine⟨a,vs,rfl,h0,by rw[i8 λz=>hB a z h0];exact h1,?_⟩;rw[W6];exact Rps.hid hB ds (λb hb o e=>hA b hb o (B2 e).2) h2
 |.tup ds,H,v,hA,h=>by
  unfold Rp at h|-;obtain⟨a,vs,rfl,h1,h2⟩:=h;exact⟨a,vs,rfl,h1.hid hA,Rps.hid hB ds hA h2⟩
 |.scr ns,H,v,hA,h=>by
  unfold Rp at h|-;obtain⟨a,rfl,h0,h1⟩:=h;exact⟨a,rfl,h0,h1.hid λz=>hB a z h0⟩
 |.obj C k b es,H,v,hA,h=>by
  unfold Rp at h|-;obtain⟨a,dx,vk,vb,l,vs,rfl,h0,h1,h2,h3,h4,h5,h6,h7,h8⟩:=h;refine⟨a,dx,vk,vb,l,vs,rfl,h0,by rw[i8 λz=>hB a z h0];exact h1,by rw[i8 λz=>by obtain⟨vs,e⟩:=hA dx z _ h2;cases e];exact h2,h3,by rw[i8 λz=>hB l z h3];exact h4,h5,?_⟩;rw[W6];exact⟨Rp.hid hB k (λb hb o e=>hA b hb o (B2 e).2) h6,Rp.hid hB b (λb hb o e=>hA b hb o (B2 e).2) h7,Rps.hid hB es (λb hb o e=>hA b hb o (B2 e).2) h8⟩
theorem Rps.hid{A:ig}(hB:∀b∈A,B b≠aj):∀(ds:iC){H:Hp}{vs:iD},(∀b∈A,∀o,H b=aa o->∃vs,o=.lst vs)->Rps K B ds H vs->Rps K B ds (hidL A H) vs
 |[],_,vs,_,h=>by unfold Rps at h|-;exact h
 |d::ds,_,vs,hA,h=>by
  unfold Rps at h|-;obtain⟨v,r,rfl,h1,h2⟩:=h;exact⟨v,r,rfl,Rp.hid hB d hA h1,Rps.hid hB ds hA h2⟩
end
end
mutual
def Dt.flat:Dt->Bool
 |.lst _=>ag
 |.scr _=>ag
 |.obj _ _ _ _=>ag
 |.tup ds=>G0 ds
 |_=>ae
def G0:iC->Bool
 |[]=>ae
 |d::ds=>d.flat&&G0 ds
end
section
variable {K:aE}{B B' H H':Hp}
mutual
theorem Rp.flat:∀(d:Dt){H:Hp}{v:V},d.flat=ae->Rp K B d H v->Rp K B' d H v
 |.non,_,v,_,h=>by unfold Rp at h|-;exact h
 |.bl b,_,v,_,h=>by unfold Rp at h|-;exact h
 |.int i,_,v,_,h=>by unfold Rp at h|-;exact h
 |.str x,_,v,_,h=>by unfold Rp at h|-;exact h
 |.dic,_,v,_,h=>by unfold Rp at h|-;exact h
 |.lst ds,_,v,f,h=>by unfold Dt.flat at f;cases f
 |.tup ds,_,v,f,h=>by
  unfold Dt.flat at f;unfold Rp at h|-;obtain⟨a,vs,rfl,h1,h2⟩:=h;exact⟨a,vs,rfl,h1,Rps.flat ds f h2⟩
 |.scr ns,_,v,f,h=>by unfold Dt.flat at f;cases f
 |.obj C k b es,_,v,f,h=>by unfold Dt.flat at f;cases f
theorem Rps.flat:∀(ds:iC){H:Hp}{vs:iD},G0 ds=ae->Rps K B ds H vs->Rps K B' ds H vs
 |[],_,vs,_,h=>by unfold Rps at h|-;exact h
 |d::ds,_,vs,f,h=>by
  unfold G0 at f;rw[wF]at f;unfold Rps at h|-;obtain⟨v,r,rfl,h1,h2⟩:=h;exact⟨v,r,rfl,Rp.flat d f.1 h1,Rps.flat ds f.2 h2⟩
end
theorem Rps.length:∀{ds:iC}{vs:iD},Rps K B ds H vs->vs.length=ds.length
 |[],vs,h=>by rw[Rps.nil_.mp h];rfl
 |d::ds,vs,h=>by
  obtain⟨v,r,rfl,_,h2⟩:=Rps.cons_.mp h;rw[wp,wp,Rps.length h2]
theorem Rps.get:∀{ds:iC}{vs:iD}{i:Nat}{d:Dt},Rps K B ds H vs->ds[i]?=aa d->∃v,vs[i]?=aa v/\Rp K B d H v
 |[],vs,i,d,_,e=>by simp at e
 |c::ds,vs,0,d,h,e=>by
  obtain⟨v,r,rfl,h1,_⟩:=Rps.cons_.mp h;simp at e;subst e;exact⟨v,rfl,h1⟩
 |c::ds,vs,i+1,d,h,e=>by
  obtain⟨v,r,rfl,_,h2⟩:=Rps.cons_.mp h;have e:ds[i]?=aa d:=by simpa using e
  obtain⟨u,q1,q2⟩:=Rps.get h2 e;exact⟨u,by simpa using q1,q2⟩
theorem Rps.append:∀{ds ds':iC}{vs vs':iD},Rps K B ds H vs->Rps K B ds' H vs'->Rps K B (ds++ds') H (vs++vs')
 |[],ds',vs,vs',h,h'=>by rw[Rps.nil_.mp h];exact h'
 |d::ds,ds',vs,vs',h,h'=>by
  obtain⟨v,r,rfl,h1,h2⟩:=Rps.cons_.mp h;exact Rps.cons_.mpr ⟨v,r++vs',rfl,h1,Rps.append h2 h'⟩
theorem Rps.one{d:Dt}{v:V}(h:Rp K B d H v):Rps K B [d] H [v]:=Rps.cons_.mpr ⟨v,[],rfl,h,Rps.nil_.mpr rfl⟩
theorem Rps.take:∀{ds:iC}{vs:iD}(n:Nat),Rps K B ds H vs->Rps K B (ds.take n) H (vs.take n)
 |ds,vs,0,_=>by rw[w19,w19];exact Rps.nil_.mpr rfl
 |[],vs,n+1,h=>by rw[Rps.nil_.mp h];exact Rps.nil_.mpr rfl
 |d::ds,vs,n+1,h=>by
  obtain⟨v,r,rfl,h1,h2⟩:=Rps.cons_.mp h;exact Rps.cons_.mpr ⟨v,r.take n,rfl,h1,Rps.take n h2⟩
theorem Rps.drop:∀{ds:iC}{vs:iD}(n:Nat),Rps K B ds H vs->Rps K B (ds.drop n) H (vs.drop n)
 |ds,vs,0,h=>h
 |[],vs,n+1,h=>by rw[Rps.nil_.mp h];exact Rps.nil_.mpr rfl
 |d::ds,vs,n+1,h=>by
  obtain⟨v,r,rfl,h1,h2⟩:=Rps.cons_.mp h;exact Rps.drop n h2
theorem Rps.set:∀{ds:iC}{vs:iD}(i:Nat){d:Dt}{v:V},Rps K B ds H vs->Rp K B d H v->Rps K B (ds.set i d) H (vs.set i v)
 |[],vs,i,d,v,h,_=>by rw[Rps.nil_.mp h];exact Rps.nil_.mpr rfl
 |c::ds,vs,0,d,v,h,q=>by
  obtain⟨u,r,rfl,h1,h2⟩:=Rps.cons_.mp h;exact Rps.cons_.mpr ⟨v,r,rfl,q,h2⟩
 |c::ds,vs,i+1,d,v,h,q=>by
  obtain⟨u,r,rfl,h1,h2⟩:=Rps.cons_.mp h;exact Rps.cons_.mpr ⟨u,r.set i v,rfl,h1,Rps.set i h2 q⟩
theorem Rps.ints:∀{ns:aH}{vs:iD},Rps K B (ns.map Dt.int) H vs↔vs=ns.map V.int
 |[],vs=>Rps.nil_
 |n::ns,vs=>by
  rw[wj,Rps.cons_];constructor
  .rintro⟨v,r,rfl,h1,h2⟩;rw[Rp.int_.mp h1,Rps.ints.mp h2];rfl
  .rintro rfl;exact⟨_,_,rfl,Rp.int_.mpr rfl,Rps.ints.mpr rfl⟩
theorem ED{p:Addr}{o:HO}(h:H p=aj):hidL [p] (upd H p o)=H:=funext λb=>by
 by_cases q:b=p
 .subst q;rw[J2 (by simp),h]
 .rw[i8 (by simpa using q),i7 q]
theorem m6{p:Addr}{o:HO}(h:H p=aj):Same H (upd H p o):=λb u e=>by rw[i7 (A0 e h)];exact e
theorem Rp.new{ds:iC}{vs:iD}{p:Addr}(hp:H p=aj)(hB:B p=aj)(r:Rps K B ds H vs):Rp K B (.lst ds) (upd H p (.lst vs)) (.ref p):=
 Rp.lst_.mpr ⟨p,vs,rfl,hB,j6,by rw[ED hp];exact r⟩
end
inductive Fl where
 |sh|tn|fr|nw
def Fl.isNw:Fl->Bool
 |.nw=>ae
 |_=>ag
def Fl.isFr:Fl->Bool
 |.nw=>ae
 |.fr=>ae
 |_=>ag
abbrev Dv:=Fl×Dt
abbrev iE:=List Dv
def nrm(f:Fl)(d:Dt):Dv:=(if d.flat then .nw else f,d)
structure Ky where
 K:aE
 H₀:Hp
abbrev Cx.ky(X:Cx):Ky:=⟨X.K,X.H₀⟩
def RpF(X:Ky)(H:Hp)(f:Fl)(d:Dt)(H':Hp)(v:V):Prop:=match f with
 |.sh=>Rp X.K emp d H' v
 |.tn=>Rp X.K emp d H' v/\(∃ds,d=.lst ds)/\∀a,v=.ref a->H a=aj
 |.fr=>Rp X.K X.H₀ d H' v
 |.nw=>Rp X.K H d H' v
section
variable {X:Ky}{H H' H1:Hp}{f:Fl}{d:Dt}{v:V}
theorem RpF.sh(h:RpF X H f d H' v):Rp X.K emp d H' v:=by
 cases f with
 |sh=>exact h
 |tn=>exact h.1
 |fr=>exact Rp.anti Same.emp d h
 |nw=>exact Rp.anti Same.emp d h
theorem RpF.fr(h0:Same X.H₀ H)(e:f.isFr=ae)(h:RpF X H f d H' v):Rp X.K X.H₀ d H' v:=by
 cases f with
 |sh=>cases e
 |tn=>cases e
 |fr=>exact h
 |nw=>exact Rp.anti h0 d h
theorem RpF.mono(h:RpF X H f d H' v)(s:Same H' H1):RpF X H f d H1 v:=by
 cases f with
 |sh=>exact Rp.mono d s h
 |tn=>exact⟨Rp.mono d s h.1,h.2⟩
 |fr=>exact Rp.mono d s h
 |nw=>exact Rp.mono d s h
theorem RpF.early(s:Same H H1)(h:RpF X H1 f d H' v):RpF X H f d H' v:=by
 cases f with
 |sh=>exact h
 |tn=>exact⟨h.1,h.2.1,λa e=>s.free (h.2.2 a e)⟩
 |fr=>exact h
 |nw=>exact Rp.anti s d h
theorem RpF.nrm(h:RpF X H f d H' v):RpF X H (nrm f d).1 d H' v:=by
 unfold L2.nrm;by_cases q:d.flat=ae
 .rw[ap q];exact Rp.flat d q h.sh
 .rw[ax q];exact h
theorem RpF.scal(q:d.flat=ae)(h:Rp X.K emp d H' v):RpF X H .nw d H' v:=Rp.flat d q h
end
inductive Cell where
 |no|sh (f:Bool) (d:Dt)|ow (f:Bool) (ds:iC)|ex
abbrev Rho:=List Cell
def flOf(f:Bool):Fl:=if f then .fr else .sh
def Cell.val:Cell->Option Dv
 |.no=>aj
 |.ex=>aj
 |.sh f d=>aa (nrm (flOf f) d)
 |.ow f ds=>aa (flOf f,.lst ds)
def LO(ρ:Rho)(i:Nat):Option Dv:=(ρ[i]?).bind Cell.val
def bsOf(X:Ky)(f:Bool):Hp:=if f then X.H₀ else emp
def UB(K:aE)(a:Addr)(h:aX):Prop:=∃oe C,h.get? a=aa oe/\oe.cls=.ref C/\gq K (.ref C) (.type "ValueError")=aa ae
def RpC(X:Ky)(H:Hp):Cell->Option V->Prop
 |.no,_=>True
 |.ex,o=>∃a φ,o=aa (.ref a)/\H a=aa (.ext φ)/\∀h,φ h->UB X.K a h
 |.sh f d,o=>∃v,o=aa v/\Rp X.K (bsOf X f) d H v
 |.ow f ds,o=>∃v,o=aa v/\Rp X.K (bsOf X f) (.lst ds) H v
structure RepS(X:Ky)(H:Hp)(ρ:Rho)(σ:St):Prop where
 len:ρ.length=σ.length
 base:Same X.H₀ H
 at_:∀(i:Nat)(c:Cell),ρ[i]?=aa c->∃o,σ[i]?=aa o/\RpC X H c o
section
variable {X:Ky}{H H':Hp}{ρ:Rho}{σ:St}
theorem RpC.mono(e:Same H H'){c:Cell}{o:Option V}(h:RpC X H c o):RpC X H' c o:=by
 cases c with
 |no=>trivial
 |ex=>obtain⟨a,φ,q,r,z⟩:=h;exact⟨a,φ,q,e _ _ r,z⟩
 |sh f d=>obtain⟨v,q,r⟩:=h;exact⟨v,q,Rp.mono d e r⟩
 |ow f ds=>obtain⟨v,q,r⟩:=h;exact⟨v,q,Rp.mono _ e r⟩
theorem RepS.mono(h:RepS X H ρ σ)(e:Same H H'):RepS X H' ρ σ:=⟨h.len,h.base.trans e,λi c q=>by obtain⟨o,q1,q2⟩:=h.at_ i c q;exact⟨o,q1,q2.mono e⟩⟩
theorem UC{f:Bool}{d:Dt}{v:V}(h:Rp X.K (bsOf X f) d H v):RpF X H (flOf f) d H v:=by
 cases f with
 |false=>exact h
 |true=>exact h
theorem RepS.val(h:RepS X H ρ σ){i:Nat}{f:Fl}{d:Dt}(e:LO ρ i=aa (f,d)):∃v,σ[i]?=aa (aa v)/\RpF X H f d H v:=by
 unfold LO at e;cases q:ρ[i]? with
 |none=>rw[q]at e;cases e
 | some c =>
  rw[q]at e;obtain⟨o,q1,q2⟩:=h.at_ i c q;cases c with
  |no=>cases e
  |ex=>cases e
  |sh f' d'=>
   obtain⟨v,rfl,r⟩:=q2;have e:nrm (flOf f') d'=(f,d):=aM e;have r':=(UC r).nrm;refine⟨v,q1,?_⟩;have e1:d'=d:=bV gO e;subst e1;rw[e]at r';exact r'
  |ow f' ds=>
   obtain⟨v,rfl,r⟩:=q2;cases e;exact⟨v,q1,UC r⟩
end
end L2
end
section
namespace L2
theorem PE.imp{X:Cx}{e:aV}{t t':TE}(h:PE X e t)(q:∀σ H Q,t' σ H Q->t σ H Q):PE X e t':=λπ s σ H Q I z=>h π s σ H Q I (q σ H Q z)
theorem PT.imp{X:Cx}{e:aV}{t t':TT}(h:PT X e t)(q:∀σ H Q,t' σ H Q->t σ H Q):PT X e t':=λπ s σ H Q I z=>h π s σ H Q I (q σ H Q z)
theorem PW.imp{X:Cx}{e:aV}{t t':TT}(h:PW X e t)(q:∀σ H Q,t' σ H Q->t σ H Q):PW X e t':=λwhole π s σ H Q I z=>h whole π s σ H Q I (q σ H Q z)
theorem PA.imp{X:Cx}{es:ik}{t t':TA}(h:PA X es t)(q:∀σ H Q,t' σ H Q->t σ H Q):PA X es t':=λpos π s σ H Q I z=>h pos π s σ H Q I (q σ H Q z)
theorem bind_some{α β:Type}{o:Option α}{f:α->Option β}{b:β}(h:o.bind f=aa b):∃a,o=aa a/\f a=aa b:=by
 cases o with
 |none=>cases h
 |some a=>exact⟨a,rfl,h⟩
section
variable {X:Ky}{H H':Hp}
theorem RpF.i_{i:Int}:RpF X H .nw (.int i) H' (.int i):=(Rp.int_ (K:=X.K) (B:=H) (H:=H')).mpr rfl
theorem RpF.b_{i:Bool}:RpF X H .nw (.bl i) H' (.bl i):=(Rp.bl_ (K:=X.K) (B:=H) (H:=H')).mpr rfl
theorem RpF.s_{i:Str}:RpF X H .nw (.str i) H' (.str i):=(Rp.str_ (K:=X.K) (B:=H) (H:=H')).mpr rfl
theorem RpF.n_:RpF X H .nw .non H' .non:=(Rp.non_ (K:=X.K) (B:=H) (H:=H')).mpr rfl
end
abbrev FE:=Rho->Option Dv
abbrev FT:=Rho->Option Bool
abbrev FA:=Rho->Option (iE)
def upK(Y:Ky)(F:FE):TE:=λσ H Q=>∃ρ f d,RepS Y H ρ σ/\F ρ=aa (f,d)/\∀v H',Same H H'->RpF Y H f d H' v->Q v H'
abbrev upF(X:Cx)(F:FE):TE:=upK X.ky F
def PF(X:Cx)(e:aV)(F:FE):Prop:=PE X e (upF X F)
def upBK(Y:Ky)(F:FT):TT:=λσ H Q=>∃ρ b,RepS Y H ρ σ/\F ρ=aa b/\∀H',Same H H'->Q b H'
abbrev upB(X:Cx)(F:FT):TT:=upBK X.ky F
def PFT(X:Cx)(e:aV)(F:FT):Prop:=PT X e (upB X F)
def PFW(X:Cx)(e:aV)(F:FT):Prop:=PW X e (upB X F)
theorem PFW.pt{X:Cx}{e:aV}{F:FT}(h:PFW X e F):PFT X e F:=PW.pt h
section
variable {X:Cx}{a b c e:aV}{Fa Fb Fc:FE}{pos:Pos}
def fN(i:Nat):FE:=λρ=>LO ρ i
theorem b9(i:Nat){x:Str}{pos:Pos}(hN:X.N[i]?=aa x:=by rfl)(hv:Vis X.env.scope x:=by first|exact aR rfl|exact bH (aR rfl)|exact bH (bH rfl))(hd:(x==("__debug__":Str))=ag:=by decide)
  (hcd:(x==("__classdict__":Str))=ag:=by decide):PF X (.Name x pos) (fN i):=
 (Dz hN hv hd hcd).imp fun σ H Q ⟨ρ,f,d,rs,e,k⟩=>by
  obtain⟨v,e1,e2⟩:=rs.val e;exact⟨v,e1,k v H (Same.refl H) e2⟩
def fC(d:Dt):FE:=λ_=>aa (.nw,d)
theorem f8{i:Int}{j:Nat}:PF X (.Constant (.int i) j pos) (fC (.int i)):=Gf.imp (by rintro σ H Q ⟨ρ,f,d,rs,e,k⟩;cases e;exact k _ H (Same.refl H) RpF.i_)
theorem p_bl{v:Bool}{j:Nat}:PF X (.Constant (.bool v) j pos) (fC (.bl v)):=RF.imp (by rintro σ H Q ⟨ρ,f,d,rs,e,k⟩;cases e;exact k _ H (Same.refl H) RpF.b_)
theorem RS{j:Nat}:PF X (.Constant .none j pos) (fC .non):=pe_non.imp (by rintro σ H Q ⟨ρ,f,d,rs,e,k⟩;cases e;exact k _ H (Same.refl H) RpF.n_)
theorem p_str{x:Str}{j:Nat}:PF X (.Constant (.str x) j pos) (fC (.str x)):=pe_str.imp (by rintro σ H Q ⟨ρ,f,d,rs,e,k⟩;cases e;exact k _ H (Same.refl H) RpF.s_)
theorem Kn{x:Str}{i:Int}{t:Tok}(hg:Gl X x)(hm:X.mg x=aa (.int i t))(hd:(x==("__debug__":Str))=ag:=by decide):PF X (.Name x pos) (fC (.int i)):=
 (RG (v:=V.int i) hg hm ⟨t,rfl⟩ hd).imp (by rintro σ H Q ⟨ρ,f,d,rs,e,k⟩;cases e;exact k _ H (Same.refl H) RpF.i_)
abbrev FO:=Dt->Dt->Option Dv
def OpF(X:Cx)(f:Value->Value->Sem Value)(r:FO):Prop:=
 OpR X f (λx y H Q=>∃dx dy f d,Rp X.K emp dx H x/\Rp X.K emp dy H y/\r dx dy=aa (f,d)/\∀v H',Same H H'->RpF X.ky H f d H' v->Q v H')
def fOp(r:FO)(Fa Fb:FE):FE:=λρ=>(Fa ρ).bind λx=>(Fb ρ).bind λy=>r x.2 y.2
theorem NR{r:FO}{σ:St}{H:Hp}{Q:VK}(h:upF X (fOp r Fa Fb) σ H Q):
  upF X Fa σ H λx H1=>upF X Fb σ H1 λy H2=>∃dx dy f d,Rp X.K emp dx H2 x/\Rp X.K emp dy H2 y/\r dx dy=aa (f,d)/\∀v H',Same H2 H'->RpF X.ky H2 f d H' v->Q v H':=by
 obtain⟨ρ,f,d,rs,e,k⟩:=h;obtain⟨⟨fa,da⟩,ea,e⟩:=bind_some e;obtain⟨⟨fb,db⟩,eb,e⟩:=bind_some e;exact⟨ρ,fa,da,rs,ea,λv H1 s1 r1=>⟨ρ,fb,db,rs.mono s1,eb,λu H2 s2 r2=>⟨da,db,f,d,Rp.mono _ s2 r1.sh,r2.sh,e,λw H' s' r'=>k w H' (s1.trans (s2.trans s')) (r'.early (s1.trans s2))⟩⟩⟩
theorem p_op{op:Operator}{r:FO}(ho:OpF X (cL op) r)(ha:PF X a Fa)(hb:PF X b Fb):PF X (.BinOp a op b pos) (fOp r Fa Fb):=(pe_op ho ha hb).imp λσ H Q h=>NR h
theorem p_cmp{op:hV}{r:FO}(ho:OpF X (bK op) r)(ha:PF X a Fa)(hb:PF X b Fb)(hm:dI op b=ag):PF X (.Compare a [op] [b] pos) (fOp r Fa Fb):=(Yk ho ha hb hm).imp λσ H Q h=>NR h
def rII(C:Int->Int->Bool)(g:Int->Int->Dt):FO
 |.int i,.int j=>if C i j then aa (.nw,g i j) else aj
 |_,_=>aj
theorem Ko{f:Value->Value->Sem Value}{P:Int->Int->Prop}{C:Int->Int->Bool}{g:Int->Int->V}{g':Int->Int->Dt}(ho:OpR X f (rI P g))(hP:∀i j,C i j=ae->P i j)(hf:∀i j,(g' i j).flat=ae)(hg:∀i j H,Rp X.K emp (g' i j) H (g i j)):OpF X f (rII C g'):=
 λπ s σ H x y v u Q I r1 r2 ⟨d1,d2,f,d,q1,q2,e,k⟩=>by
  unfold rII at e;split at e
  .rename_i i j;split at e
   .rename_i hc;cases e;rw[Rp.int_]at q1 q2;exact ho π s σ H x y v u Q I r1 r2 ⟨i,j,q1,q2,hP i j hc,k _ H (Same.refl H) (RpF.scal (hf i j) (hg i j H))⟩
   .cases e
  .cases e
theorem CG{f:Value->Value->Sem Value}{g:Int->Int->V}{g':Int->Int->Dt}(ho:OpR X f (rI0 g))(hf:∀i j,(g' i j).flat=ae)(hg:∀i j H,Rp X.K emp (g' i j) H (g i j)):OpF X f (rII (λ_ _=>ae) g'):=
 λπ s σ H x y v u Q I r1 r2⟨d1,d2,f,d,q1,q2,e,k⟩=>by
  unfold rII at e;split at e
  .rename_i i j;rw[ap rfl]at e;cases e;rw[Rp.int_]at q1 q2;exact ho π s σ H x y v u Q I r1 r2 ⟨i,j,q1,q2,k _ H (Same.refl H) (RpF.scal (hf i j) (hg i j H))⟩
  .cases e
def OpF.or{f:Value->Value->Sem Value}{r r':FO}(h:OpF X f r)(h':OpF X f r'):OpF X f (λx y=>(r x y).orElse λ_=>r' x y):=
 λπ s σ H x y v u Q I r1 r2⟨d1,d2,f,d,q1,q2,e,k⟩=>by
  replace e:((r d1 d2).orElse λ_=>r' d1 d2)=aa (f,d):=e;cases q:r d1 d2 with
  |some z=>
   rw[q]at e;cases e;exact h π s σ H x y v u Q I r1 r2 ⟨d1,d2,_,_,q1,q2,q,k⟩
  |none=>
   rw[q]at e;exact h' π s σ H x y v u Q I r1 r2 ⟨d1,d2,_,_,q1,q2,e,k⟩
def D9(i j:Int):Bool:=decide (bP i+bP j<=134217728)||(decide (i.natAbs<2^64)||decide (j.natAbs<2^64))
def L9(_ j:Int):Bool:=decide (j≠0)&&decide (j.natAbs.log2<9000)
def S4(_ j:Int):Bool:=decide (j≠0)
def Gk(i j:Int):Bool:=decide (0<=j)&&decide (j<=1000000)&&decide (i.natAbs<2^64)
theorem Yw:OpR X (cL .Mult) (rI (λi j=>D9 i j=ae) λi j=>.int (i*j)):=opI λi j _ _ _ _ _ hc q=>by
 refine mul_int q ?_;unfold D9 at hc;rw[vJ,vJ]at hc;rcases hc with hc|hc|hc
 .exact IntMulOk.of_le (wf _) (wf _) (ba hc)
 .have:=ba hc;exact CMul.ok (.inl ⟨(),()⟩)
 .have:=ba hc;exact CMul.ok (.inr ⟨(),()⟩)
def UD:FO:=rII (λ_ _=>ae) λi j=>.int (i+j)
def K7:FO:=rII (λ_ _=>ae) λi j=>.int (i-j)
def G1:FO:=rII D9 λi j=>.int (i*j)
def Ah:FO:=rII L9 λi j=>.int (i.fdiv j)
def G4:FO:=rII S4 λi j=>.int (i.fmod j)
def IJ:FO:=rII Gk λi j=>.int (i^j.toNat)
def opLt:FO:=rII (λ_ _=>ae) λi j=>.bl (decide (i<j))
def opLe:FO:=rII (λ_ _=>ae) λi j=>.bl (decide (i<=j))
def opGt:FO:=rII (λ_ _=>ae) λi j=>.bl (decide (j<i))
def opGe:FO:=rII (λ_ _=>ae) λi j=>.bl (decide (j<=i))
theorem o_addI:OpF X (cL .Add) UD:=CG op_add (λ_ _=>rfl) λ_ _ _=>Rp.int_.mpr rfl
theorem CH:OpF X (cL .Sub) K7:=CG op_sub (λ_ _=>rfl) λ_ _ _=>Rp.int_.mpr rfl
theorem EE:OpF X (cL .Mult) G1:=Ko Yw (λ_ _ h=>h) (λ_ _=>rfl) λ_ _ _=>Rp.int_.mpr rfl
theorem BY:OpF X (cL .FloorDiv) Ah:=Ko Uz (λi j h=>by unfold L9 at h;rw[wF]at h;exact⟨ba h.1,ba h.2⟩) (λ_ _=>rfl) λ_ _ _=>Rp.int_.mpr rfl
theorem O6:OpF X (cL .Mod) G4:=Ko Yj (λi j h=>ba h) (λ_ _=>rfl) λ_ _ _=>Rp.int_.mpr rfl
theorem UE:OpF X (cL .Pow) IJ:=Ko op_pow (λi j h=>by unfold Gk at h;rw[wF,wF]at h;exact⟨ba h.1.1,ba h.1.2,ba h.2⟩) (λ_ _=>rfl) λ_ _ _=>Rp.int_.mpr rfl
theorem o_lt:OpF X (bK .Lt) opLt:=CG op_lt (λ_ _=>rfl) λ_ _ _=>Rp.bl_.mpr rfl
theorem o_le:OpF X (bK .LtE) opLe:=CG op_le (λ_ _=>rfl) λ_ _ _=>Rp.bl_.mpr rfl
theorem o_gt:OpF X (bK .Gt) opGt:=CG op_gt (λ_ _=>rfl) λ_ _ _=>Rp.bl_.mpr rfl
def lfl(ds:iC):Fl:=if G0 ds then .nw else .tn
def newL(ds:iC):Dv:=(lfl ds,.lst ds)
theorem CI{X:Ky}{H:Hp}{ds:iC}{vs:iD}{p:Addr}(hp:H p=aj)(r:Rps X.K emp ds H vs):RpF X H (lfl ds) (.lst ds) (upd H p (.lst vs)) (.ref p):=by
 unfold lfl;by_cases q:G0 ds=ae
 .rw[ap q];exact Rp.new hp hp (Rps.flat ds q r)
 .rw[ax q];exact⟨Rp.new hp rfl r,⟨ds,rfl⟩,λa e=>by cases e;exact hp⟩
def Gm:FO
 |.lst xs,.lst ys=>if xs.length+ys.length<=1000000 then aa (newL (xs++ys)) else aj
 |_,_=>aj
theorem Rp.items{K:aE}{B H:Hp}{ds:iC}{v:V}(h:Rp K B (.lst ds) H v):∃a vs,v=.ref a/\B a=aj/\H a=aa (.lst vs)/\Rps K B ds H vs:=by
 obtain⟨a,vs,e,h0,h1,h2⟩:=Rp.lst_.mp h;exact⟨a,vs,e,h0,h1,Rps.mono _ l9 h2⟩
theorem o_cat:OpF X (cL .Add) Gm:=by
 rintro π s σ H x y v u Q I r1 r2 ⟨d1,d2,f,d,q1,q2,e,k⟩;unfold Gm at e;split at e
 .rename_i xs ys;split at e
  .rename_i hc;cases e;obtain⟨a,vs,rfl,_,ha,ra⟩:=q1.items;obtain⟨b,ws,rfl,_,hb,rb⟩:=q2.items;exact op_cat π s σ H _ _ v u Q I r1 r2 ⟨a,b,vs,ws,rfl,rfl,ha,hb,wu (by rw[ra.length,rb.length];exact hc) (by decide),λp hp=>k _ _ (m6 hp) (CI hp (ra.append rb))⟩
  .cases e
 .cases e
def u6:FO:=λx y=>(UD x y).orElse λ_=>Gm x y
theorem K8:OpF X (cL .Add) u6:=o_addI.or o_cat
def truD:Dt->Option Bool
 |.non=>aa ag
 |.bl b=>aa b
 |.int i=>aa (i != 0)
 |.lst ds=>aa (!ds.isEmpty)
 |.tup ds=>aa (!ds.isEmpty)
 |_=>aj
theorem Rps.isEmpty{K:aE}{B H:Hp}{ds:iC}{vs:iD}(h:Rps K B ds H vs):(!vs.isEmpty)=!ds.isEmpty:=by
 have:=h.length;cases ds<;>cases vs<;>first|rfl|(simp at this)
theorem Yx{H:Hp}{d:Dt}{v:V}{k:Bool}(r:Rp X.K emp d H v)(e:truD d=aa k):TruV X.K v H k:=by
 cases d with
 |non=>rw[Rp.non_.mp r];cases e;rfl
 |bl b=>rw[Rp.bl_.mp r];cases e;rfl
 |int i=>rw[Rp.int_.mp r];cases e;rfl
 |str x=>cases e
 |dic=>cases e
 |obj _ _ _ _=>cases e
 |scr x=>cases e
 |lst ds=>
  obtain⟨p,vs,rfl,_,h1,h2⟩:=r.items;cases e;exact .inl ⟨vs,SqL.of h1,h2.isEmpty.symm⟩
 |tup ds=>
  obtain⟨p,vs,rfl,h1,h2⟩:=Rp.tup_.mp r;cases e;exact .inr (.inl ⟨vs,h1,h2.isEmpty.symm⟩)
def blD:Dt->Option Bool
 |.bl b=>aa b
 |_=>aj
def j9(F:FE):FT:=λρ=>(F ρ).bind λx=>blD x.2
def fTru(F:FE):FT:=λρ=>(F ρ).bind λx=>truD x.2
theorem t_cmp{op:hV}{r:FO}(ho:OpF X (bK op) r)(ha:PF X a Fa)(hb:PF X b Fb)(hm:dI op b=ag):PFT X (.Compare a [op] [b] pos) (j9 (fOp r Fa Fb)):=
 (Yl ho ha hb hm).imp fun σ H Q hZ=>hZ.elim fun ρ hZ=>hZ.elim fun k hZ=>hZ.elim fun rs hZ=>hZ.elim fun e q=>by
  obtain⟨⟨f,d⟩,e1,e2⟩:=bind_some e;refine NR ⟨ρ,f,d,rs,e1,λv H' s r=>?_⟩;cases d<;>first|cases e2|skip
  exact⟨k,Rp.bl_.mp r.sh,q H' s⟩
theorem CJ(ha:PF X a Fa)(he:∀whole,isTrue a X.env whole=(do let v <-whole;standAt a.pos;holding [v] (truthy v))):PFT X a (fTru Fa):=
 (Up ha he).imp fun σ H Q hZ=>hZ.elim fun ρ hZ=>hZ.elim fun k hZ=>hZ.elim fun rs hZ=>hZ.elim fun e q=>by
  obtain⟨⟨f,d⟩,e1,e2⟩:=bind_some e;exact⟨ρ,f,d,rs,e1,λv H' s r=>⟨k,Yx r.sh e2,q H' s⟩⟩
def fNot(F:FT):FT:=λρ=>(F ρ).map not
theorem CK{F:FT}(ha:PFT X a F):PFT X (.UnaryOp .Not a pos) (fNot F):=(pt_not ha).imp λσ H Q⟨ρ,k,rs,e,q⟩=>by
 unfold fNot at e;cases h:F ρ with
 |none=>rw[h]at e;cases e
 |some b=>rw[h]at e;cases e;exact⟨ρ,b,rs,h,q⟩
def fAnd(F G:FT):FT:=λρ=>(F ρ).bind λb=>if b then G ρ else aa ag
def fOr(F G:FT):FT:=λρ=>(F ρ).bind λb=>if b then aa ae else G ρ
theorem UF{F:FT}(ha:PFT X a F):PFW X (.BoolOp .And [a] pos) F:=Yh ha
theorem Gn{F:FT}(ha:PFT X a F):PFW X (.BoolOp .Or [a] pos) F:=pw_or1 ha
theorem w_and{rest:ik}{F G:FT}(ha:PFT X a F)(hb:PFW X (.BoolOp .And (b::rest) pos) G):PFW X (.BoolOp .And (a::b::rest) pos) (fAnd F G):=
 (pw_and ha hb).imp fun σ H Q hZ=>hZ.elim fun ρ hZ=>hZ.elim fun k hZ=>hZ.elim fun rs hZ=>hZ.elim fun e q=>by
  obtain⟨z,e1,e2⟩:=bind_some e;refine⟨ρ,z,rs,e1,λH' s=>?_⟩;dsimp only;cases z with
  |true=>rw[ap rfl]at e2|-;exact⟨ρ,k,rs.mono s,e2,λH'' s'=>q H'' (s.trans s')⟩
  |false=>rw[ax wH]at e2|-;cases e2;exact q H' s
theorem w_or{rest:ik}{F G:FT}(ha:PFT X a F)(hb:PFW X (.BoolOp .Or (b::rest) pos) G):PFW X (.BoolOp .Or (a::b::rest) pos) (fOr F G):=
 (pw_or ha hb).imp fun σ H Q hZ=>hZ.elim fun ρ hZ=>hZ.elim fun k hZ=>hZ.elim fun rs hZ=>hZ.elim fun e q=>by
  obtain⟨z,e1,e2⟩:=bind_some e;refine⟨ρ,z,rs,e1,λH' s=>?_⟩;dsimp only;cases z with
  |true=>rw[ap rfl]at e2|-;cases e2;exact q H' s
  |false=>rw[ax wH]at e2|-;exact⟨ρ,k,rs.mono s,e2,λH'' s'=>q H'' (s.trans s')⟩
def vAnd(F G:FE):FE:=λρ=>(j9 F ρ).bind λb=>if b then G ρ else aa (.nw,.bl ag)
def vNot(F:FE):FE:=λρ=>(j9 F ρ).map λb=>(.nw,.bl (!b))
theorem RT{op}(h:PF X a Fa):PF X (.BoolOp op [a] pos) Fa:=pe_one h
theorem RU{rest:ik}(ha:PF X a Fa)(hb:PF X (.BoolOp .And (b::rest) pos) Fb):PF X (.BoolOp .And (a::b::rest) pos) (vAnd Fa Fb):=
 (pe_and ha hb).imp fun σ H Q hZ=>hZ.elim fun ρ hZ=>hZ.elim fun f hZ=>hZ.elim fun d hZ=>hZ.elim fun rs hZ=>hZ.elim fun e k=>by
  obtain⟨z,e1,e2⟩:=bind_some e;obtain⟨⟨f1,d1⟩,e3,e4⟩:=bind_some e1;refine⟨ρ,f1,d1,rs,e3,λv H' s r=>?_⟩;cases d1<;>first|cases e4|skip
  refine⟨z,Rp.bl_.mp r.sh,?_⟩;cases z with
  |true=>rw[ap rfl]at e2|-;exact⟨ρ,f,d,rs.mono s,e2,λv H'' s' r=>k v H'' (s.trans s') (r.early s)⟩
  |false=>rw[ax wH]at e2|-;cases e2;exact k _ H' s RpF.b_
theorem p_not(ha:PF X a Fa):PF X (.UnaryOp .Not a pos) (vNot Fa):=(pe_not ha).imp λσ H Q⟨ρ,f,d,rs,e,k⟩=>by
 unfold vNot at e;cases h:j9 Fa ρ with
 |none=>rw[h]at e;cases e
 |some z=>
  rw[h]at e;cases e;obtain⟨⟨f1,d1⟩,e3,e4⟩:=bind_some h;refine⟨ρ,f1,d1,rs,e3,λv H' s r=>?_⟩;cases d1<;>first|cases e4|skip
  exact⟨z,Rp.bl_.mp r.sh,k _ H' s RpF.b_⟩
def fIf(F:FT)(Fa Fb:FE):FE:=λρ=>(F ρ).bind λb=>if b then Fa ρ else Fb ρ
theorem p_if{F:FT}(hc:PFT X c F)(ha:PF X a Fa)(hb:PF X b Fb):PF X (.IfExp c a b pos) (fIf F Fa Fb):=
 (Ui hc ha hb).imp fun σ H Q hZ=>hZ.elim fun ρ hZ=>hZ.elim fun f hZ=>hZ.elim fun d hZ=>hZ.elim fun rs hZ=>hZ.elim fun e k=>by
  obtain⟨z,e1,e2⟩:=bind_some e;refine⟨ρ,z,rs,e1,λH' s=>?_⟩;dsimp only;cases z with
  |true=>rw[ap rfl]at e2|-;exact⟨ρ,f,d,rs.mono s,e2,λv H'' s' r=>k v H'' (s.trans s') (r.early s)⟩
  |false=>rw[ax wH]at e2|-;exact⟨ρ,f,d,rs.mono s,e2,λv H'' s' r=>k v H'' (s.trans s') (r.early s)⟩
def fNeg(F:FE):FE:=λρ=>(F ρ).bind λx=>match x.2 with|.int i=>aa (.nw,.int (-i))|_=>aj
theorem Go(ha:PF X a Fa):PF X (.UnaryOp .USub a pos) (fNeg Fa):=(pe_un un_neg ha).imp λσ H Q⟨ρ,f,d,rs,e,k⟩=>by
 obtain⟨⟨f1,d1⟩,e1,e2⟩:=bind_some e;refine⟨ρ,f1,d1,rs,e1,λv H' s r=>?_⟩;cases d1<;>first|cases e2|skip
 rename_i i;exact⟨i,Rp.int_.mp r.sh,k _ H' s RpF.i_⟩
def Kp(r r':FO)(Fa Fb Fc:FE):FE:=λρ=>(Fa ρ).bind λx=>(Fb ρ).bind λy=>(r x.2 y.2).bind λz=>(blD z.2).bind λk=>if k then(Fc ρ).bind λw=>r' y.2 w.2 else aa (.nw,.bl ag)
theorem Ta{r r':FO}{σ:St}{H:Hp}{Q:VK}(h:upF X (Kp r r' Fa Fb Fc) σ H Q):
  Um (λx y H Q=>∃dx dy f d,Rp X.K emp dx H x/\Rp X.K emp dy H y/\r dx dy=aa (f,d)/\∀v H',Same H H'->RpF X.ky H f d H' v->Q v H') (λx y H Q=>∃dx dy f d,Rp X.K emp dx H x/\Rp X.K emp dy H y/\r' dx dy=aa (f,d)/\∀v H',Same H H'->RpF X.ky H f d H' v->Q v H')
   (upF X Fa) (upF X Fb) (upF X Fc) σ H Q:=by
 obtain⟨ρ,f,d,rs,e0,k⟩:=h;obtain⟨⟨fa,da⟩,ea,e1⟩:=bind_some e0;obtain⟨⟨fb,db⟩,eb,e2⟩:=bind_some e1;obtain⟨⟨fz,dz⟩,ez,e3⟩:=bind_some e2;obtain⟨z,ek,e⟩:=bind_some e3;clear e3 e2 e1 e0;refine⟨ρ,fa,da,rs,ea,λv H1 s1 r1=>⟨ρ,fb,db,rs.mono s1,eb,λu H2 s2 r2=>⟨da,db,fz,dz,Rp.mono _ s2 r1.sh,r2.sh,ez,λw H3 s3 r3=>?_⟩⟩⟩;cases dz<;>first|cases ek|skip
 refine⟨z,Rp.bl_.mp r3.sh,?_⟩;cases z with
 |true=>
  rw[ap rfl]at e|-;obtain⟨⟨fc,dc⟩,ec,e⟩:=bind_some e;exact⟨ρ,fc,dc,rs.mono (s1.trans (s2.trans s3)),ec,λw' H4 s4 r4=>⟨db,dc,f,d,Rp.mono _ (s3.trans s4) r2.sh,r4.sh,e,λy H' s' r'=>k y H' (s1.trans (s2.trans (s3.trans (s4.trans s')))) (r'.early (s1.trans (s2.trans (s3.trans s4))))⟩⟩
 |false=>
  rw[ax wH]at e|-;cases e;exact k _ _ (s1.trans (s2.trans s3)) RpF.b_
theorem Yy{op op':hV}{r r':FO}(ho:OpF X (bK op) r)(ho':OpF X (bK op') r')(ha:PF X a Fa)(hb:PF X b Fb)(hc:PF X c Fc)
 (hm:lastMarks [op,op'] [b,c]=ag:=by with_unfolding_all rfl):PF X (.Compare a [op,op'] [b,c] pos) (Kp r r' Fa Fb Fc):=(Uo ho ho' ha hb hc hm).imp λσ H Q h=>Ta h
def isN:Dt->Bool
 |.non=>ae
 |_=>ag
def Au:FO:=λx y=>match y with|.non=>aa (.nw,.bl (isN x))|_=>aj
theorem isNon{H:Hp}{d:Dt}{v:V}(r:Rp X.K emp d H v):decide (v=V.non)=isN d:=by
 cases d with
 |non=>rw[Rp.non_.mp r];rfl
 |bl b=>rw[Rp.bl_.mp r];rfl
 |int i=>rw[Rp.int_.mp r];rfl
 |str x=>rw[Rp.str_.mp r];rfl
 |lst ds=>obtain⟨a,_,rfl,_⟩:=Rp.lst_.mp r;rfl
 |tup ds=>obtain⟨a,_,rfl,_⟩:=Rp.tup_.mp r;rfl
 |scr ds=>obtain⟨a,rfl,_⟩:=Rp.scr_.mp r;rfl
 |dic=>obtain⟨a,rfl,_⟩:=Rp.dic_.mp r;rfl
 |obj _ _ _ _=>obtain⟨a,_,_,_,_,_,rfl,_⟩:=Rp.obj_.mp r;rfl
theorem UG:OpF X (bK .Is) Au:=by
 rintro π s σ H x y v u Q I r1 r2 ⟨d1,d2,f,d,q1,q2,e,k⟩;unfold Au at e;split at e
 .cases e;refine op_isN π s σ H x y v u Q I r1 r2 ⟨Rp.non_.mp q2,?_⟩;rw[isNon q1];exact k _ H (Same.refl H) RpF.b_
 .cases e
theorem Y5{K:aE}{B H:Hp}{ds:iC}{vs:iD}{i:Int}{d:Dt}(h:Rps K B ds H vs)(e:atI ds i=aa d):∃v,atI vs i=aa v/\Rp K B d H v:=by
 unfold atI at e|-;rw[h.length];cases q:ixN ds.length i with
 |none=>rw[q]at e;cases e
 |some j=>
  rw[q]at e;exact h.get e
def Fl.item:Fl->Fl
 |.tn=>.sh
 |f=>f
def opAt(x:Dv)(y:Dv):Option Dv:=match x.2,y.2 with
 |.lst ds,.int i=>(atI ds i).map (nrm x.1.item)
 |.tup ds,.int i=>(atI ds i).map (nrm x.1.item)
 |.scr ns,.int i=>(atI ns i).map λn=>(.nw,.int n)
 |_,_=>aj
def fAt(Fa Fb:FE):FE:=λρ=>(Fa ρ).bind λx=>(Fb ρ).bind λy=>opAt x y
theorem RpF.item{X:Ky}{H H':Hp}{f:Fl}{ds:iC}{v:V}{i:Int}{d:Dt}(h:RpF X H f (.lst ds) H' v)(e:atI ds i=aa d):∃a vs w,v=.ref a/\SqL X.K H' a vs/\atI vs i=aa w/\RpF X H f.item d H' w:=by
 cases f with
 |sh=>obtain⟨a,vs,rfl,_,h1,h2⟩:=Rp.items h;obtain⟨w,e1,e2⟩:=Y5 h2 e;exact⟨a,vs,w,rfl,SqL.of h1,e1,e2⟩
 |tn=>obtain⟨a,vs,rfl,_,h1,h2⟩:=Rp.items h.1;obtain⟨w,e1,e2⟩:=Y5 h2 e;exact⟨a,vs,w,rfl,SqL.of h1,e1,e2⟩
 |fr=>obtain⟨a,vs,rfl,_,h1,h2⟩:=Rp.items h;obtain⟨w,e1,e2⟩:=Y5 h2 e;exact⟨a,vs,w,rfl,SqL.of h1,e1,e2⟩
 |nw=>obtain⟨a,vs,rfl,_,h1,h2⟩:=Rp.items h;obtain⟨w,e1,e2⟩:=Y5 h2 e;exact⟨a,vs,w,rfl,SqL.of h1,e1,e2⟩
theorem RpF.itemT{X:Ky}{H H':Hp}{f:Fl}{ds:iC}{v:V}{i:Int}{d:Dt}(h:RpF X H f (.tup ds) H' v)(e:atI ds i=aa d):∃a vs w,v=.ref a/\SqT X.K H' a vs/\atI vs i=aa w/\RpF X H f.item d H' w:=by
 cases f with
 |sh=>obtain⟨a,vs,rfl,h1,h2⟩:=Rp.tup_.mp h;obtain⟨w,e1,e2⟩:=Y5 h2 e;exact⟨a,vs,w,rfl,h1,e1,e2⟩
 |tn=>obtain⟨⟨_,h2⟩,_⟩:=h.2;cases h2
 |fr=>obtain⟨a,vs,rfl,h1,h2⟩:=Rp.tup_.mp h;obtain⟨w,e1,e2⟩:=Y5 h2 e;exact⟨a,vs,w,rfl,h1,e1,e2⟩
 |nw=>obtain⟨a,vs,rfl,h1,h2⟩:=Rp.tup_.mp h;obtain⟨w,e1,e2⟩:=Y5 h2 e;exact⟨a,vs,w,rfl,h1,e1,e2⟩
theorem Yz{α β:Type}{g:α->β}{xs:List α}{i:Int}{x:α}(h:atI xs i=aa x):atI (xs.map g) i=aa (g x):=by
 unfold atI at h|-;rw[we];cases q:ixN xs.length i with
 |none=>rw[q]at h;cases h
 |some j=>rw[q]at h;have h:xs[j]?=aa x:=h;show(xs.map g)[j]?=_;rw[wx,h];rfl
theorem p_ix(ha:PF X a Fa)(hb:PF X b Fb)(hs:Ki b):PF X (.Subscript a b pos) (fAt Fa Fb):=
 (RN ix_seq ha hb hs).imp fun σ H Q hZ=>hZ.elim fun ρ hZ=>hZ.elim fun f hZ=>hZ.elim fun d hZ=>hZ.elim fun rs hZ=>hZ.elim fun e0 k=>by
  obtain⟨⟨fa,da⟩,ea,e1⟩:=bind_some e0;obtain⟨⟨fb,db⟩,eb,e⟩:=bind_some e1;clear e1 e0;refine⟨ρ,fa,da,rs,ea,λv H1 s1 r1=>⟨ρ,fb,db,rs.mono s1,eb,λu H2 s2 r2=>?_⟩⟩;have r1:=r1.mono s2;unfold opAt at e;split at e
  .rename_i ds i ed ei;cases ed;cases ei;cases q:atI ds i with
   |none=>rw[q]at e;cases e
   |some d0=>
    rw[q]at e;obtain⟨p,vs,w,rfl,h1,h2,h3⟩:=r1.item q;have e:nrm fa.item d0=(f,d):=aM e;have h4:=h3.nrm;have e1:d0=d:=bV gO e;subst e1;rw[e]at h4;exact .inl ⟨p,vs,i,w,rfl,Rp.int_.mp r2.sh,h1,h2,k _ _ (s1.trans s2) h4⟩
  .rename_i ds i ed ei;cases ed;cases ei;cases q:atI ds i with
   |none=>rw[q]at e;cases e
   |some d0=>
    rw[q]at e;obtain⟨p,vs,w,rfl,h1,h2,h3⟩:=r1.itemT q;have e:nrm fa.item d0=(f,d):=aM e;have h4:=h3.nrm;have e1:d0=d:=bV gO e;subst e1;rw[e]at h4;exact .inr (.inl ⟨p,vs,i,w,rfl,Rp.int_.mp r2.sh,h1,h2,k _ _ (s1.trans s2) h4⟩)
  .rename_i ns i ed ei;cases ed;cases ei;cases q:atI ns i with
   |none=>rw[q]at e;cases e
   |some n=>
    rw[q]at e;cases e;obtain⟨p,rfl,_,h1⟩:=Rp.scr_.mp r1.sh;exact .inl ⟨p,_,i,_,rfl,Rp.int_.mp r2.sh,h1.sq,Yz q,k _ _ (s1.trans s2) RpF.i_⟩
  .cases e
end
end L2
end
section
local macro_rules|`(tactic|rfl')=>`(tactic|first|lia|omega +splitDisjunctions)
namespace L2
mutual
def Dt.py:Dt->PyData
 |.non=>.none
 |.bl b=>.bool b
 |.int i=>.int i
 |.str x=>.str x
 |.lst ds=>.list (pys ds)
 |.tup ds=>.tuple (pys ds)
 |.scr ns=>.list (ns.map .int)
 |.dic=>.dict []
 |.obj _ _ _ _=>.none
def pys:iC->List PyData
 |[]=>[]
 |d::ds=>d.py::pys ds
end
mutual
def Dt.okN:Nat->Dt->Bool
 |_,.str x=>PyData.strOk x
 |0,.lst _=>ag
 |0,.tup _=>ag
 |n+1,.lst ds=>oksN n ds
 |n+1,.tup ds=>oksN n ds
 |0,.scr _=>ag
 |_,.dic=>ag
 |_,.obj _ _ _ _=>ag
 |_,_=>ae
def oksN:Nat->iC->Bool
 |_,[]=>ae
 |n,d::ds=>d.okN n&&oksN n ds
end
theorem Kq:∀ns:aH,fe (ns.map fK)=ae/\eM (ns.map fK)=0
 |[]=>⟨rfl,rfl⟩
 |n::ns=>⟨by rw[wj,fe,(Kq ns).1];rfl,by rw[wj,eM,(Kq ns).2];rfl⟩
mutual
theorem CL:∀(n:Nat)(d:Dt),d.okN n=ae->d.py.canLay0=ae/\d.py.depth<=n
 |n,.non,_=>⟨rfl,by rw[Dt.py,dS];exact wy _⟩
 |n,.bl b,_=>⟨rfl,by rw[Dt.py,dS];exact wy _⟩
 |n,.int i,_=>⟨rfl,by rw[Dt.py,dS];exact wy _⟩
 |n,.str x,h=>by
  have h:PyData.strOk x=ae:=by cases n<;>simpa[Dt.okN]using h
  exact⟨by rw[Dt.py,gg];exact h,by rw[Dt.py,dS];exact wy _⟩
 |0,.lst ds,h=>by rw[Dt.okN]at h;cases h
 |0,.tup ds,h=>by rw[Dt.okN]at h;cases h
 |0,.scr ds,h=>by rw[Dt.okN]at h;cases h
 |n,.dic,h=>by cases n<;>(unfold Dt.okN at h;cases h)
 |n,.obj _ _ _ _,h=>by cases n<;>(unfold Dt.okN at h;cases h)
 |n+1,.lst ds,h=>by
  rw[Dt.okN]at h;obtain⟨h1,h2⟩:=Gp n ds h;exact⟨by rw[Dt.py,gg];exact h1,by rw[Dt.py,dS];rfl'⟩
 |n+1,.tup ds,h=>by
  rw[Dt.okN]at h;obtain⟨h1,h2⟩:=Gp n ds h;exact⟨by rw[Dt.py,gg];exact h1,by rw[Dt.py,dS];rfl'⟩
 |n+1,.scr ns,h=>by
  obtain⟨h1,h2⟩:=Kq ns;exact⟨by rw[Dt.py,gg];exact h1,by rw[Dt.py,dS];rfl'⟩
theorem Gp:∀(n:Nat)(ds:iC),oksN n ds=ae->fe (pys ds)=ae/\eM (pys ds)<=n
 |n,[],_=>⟨rfl,by rw[pys,eM];exact wy _⟩
 |n,d::ds,h=>by
  rw[oksN,wF]at h;obtain⟨h1,h2⟩:=CL n d h.1;obtain⟨h3,h4⟩:=Gp n ds h.2;refine⟨by rw[pys,fe,h1,h3];rfl,?_⟩;rw[pys,eM];exact Nat.max_le.mpr ⟨h2,h4⟩
end
theorem Bd{d:Dt}{n:Nat}(h:d.okN n=ae)(hn:n<=64):SeqAt.shaped d.py=ae:=by
 obtain⟨h1,h2⟩:=CL n d h;unfold SeqAt.shaped;rw[h1,Bool.true_and];exact aI (wu h2 hn)
section
variable {X:Cx}{π:aB}{σ:St}{H:Hp}{s:Shared}
theorem Gq{h:aX}:∀{ns:aH}{us:aG},Vals (ns.map V.int) us->∃as,ReadsAll h us (ns.map fK) as
 |[],us,r=>by cases r;exact⟨_,.nil⟩
 | n::ns,us,r=>by
  rw[wj]at r;cases r with
  |cons r1 r2=>
   obtain⟨t,rfl⟩:=r1;obtain⟨as,q⟩:=Gq r2;exact⟨_,.cons (.int n t) q⟩
mutual
theorem S5(I:Inv X π σ H s):∀(n:Nat)(d:Dt){v:V}{u:Value},d.okN n=ae->Rp X.K emp d H v->RelV v u->∃as,Reads s.heap u d.py as
 |n,.non,v,u,_,h,r=>by rw[Rp.non_]at h;subst h;cases r;exact⟨_,.none⟩
 |n,.bl b,v,u,_,h,r=>by rw[Rp.bl_]at h;subst h;cases r;exact⟨_,.bool b⟩
 |n,.int i,v,u,_,h,r=>by rw[Rp.int_]at h;subst h;obtain⟨t,rfl⟩:=r;exact⟨_,.int i t⟩
 |n,.str x,v,u,_,h,r=>by rw[Rp.str_]at h;subst h;obtain⟨t,rfl⟩:=r;exact⟨_,.str x t⟩
 |n,.dic,v,u,o,h,r=>by cases n<;>(unfold Dt.okN at o;cases o)
 |n,.obj _ _ _ _,v,u,o,h,r=>by cases n<;>(unfold Dt.okN at o;cases o)
 |0,.lst ds,v,u,o,h,r=>by rw[Dt.okN]at o;cases o
 |0,.tup ds,v,u,o,h,r=>by rw[Dt.okN]at o;cases o
 |n+1,.lst ds,v,u,o,h,r=>by
  rw[Dt.okN]at o;obtain⟨a,vs,rfl,_,h1,h2⟩:=Rp.lst_.mp h;cases r;obtain⟨its,rv,⟨o,n,e,c,dd,dt⟩,_⟩:=I.list (SqL.of (K:=X.K) h1);obtain⟨as,q⟩:=Av I _ ds (by assumption) (Rps.mono ds l9 h2) rv;exact⟨_,by rw[Dt.py];exact .list e c dt q⟩
 |n+1,.tup ds,v,u,o,h,r=>by
  rw[Dt.okN]at o;obtain⟨a,vs,rfl,h1,h2⟩:=Rp.tup_.mp h;cases r;obtain⟨its,rv,⟨o,e,c,n,dt⟩,_⟩:=I.tuple h1;obtain⟨as,q⟩:=Av I _ ds (by assumption) h2 rv;exact⟨_,by rw[Dt.py];exact .tuple e c dt q⟩
 |n,.scr ns,v,u,_,h,r=>by
  obtain⟨a,rfl,_,h1⟩:=Rp.scr_.mp h;cases r;obtain⟨its,rv,⟨o,n,e,c,dd,dt⟩,_⟩:=I.list h1.sq;obtain⟨as,q⟩:=Gq (h:=s.heap) rv;exact⟨_,by rw[Dt.py];exact .list e c dt q⟩
theorem Av(I:Inv X π σ H s):∀(n:Nat)(ds:iC){vs:iD}{us:aG},oksN n ds=ae->Rps X.K emp ds H vs->Vals vs us->∃as,ReadsAll s.heap us (pys ds) as
 |n,[],vs,us,_,h,r=>by rw[Rps.nil_]at h;subst h;cases r;exact⟨_,by rw[pys];exact .nil⟩
 | n,d::ds,vs,us,o,h,r=>by
  rw[oksN,wF]at o;obtain⟨v,ws,rfl,h1,h2⟩:=Rps.cons_.mp h;cases r with
  |cons r1 r2=>
   obtain⟨as,q1⟩:=S5 I n d o.1 h1 r1;obtain⟨bs,q2⟩:=Av I n ds o.2 h2 r2;exact⟨_,by rw[pys];exact .cons q1 q2⟩
end
end
def eqD(x y:Dt):Bool:=eA x.py y.py
section
variable {X:Cx}{a b c e:aV}{Fa Fb Fc:FE}{pos:Pos}
def opEq:FO:=λx y=>if x.okN 8&&y.okN 8 then aa (.nw,.bl (eqD x y)) else aj
def opNe:FO:=λx y=>if x.okN 8&&y.okN 8 then aa (.nw,.bl (!eqD x y)) else aj
theorem o_eq(hu:X.A.units+64<dk):OpF X (bK .Eq) opEq:=by
 rintro π s σ H x y v u Q I r1 r2 ⟨d1,d2,f,d,q1,q2,e,k⟩;unfold opEq at e;split at e
 .rename_i h;rw[wF]at h;cases e;obtain⟨as,ra⟩:=S5 I _ d1 h.1 q1 r1;obtain⟨bs,rb⟩:=S5 I _ d2 h.2 q2 r2;exact eq_dataH ra rb (Bd h.1 (by decide)) (Bd h.2 (by decide)) hu ⟨.bl _,H,I,rfl,k _ H (Same.refl H) RpF.b_⟩
 .cases e
theorem o_ne(hu:X.A.units+64<dk):OpF X (bK .NotEq) opNe:=by
 rintro π s σ H x y v u Q I r1 r2 ⟨d1,d2,f,d,q1,q2,e,k⟩;unfold opNe at e;split at e
 .rename_i h;rw[wF]at h;cases e;obtain⟨as,ra⟩:=S5 I _ d1 h.1 q1 r1;obtain⟨bs,rb⟩:=S5 I _ d2 h.2 q2 r2;exact ne_dataH ra rb (Bd h.1 (by decide)) (Bd h.2 (by decide)) hu ⟨.bl _,H,I,rfl,k _ H (Same.refl H) RpF.b_⟩
 .cases e
end
def RpFs(X:Ky)(H:Hp):iE->Hp->iD->Prop
 |[],_,vs=>vs=[]
 |x::xs,H',vs=>∃v r,vs=v::r/\RpF X H x.1 x.2 H' v/\RpFs X H xs H' r
def upAs(X:Cx)(F:FA):TA:=λσ H Q=>∃ρ xs,RepS X.ky H ρ σ/\F ρ=aa xs/\∀vs H',Same H H'->RpFs X.ky H xs H' vs->Q vs H'
def PFA(X:Cx)(es:ik)(F:FA):Prop:=PA X es (upAs X F)
def sndL:iE->iC
 |[]=>[]
 |x::xs=>x.2::sndL xs
def BN:iE->Bool
 |[]=>ae
 |x::xs=>x.1.isNw&&BN xs
def P9:iE->Bool
 |[]=>ae
 |x::xs=>x.1.isFr&&P9 xs
section
variable {X:Ky}{H H' H1:Hp}
theorem RpFs.sh:∀{xs:iE}{vs:iD},RpFs X H xs H' vs->Rps X.K emp (sndL xs) H' vs
 |[],vs,h=>Rps.nil_.mpr h
 |x::xs,vs,⟨v,r,e,h1,h2⟩=>Rps.cons_.mpr ⟨v,r,e,h1.sh,RpFs.sh h2⟩
theorem RpFs.nw:∀{xs:iE}{vs:iD},BN xs=ae->RpFs X H xs H' vs->Rps X.K H (sndL xs) H' vs
 |[],vs,_,h=>Rps.nil_.mpr h
 |⟨f,d⟩::xs,vs,q,⟨v,r,e,h1,h2⟩=>by
  unfold BN at q;rw[wF]at q;cases f<;>first|(exact aW q.1 wH)|exact Rps.cons_.mpr ⟨v,r,e,h1,RpFs.nw q.2 h2⟩
theorem RpFs.fr(h0:Same X.H₀ H):∀{xs:iE}{vs:iD},P9 xs=ae->RpFs X H xs H' vs->Rps X.K X.H₀ (sndL xs) H' vs
 |[],vs,_,h=>Rps.nil_.mpr h
 |⟨f,d⟩::xs,vs,q,⟨v,r,e,h1,h2⟩=>by
  unfold P9 at q;rw[wF]at q;exact Rps.cons_.mpr ⟨v,r,e,h1.fr h0 q.1,RpFs.fr h0 q.2 h2⟩
theorem RpFs.mono:∀{xs:iE}{vs:iD},RpFs X H xs H' vs->Same H' H1->RpFs X H xs H1 vs
 |[],vs,h,_=>h
 |x::xs,vs,⟨v,r,e,h1,h2⟩,s=>⟨v,r,e,h1.mono s,RpFs.mono h2 s⟩
theorem RpFs.early(s:Same H H1):∀{xs:iE}{vs:iD},RpFs X H1 xs H' vs->RpFs X H xs H' vs
 |[],vs,h=>h
 |x::xs,vs,⟨v,r,e,h1,h2⟩=>⟨v,r,e,h1.early s,RpFs.early s h2⟩
end
section
variable {X:Cx}{a b c e:aV}{es:ik}{Fa Fb Fe:FE}{Fs:FA}{pos:Pos}
def fNil:FA:=λ_=>aa []
def b8(Fa:FE)(Fs:FA):FA:=λρ=>(Fa ρ).bind λx=>(Fs ρ).bind λxs=>aa (x::xs)
theorem e9:PFA X [] fNil:=A4.imp (by rintro σ H Q ⟨ρ,xs,rs,e,k⟩;cases e;exact k [] H (Same.refl H) rfl)
theorem f7(ha:PF X e Fe)(hr:PFA X es Fs)(hs:au (e::es) X.env=(ag,eval e X.env)::au es X.env:=by rfl):PFA X (e::es) (b8 Fe Fs):=
 (m9 ha hr hs).imp fun σ H Q hZ=>hZ.elim fun ρ hZ=>hZ.elim fun xs hZ=>hZ.elim fun rs hZ=>hZ.elim fun e0 k=>by
  obtain⟨⟨f,d⟩,e1,e2⟩:=bind_some e0;obtain⟨ys,e3,e4⟩:=bind_some e2;cases e4;exact⟨ρ,f,d,rs,e1,λv H1 s1 r1=>⟨ρ,ys,rs.mono s1,e3,λvs H2 s2 r2=>k _ _ (s1.trans s2) ⟨v,vs,rfl,r1.mono s2,r2.early s1⟩⟩⟩
theorem RpFs.length{X:Ky}{H H':Hp}:∀{xs:iE}{vs:iD},RpFs X H xs H' vs->vs.length=xs.length
 |[],vs,h=>by rw[show vs=[]from h];rfl
 |x::xs,vs,⟨v,r,e,_,h2⟩=>by rw[e,wp,wp,RpFs.length h2]
def fLst(Fs:FA):FE:=λρ=>(Fs ρ).bind λxs=>if xs.length<=1000 then aa (if BN xs then .nw else .tn,.lst (sndL xs)) else aj
def fTup(Fs:FA):FE:=λρ=>(Fs ρ).bind λxs=>if xs.length<=1000 then aa (if BN xs then .nw else if P9 xs then .fr else .sh,.tup (sndL xs)) else aj
theorem M0(h:PFA X es Fs):PF X (.List es pos) (fLst Fs):=(Kf h).imp λσ H Q⟨ρ,f,d,rs,e0,k⟩=>by
 obtain⟨xs,e1,e2⟩:=bind_some e0;split at e2
 .rename_i hl;cases e2;refine⟨ρ,xs,rs,e1,λvs H1 s1 r1=>⟨wu (by rw[r1.length];exact hl) (by decide),λp hp=>k _ _ (s1.trans (m6 hp)) ?_⟩⟩;have hp0:H p=aj:=s1.free hp;by_cases q:BN xs=ae
  .rw[ap q];exact Rp.new (K:=X.K) (B:=H) hp hp0 (r1.nw q)
  .rw[ax q];exact⟨Rp.new hp rfl r1.sh,⟨_,rfl⟩,λa e=>by cases e;exact hp0⟩
 .cases e2
theorem CM{x1}(h:PFA X es Fs):PF X (.Tuple es x1 pos) (fTup Fs):=(NJ h).imp λσ H Q⟨ρ,f,d,rs,e0,k⟩=>by
 obtain⟨xs,e1,e2⟩:=bind_some e0;split at e2
 .rename_i hl;cases e2;refine⟨ρ,xs,rs,e1,λvs H1 s1 r1=>⟨wu (by rw[r1.length];exact hl) (by decide),λp hp=>k _ _ (s1.trans (m6 hp)) ?_⟩⟩;have r2:=r1.mono (m6 (o:=.tup vs) hp);by_cases q:BN xs=ae
  .rw[ap q];exact(Rp.tup_ (K:=X.K) (B:=H)).mpr ⟨p,vs,rfl,SqT.of j6,r2.nw q⟩
  .rw[ax q];by_cases q2:P9 xs=ae
   .rw[ap q2];exact(Rp.tup_ (K:=X.K) (B:=X.H₀)).mpr ⟨p,vs,rfl,SqT.of j6,r2.fr rs.base q2⟩
   .rw[ax q2];exact(Rp.tup_ (K:=X.K) (B:=emp)).mpr ⟨p,vs,rfl,SqT.of j6,r2.sh⟩
 .cases e2
abbrev FC:=iC->Option Dt
def spc(K:aE)(fr:Bool)(c:FC):Sp:=λvs H Q _=>∃ds d,Rps K emp ds H vs/\c ds=aa d/\∀v H',Same H H'->Rp K (if fr then H else emp) d H' v->Q v H'
def f9(fr:Bool)(c:FC)(Fs:FA):FE:=λρ=>(Fs ρ).bind λxs=>(c (sndL xs)).map (nrm (if fr then .nw else .sh))
theorem LP{X:Ky}{fr:Bool}{H H1 H':Hp}{d:Dt}{v:V}(s:Same H H1)(r:Rp X.K (if fr then H1 else emp) d H' v):RpF X H (nrm (if fr then .nw else .sh) d).1 d H' v:=by
 cases fr with
 |true=>exact RpF.nrm (f:=.nw) (RpF.early s (show RpF X H1 .nw d H' v from r))
 |false=>exact RpF.nrm (f:=.sh) r
theorem p_call{fr:Bool}{k:Nat}{f:Addr}{fd:az}{ps:ie}{ct:FC}{x:Str}{p:Pos}(F:FnOk X.prog X.w X.K X.mg X.base CX0 k f fd ps (spc X.K fr ct))(hr:Room k X.A)(hg:Gl X x)(hm:X.mg x=aa (.ref f))(hk:cD X.K (.ref f)=ae)(hb:Binds X.K fd ps [])
  (ha:PFA X (e::es) Fs) (hdb:(x==("__debug__":Str))=ag:=by decide) (hst:au (e::es) X.env=(ag,eval e X.env)::au es X.env:=by rfl) (hpl:(bZ pos (au es X.env)).any (·.1)=ag:=by rfl):PF X (.Call (.Name x p) (e::es) [] pos) (f9 fr ct Fs):=
 (E6 (E:=E0) (dvs:=[]) F hr hg hm hk hb .nil Aq ha hdb hst hpl).imp fun σ H Q hZ=>hZ.elim fun ρ hZ=>hZ.elim fun f hZ=>hZ.elim fun d hZ=>hZ.elim fun rs hZ=>hZ.elim fun e0 k=>by
  obtain⟨xs,e1,e2⟩:=bind_some e0;cases q:ct (sndL xs) with
  |none=>rw[q]at e2;cases e2
  |some d0=>
   rw[q]at e2;have e2:nrm (if fr then .nw else .sh) d0=(f,d):=aM e2;have e3:d0=d:=bV gO e2;subst e3;refine⟨ρ,xs,rs,e1,λvs H1 s1 r1=>?_⟩;dsimp only;rw[vd];refine⟨_,d0,r1.sh,q,λv H' s' r'=>k v H' (s1.trans s') ?_⟩;have:=LP (X:=X.ky) s1 r';rw[e2]at this;exact this
abbrev FB:=iC->Option Dv
def Aw(X:Cx)(f:Value)(r:FB):Prop:=Ao X f (λxs H Q=>∃ds f d,Rps X.K emp ds H xs/\r ds=aa (f,d)/\∀v H',Same H H'->RpF X.ky H f d H' v->Q v H')
def fBlt(r:FB)(Fs:FA):FE:=λρ=>(Fs ρ).bind λxs=>r (sndL xs)
theorem RV{r:FB}{σ:St}{H:Hp}{Q:VK}(h:upF X (fBlt r Fs) σ H Q):upAs X Fs σ H λvs H1=>∃ds f d,Rps X.K emp ds H1 vs/\r ds=aa (f,d)/\∀v H',Same H1 H'->RpF X.ky H1 f d H' v->Q v H':=by
 obtain⟨ρ,f,d,rs,e0,k⟩:=h;obtain⟨xs,e1,e2⟩:=bind_some e0;exact⟨ρ,xs,rs,e1,λvs H1 s1 r1=>⟨_,f,d,r1.sh,e2,λv H' s' r'=>k v H' (s1.trans s') (r'.early s1)⟩⟩
theorem YA{id:String}{r:FB}{x:Str}{p:Pos}(hc:Aw X (.builtin id) r)(hg:Gl X x)(hm:X.mg x=aj)(hv:bF x=aa (.builtin id))(ha:PFA X (e::es) Fs)(hn:x ≠ "__name__":=by decide)(hdb:(x==("__debug__":Str))=ag:=by decide)(hst:au (e::es) X.env=(ag,eval e X.env)::au es X.env:=by rfl)(hpl:(bZ pos (au es X.env)).any (·.1)=ag:=by rfl):
 PF X (.Call (.Name x p) (e::es) [] pos) (fBlt r Fs):=(CB hc hg hm hv ha hn hdb hst hpl).imp λσ H Q h=>RV h
theorem UH{T:String}{r:FB}{x:Str}{p:Pos}(hc:Aw X (.type T) r)(hg:Gl X x)(hm:X.mg x=aj)(hv:bF x=aa (.type T))(ha:PFA X (e::es) Fs)(hn:x ≠ "__name__":=by decide)(hdb:(x==("__debug__":Str))=ag:=by decide)(hst:au (e::es) X.env=(ag,eval e X.env)::au es X.env:=by rfl)(hpl:(bZ pos (au es X.env)).any (·.1)=ag:=by rfl):
 PF X (.Call (.Name x p) (e::es) [] pos) (fBlt r Fs):=(Bb hc hg hm hv ha hn hdb hst hpl).imp λσ H Q h=>RV h
end
section
variable {X:Cx}
theorem Rps.one'{K:aE}{B H:Hp}{d:Dt}{vs:iD}(h:Rps K B [d] H vs):∃v,vs=[v]/\Rp K B d H v:=by
 obtain⟨v,r,rfl,h1,h2⟩:=Rps.cons_.mp h;rw[Rps.nil_.mp h2];exact⟨v,rfl,h1⟩
def bLen:FB
 |[.lst xs]=>aa (.nw,.int xs.length)
 |[.tup xs]=>aa (.nw,.int xs.length)
 |[.scr xs]=>aa (.nw,.int xs.length)
 |_=>aj
theorem W7:Aw X (.builtin "len") bLen:=by
 rintro π s σ H xs us Q I r ⟨ds,f,d,rs,e,k⟩;unfold bLen at e;split at e
 .cases e;obtain⟨v,rfl,h⟩:=rs.one';obtain⟨p,vs,rfl,_,q1,q2⟩:=h.items;exact Y2 π s σ H _ us Q I r ⟨p,vs,rfl,.inl (SqL.of q1),by rw[q2.length];exact k _ H (Same.refl H) RpF.i_⟩
 .cases e;obtain⟨v,rfl,h⟩:=rs.one';obtain⟨p,vs,rfl,q1,q2⟩:=Rp.tup_.mp h;exact Y2 π s σ H _ us Q I r ⟨p,vs,rfl,.inr q1,by rw[q2.length];exact k _ H (Same.refl H) RpF.i_⟩
 .cases e;obtain⟨v,rfl,h⟩:=rs.one';obtain⟨p,rfl,_,q1⟩:=Rp.scr_.mp h;exact Y2 π s σ H _ us Q I r ⟨p,_,rfl,.inl q1.sq,by rw[we];exact k _ H (Same.refl H) RpF.i_⟩
 .cases e
def bTup:FB
 |[.lst xs]=>aa (if G0 xs then .nw else .sh,.tup xs)
 |[.tup xs]=>aa (if G0 xs then .nw else .sh,.tup xs)
 |_=>aj
theorem RW{X:Ky}{H H':Hp}{xs:iC}{v:V}(h:Rp X.K emp (.tup xs) H' v):RpF X H (if G0 xs then .nw else .sh) (.tup xs) H' v:=by
 by_cases q:G0 xs=ae
 .rw[ap q];exact RpF.scal (by rw[Dt.flat];exact q) h
 .rw[ax q];exact h
theorem UI:Aw X (.type "tuple") bTup:=by
 rintro π s σ H xs us Q I r ⟨ds,f,d,rs,e,k⟩;unfold bTup at e;split at e
 .cases e;obtain⟨v,rfl,h⟩:=rs.one';obtain⟨p,vs,rfl,_,q1,q2⟩:=h.items;exact G3 π s σ H _ us Q I r ⟨p,vs,rfl,.inl ⟨SqL.of q1,λl hl=>k _ _ (m6 hl) (RW (Rp.tup_.mpr ⟨l,vs,rfl,SqT.of j6,Rps.mono _ (m6 hl) q2⟩))⟩⟩
 .cases e;obtain⟨v,rfl,h⟩:=rs.one';obtain⟨p,vs,rfl,q1,q2⟩:=Rp.tup_.mp h;exact G3 π s σ H _ us Q I r ⟨p,vs,rfl,.inr ⟨q1,k _ H (Same.refl H) (RW h)⟩⟩
 .cases e
def bLst:FB
 |[.lst xs]=>aa (newL xs)
 |[.tup xs]=>aa (newL xs)
 |_=>aj
theorem Gr:Aw X (.type "list") bLst:=by
 rintro π s σ H xs us Q I r ⟨ds,f,d,rs,e,k⟩;unfold bLst at e;split at e
 .cases e;obtain⟨v,rfl,h⟩:=rs.one';obtain⟨p,vs,rfl,_,q1,q2⟩:=h.items;exact CD π s σ H _ us Q I r ⟨p,vs,rfl,.inl (SqL.of q1),λl hl=>k _ _ (m6 hl) (CI hl q2)⟩
 .cases e;obtain⟨v,rfl,h⟩:=rs.one';obtain⟨p,vs,rfl,q1,q2⟩:=Rp.tup_.mp h;exact CD π s σ H _ us Q I r ⟨p,vs,rfl,.inr q1,λl hl=>k _ _ (m6 hl) (CI hl q2)⟩
 .cases e
def bAbs:FB
 |[.int i]=>aa (.nw,.int (if i<0 then -i else i))
 |_=>aj
theorem UJ:Aw X (.builtin "abs") bAbs:=by
 rintro π s σ H xs us Q I r ⟨ds,f,d,rs,e,k⟩;unfold bAbs at e;split at e
 .rename_i i;cases e;obtain⟨v,rfl,h⟩:=rs.one';rw[Rp.int_]at h;subst h;exact Uq π s σ H _ us Q I r ⟨i,rfl,k _ H (Same.refl H) RpF.i_⟩
 .cases e
def bInt:FB
 |[.int i]=>aa (.nw,.int i)
 |[.bl b]=>aa (.nw,.int (if b then 1 else 0))
 |_=>aj
theorem c_int:Aw X (.type "int") bInt:=by
 rintro π s σ H xs us Q I r ⟨ds,f,d,rs,e,k⟩;unfold bInt at e;split at e
 .rename_i i;cases e;obtain⟨v,rfl,h⟩:=rs.one';rw[Rp.int_]at h;subst h;exact IA π s σ H _ us Q I r (.inl ⟨i,rfl,k _ H (Same.refl H) RpF.i_⟩)
 .rename_i b;cases e;obtain⟨v,rfl,h⟩:=rs.one';rw[Rp.bl_]at h;subst h;exact IA π s σ H _ us Q I r (.inr ⟨b,rfl,k _ H (Same.refl H) RpF.i_⟩)
 .cases e
def EG:iC->Option (List Bool)
 |[]=>aa []
 |.bl b::ds=>(EG ds).map (b::·)
 |_=>aj
def Y6:iC->Option (aH)
 |[]=>aa []
 |.int i::ds=>(Y6 ds).map (i::·)
 |_=>aj
theorem IK{K:aE}{B H:Hp}:∀{ds:iC}{bs:List Bool}{vs:iD},EG ds=aa bs->Rps K B ds H vs->vs=bs.map V.bl
 |[],bs,vs,e,r=>by cases e;exact Rps.nil_.mp r
 |.bl b::ds,bs,vs,e,r=>by
  obtain⟨v,ws,rfl,h1,h2⟩:=Rps.cons_.mp r;unfold EG at e;cases q:EG ds with
  |none=>rw[q]at e;cases e
  |some cs=>rw[q]at e;cases e;rw[Rp.bl_.mp h1,IK q h2];rfl
 |.non::ds,bs,vs,e,r=>by cases e
 |.int _::ds,bs,vs,e,r=>by cases e
 |.str _::ds,bs,vs,e,r=>by cases e
 |.lst _::ds,bs,vs,e,r=>by cases e
 |.tup _::ds,bs,vs,e,r=>by cases e
 |.scr _::ds,bs,vs,e,r=>by cases e
 |.dic::ds,bs,vs,e,r=>by cases e
 |.obj _ _ _ _::ds,bs,vs,e,r=>by cases e
theorem Gs{K:aE}{B H:Hp}:∀{ds:iC}{bs:aH}{vs:iD},Y6 ds=aa bs->Rps K B ds H vs->vs=bs.map V.int
 |[],bs,vs,e,r=>by cases e;exact Rps.nil_.mp r
 |.int b::ds,bs,vs,e,r=>by
  obtain⟨v,ws,rfl,h1,h2⟩:=Rps.cons_.mp r;unfold Y6 at e;cases q:Y6 ds with
  |none=>rw[q]at e;cases e
  |some cs=>rw[q]at e;cases e;rw[Rp.int_.mp h1,Gs q h2];rfl
 |.non::ds,bs,vs,e,r=>by cases e
 |.bl _::ds,bs,vs,e,r=>by cases e
 |.str _::ds,bs,vs,e,r=>by cases e
 |.lst _::ds,bs,vs,e,r=>by cases e
 |.tup _::ds,bs,vs,e,r=>by cases e
 |.scr _::ds,bs,vs,e,r=>by cases e
 |.dic::ds,bs,vs,e,r=>by cases e
 |.obj _ _ _ _::ds,bs,vs,e,r=>by cases e
def bAll:FB
 |[.lst xs]=>(EG xs).map λbs=>(.nw,.bl (bs.all id))
 |_=>aj
def bSum:FB
 |[.lst xs]=>(Y6 xs).map λns=>(.nw,.int ns.sum)
 |_=>aj
theorem Tb(bs:List Bool):(aT bs.length).all (λi=>bs.getD i ag)=bs.all id:=by
 rw[w0Z,ud,ud];constructor
 .intro h b hb;obtain⟨i,hi,e⟩:=wI hb;have:=h i (wQ.mpr hi);simp[bA,wa hi,e]at this;exact this
 .intro h i hi;have hi:=wQ.mp hi;have:=h _ (w04 hi);simpa[bA,wa hi]using this
theorem EH(ns:aH):∀k,k<=ns.length->preSum (λi=>ns.getD i 0) k=(ns.take k).sum
 |0,_=>by simp[preSum]
 |k+1,h=>by
  have hk:k<ns.length:=h;rw[preSum,EH ns k (),List.take_succ,wa hk,List.sum_append];simp[bA,wa hk]
theorem YB{bs:List Bool}{us:aG}(r:Vals (bs.map V.bl) us){prog:aN}{w:aP}{A:aU}:TruthOf prog w A (λi v=>us.toArray[i]?=aa v) (λi=>bs.getD i ag):=by
 intro i v s Q E hP hQ;have e:us[i]?=aa v:=by simpa using hP
 cases q:bs[i]? with
 |none=>
  have:=r.none_of (i:=i) (by rw[wx,q];rfl);rw[this]at e;cases e
 |some b=>
  obtain⟨u,h1,h2⟩:=r.get (i:=i) (x:=V.bl b) (by rw[wx,q];rfl);rw[e]at h1;cases h1;cases h2;have hQ':Q b s:=by simpa[bA,q]using hQ
  exact bW hQ'
theorem c_all(hc:X.calm=ae):Aw X (.builtin "all") bAll:=by
 rintro π s σ H xs us Q I r ⟨ds,f,d,rs,e,k⟩;unfold bAll at e;split at e
 .rename_i ys;cases q:EG ys with
  |none=>rw[q]at e;cases e
  |some bs=>
   rw[q]at e;cases e;obtain⟨v,rfl,h⟩:=rs.one';obtain⟨p,vs,rfl,_,q1,q2⟩:=h.items;obtain⟨u,rfl,ru⟩:=r.one;cases ru;have ev:=IK q q2;subst ev;obtain⟨its,rv,pl,hz⟩:=I.list (SqL.of (K:=X.K) q1);have hlen:its.toArray.size=bs.length:=by rw[wq,<-rv.length,we]
   refine call_all_walk (dQ pl.isList ?_);have hne:p≠s.heap.objs.size:=wD (by obtain⟨o,e,_⟩:=pl.isList;exact wm e);refine⟨_,_,_,_,_,_,λi=>bs.getD i ag,rfl,Walks.list (A:=X.A.in1) (I.ok.hd hc) s.heap.objs.size p hne its.toArray,⟨⟨_,wo _ rfl,rfl,rfl⟩,pl.isList.at λo e=>wc _ e⟩,YB rv,λh' tk hk=>?_⟩;rw[hlen,Tb];exact⟨.bl _,H,I.kept λb o e=>hk b o (by simp;exact wD (wm e)) (wc _ e),rfl,k _ H (Same.refl H) RpF.b_⟩
 .cases e
theorem c_sum(hc:X.calm=true):Aw X (.builtin "sum") bSum:=by
 rintro π s σ H xs us Q I r ⟨ds,f,d,rs,e,k⟩;unfold bSum at e;split at e
 .rename_i ys;cases q:Y6 ys with
  |none=>rw[q]at e;cases e
  |some ns=>
   rw[q]at e;cases e;obtain⟨v,rfl,h⟩:=rs.one';obtain⟨p,vs,rfl,_,q1,q2⟩:=h.items;obtain⟨u,rfl,ru⟩:=r.one;cases ru;have ev:=Gs q q2;subst ev;obtain⟨its,rv,pl,hz⟩:=I.list (SqL.of (K:=X.K) q1);have hlen:its.toArray.size=ns.length:=by rw[wq,<-rv.length,we]
   refine call_sum_walkG (dQ pl.isList ?_);have hlt:p<s.heap.objs.size:=by obtain⟨o,e,_⟩:=pl.isList;exact wm e
   have hne:p≠s.heap.objs.size:=wD hlt;refine⟨_,_,_,_,_,_,λi=>ns.getD i 0,rfl,Walks.list (A:=X.A.in1) (I.ok.hd hc) s.heap.objs.size p hne its.toArray,⟨⟨_,wo _ rfl,rfl,rfl⟩,pl.isList.at λo e=>wc _ e⟩,λb hb=>?_,λi v hP=>?_,λh' tk t' hk=>?_⟩
   .show b<(s.heap.push _).objs.size;rw[vw];rcases wg.mp hb with e|hb
    .rw[e];exact wW _
    .rw[wv.mp hb];exact w0H hlt
   .have e:its[i]?=aa v:=by simpa using hP
    cases q:ns[i]? with
    | none =>
      have:=rv.none_of (i:=i) (by rw[wx,q];rfl);rw[this]at e;cases e
    | some n =>
      obtain⟨u,h1,h2⟩:=rv.get (i:=i) (x:=V.int n) (by rw[wx,q];rfl);rw[e]at h1;cases h1;obtain⟨t,rfl⟩:=h2;exact⟨t,by simp[bA,q]⟩
   .rw[hlen,EH ns ns.length (wf _),List.take_length];exact⟨.int _,H,I.kept λb o e=>hk b o (by simp;exact wD (wm e)) (wc _ e),⟨t',rfl⟩,k _ H (Same.refl H) RpF.i_⟩
 .cases e
def tyN:Dt->String
 |.non=>"NoneType"
 |.bl _=>"bool"
 |.int _=>"int"
 |.str _=>"str"
 |.lst _=>"list"
 |.scr _=>"list"
 |.tup _=>"tuple"
 |.dic=>"dict"
 |.obj _ _ _ _=>"Book"
def LQ(t T:String):Bool:=t==T||(t=="bool"&&T=="int")
def okT(T:String):Bool:=T=="int"||T=="bool"||T=="str"||T=="list"||T=="tuple"||T=="dict"
theorem DC{T:String}(h:okT T=ae):T ="int" \/ T ="bool" \/ T ="str" \/ T ="list" \/ T ="tuple" \/ T ="dict":=by
 unfold okT at h;simp only[vJ,beq_iff_eq]at h;rcases h with((((h|h)|h)|h)|h)|h
 .exact .inl h
 .exact .inr (.inl h)
 .exact .inr (.inr (.inl h))
 .exact .inr (.inr (.inr (.inl h)))
 .exact .inr (.inr (.inr (.inr (.inl h))))
 .exact .inr (.inr (.inr (.inr (.inr h))))
def Dt.isO:Dt->Bool
 |.obj _ _ _ _=>ae
 |_=>ag
theorem kit_D{K:aE}{d:Dt}{T:String}(h:okT T=ae)(ho:d.isO=ag):gL K (.type (tyN d)) (.type T)=aa (LQ (tyN d) T):=by
 rcases DC h with rfl|rfl|rfl|rfl|rfl|rfl<;>cases d<;>first|rfl|cases ho
def fIsi(T:String)(F:FE):FE:=λρ=>(F ρ).map λx=>(.nw,.bl (LQ (tyN x.2) T))
theorem YC{T:String}(hT:okT T=ae):Ao X (.builtin "isinstance") (λxs H Q=>∃d v,xs=[v,.ty T]/\Rp X.K emp d H v/\Q (.bl (LQ (tyN d) T)) H):=by
 intro π s σ H xs us Q I r ⟨d,v,ex,h1,fin⟩;subst ex;obtain⟨u,u',rfl,r1,r2⟩:=vals2 r;cases r2;have e:d.isO=ag->_:=λho=>kit_D (K:=X.K) (d:=d) hT ho;cases d with
 |obj C k b es=>
  obtain⟨a,dx,vk,vb,l,vs,rfl,_,q,_,_,_,bk,_⟩:=Rp.obj_.mp h1;cases r1;have sub:LQ (tyN (.obj C k b es)) T=ag:=by rcases DC hT with rfl|rfl|rfl|rfl|rfl|rfl<;>rfl
  have mem:T∈["int","bool","str","list","tuple","dict"]:=by rcases DC hT with rfl|rfl|rfl|rfl|rfl|rfl<;>decide
  refine W5 (x:=.ref a) I rfl (.ins q bk.cls bk.ha bk.hn bk.tk bk.hm) (bk.is T mem) λtk=>⟨.bl _,H,I.tok tk,rfl,?_⟩;rw[sub]at fin;exact fin
 |non=>rw[Rp.non_.mp h1]at r1;exact W5 I r1 .non (e rfl) λtk=>⟨.bl _,H,I.tok tk,rfl,fin⟩
 |bl b=>rw[Rp.bl_.mp h1]at r1;exact W5 I r1 (.bl b) (e rfl) λtk=>⟨.bl _,H,I.tok tk,rfl,fin⟩
 |int i=>rw[Rp.int_.mp h1]at r1;exact W5 I r1 (.int i) (e rfl) λtk=>⟨.bl _,H,I.tok tk,rfl,fin⟩
 |str x=>rw[Rp.str_.mp h1]at r1;exact W5 I r1 (.str x) (e rfl) λtk=>⟨.bl _,H,I.tok tk,rfl,fin⟩
 |dic=>
  obtain⟨a,rfl,q⟩:=Rp.dic_.mp h1;cases r1;exact bq gf I.kIn ⟨_,(I.hok a _ q).1,rfl⟩ (e rfl) (λz=>nomatch z) λtk=>⟨.bl _,H,I.tok tk,rfl,fin⟩
 |lst ys=>
  obtain⟨p,vs,rfl,_,q1,q2⟩:=h1.items;cases r1;obtain⟨its,_,pl,_⟩:=I.list (SqL.of (K:=X.K) q1);obtain⟨o,ho,hc,_⟩:=pl.isList;exact bq eN I.kIn ⟨o,ho,hc⟩ (e rfl) (λz=>nomatch z) λtk=>⟨.bl _,H,I.tok tk,rfl,fin⟩
 |scr ys=>
  obtain⟨p,rfl,_,q1⟩:=Rp.scr_.mp h1;cases r1;obtain⟨its,_,pl,_⟩:=I.list q1.sq;obtain⟨o,ho,hc,_⟩:=pl.isList;exact bq eN I.kIn ⟨o,ho,hc⟩ (e rfl) (λz=>nomatch z) λtk=>⟨.bl _,H,I.tok tk,rfl,fin⟩
 |tup ys=>
  obtain⟨p,vs,rfl,q1,q2⟩:=Rp.tup_.mp h1;cases r1;obtain⟨its,_,pl,_⟩:=I.tuple q1;obtain⟨o,ho,hc,_⟩:=pl;exact bq PySem.W.kitx_tuple I.kIn ⟨o,ho,hc⟩ (e rfl) (λz=>nomatch z) λtk=>⟨.bl _,H,I.tok tk,rfl,fin⟩
theorem Gu{a:aV}{Fa:FE}{x:Str}{T:String}{p q pos:Pos}(hT:okT T=ae)(hg:Gl X "isinstance")(hm:X.mg "isinstance"=aj)(hgT:Gl X x)(hmT:X.mg x=aj)(hvT:bF x=aa (.type T))(ha:PF X a Fa)
  (hn:x ≠ "__name__":=by decide) (hd:(x==("__debug__":Str))=ag:=by decide) (hs1:au [.Name x q] X.env=[(ag,eval (.Name x q) X.env)]:=by rfl)
  (hs:au [a,.Name x q] X.env=(ag,eval a X.env)::au [.Name x q] X.env:=by rfl):PF X (.Call (.Name "isinstance" p) [a,.Name x q] [] pos) (fIsi T Fa):=
 (CB (YC hT) hg hm boot_isinstance (m9 ha (m9 (pe_ty hgT hmT hvT hn hd) A4 hs1) hs) (by decide) (by decide) hs (by rw[hs1];rfl)).imp fun σ H Q hZ=>hZ.elim fun ρ hZ=>hZ.elim fun f hZ=>hZ.elim fun d hZ=>hZ.elim fun rs hZ=>hZ.elim fun e0 k=>by
  unfold fIsi at e0;cases h:Fa ρ with
  |none=>rw[h]at e0;cases e0
  |some z=>
   rw[h]at e0;cases e0;exact⟨ρ,z.1,z.2,rs,h,λv H1 s1 r1=>⟨z.2,v,rfl,r1.sh,k _ H1 s1 RpF.b_⟩⟩
abbrev FP:=Rho->Option (iz)
def upP(X:Cx)(F:FP):TO:=λσ H Q=>∃ρ o,RepS X.ky H ρ σ/\F ρ=aa o/\∀H',Same H H'->Q o H'
def PFP(X:Cx)(e:Option aV)(F:FP):Prop:=PO X e (upP X F)
def FJ:FP:=λ_=>aa aj
def intD:Dt->iz
 |.int i=>aa i
 |_=>aj
def RX(F:FE):FP:=λρ=>(F ρ).bind λx=>(intD x.2).map aa
theorem PO.imp{e:Option aV}{t t':TO}(h:PO X e t)(q:∀σ H Q,t' σ H Q->t σ H Q):PO X e t':=λπ s σ H Q I z=>h π s σ H Q I (q σ H Q z)
theorem s_none:PFP X aj FJ:=Yo.imp (by rintro σ H Q ⟨ρ,o,rs,e,k⟩;cases e;exact k H (Same.refl H))
theorem s_some{e:aV}{F:FE}(h:PF X e F):PFP X (aa e) (RX F):=(Yp h).imp λσ H Q⟨ρ,o,rs,e,k⟩=>by
 obtain⟨⟨f,d⟩,e1,e2⟩:=bind_some e;refine⟨ρ,f,d,rs,e1,λv H1 s1 r1=>?_⟩;cases d<;>first|cases e2|skip
 rename_i i;exact⟨i,Rp.int_.mp r1.sh,k H1 s1⟩
def cutD{α:Type}(xs:List α)(lo hi:iz):List α:=(xs.drop (HT.sIx xs.length 0 lo)).take (HT.sIx xs.length xs.length hi-HT.sIx xs.length 0 lo)
def fSl(F:FE)(L U:FP):FE:=λρ=>(F ρ).bind λx=>(L ρ).bind λlo=>(U ρ).bind λhi=>match x.2 with|.lst ds=>aa (newL (cutD ds lo hi))|_=>aj
theorem YD{e:aV}{F:FE}{lo hi:Option aV}{L U:FP}{pos p2:Pos}(he:PF X e F)(hl:PFP X lo L)(hu:PFP X hi U):PF X (.Subscript e (.Slice lo hi aj p2) pos) (fSl F L U):=
 (Ur Yr he hl hu).imp fun σ H Q hZ=>hZ.elim fun ρ hZ=>hZ.elim fun f hZ=>hZ.elim fun d hZ=>hZ.elim fun rs hZ=>hZ.elim fun e0 k=>by
  obtain⟨⟨fx,dx⟩,e1,e2⟩:=bind_some e0;obtain⟨l,e3,e4⟩:=bind_some e2;obtain⟨u,e5,e6⟩:=bind_some e4;clear e0 e2 e4;refine⟨ρ,fx,dx,rs,e1,λv H1 s1 r1=>⟨ρ,l,rs.mono s1,e3,λH2 s2=>⟨ρ,u,rs.mono (s1.trans s2),e5,λH3 s3=>?_⟩⟩⟩;have ex:∃ds,dx=.lst ds/\newL (cutD ds l u)=(f,d):=by
   cases dx<;>first|(rename_i ds;exact⟨ds,rfl,aM e6⟩)|cases e6
  obtain⟨ds,rfl,e7⟩:=ex;cases e7;obtain⟨p,vs,rfl,_,q1,q2⟩:=(Rp.mono _ (s2.trans s3) r1.sh).items;refine⟨p,vs,rfl,SqL.of q1,λa ha=>k _ _ ((s1.trans (s2.trans s3)).trans (m6 ha)) ?_⟩;have h1:Rps X.K emp (cutD ds l u) H3 (cutV vs l u):=by
   unfold cutD cutV;rw[q2.length];exact Rps.take _ (Rps.drop _ q2)
  exact(CI ha h1).early (s1.trans (s2.trans s3))
end
end L2
end
section
local macro_rules|`(tactic|rfl')=>`(tactic|first|lia|omega +splitDisjunctions)
namespace L2
def Walk(K:aE)(J:It)(items:iC)(H1:Hp):Prop:=∀(A:ig)(H:Hp),Same H1 (hidL A H)->(∀a∈A,∃o,H a=aa o) ->
 (∀(i:Nat)(d:Dt),items[i]?=aa d->J.go i H/\∀x H',J.yld i H x H'->Same (hidL A H) (hidL A H')/\(∀a∈A,H' a=H a)/\Rp K emp d (hidL A H') x)/\∀i,items.length<=i->J.stop i H
abbrev FI:=Rho->Option (iC)
def upIK(Y:Ky)(F:FI):TI:=λσ H R=>∃ρ items,RepS Y H ρ σ/\F ρ=aa items/\∀J H',Same H H'->items.length<=sizeLine->Walk Y.K J items H'->R J H'
abbrev upI(X:Cx)(F:FI):TI:=upIK X.ky F
def PFI(X:Cx)(tg e:aV)(F:FI):Prop:=PI X tg e (upI X F)
theorem PI.imp{X:Cx}{tg e:aV}{t t':TI}(h:PI X tg e t)(q:∀σ H Q,t' σ H Q->t σ H Q):PI X tg e t':=λπ s σ H Q I z=>h π s σ H Q I (q σ H Q z)
section
variable {X:Cx}{tg a b e:aV}{Fa Fb Fe:FE}{pos:Pos}
theorem Tc{K:aE}{p:Addr}{ds:iC}{vs:iD}{H1:Hp}(h1:SqL K H1 p vs)(h2:Rps K emp ds H1 vs):Walk K (Itl K p) ds H1:=by
 intro A H sm hA;have s2:Same H1 H:=sm.trans l9;refine⟨λi d e=>?_,λi hi=>⟨vs,s2.seq h1,by rw[h2.length];exact hi⟩⟩;obtain⟨v,e1,e2⟩:=h2.get e;refine⟨⟨vs,v,s2.seq h1,e1⟩,?_⟩;rintro x H' ⟨z,y⟩;subst z;have hx:=y vs (s2.seq h1);rw[e1]at hx;cases hx;exact⟨Same.refl _,λ_ _=>rfl,Rp.mono _ sm e2⟩
theorem UK{K:aE}{p:Addr}{ds:iC}{vs:iD}{H1:Hp}(h1:SqT K H1 p vs)(h2:Rps K emp ds H1 vs):Walk K (Itt K p) ds H1:=by
 intro A H sm hA;have s2:Same H1 H:=sm.trans l9;refine⟨λi d e=>?_,λi hi=>⟨vs,s2.seqT h1,by rw[h2.length];exact hi⟩⟩;obtain⟨v,e1,e2⟩:=h2.get e;refine⟨⟨vs,v,s2.seqT h1,e1⟩,?_⟩;rintro x H' ⟨z,y⟩;subst z;have hx:=y vs (s2.seqT h1);rw[e1]at hx;cases hx;exact⟨Same.refl _,λ_ _=>rfl,Rp.mono _ sm e2⟩
def V6(lo:Int)(n:Nat):iC:=(aT n).map λ(k:Nat)=>.int (lo+(k:Int))
theorem Gv{K:aE}{lo:Int}{n:Nat}{H1:Hp}:Walk K (Itr lo n) (V6 lo n) H1:=by
 intro A H sm hA;refine⟨λi d e=>?_,λi hi=>by unfold V6 at hi;rw[we,vW]at hi;exact hi⟩;unfold V6 at e;rw[wx]at e;have hi:i<n:=by
  by_cases hi:i<n
  .exact hi
  .rw[wU (by simp;rfl')]at e;cases e
 rw[w0x hi]at e;cases e;refine⟨hi,λx H'⟨z,y⟩=>?_⟩;subst z;subst y;exact⟨Same.refl _,λ_ _=>rfl,Rp.int_.mpr rfl⟩
def seqD:Dt->Option (iC)
 |.lst ds=>aa ds
 |.tup ds=>aa ds
 |_=>aj
def iSeq(F:FE):FI:=λρ=>(F ρ).bind λx=>seqD x.2
theorem M1(ha:PF X a Fa):PFI X tg a (iSeq Fa):=by
 intro π s σ H R I ⟨ρ,items,rs,e0,k⟩;obtain⟨⟨f,d⟩,e1,e2⟩:=bind_some e0;refine thn (ha π s σ H (λx H1=>Same H H1/\Rp X.K emp d H1 x) I ⟨ρ,f,d,rs,e1,λv H1 s1 r1=>⟨s1,r1.sh⟩⟩) λv s1⟨x,H1,I1,r1,sm,rd⟩=>?_;cases d<;>first|cases e2|skip
 .rename_i ds;obtain⟨p,vs,rfl,_,h1,h2⟩:=rd.items;cases r1;obtain⟨its,rv,pl,hz⟩:=I1.list (SqL.of (K:=X.K) h1);refine dQ pl.isList ?_;refine⟨s1.heap.objs.size,[s1.heap.objs.size],_,_,H1,rfl,I1.kept (t':=s1.toks) λb o e=>wc _ e,Iy p _,⟨_,wo _ rfl,rfl,rfl⟩,λb hb=>?_,k _ H1 sm (by rw[<-h2.length];exact hz) (Tc (SqL.of h1) h2)⟩;have e:b=s1.heap.objs.size:=by simpa using hb
  subst e;exact I1.fpOk (wf _) (I1.hok.fresh (wf _))
 .rename_i ds;obtain⟨p,vs,rfl,h1,h2⟩:=Rp.tup_.mp rd;cases r1;obtain⟨its,rv,pl,hz⟩:=I1.tuple h1;refine wpAny_pyIter_tuple (show s1.heap.IsTuple p its.toArray from pl) ?_;refine⟨s1.heap.objs.size,[s1.heap.objs.size],_,_,H1,rfl,I1.kept (t':=s1.toks) λb o e=>wc _ e,NE p _,⟨_,wo _ rfl,rfl,rfl⟩,λb hb=>?_,k _ H1 sm (by rw[<-h2.length];exact hz) (UK h1 h2)⟩;have e:b=s1.heap.objs.size:=by simpa using hb
  subst e;exact I1.fpOk (wf _) (I1.hok.fresh (wf _))
def K9(i:Int):Bool:=decide (-1000000<=i)&&decide (i<=1000000)
theorem NS{i:Int}(h:K9 i=ae): -1000000<=i/\i<=1000000:=by
 unfold K9 at h;rw[wF]at h;exact⟨ba h.1,ba h.2⟩
def u9(F:FE):FI:=λρ=>(F ρ).bind λx=>(intD x.2).bind λj=>if K9 j then aa (V6 0 j.toNat) else aj
theorem Gw{lo:Int}{n:Nat}:(V6 lo n).length=n:=by unfold V6;simp
theorem CN{d:Dt}{i:Int}(h:intD d=aa i):d=.int i:=by
 cases d<;>first|cases h|skip
 rfl
theorem S6{p:Pos}(hg:Gl X "range")(hm:X.mg "range"=aj)(ha:PF X a Fa)(hs:au [a] X.env=[(ag,eval a X.env)]:=by rfl):PFI X tg (.Call (.Name "range" p) [a] [] pos) (u9 Fa):=
 (SS hg hm (m9 ha A4 hs) hs).imp fun σ H R hZ=>hZ.elim fun ρ hZ=>hZ.elim fun items hZ=>hZ.elim fun rs hZ=>hZ.elim fun e0 k=>by
  obtain⟨⟨f,d⟩,e1,e2⟩:=bind_some e0;obtain⟨j,e3,e4⟩:=bind_some e2;clear e0 e2;have ed:=CN e3;cases (show d=.int j from ed);split at e4
  .rename_i hr;cases e4;obtain⟨h1,h2⟩:=NS hr;refine⟨ρ,f,_,rs,e1,λv H1 s1 r1=>⟨j,by rw[Rp.int_.mp r1.sh],(),(),k _ H1 s1 ?_ Gv⟩⟩;rw[Gw];have:sizeLine=16777216:=rfl;rfl'
  .cases e4
def Y7(F G:FE):FI:=λρ=>(F ρ).bind λx=>(G ρ).bind λy=>(intD x.2).bind λi=>(intD y.2).bind λj=>if K9 i&&K9 j then aa (V6 i (j-i).toNat) else aj
theorem LR{p:Pos}(hg:Gl X "range")(hm:X.mg "range"=aj)(ha:PF X a Fa)(hb:PF X b Fb)(hs:au [a,b] X.env=[(ag,eval a X.env),(ag,eval b X.env)]:=by rfl)
  (hs1:au [b] X.env=[(ag,eval b X.env)]:=by rfl):PFI X tg (.Call (.Name "range" p) [a,b] [] pos) (Y7 Fa Fb):=
 (SU hg hm (m9 ha (m9 hb A4 hs1) (by rw[hs,hs1])) hs hs1).imp fun σ H R hZ=>hZ.elim fun ρ hZ=>hZ.elim fun items hZ=>hZ.elim fun rs hZ=>hZ.elim fun e0 k=>by
  obtain⟨⟨f,d⟩,e1,e2⟩:=bind_some e0;obtain⟨⟨f',d'⟩,e1',e2'⟩:=bind_some e2;obtain⟨i,e3,e4⟩:=bind_some e2';obtain⟨j,e5,e6⟩:=bind_some e4;clear e0 e2 e2' e4;have ed:=CN e3;have ed':=CN e5;cases (show d=.int i from ed);cases (show d'=.int j from ed');split at e6
  .rename_i hr;rw[wF]at hr;cases e6;obtain⟨h1,h2⟩:=NS hr.1;obtain⟨h3,h4⟩:=NS hr.2;refine⟨ρ,f,_,rs,e1,λv H1 s1 r1=>⟨ρ,f',_,rs.mono s1,e1',λv' H2 s2 r2=>⟨i,j,by rw[Rp.int_.mp r1.sh,Rp.int_.mp r2.sh],⟨(),(),(),()⟩,k _ H2 (s1.trans s2) ?_ Gv⟩⟩⟩;rw[Gw];have:sizeLine=16777216:=rfl;rfl'
  .cases e6
end
inductive Tg where
 |one (i:Nat)|many (is:ii)
def L0:ii->TGs
 |[]=>gNil
 |i::is=>gCons (G2 i) (L0 is)
def Tg.low(K:aE):Tg->TG
 |.one i=>G2 i
 |.many is=>gTup K is.length (L0 is)
def V7:Rho->ii->iC->Rho
 |ρ,i::is,d::ds=>V7 (ρ.set i (.sh ag d)) is ds
 |ρ,_,_=>ρ
def Tg.put:Tg->Dt->Rho->Option Rho
 |.one i,d,ρ=>aa (ρ.set i (.sh ag d))
 |.many is,.tup ds,ρ=>if ds.length=is.length then aa (V7 ρ is ds) else aj
 |.many _,_,_=>aj
def Tg.below(nt:Nat):Tg->Prop
 |.one i=>i<nt
 |.many is=>∀i∈is,i<nt
def KeepS(nt:Nat)(σ σ':St):Prop:=σ'.length=σ.length/\∀i,nt<=i->σ'[i]?=σ[i]?
theorem KeepS.refl{nt:Nat}{σ:St}:KeepS nt σ σ:=⟨rfl,λ_ _=>rfl⟩
theorem KeepS.set{nt i:Nat}{σ:St}{v:V}(h:i<nt):KeepS nt σ (σ.set i (aa v)):=⟨wG,λj hj=>wT ()⟩
theorem KeepS.trans{nt:Nat}{a b c:St}(h:KeepS nt a b)(k:KeepS nt b c):KeepS nt a c:=⟨k.1.trans h.1,λi hi=>(k.2 i hi).trans (h.2 i hi)⟩
theorem EI:∀{is:ii}{vs:iD}{σ:St}{H:Hp}{Q Q':St->Hp->Prop},L0 is vs σ H Q->(∀σ H,Q σ H->Q' σ H)->L0 is vs σ H Q':=by
 intro is
 induction is with
 |nil=>intro vs σ H Q Q' ⟨e,q⟩ k;exact⟨e,k _ _ q⟩
 |cons j js ih=>intro vs σ H Q Q' ⟨v,r,e,q⟩ k;exact⟨v,r,e,ih q k⟩
theorem IL{nt:Nat}:∀{is:ii}{vs:iD}{σ:St}{H:Hp}{Q:St->Hp->Prop},(∀i∈is,i<nt)->L0 is vs σ H Q->L0 is vs σ H λσ2 H2=>KeepS nt σ σ2/\Q σ2 H2
 |[],vs,σ,H,Q,_,⟨e,q⟩=>⟨e,KeepS.refl,q⟩
 |i::is,vs,σ,H,Q,hi,⟨v,r,e,q⟩=>by
  refine⟨v,r,e,?_⟩;have q:L0 is r (σ.set i (aa v)) H Q:=q;have z:=IL (nt:=nt) (λj hj=>hi j (wb _ hj)) q;show L0 is r (σ.set i (aa v)) H _;exact EI z λσ2 H2⟨k1,k2⟩=>⟨(KeepS.set (hi i wd)).trans k1,k2⟩
theorem Tg.ok{K:aE}{nt:Nat}{g:Tg}(h:g.below nt):TgOk nt (g.low K):=by
 intro x σ H Q q;cases g with
 |one i=>exact⟨KeepS.set h,q⟩
 |many is=>
  obtain⟨a,xs,e,hq,hl,q⟩:=q;exact⟨a,xs,e,hq,hl,IL h q⟩
theorem Tg.low_mono{K:aE}{g:Tg}{v:V}{σ:St}{H:Hp}{Q Q':St->Hp->Prop}(h:g.low K v σ H Q)(k:∀σ H,Q σ H->Q' σ H):g.low K v σ H Q':=by
 cases g with
 |one i=>exact k _ _ h
 |many is=>
  obtain⟨a,xs,e,hq,hl,q⟩:=h;exact⟨a,xs,e,hq,hl,EI q k⟩
section
variable {Y:Ky}{H H':Hp}{ρ:Rho}{σ:St}
theorem RepS.set(h:RepS Y H ρ σ){i:Nat}{f:Bool}{d:Dt}{v:V}(r:Rp Y.K (bsOf Y f) d H v):RepS Y H (ρ.set i (.sh f d)) (σ.set i (aa v)):=by
 refine⟨by rw[wG,wG];exact h.len,h.base,λj c q=>?_⟩;by_cases e:i=j
 .subst e;rw[wY]at q|-;rw[ap rfl]at q|-;split at q
  .rename_i hl;cases q;rw[ap (by rw[<-h.len];exact hl)];exact⟨_,rfl,v,rfl,r⟩
  .cases q
 .rw[wT e]at q|-;exact h.at_ j c q
theorem Gx{Hh:Hp}{ρ':Rho}:∀{is:ii}{ds:iC}{vs:iD}{ρ:Rho}{σ:St},RepS Y Hh ρ σ->Rps Y.K emp ds Hh vs->ds.length=is.length->V7 ρ is ds=ρ' ->
  L0 is vs σ H λσ' H'=>H'=H/\RepS Y Hh ρ' σ'
 |[],[],vs,ρ,σ,rs,r,hl,q=>⟨Rps.nil_.mp r,rfl,by rw[<-q];exact rs⟩
 |[],d::ds,vs,ρ,σ,rs,r,hl,q=>by cases hl
 |i::is,[],vs,ρ,σ,rs,r,hl,q=>by cases hl
 |i::is,d::ds,vs,ρ,σ,rs,r,hl,q=>by
  obtain⟨v,r',rfl,h1,h2⟩:=Rps.cons_.mp r;exact⟨v,r',rfl,Gx (rs.set (f:=ag) h1) h2 (by simpa using hl) q⟩
theorem Tg.sim{Hh:Hp}{g:Tg}{d:Dt}{v:V}{ρ':Rho}(sm:Same Hh H)(rs:RepS Y Hh ρ σ)(r:Rp Y.K emp d Hh v)(h:g.put d ρ=aa ρ'):
  g.low Y.K v σ H λσ' H'=>H'=H/\RepS Y Hh ρ' σ':=by
 cases g with
 |one i=>cases h;exact⟨rfl,rs.set (f:=ag) r⟩
 |many is=>
  cases d<;>first|cases h|skip
  rename_i ds;replace h:(if ds.length=is.length then aa (V7 ρ is ds) else aj)=aa ρ':=h;split at h
  .rename_i hl;obtain⟨a,vs,rfl,h1,h2⟩:=Rp.tup_.mp r;exact⟨a,vs,rfl,sm.seqT h1,by rw[h2.length];exact hl,Gx rs h2 hl (aM h)⟩
  .cases h
end
section
variable {X:Cx}{pos:Pos}
theorem Ai{i:Nat}{x:Str}(hN:X.N.Nodup)(hi:X.N[i]?=aa x)(hx:Loc X.env.scope x)(hf:X.fn x=ae\/X.env.scope.names.lookup x=aa .local):PG X (.Name x pos) ((Tg.one i).low X.K):=F5 hN hi hx hf
theorem Gy:PGs X [] (L0 []):=Yi
theorem O1{e:aV}{es:ik}{i:Nat}{is:ii}(h1:PG X e (G2 i))(h2:PGs X es (L0 is))(hs:(cV (e::es) X.env).map (·.2)=assign e X.env::(cV es X.env).map (·.2):=by rfl):PGs X (e::es) (L0 (i::is)):=Uj h1 h2 hs
theorem Gz{es:ik}{k:Nat}{is:ii}(hc:X.calm=ae)(h:PGs X es (L0 is))(hn:(cV es X.env).length=is.length:=by rfl)(hst:(cV es X.env).findIdx? (·.1)=aj:=by rfl):PG X (.Tuple es k pos) ((Tg.many is).low X.K):=pg_tup hc h hn hst
end
def S7(g:Tg)(Fc:FT)(Fe:FE)(ρ0:Rho):iC->Option (iE)
 |[]=>aa []
 |x::xs=>(g.put x ρ0).bind λρ1=>(Fc ρ1).bind λb=>if b then(Fe ρ1).bind λv=>(S7 g Fc Fe ρ0 xs).bind λr=>aa (v::r) else S7 g Fc Fe ρ0 xs
def GA:Cell->Cell
 |.no=>.no
 |.ex=>.no
 |.sh _ d=>.sh ag d
 |.ow _ ds=>.sh ag (.lst ds)
def sigD(nt:Nat)(js:ii)(ρ:Rho):Rho:=br nt Cell.no++js.map λj=>match ρ[j]? with|some c=>GA c|none=>.no
def k7(nt:Nat)(js:ii)(Fi:FI)(g:Tg)(Fc:FT)(Fe:FE):FE:=λρ=>(Fi ρ).bind λitems=>(S7 g Fc Fe (sigD nt js ρ) items).bind λvs=>aa (if P9 vs then .nw else .tn,.lst (sndL vs))
theorem DD{g:Tg}{Fc:FT}{Fe:FE}{ρ0:Rho}:∀{xs:iC}{vs:iE},S7 g Fc Fe ρ0 xs=aa vs->vs.length<=xs.length
 |[],vs,h=>by cases h;exact wf _
 |x::xs,vs,h=>by
  unfold S7 at h;obtain⟨ρ1,_,h⟩:=bind_some h;obtain⟨b,_,h⟩:=bind_some h;split at h
  .obtain⟨v,_,h⟩:=bind_some h;obtain⟨r,h1,h⟩:=bind_some h;cases h;have:=DD h1;rw[wp,wp];rfl'
  .have:=DD h;rw[wp];rfl'
def PFTs(X:Cx)(ifs:ik)(F:FT):Prop:=PTs X ifs (upB X F)
def fYes:FT:=λ_=>aa ae
theorem GB{X:Cx}:PFTs X [] fYes:=λπ s σ H Q I⟨ρ,b,rs,e,k⟩=>by cases e;exact Ys π s σ H Q I (k H (Same.refl H))
theorem UL{X:Cx}{c:aV}{F:FT}(h:PFT X c F):PFTs X [c] F:=Yt h
theorem RpC.shS{Y:Ky}{H H1:Hp}{c:Cell}{o:Option V}(h:RpC Y H c o):RpC ⟨Y.K,H1⟩ H (GA c) o:=by
 cases c with
 |no=>trivial
 |ex=>trivial
 |sh f d=>obtain⟨v,q,r⟩:=h;exact⟨v,q,Rp.anti Same.emp d r⟩
 |ow f ds=>obtain⟨v,q,r⟩:=h;exact⟨v,q,Rp.anti Same.emp _ r⟩
theorem RepS.sigs{Y:Ky}{H H1:Hp}{ρ:Rho}{σ:St}{nt:Nat}{js:ii}(h:RepS Y H ρ σ)(hj:∀j∈js,j<σ.length)(h1:Same H1 H):RepS ⟨Y.K,H1⟩ H (sigD nt js ρ) (sig nt js σ):=by
 unfold sigD sig;refine⟨by simp,h1,λi c q=>?_⟩;by_cases hi:i<nt
 .rw[wJ (by simpa using hi),wV,ap hi]at q;cases q;exact⟨aj,by rw[wJ (by simpa using hi),wV,ap hi],trivial⟩
 .rw[wE (by simp;rfl'),vB,wx]at q;rw[wE (by simp;rfl'),vB,wx];cases ej:js[i-nt]? with
  |none=>rw[ej]at q;cases q
  |some j=>
   rw[ej]at q;have hlt:=hj j (vj ej);have hlt':j<ρ.length:=by rw[h.len];exact hlt
   rw[w12,wa hlt']at q;cases q;obtain⟨o,e1,e2⟩:=h.at_ j _ (wa hlt');refine⟨o,?_,e2.shS⟩;rw[w12,e1];rfl
def frE(t:Hp->TE)(H1:Hp):TE:=λσ H Q=>∃A:ig,(∀a∈A,(∃vs,H a=aa (.lst vs))/\H1 a=aj)/\t H1 σ (hidL A H) λv H'=>(∀a∈A,H' a=aj)->Q v (C9 A H H')
def frT(t:Hp->TT)(H1:Hp):TT:=λσ H Q=>∃A:ig,(∀a∈A,(∃vs,H a=aa (.lst vs))/\H1 a=aj)/\t H1 σ (hidL A H) λv H'=>(∀a∈A,H' a=aj)->Q v (C9 A H H')
theorem PTs.frame{Y:Cx}{ifs:ik}{t:Hp->TT}(h:PTs Y ifs (t Y.H₀)):PTs Y ifs (frT t Y.H₀):=by
 intro π s σ H Q I ⟨A,hA,z⟩;refine thn (h _ s σ _ _ (I.hide hA) z) ?_;rintro u s' ⟨H',J,q⟩;obtain⟨hn,J'⟩:=I.unhide hA J;exact⟨_,J',q hn⟩
theorem Kr{D:Addr}{H:Hp}{o:HO}:hidL [D] (upd H D o)=hidL [D] H:=funext λb=>by
 by_cases q:b=D
 .subst q;rw[J2 (by simp),J2 (by simp)]
 .rw[i8 (by simpa using q),i8 (by simpa using q),i7 q]
theorem UM{D:Addr}{H:Hp}(h:H D=aj):hidL [D] H=H:=funext λb=>by
 by_cases q:b=D
 .subst q;rw[J2 (by simp),h]
 .rw[i8 (by simpa using q)]
section
variable {X:Cx}{N:ie}{scope:Scope}{nt:Nat}{js:ii}{tg elt iter:aV}{ifs:ik}{Fi:FI}{g:Tg}{Fc:FT}{Fe:FE}{pos:Pos}
def RpE(Y:Ky)(x:Dv)(H':Hp)(v:V):Prop:=if x.1.isFr then Rp Y.K Y.H₀ x.2 H' v else Rp Y.K emp x.2 H' v
def RpEs(Y:Ky):iE->Hp->iD->Prop
 |[],_,vs=>vs=[]
 |x::xs,H',vs=>∃v r,vs=v::r/\RpE Y x H' v/\RpEs Y xs H' r
theorem RpE.of{Y:Ky}{H H':Hp}{x:Dv}{v:V}(h0:Same Y.H₀ H)(h:RpF Y H x.1 x.2 H' v):RpE Y x H' v:=by
 unfold RpE;by_cases q:x.1.isFr=ae
 .rw[ap q];exact h.fr h0 q
 .rw[ax q];exact h.sh
theorem RpE.mono{Y:Ky}{H H':Hp}{x:Dv}{v:V}(h:RpE Y x H v)(s:Same H H'):RpE Y x H' v:=by
 unfold RpE at h|-;by_cases q:x.1.isFr=ae
 .rw[ap q]at h|-;exact Rp.mono _ s h
 .rw[ax q]at h|-;exact Rp.mono _ s h
theorem RpEs.mono{Y:Ky}{H H':Hp}(s:Same H H'):∀{xs:iE}{vs:iD},RpEs Y xs H vs->RpEs Y xs H' vs
 |[],vs,h=>h
 |x::xs,vs,⟨v,r,e,h1,h2⟩=>⟨v,r,e,h1.mono s,RpEs.mono s h2⟩
theorem RpEs.append{Y:Ky}{H':Hp}:∀{xs ys:iE}{vs ws:iD},RpEs Y xs H' vs->RpEs Y ys H' ws->RpEs Y (xs++ys) H' (vs++ws)
 |[],ys,vs,ws,h,h'=>by rw[show vs=[]from h];exact h'
 |x::xs,ys,vs,ws,⟨v,r,e,h1,h2⟩,h'=>⟨v,r++ws,by rw[e];rfl,h1,RpEs.append h2 h'⟩
theorem RpEs.length{Y:Ky}{H':Hp}:∀{xs:iE}{vs:iD},RpEs Y xs H' vs->vs.length=xs.length
 |[],vs,h=>by rw[show vs=[]from h];rfl
 |x::xs,vs,⟨v,r,e,_,h2⟩=>by rw[e,wp,wp,RpEs.length h2]
theorem RpEs.sh{Y:Ky}{H':Hp}:∀{xs:iE}{vs:iD},RpEs Y xs H' vs->Rps Y.K emp (sndL xs) H' vs
 |[],vs,h=>Rps.nil_.mpr h
 |x::xs,vs,⟨v,r,e,h1,h2⟩=>by
  refine Rps.cons_.mpr ⟨v,r,e,?_,RpEs.sh h2⟩;unfold RpE at h1;split at h1
  .exact Rp.anti Same.emp _ h1
  .exact h1
theorem RpEs.fr{Y:Ky}{H':Hp}:∀{xs:iE}{vs:iD},P9 xs=ae->RpEs Y xs H' vs->Rps Y.K Y.H₀ (sndL xs) H' vs
 |[],vs,_,h=>Rps.nil_.mpr h
 |x::xs,vs,q,⟨v,r,e,h1,h2⟩=>by
  unfold P9 at q;rw[wF]at q;refine Rps.cons_.mpr ⟨v,r,e,?_,RpEs.fr q.2 h2⟩;unfold RpE at h1;rw[ap q.1]at h1;exact h1
theorem RY{σ:St}{H:Hp}{Q:VK}(hj:∀j∈js,j<σ.length)(h:upF X (k7 nt js Fi g Fc Fe) σ H Q):
   RR nt js (upI X Fi) (g.low X.K) (frT λH1=>upBK ⟨X.K,H1⟩ Fc) (frE λH1=>upK ⟨X.K,H1⟩ Fe) σ H Q:=by
 obtain⟨ρ,f,d,rs,e0,k⟩:=h;obtain⟨items,ei,e1⟩:=bind_some e0;obtain⟨vs0,ec,e2⟩:=bind_some e1;cases e2;clear e0 e1;refine⟨ρ,items,rs,ei,λJ H1 sm hsz wk D hD=>?_⟩;have nD:H D=aj:=sm.free hD;refine⟨λi m ys H2=>m=items.length-i/\H2 D=aa (.lst ys)/\Same H1 (hidL [D] H2)/\∃ds rest,RpEs ⟨X.K,H1⟩ ds (hidL [D] H2) ys/\S7 g Fc Fe (sigD nt js ρ) (items.drop i)=aa rest/\ds++rest=vs0,⟨_,rfl,j6,?_,[],vs0,rfl,ec,rfl⟩,?_⟩
 .rw[Kr,UM hD];exact Same.refl _
 rintro i m ys H2 ⟨rfl,e2,s2,ds,rest,r2,c2,es⟩;obtain⟨w1,w2⟩:=wk [D] H2 s2 (λa ha=>by rw[wv.mp ha];exact⟨_,e2⟩);by_cases hlt:i<items.length
 .obtain⟨x,hx⟩:∃x,items[i]?=aa x:=⟨_,wa hlt⟩;have hdrop:items.drop i=x::items.drop (i+1):=by
    rw[wZ hlt];rw[wa hlt]at hx;cases hx;rfl
  rw[hdrop]at c2;unfold S7 at c2;obtain⟨ρ1,p1,c3⟩:=bind_some c2;obtain⟨b,p2,c4⟩:=bind_some c3;obtain⟨go,yl⟩:=w1 i x hx;refine .inr ⟨go,λxv H3 y3=>?_⟩;obtain⟨s3,k3,r3⟩:=yl xv H3 y3;have e3:H3 D=aa (.lst ys):=by rw[k3 D (by simp)];exact e2
  have s13:Same H1 (hidL [D] H3):=s2.trans s3;refine Tg.low_mono (Tg.sim (Y:=⟨X.K,H1⟩) (Hh:=hidL [D] H3) l9 ((rs.mono (sm.trans s13)).sigs hj s13) r3 p1) ?_;rintro σ4 H4 ⟨eH,rs4⟩;subst eH;have own:∀{H':Hp},H' D=aa (.lst ys)->∀a∈[D],(∃vs,H' a=aa (.lst vs))/\H1 a=aj:=λ{H'}z a ha=>by
    rw[wv.mp ha];exact⟨⟨ys,z⟩,hD⟩
  refine⟨[D],own e3,ρ1,b,rs4,p2,λH5 s5 n5=>?_⟩;have h5:hidL [D] (C9 [D] H4 H5)=H5:=R9 n5;have e5:C9 [D] H4 H5 D=aa (.lst ys):=by rw[Bc (by simp)];exact e3
  have m5:items.length-(i+1)<items.length-i:=()
  dsimp only;cases b with
  | true =>
    rw[ap rfl]at c4|-;obtain⟨⟨fv,dv⟩,p3,c5⟩:=bind_some c4;obtain⟨rest',p4,c6⟩:=bind_some c5;cases c6;have rs5:RepS ⟨X.K,H1⟩ H5 ρ1 σ4:=rs4.mono s5;refine⟨[D],own e5,ρ1,fv,dv,by rw[h5];exact rs5,p3,λv H6 s6 r6 n6=>?_⟩;rw[h5]at s6 r6;have h6:hidL [D] (C9 [D] (C9 [D] H4 H5) H6)=H6:=R9 n6;have r2':RpEs ⟨X.K,H1⟩ ds H6 ys:=r2.mono (s3.trans (s5.trans s6));have hlen:ys.length<sizeLine:=by
      have a1:=DD ec;have a2:=r2.length;rw[<-es,wz,wp]at a1;rfl'
    refine⟨by rw[Bc (by simp)];exact e5,hlen,_,m5,rfl,j6,?_,ds++[(fv,dv)],rest',?_,p4,by rw[wP];exact es⟩
    .rw[Kr,h6];exact s13.trans (s5.trans s6)
    .rw[Kr,h6];exact r2'.append ⟨v,[],rfl,RpE.of rs5.base r6,rfl⟩
  | false =>
    rw[ax wH]at c4|-;refine⟨_,m5,rfl,e5,?_,ds,rest,?_,c4,es⟩
    .rw[h5];exact s13.trans s5
    .rw[h5];exact r2.mono (s3.trans s5)
 .have hd:items.drop i=[]:=w0f ();rw[hd]at c2;cases c2;rw[vd]at es;subst es;refine .inl ⟨w2 i (),k _ H2 (sm.trans (s2.trans l9)) ?_⟩;by_cases q:P9 ds=ae
  .rw[ap q];exact(Rp.lst_ (K:=X.K) (B:=H)).mpr ⟨D,ys,rfl,nD,e2,Rps.anti (show Same H H1 from sm) _ (r2.fr q)⟩
  .rw[ax q];exact⟨Rp.lst_.mpr ⟨D,ys,rfl,rfl,e2,r2.sh⟩,⟨_,rfl⟩,λa e=>by cases e;exact nD⟩
theorem Ks(S:CompScope X N scope nt js)(hc:X.calm=ae)(hi:PFI X tg iter Fi)(hg:∀cl C fp s H,PG (A1 X N scope cl C fp s H) tg (g.low X.K))(hb:g.below nt)
  (hcs:∀cl C fp s H,PFTs (A1 X N scope cl C fp s H) ifs Fc) (he:∀cl C fp s H,PF (A1 X N scope cl C fp s H) elt Fe) (hj:∀j∈js,j<X.N.length)
  (hs:∀x,bX iter X.env x=pure x:=by intro _;rfl):PF X (.ListComp elt [⟨tg,iter,ifs,0⟩] scope pos) (k7 nt js Fi g Fc Fe):=by
 intro π s σ H Q I h;exact Yu S hc hi hg (Tg.ok hb) (λcl C fp s H=>PTs.frame (t:=λH1=>upBK ⟨X.K,H1⟩ Fc) (hcs cl C fp s H)) (λcl C fp s H=>PE.frame (he cl C fp s H)) hs π s σ H Q I (RY (λj z=>by rw[I.len];exact hj j z) h)
end
end L2
end
section
namespace L2
open PySem.W
def C2(h:aX)(e:Addr)(c:Value):Prop:=∃oe vs,h.get? e=aa oe/\oe.data=.fields vs/\vs[2]?=aa c
section
variable {M:Model}{A:aU}{E:aC}{s:Shared}{base:aX}{env:Env}{outer l:iq}{L e:Addr}{cls a0:Value}{Q:Unit->Shared->Prop}
theorem RZ{oe:Obj}{vs:iu}{head:Value}{hn:Bool}(hfr:A.frames=aa (env::outer))(hl:s.heap.FunFrames base (env::outer))(hf:env.frame=aa L)(g0:s.heap.get? e=aa oe)(sb:base.StaysIn s.heap)(en:base.get? e=aj)(gd:oe.data=.fields vs)(gs:1<vs.size)(ga:vs[0]?=aa a0)
   (k:∀h',Heap.NotedW base (env::outer) e oe.cls a0 (cK L) s.heap h'->(∀c,vs[2]?=aa c->C2 h' e c)->Q .unit { s with heap:=h' }) :
   ay M A (do let a <-frameOf env;let pl <-entryPlaceOf L hn;let b <-EntryCells.newEntry head a .none (cK L) .none pl;setField (.ref e) 1 b) Q E s:=by
 have nf:e∉(env::outer).filterMap (·.frame):=λm=>by
   obtain⟨_,o,go,no⟩:=hl.mem m;rw[g0]at go;cases go;exact no vs gd
 refine ah (wpAny_frameOf_fun hfr hl hf λhA so=>ah (wpAny_entryPlaceOf λpp ip=>?_));unfold EntryCells.newEntry newFields;refine ah (di ?_ (ip.sizeOk5 _ _ _ _ _));generalize eo:({ cls:=.type "traceback",dict:=aj,data:=.fields ([head,.ref L,.none,cK L,.none]++(if pp.isEmpty then br 6 bM else pp)).toArray }:Obj)=ot;have g1:hA.get? e=aa oe:=(so.2.1 e nf).trans g0;have s1:base.StaysIn hA:=λb o go=>(so.2.1 b λm=>by rw[(hl.mem m).1]at go;cases go).trans (sb b o go);have g2:(hA.push ot).get? e=aa oe:=wc _ g1;refine eS g2 gd gs (k _ ?_ ?_)
 all_goals
   have ne:hA.objs.size≠e:=vQ (wm g1);have d3:=dO gd (·.setIfInBounds 1 (ak hA.objs.size));have g3:=vU (eD (·.setIfInBounds 1 (ak hA.objs.size))) g2 (fT d3)
 .have t3:((hA.push ot).update e (eD (·.setIfInBounds 1 (ak hA.objs.size)))).get? hA.objs.size=aa ot:=(vv _ _ (bQ ne)).trans (wo hA (by rw[<-eo];rfl));have kp:∀b o,b≠e->hA.get? b=aa o->((hA.push ot).update e (eD (·.setIfInBounds 1 (ak hA.objs.size)))).get? b=aa o:=λb o n go=>by
    rw[vv _ _ (bQ n)];exact wc _ go
  have nr:∀b o,s.heap.get? b=aa o->(∀ws,o.data ≠ .fields ws)->b≠e:=λb o go no q=>by
    rw[q,g0]at go;cases go;exact no vs gd
  refine⟨λb o go=>kp b o (λq=>by rw[q,en]at go;cases go) (s1 b o go),hl.of_keeps λb o go no=>?_,⟨_,_,hA.objs.size,ot,_,g3,⟨Obj.cls_mapFields _ _,by rw[gp (by decide)];exact ga⟩,d3,by simp[gs],s1.fresh,ne,t3,by rw[<-eo],by first|(simp;done)|(rcases ip with rfl|⟨_,_,_,_,_,_,_,rfl⟩<;>simp)⟩,λb o go no=>?_⟩
  .obtain⟨sl,hs⟩:=so.2.2 b o go;exact⟨_,kp b _ (nr b o go no) hs,rfl⟩
  .obtain⟨sl,hs⟩:=so.2.2 b o go;exact⟨sl,kp b _ (nr b o go no) hs⟩
 .exact λc hc=>⟨_,_,g3,d3,by rw[gp (by decide)];exact hc⟩
theorem Sa(hfr:A.frames=aa (env::outer))(hf:env.frame=aa L)(fl:fM base (env::outer) e cls a0 s.heap)
  (k:∀h',Heap.HeldW base (env::outer) e cls a0 L h'->s.heap.UpToSlots h'->(∀c,C2 s.heap e c->C2 h' e c)->Q .unit { s with heap:=h' }):ay M A (gW (.ref e) env) Q E s:=by
 obtain⟨sb,en,hl,oe,vs,T,oT,ts,g0,⟨gc,ga⟩,gd,g1,nT,Te,gT,gt,g3⟩:=fl;subst gc;unfold gW;simp only[hf];refine ah (bR g0 gd g1 ?_);rw[ap (show(ak T != bM)=ae from by simp)];refine ah (bR gT gt g3 ?_);rw[ax (show ¬((bM==cK L)=ae)from by simp[cK])];refine ah (eS gT gt (Array.getElem?_eq_some_iff.mp g3).1 ?_);have ot:∀b,b≠T->(s.heap.update T (eD (·.setIfInBounds 3 bM))).get? b=s.heap.get? b:=λb hb=>vv _ _ (bQ hb);have nr:∀b o,s.heap.get? b=aa o->(∀ws,o.data ≠ .fields ws)->b≠T:=λb o go no q=>by
  rw[q,gT]at go;cases go;exact no ts gt
 refine RZ (s:={ s with heap:=s.heap.update T (eD (·.setIfInBounds 3 bM)) }) hfr (hl.of_keeps λb o go no=>⟨o,(ot b (nr b o go no)).trans go,rfl⟩) hf ((ot e (bQ Te)).trans g0)
  (λb o go=>(ot b λq=>by rw[q,nT]at go;cases go).trans (sb b o go)) en gd (Array.getElem?_eq_some_iff.mp g1).1 ga λh'⟨x1,x2,x3,x4⟩x5=>k h' ⟨x1,en,x2,x3⟩ (λb o go no=>x4 b o ((ot b (nr b o go no)).trans go) no) λc⟨oe',vs',y1,y2,y3⟩=>?_
 rw[g0]at y1;cases y1;rw[gd]at y2;cases y2;exact x5 c y3
theorem CO{fl:Value}(sb:base.StaysIn s.heap)(hl:s.heap.FunFrames base l)(en:base.get? e=aj)(ht:s.heap.TracedAtW base e cls a0 fl)
  (k:∀h',fM base l e cls a0 h'->s.heap.UpToSlots h'->(∀c,C2 s.heap e c->C2 h' e c)->Q .unit { s with heap:=h' }):ay M A (setFlight (.ref e) aj) Q E s:=by
 obtain⟨oe,vs,T,oT,ts,g0,gc,gd,g1,nT,Te,gT,gt,g3⟩:=ht;have sz:3<ts.size:=(Array.getElem?_eq_some_iff.mp g3).1;have ot:∀b,b≠T->(s.heap.update T (eD (·.setIfInBounds 3 ((aj:iB).elim bM λz=>cK z)))).get? b=s.heap.get? b:=λb hb=>vv _ _ (bQ hb);have nr:∀b o,s.heap.get? b=aa o->(∀ws,o.data ≠ .fields ws)->b≠T:=λb o go no q=>by
  rw[q,gT]at go;cases go;exact no ts gt
 unfold setFlight;refine ah (bR g0 gd g1 ?_);rw[ap (show(ak T != bM)=ae from by simp)];have e0:=(ot e (bQ Te)).trans g0;refine eS gT gt sz (k _ ⟨λb o go=>(ot b λq=>by rw[q,nT]at go;cases go).trans (sb b o go),en,hl.of_keeps λb o go no=>⟨o,(ot b (nr b o go no)).trans go,rfl⟩,oe,vs,T,_,_,e0,gc,gd,g1,nT,Te,vU _ gT (fT (dO gt _)),dO gt _,by simp[sz]⟩
  (λb o go no=>⟨o.slots,(ot b (nr b o go no)).trans go⟩) λc⟨oe',vs',y1,y2,y3⟩=>⟨oe',vs',(ot e (bQ Te)).trans y1,y2,y3⟩)
theorem UN(hfr:A.frames=aa (env::outer))(hf:env.frame=aa L)(fl:fM base (env::outer) e cls a0 s.heap)
  (k:∀h',fM base outer e cls a0 h'->s.heap.UpToSlots h'->(∀c,C2 s.heap e c->C2 h' e c)->Q .unit { s with heap:=h' }):ay M A (leaving env (.ref e)) Q E s:=by
 unfold leaving;refine ah (Sa hfr hf fl λh1⟨x1,x2,x3,x4⟩us cc=>CO (s:={ s with heap:=h1 }) x1 x3 x2 x4 λh2⟨y1,y2,⟨_,_,y3⟩,y4⟩us2 cc2=>k h2 ⟨y1,y2,y3,y4⟩ (us.trans us2) λc z=>cc2 c (cc c z))
theorem made_c{h:aX}{args:aG}(hfr:A.frames=aa (env::outer))(hf:env.frame=aa L)(sb:base.StaysIn h)(hl:h.FunFrames base (env::outer))(hx:Heap.MadeExcOf h s.heap e cls args)
  (k:∀h' t,fM base outer e cls (.ref t) h'->s.heap.UpToSlots h'->C2 h' e .none->Q .unit { s with heap:=h' }):ay M A (leaving env (.ref e)) Q E s:=by
 obtain⟨t,g0,tn,gt⟩:=hx.there;have fr:∀b,h.get? b=aj->base.get? b=aj:=λb hb=>by
  cases q:base.get? b with
  |none=>rfl
  |some o=>have:=sb b o q;rw[hb]at this;cases this
 unfold leaving gW;simp only[hf];refine ah (ah (bR g0 rfl (x:=.none) rfl ?_));rw[ax (show ¬((bM != bM)=ae)from by decide)];exact RZ (a0:=.ref t) hfr (hl.of_keeps λb o hb _=>⟨o,hx.keeps b o hb,rfl⟩) hf g0 (λb o hb=>hx.keeps b o (sb b o hb)) (fr e hx.new) rfl (show 1<6 by decide) rfl λh1⟨x1,x2,x3,x4⟩x5=>
  CO (s:={ s with heap:=h1 }) x1 x2 (fr e hx.new) x3 λh2⟨y1,y2,⟨_,_,y3⟩,y4⟩us2 cc2=>k h2 t ⟨y1,y2,y3,y4⟩ (Heap.UpToSlots.trans x4 us2) (cc2 _ (x5 _ rfl))
end
end L2
end
section
namespace L2
open PySem.W
def Fly(h0:aX)(H:Hp)(e C:Addr)(c:Value)(h:aX):Prop:=
 h0.get? e=aj/\H e=aj/\∃oe vs T oT ts a0,h.get? e=aa oe/\oe.cls=.ref C/\vs[0]?=aa a0/\oe.data=.fields vs/\vs[1]?=aa (.ref T)/\h0.get? T=aj/\H T=aj/\T≠e/\h.get? T=aa oT/\oT.data=.fields ts/\ts[3]?=aa .none/\vs[2]?=aa c
def ctxO:Value->iB
 |.none=>aj
 |_=>aa 0
theorem Kt{l:iq}{env:Env}{a:Addr}(h:env∈l)(e:env.frame=aa a):a∈frs l:=vC.mpr ⟨env,h,e⟩
theorem UpToSlots.trans{h h1 h2:aX}(a:h.UpToSlots h1)(b:h1.UpToSlots h2):h.UpToSlots h2:=λc o e n=>by
 obtain⟨sl,e1⟩:=a c o e n;obtain⟨sl2,e2⟩:=b c _ e1 n;exact⟨sl2,e2⟩
section
variable {P:aN}{w:aP}{fs ex:ig}{H0 H:Hp}{h0 h h':aX}{l:iq}{bas:aX}{e C:Addr}{c:Value}
theorem UO(u:Un fs ex H0 H h0 h)(k:∀b o o',h0.get? b=aa o->h.get? b=aa o'->b∉frs l->h'.get? b=aa o')(sl:∀b∈frs l,∀o,h.get? b=aa o->∃z,h'.get? b=aa { o with slots:=z })
  (hf:∀b∈frs l,b∈fs\/h0.get? b=aj):Un fs ex H0 H h0 h' where
 keep:=λb o q n hb hx=>k b o o q (u.keep b o q n hb hx) λz=>(hf b z).elim hb λe=>by rw[e]at q;cases q
 slot:=λb o q n hb hx=>by
  obtain⟨z,e⟩:=u.slot b o q n hb hx;by_cases m:b∈frs l
  .obtain⟨z',e'⟩:=sl b m _ e;exact⟨z',e'⟩
  .exact⟨z,k b o _ q e m⟩
 free:=u.free
 there:=λb o q hx=>by
  obtain⟨o',e⟩:=u.there b o q hx;by_cases m:b∈frs l
  .obtain⟨z',e'⟩:=sl b m _ e;exact⟨_,e'⟩
  .exact⟨_,k b o _ q e m⟩
 tups:=u.tups
 frzs:=u.frzs
 tbls:=u.tbls
theorem ObjOk.obj{a:Addr}{o:HO}(x:ObjOk P w H h a o):∃ob,h.get? a=aa ob:=by
 cases o with
 |lst xs=>obtain⟨_,_,_,_,e⟩:=x;exact⟨_,e⟩
 |tup xs=>obtain⟨_,_,_,_,e,_⟩:=x;exact⟨_,e⟩
 |dK kvs=>obtain⟨_,_,_,_,o,_,_,e,_⟩:=x;exact⟨_,e⟩
 |dT kvs=>obtain⟨_,_,_,_,o,_,_,e,_⟩:=x;exact⟨_,e⟩
 |set S n=>obtain⟨o,_,_,_,e,_⟩:=x;exact⟨_,e⟩
 |ins C dx fs=>obtain⟨_,_,_,e,_⟩:=x;exact⟨_,e⟩
 |own y=>obtain⟨_,e⟩:=x;exact⟨_,e⟩
 |xd fs=>obtain⟨_,⟨_,_,_,e,_⟩,_⟩:=x;exact⟨_,e⟩
 |rng lo hi=>obtain⟨_,_,_,e⟩:=x;exact⟨_,e⟩
 |frz ob u=>obtain⟨e,_⟩:=x;exact⟨_,e⟩
 |tbl ps q=>obtain⟨_,e,_⟩:=x;exact⟨_,e⟩
 |met f y=>exact⟨_,show h.get? a=aa _ from x⟩
 |ext φ=>obtain⟨_,⟨_,e⟩,_⟩:=x;exact⟨_,e⟩
theorem Sb(hok:HOk P w H h)(k:∀b o,H b≠aj->h.get? b=aa o->h'.get? b=aa o):HOk P w H h':=λb ob e=>
 (hok b ob e).stay (fun c v hc q=>k c v (by
  rcases hc with rfl|hc
  .rw[e];exact λz=>nomatch z
  .rw[hc];exact λz=>nomatch z) q) (λ_ q=>q) (λ_ _ q=>q) λ_ _ _ q=>q
theorem Fly.c2(f:Fly h0 H e C c h):C2 h e c:=by
 obtain⟨n,n2,oe,vs,T,oT,ts,a0,q1,q2,q3,q4,q5,q6,q7,q8,q9,q10,q11,q12⟩:=f;exact⟨oe,vs,q1,q4,q12⟩
theorem Fly.base(f:Fly h0 H e C c h)(ff:h.FunFrames bas l):∃T a0,h0.get? T=aj/\H T=aj/\(gG h (e::T::frs l)).FlyingW l e (.ref C) a0 h:=by
 obtain⟨n,n2,oe,vs,T,oT,ts,a0,q1,q2,q3,q4,q5,q6,q7,q8,q9,q10,q11,_⟩:=f;refine⟨T,a0,q6,q7,λb o z=>gJ _ z,eZ _ (by simp),funFrames_hide ff λenv he a ea=>by simp[Kt he ea],oe,vs,T,oT,ts,q1,⟨q2,q3⟩,q4,q5,eZ _ (by simp),q8,q9,q10,q11⟩
theorem Fly.step{T:Addr}{l':iq}{a0:Value}(n:h0.get? e=aj)(n2:H e=aj)(n3:h0.get? T=aj)(n4:H T=aj)(ff:h.FunFrames bas l)(st:∀b∈frs l,H b=aj)(hok:HOk P w H h)(u:Un fs ex H0 H h0 h)
   (f:(gG h (e::T::frs l)).FlyingW l' e (.ref C) a0 h') (us:h.UpToSlots h') (hf:∀b∈frs l,b∈fs\/h0.get? b=aj) (hx:∀b o,h0.get? b=aa o->b∉ex) (cc:C2 h' e c):Fly h0 H e C c h'/\HOk P w H h'/\Un fs ex H0 H h0 h':=by
 have sl:∀b∈frs l,∀o,h.get? b=aa o->∃z,h'.get? b=aa { o with slots:=z }:=λb hb o q=>by
   obtain⟨_,o',q',nf⟩:=ff.mem hb;rw[q]at q';cases q';exact us b o q nf
 have k:∀b o,h.get? b=aa o->b∉(e::T::frs l)->h'.get? b=aa o:=λb o q m=>f.1 b o (fE _ q m);obtain⟨s1,s2,s3,oe,vs,T',oT,ts,q1,⟨q2,q3⟩,q4,q5,q6,q7,q8,q9,q10⟩:=f;have hT:T'=T\/h.get? T'=aj:=by
   by_cases m:T'∈(e::T::frs l)
   .rcases wg.mp m with z|m
    .exact aW z q7
    .rcases wg.mp m with z|m
     .exact .inl z
     .obtain⟨_,o,e1,nf⟩:=ff.mem m;obtain⟨z,e2⟩:=sl T' m o e1;rw[q8]at e2;cases e2;exact aW q9 (nf ts)
   .refine .inr ?_;cases z:h.get? T' with
    |none=>rfl
    |some o=>rw[fE _ z m]at q6;cases q6
 have q12:vs[2]?=aa c:=by
   obtain⟨oe',vs',y1,y2,y3⟩:=cc;rw[q1]at y1;cases y1;rw[q4]at y2;cases y2;exact y3
 refine⟨⟨n,n2,oe,vs,T',oT,ts,a0,q1,q2,q3,q4,q5,?_,?_,q7,q8,q9,q10,q12⟩,Sb hok λb o hb q=>k b o q λm=>?_,UO u (λb o o' q q' m=>k b o' q' λz=>?_) sl hf⟩
 .rcases hT with z|z
  .rw[z];exact n3
  .cases y:h0.get? T' with
   |none=>rfl
   |some o=>obtain⟨o',e'⟩:=u.there T' o y (hx T' o y);rw[z]at e';cases e'
 .rcases hT with z|z
  .rw[z];exact n4
  .cases y:H T' with
   |none=>rfl
   | some o =>
     obtain⟨ob,q⟩:=(hok T' o y).obj;rw[z]at q;cases q
 .rcases wg.mp m with z|m
  .exact hb (z ▸ n2)
  .rcases wg.mp m with z|m
   .exact hb (z ▸ n4)
   .exact hb (st b m)
 .rcases wg.mp z with z|z
  .rw[z,n]at q;cases q
  .rcases wg.mp z with z|z
   .rw[z,n3]at q;cases q
   .exact m z
end
def CX1(P:aN)(w:aP):CXT:=λouter H s E e s'=>
 ∃ea C H' c,e=.ref ea/\s'.os=s.os/\fV s'.gens/\Un (frs outer) [] H H' s.heap s'.heap/\HOk P w H' s'.heap/\Fly s.heap H' ea C c s'.heap/\E (.ref C) (ctxO c) H'
section
variable {P:aN}{w:aP}{K:aE}{mg:aF}{base:aX}{N:ie}{qual:Str}{scope:Scope}{f:Addr}{cd:Value}{A:aU}{outer:iq}{s₀:Shared}{H₀:Hp}{E:XK}
abbrev cx1(P:aN)(w:aP)(K:aE)(mg:aF)(base:aX)(N:ie)(qual:Str)(scope:Scope)(f:Addr)(cd:Value)(A:aU)(outer:iq)(s₀:Shared)(H₀:Hp)(E:XK):Cx:=cxOf (CX1 P w) P w K mg base N qual scope f cd A outer s₀ H₀ E
theorem pass1:Ap (CX1 P w) (cx1 P w K mg base N qual scope f cd A outer s₀ H₀ E) E:=by
 rintro π σ H s e s' I ⟨ea,C,H',c,rfl,os,bare,un,hok,fly,hE⟩;have I':Inv (cx1 P w K mg base N qual scope f cd A outer s₀ H₀ E) π σ H' s':=I.call' os un hok bare λb z=>aW z (by simp);have ff:=I'.stack;obtain⟨T,a0,n3,n4,fl⟩:=fly.base ff;have c2:=fly.c2;obtain⟨n1,n2,_⟩:=fly;have old:∀{b:Addr},s.heap.get? b=aj->s₀.heap.get? b=aj:=λ{b}z=>by
  cases y:s₀.heap.get? b with
  |none=>rfl
  |some o=>obtain⟨o',e'⟩:=I.base.there b o y (by show b∉([]:ig);simp);rw[z]at e';cases e'
 refine UN I'.ok.frames rfl fl λh' fl' us cc=>?_;have hf:∀b∈frs (cz qual scope s₀.heap.objs.size f cd::outer),b∈frs outer\/s₀.heap.get? b=aj:=λb hb=>by
  rcases wg.mp (I'.stkSub b hb)with z|z
  .rw[z];exact .inr (vD (wf _))
  .exact .inl z
 obtain⟨f1,f2,f3⟩:=Fly.step (P:=P) (w:=w) (old n1) n2 (old n3) n4 ff I'.stkFree I'.hok I'.base fl' us hf (λb o _=>by show b∉([]:ig);simp) (cc c c2);exact⟨ea,C,H',c,rfl,I'.os,I'.bare,f3,f2,f1,hE⟩
theorem rais1{π:aB}{σ:St}{H:Hp}{s s':Shared}{ea C:Addr}{args:aG}(I:Inv (cx1 P w K mg base N qual scope f cd A outer s₀ H₀ E) π σ H s)(m:s.heap.MadeExcOf s'.heap ea (.ref C) args)(os:s'.os=s.os)(gn:s'.gens=s.gens)(hE:E (.ref C) aj H):
  (cx1 P w K mg base N qual scope f cd A outer s₀ H₀ E).xe (.ref ea) s':=by
 have ff:=I.stack;have old:∀{b:Addr},s.heap.get? b=aj->s₀.heap.get? b=aj:=λ{b}z=>by
  cases y:s₀.heap.get? b with
  |none=>rfl
  |some o=>obtain⟨o',e'⟩:=I.base.there b o y (by show b∉([]:ig);simp);rw[z]at e';cases e'
 have unt:∀{b:Addr},s.heap.get? b=aj->H b=aj:=λ{b}z=>by
  cases y:H b with
  |none=>rfl
  |some o=>obtain⟨o',e'⟩:=(I.hok b o y).obj;rw[z]at e';cases e'
 refine made_c (base:=gG s.heap (frs (cz qual scope s₀.heap.objs.size f cd::outer))) (h:=s.heap) I.ok.frames rfl (λb o z=>gJ _ z) (funFrames_hide ff λenv he a ea=>Kt he ea) m λh' t fl' us cc=>?_;have hf:∀b∈frs (cz qual scope s₀.heap.objs.size f cd::outer),b∈frs outer\/s₀.heap.get? b=aj:=λb hb=>by
  rcases wg.mp (I.stkSub b hb)with z|z
  .rw[z];exact .inr (vD (wf _))
  .exact .inl z
 have sl:∀b∈frs (cz qual scope s₀.heap.objs.size f cd::outer),∀o,s.heap.get? b=aa o->∃z,h'.get? b=aa { o with slots:=z }:=λb hb o q=>by
  obtain⟨_,o',q',nf⟩:=ff.mem hb;rw[q]at q';cases q';exact us b o (m.keeps b o q) nf
 have k:∀b o,s.heap.get? b=aa o->b∉frs (cz qual scope s₀.heap.objs.size f cd::outer)->h'.get? b=aa o:=λb o q n=>fl'.1 b o (fE _ q n);obtain⟨s1,s2,s3,oe,vs,T,oT,ts,q1,⟨q2,q3⟩,q4,q5,q6,q7,q8,q9,q10⟩:=fl';have q12:vs[2]?=aa .none:=by
  obtain⟨oe',vs',y1,y2,y3⟩:=cc;rw[q1]at y1;cases y1;rw[q4]at y2;cases y2;exact y3
 have hT:s.heap.get? T=aj:=by
  by_cases mT:T∈frs (cz qual scope s₀.heap.objs.size f cd::outer)
  .obtain⟨_,o,e1,nf⟩:=ff.mem mT;obtain⟨z,e2⟩:=sl T mT o e1;rw[q8]at e2;cases e2;exact aW q9 (nf ts)
  .cases z:s.heap.get? T with
   |none=>rfl
   |some o=>rw[fE _ z mT]at q6;cases q6
 refine⟨ea,C,H,.none,rfl,os.trans I.os,by rw[gn];exact I.bare,UO (l:=cz qual scope s₀.heap.objs.size f cd::outer) I.base (λb o o' _ q' n=>k b o' q' n) sl hf,Sb I.hok λb o hb q=>k b o q λz=>hb (I.stkFree b z),⟨old m.new,unt m.new,oe,vs,T,oT,ts,_,q1,q2,q3,q4,q5,old hT,unt hT,q7,q8,q9,q10,q12⟩,hE⟩
end
def exN:Nat->Str
 |0=>"HallError"
 |1=>"NoHall"
 |2=>"NoBasket"
 |3=>"NoPlace"
 |4=>"NoText"
 |5=>"Unlike"
 |6=>"TooMany"
 |8=>"NoText"
 |_=>"NotWithin"
def wk(n:Nat):Bool:=n==8
def HFly(h0:aX)(H:Hp)(e C L:Addr)(c:Value)(h:aX):Prop:=
 h0.get? e=aj/\H e=aj/\∃oe vs T oT ts a0,h.get? e=aa oe/\oe.cls=.ref C/\vs[0]?=aa a0/\oe.data=.fields vs/\vs[1]?=aa (.ref T)/\h0.get? T=aj/\H T=aj/\T≠e/\h.get? T=aa oT/\oT.data=.fields ts/\ts[3]?=aa (cK L)/\vs[2]?=aa c
def UP(X:Cx)(E:XK):Prop:=∀(π:aB)(σ:St)(H:Hp)(s:Shared)(ea C L:Addr)(c:Value),X.env.frame=aa L->Inv X π σ H s->HFly X.s₀.heap H ea C L c s.heap->E (.ref C) (ctxO c) H->X.xe (.ref ea) s
theorem landH1{P:aN}{w:aP}{K:aE}{mg:aF}{base:aX}{N:ie}{qual:Str}{scope:Scope}{f:Addr}{cd:Value}{A:aU}{outer:iq}{s₀:Shared}{H₀:Hp}{E:XK}:
  UP (cx1 P w K mg base N qual scope f cd A outer s₀ H₀ E) E:=by
 rintro π σ H s ea C L c hL I ⟨n1,n2,oe,vs,T,oT,ts,a0,q1,q2,q3,q4,q5,n3,n4,q8,q9,q10,q11,q12⟩ hE;have ff:=I.stack;have hh:(gG s.heap (ea::T::frs (cz qual scope s₀.heap.objs.size f cd::outer))).HeldW (cz qual scope s₀.heap.objs.size f cd::outer) ea (.ref C) a0 L s.heap:=
  ⟨λb o z=>gJ _ z,eZ _ (by simp),funFrames_hide ff λenv he a ea=>by simp[Kt he ea],oe,vs,T,oT,ts,q1,⟨q2,q3⟩,q4,q5,eZ _ (by simp),q8,q9,q10,q11⟩
 show ay _ _ (leaving _ _) _ _ _;unfold leaving;refine ah (wpAny_noteFrame_againW hL hh.2.2.2 (CO hh.1 hh.2.2.1 hh.2.1 hh.2.2.2 λh' fl' us cc=>?_));have hf:∀b∈frs (cz qual scope s₀.heap.objs.size f cd::outer),b∈frs outer\/s₀.heap.get? b=aj:=λb hb=>by
  rcases wg.mp (I.stkSub b hb)with z|z
  .rw[z];exact .inr (vD (wf _))
  .exact .inl z
 obtain⟨f1,f2,f3⟩:=Fly.step (P:=P) (w:=w) n1 n2 n3 n4 ff I.stkFree I.hok I.base fl' us hf (λb o _=>by show b∉([]:ig);simp) (cc c ⟨oe,vs,q1,q4,q12⟩);exact⟨ea,C,H,c,rfl,I.os,I.bare,f3,f2,f1,hE⟩
def XOk(X:Cx)(H₀:Hp)(wk:Bool)(C:Addr):Prop:=∃E:XK,(∀H o,Same H₀ H->(o=aj\/wk=ae)->E (.ref C) o H)/\Ap (CX1 X.prog X.w) X E /\
 (∀(π:aB)(σ:St)(H:Hp)(s s':Shared)(ea:Addr)(args:aG),Inv X π σ H s->s.heap.MadeExcOf s'.heap ea (.ref C) args->s'.os=s.os->s'.gens=s.gens->E (.ref C) aj H->X.xe (.ref ea) s')/\UP X E
theorem XOk.base{X:Cx}{H₀ H1:Hp}{wk:Bool}{C:Addr}(h:XOk X H₀ wk C)(s:Same H₀ H1):XOk X H1 wk C:=by
 obtain⟨E,a,b,c⟩:=h;exact⟨E,λH o z=>a H o (s.trans z),b,c⟩
theorem xok1{P:aN}{w:aP}{K:aE}{mg:aF}{base:aX}{N:ie}{qual:Str}{scope:Scope}{f:Addr}{cd:Value}{A:aU}{outer:iq}{s₀:Shared}{H₀:Hp}{E:XK}{wk:Bool}{C:Addr}(h:∀H o,Same H₀ H->(o=aj\/wk=ae)->E (.ref C) o H):
 XOk (cx1 P w K mg base N qual scope f cd A outer s₀ H₀ E) H₀ wk C:=⟨E,h,pass1,λπ σ H s s' ea args I m os gn hE=>rais1 I m os gn hE,landH1⟩
end L2
end
section
local macro_rules|`(tactic|rfl')=>`(tactic|first|lia|omega +splitDisjunctions)
namespace L2
abbrev Own:=List (Nat×Addr)
abbrev Own.adr(O:Own):ig:=O.map (·.2)
def UQ(X:Cx)(H:Hp)(O:Own)(i:Nat):Cell->Option V->Prop
 |.no,_=>True
 |.ex,o=>∃a φ,o=aa (.ref a)/\hidL O.adr H a=aa (.ext φ)/\∀h,φ h->UB X.K a h
 |.sh f d,o=>∃v,o=aa v/\Rp X.K (bsOf X.ky f) d (hidL O.adr H) v
 |.ow f ds,o=>∃a vs,(i,a)∈O/\o=aa (.ref a)/\H a=aa (.lst vs)/\Rps X.K (bsOf X.ky f) ds (hidL O.adr H) vs
structure RepO(X:Cx)(H₀ H:Hp)(O:Own)(ρ:Rho)(σ:St):Prop where
 ndA:O.adr.Nodup
 ndI:(O.map (·.1)).Nodup
 own:OwnL X O.adr H
 len:ρ.length=σ.length
 b0:Same X.H₀ H₀
 same:Same H₀ (hidL O.adr H)
 at_:∀(i:Nat)(c:Cell),ρ[i]?=aa c->∃o,σ[i]?=aa o/\UQ X H O i c o
def RepB(X:Cx)(H₀ H:Hp)(ρ:Rho)(σ:St):Prop:=∃O,RepO X H₀ H O ρ σ
def CP:Cell->Cell
 |.ow _ _=>.no
 |c=>c
def O7:Rho->Rho
 |[]=>[]
 |c::ρ=>CP c::O7 ρ
theorem IM:∀ρ:Rho,O7 ρ=ρ.map CP
 |[]=>rfl
 |c::ρ=>by rw[O7,IM ρ,wj]
section
variable {X:Cx}{H₀ H H':Hp}{O:Own}{ρ:Rho}{σ:St}
theorem RepO.mono(h:RepO X H₀ H O ρ σ)(sm:Same H H'):RepO X H₀ H' O ρ σ:=by
 refine⟨h.ndA,h.ndI,λa ha=>?_,h.len,h.b0,h.same.trans (A6 sm),λi c e=>?_⟩
 .obtain⟨⟨vs,q⟩,z⟩:=h.own a ha;exact⟨⟨vs,sm _ _ q⟩,z⟩
 .obtain⟨o,e1,e2⟩:=h.at_ i c e;refine⟨o,e1,?_⟩;cases c with
  |no=>trivial
  |ex=>obtain⟨a,φ,q,r,z⟩:=e2;exact⟨a,φ,q,A6 sm _ _ r,z⟩
  |sh f d=>obtain⟨v,q,r⟩:=e2;exact⟨v,q,Rp.mono _ (A6 sm) r⟩
  |ow f ds=>obtain⟨a,vs,q1,q2,q3,r⟩:=e2;exact⟨a,vs,q1,q2,sm _ _ q3,Rps.mono _ (A6 sm) r⟩
theorem RepO.base(h:RepO X H₀ H O ρ σ){H1:Hp}(sm:Same H1 H₀)(b:Same X.H₀ H1):RepO X H1 H O ρ σ:=⟨h.ndA,h.ndI,h.own,h.len,b,sm.trans h.same,h.at_⟩
theorem RepO.below(h:RepO X H₀ H O ρ σ):Same X.H₀ H:=h.b0.trans (h.same.trans l9)
theorem RepO.bsFree(h:RepO X H₀ H O ρ σ){a:Addr}(ha:a∈O.adr)(f:Bool):bsOf X.ky f a=aj:=by
 cases f with
 |false=>rfl
 |true=>exact(h.own a ha).2
theorem Y8{i:Nat}{a:Addr}(h:(i,a)∈O):a∈O.adr:=wl.mpr ⟨_,h,rfl⟩
theorem RepO.all(h:RepO X H₀ H O ρ σ):RepS X.ky H ρ σ:=by
 refine⟨h.len,h.below,λi c e=>?_⟩;obtain⟨o,e1,e2⟩:=h.at_ i c e;refine⟨o,e1,?_⟩;cases c with
 |no=>trivial
 |ex=>obtain⟨a,φ,q,r,z⟩:=e2;exact⟨a,φ,q,l9 _ _ r,z⟩
 |sh f d=>obtain⟨v,q,r⟩:=e2;exact⟨v,q,Rp.mono _ l9 r⟩
 |ow f ds=>
  obtain⟨a,vs,q1,q2,q3,r⟩:=e2;exact⟨_,q2,Rp.lst_.mpr ⟨a,vs,rfl,h.bsFree (Y8 q1) f,q3,Rps.mono _ (S3 λb hb=>by rw[wv.mp hb];exact Y8 q1) r⟩⟩
theorem RepO.rest(h:RepO X H₀ H O ρ σ):RepS X.ky (hidL O.adr H) (O7 ρ) σ:=by
 rw[IM];refine⟨by rw[we];exact h.len,h.b0.trans h.same,λi c e=>?_⟩;rw[wx]at e;cases q:ρ[i]? with
 |none=>rw[q]at e;cases e
 |some c'=>
  rw[q]at e;obtain⟨o,e1,e2⟩:=h.at_ i c' q;refine⟨o,e1,?_⟩;cases c' with
  |no=>cases e;trivial
  |ex=>cases e;exact e2
  |sh f d=>cases e;obtain⟨v,q,r⟩:=e2;exact⟨v,q,r⟩
  |ow f ds=>cases e;trivial
def Q0(O:Own)(i:Nat):Own:=O.filter λp=>p.1 != i
theorem J9{p:Nat×Addr}{i:Nat}:p∈Q0 O i↔p∈O/\p.1≠i:=by
 unfold Q0;rw[w0i];simp
theorem B4{i:Nat}:∀a∈(Q0 O i).adr,a∈O.adr:=λa ha=>by
 obtain⟨p,hp,e⟩:=wl.mp ha;exact wl.mpr ⟨p,(J9.mp hp).1,e⟩
theorem RepO.set(h:RepO X H₀ H O ρ σ){i:Nat}{f:Bool}{d:Dt}{v:V}(r:Rp X.K (bsOf X.ky f) d (hidL O.adr H) v):RepO X H₀ H (Q0 O i) (ρ.set i (.sh f d)) (σ.set i (aa v)):=by
 have sm:Same (hidL O.adr H) (hidL (Q0 O i).adr H):=S3 B4;refine⟨h.ndA.sublist (cC _ (vo)),h.ndI.sublist (cC _ (vo)),λa ha=>h.own a (B4 a ha),by rw[wG,wG];exact h.len,h.b0,h.same.trans sm,λj c q=>?_⟩;by_cases e:i=j
 .subst e;rw[wY,ap rfl]at q;rw[wY,ap rfl];split at q
  .rename_i hl;cases q;rw[ap (by rw[<-h.len];exact hl)];exact⟨_,rfl,v,rfl,Rp.mono _ sm r⟩
  .cases q
 .rw[wT e]at q|-;obtain⟨o,e1,e2⟩:=h.at_ j c q;refine⟨o,e1,?_⟩;cases c with
  |no=>trivial
  |ex=>obtain⟨a,φ,q,r,z⟩:=e2;exact⟨a,φ,q,sm _ _ r,z⟩
  |sh f d=>obtain⟨v,q,r⟩:=e2;exact⟨v,q,Rp.mono _ sm r⟩
  |ow f ds=>obtain⟨a,vs,q1,q2,q3,r⟩:=e2;exact⟨a,vs,J9.mpr ⟨q1,λz=>e z.symm⟩,q2,q3,Rps.mono _ sm r⟩
theorem GC{D:Addr}{A:ig}{H:Hp}:hidL A (hidL [D] H)=hidL (D::A) H:=funext λb=>by
 unfold hidL;by_cases q1:b=D
 .subst q1;simp
 .by_cases q2:b∈A
  .simp[q1,q2]
  .simp[q1,q2]
theorem RepO.setNew(h:RepO X H₀ H' O ρ σ){i:Nat}{D:Addr}{f:Bool}{ds:iC}{vs:iD}(hi:i<ρ.length)(sm0:Same H' H)(hN:H' D=aj)(hD:H D=aa (.lst vs))(hn:D∉O.adr)(hX:X.H₀ D=aj)
   (r:Rps X.K (bsOf X.ky f) ds (hidL (D::O.adr) H) vs):RepO X H₀ H ((i,D)::Q0 O i) (ρ.set i (.ow f ds)) (σ.set i (aa (.ref D))):=by
 have sub:∀a∈(Own.adr ((i,D)::Q0 O i)),a∈D::O.adr:=λa ha=>by
   rcases wg.mp ha with z|z
   .rw[z];exact wd
   .exact wb _ (B4 a z)
 have sm:Same (hidL (D::O.adr) H) (hidL (Own.adr ((i,D)::Q0 O i)) H):=S3 sub;have sm1:Same H' (hidL [D] H):=λb o e=>by
   rw[i8 (by rw[wv];rintro rfl;rw[hN]at e;cases e)];exact sm0 _ _ e
 have sm2:Same (hidL O.adr H') (hidL (D::O.adr) H):=by rw[<-GC];exact A6 sm1
 have nD:D∉(Q0 O i).adr:=λz=>hn (B4 D z);refine⟨vf.mpr ⟨nD,h.ndA.sublist (cC _ (vo))⟩,vf.mpr ⟨λz=>?_,h.ndI.sublist (cC _ (vo))⟩,λa ha=>?_,by rw[wG,wG];exact h.len,h.b0,h.same.trans (sm2.trans sm),λj c q=>?_⟩
 .obtain⟨p,hp,e⟩:=wl.mp z;exact(J9.mp hp).2 e
 .rcases wg.mp ha with z|z
  .rw[z];exact⟨⟨vs,hD⟩,hX⟩
  .obtain⟨⟨ws,q⟩,z2⟩:=h.own a (B4 a z);exact⟨⟨ws,sm0 _ _ q⟩,z2⟩
 .by_cases e:i=j
  .subst e;rw[wY,ap rfl,ap hi]at q;rw[wY,ap rfl,ap (by rw[<-h.len];exact hi)];cases q;exact⟨_,rfl,D,vs,wd,rfl,hD,Rps.mono _ sm r⟩
  .rw[wT e]at q|-;obtain⟨o,e1,e2⟩:=h.at_ j c q;refine⟨o,e1,?_⟩;cases c with
   |no=>trivial
   |ex=>obtain⟨a,φ,q,r,z⟩:=e2;exact⟨a,φ,q,(sm2.trans sm) _ _ r,z⟩
   |sh f d=>obtain⟨v,q,r⟩:=e2;exact⟨v,q,Rp.mono _ (sm2.trans sm) r⟩
   |ow f ds'=>
    obtain⟨a,vs',q1,q2,q3,r⟩:=e2;exact⟨a,vs',wb _ (J9.mpr ⟨q1,λz=>e z.symm⟩),q2,sm0 _ _ q3,Rps.mono _ (sm2.trans sm) r⟩
theorem Sc{O:Own}(nd:O.adr.Nodup):∀{p q:Nat×Addr},p∈O->q∈O->p.2=q.2->p=q:=by
 induction O with
 |nil=>intro p q hp;cases hp
 |cons o O ih=>
  intro p q hp hq e;have nd:(o.2::O.map (·.2)).Nodup:=nd;obtain⟨n1,n2⟩:=vf.mp nd;rcases wg.mp hp with hp|hp<;>rcases wg.mp hq with hq|hq
  .rw[hp,hq]
  .exact aW (wl.mpr ⟨q,hq,by rw[<-e,hp]⟩) n1
  .exact aW (wl.mpr ⟨p,hp,by rw[e,hq]⟩) n1
  .exact ih n2 hp hq e
theorem YE{O:Own}(nd:(O.map (·.1)).Nodup):∀{p q:Nat×Addr},p∈O->q∈O->p.1=q.1->p=q:=by
 induction O with
 |nil=>intro p q hp;cases hp
 |cons o O ih=>
  intro p q hp hq e;have nd:(o.1::O.map (·.1)).Nodup:=nd;obtain⟨n1,n2⟩:=vf.mp nd;rcases wg.mp hp with hp|hp<;>rcases wg.mp hq with hq|hq
  .rw[hp,hq]
  .exact aW (wl.mpr ⟨q,hq,by rw[<-e,hp]⟩) n1
  .exact aW (wl.mpr ⟨p,hp,by rw[e,hq]⟩) n1
  .exact ih n2 hp hq e
theorem NT{A:ig}{a:Addr}{o:HO}{H:Hp}(h:a∈A):hidL A (upd H a o)=hidL A H:=funext λb=>by
 by_cases q:b∈A
 .rw[J2 q,J2 q]
 .rw[i8 q,i8 q,i7 λz=>q (by rw[z];exact h)]
theorem RepO.upd(h:RepO X H₀ H O ρ σ){i:Nat}{a:Addr}{f g:Bool}{ds ds0:iC}{vs:iD}(hc:ρ[i]?=aa (.ow g ds0))(hi:(i,a)∈O)(r:Rps X.K (bsOf X.ky f) ds (hidL O.adr H) vs):
   RepO X H₀ (upd H a (.lst vs)) O (ρ.set i (.ow f ds)) σ:=by
 have ha:a∈O.adr:=Y8 hi;have hh:hidL O.adr (L2.upd H a (.lst vs))=hidL O.adr H:=NT ha;have hlt:i<ρ.length:=by
   by_cases hlt:i<ρ.length
   .exact hlt
   .rw[wU ()]at hc;cases hc
 refine⟨h.ndA,h.ndI,λb hb=>?_,by rw[wG];exact h.len,h.b0,by rw[hh];exact h.same,λj c q=>?_⟩
 .by_cases e:b=a
  .subst e;exact⟨⟨vs,j6⟩,(h.own b hb).2⟩
  .rw[i7 e];exact h.own b hb
 .by_cases e:i=j
  .subst e;rw[wY,ap rfl,ap hlt]at q;cases q;obtain⟨o,e1,a',vs',q1,q2,q3,r'⟩:=h.at_ i _ hc;have e2:(i,a')=(i,a):=YE h.ndI q1 hi rfl;cases e2;exact⟨o,e1,a,vs,hi,q2,j6,by rw[hh];exact r⟩
  .rw[wT e]at q;obtain⟨o,e1,e2⟩:=h.at_ j c q;refine⟨o,e1,?_⟩;cases c with
   |no=>trivial
   |ex=>obtain⟨b,φ,q,r,z⟩:=e2;exact⟨b,φ,q,by rw[hh];exact r,z⟩
   |sh f d=>obtain⟨v,q,r⟩:=e2;exact⟨v,q,by rw[hh];exact r⟩
   | ow f ds' =>
    obtain⟨b,vs',q1,q2,q3,r'⟩:=e2;have hne:b≠a:=λz=>by
     have:=Sc h.ndA q1 hi z;exact e (bV Prod.fst this).symm
    exact⟨b,vs',q1,q2,by rw[i7 hne];exact q3,by rw[hh];exact r'⟩
def relC:Cell->Cell
 |.ow f ds=>.sh f (.lst ds)
 |c=>c
def LS(ρ:Rho)(i:Nat):Rho:=match ρ[i]? with|some c=>ρ.set i (relC c)|none=>ρ
def relS:ii->Rho->Rho
 |[],ρ=>ρ
 |i::is,ρ=>relS is (LS ρ i)
theorem RepO.rel(h:RepO X H₀ H O ρ σ)(i:Nat):RepO X H₀ H (Q0 O i) (LS ρ i) σ:=by
 have sm:Same (hidL O.adr H) (hidL (Q0 O i).adr H):=S3 B4;have hl:(LS ρ i).length=ρ.length:=by
  unfold LS;split
  .exact wG
  .rfl
 refine⟨h.ndA.sublist (cC _ (vo)),h.ndI.sublist (cC _ (vo)),λa ha=>h.own a (B4 a ha),hl.trans h.len,h.b0,h.same.trans sm,λj c q=>?_⟩;have other:∀{c:Cell},ρ[j]?=aa c->(∀f ds,c=.ow f ds->j≠i)->∃o,σ[j]?=aa o/\UQ X H (Q0 O i) j c o:=λ{c}q hne=>by
  obtain⟨o,e1,e2⟩:=h.at_ j c q;refine⟨o,e1,?_⟩;cases c with
  |no=>trivial
  |ex=>obtain⟨a,φ,q,r,z⟩:=e2;exact⟨a,φ,q,sm _ _ r,z⟩
  |sh f d=>obtain⟨v,q,r⟩:=e2;exact⟨v,q,Rp.mono _ sm r⟩
  |ow f ds=>obtain⟨a,vs,q1,q2,q3,r⟩:=e2;exact⟨a,vs,J9.mpr ⟨q1,hne f ds rfl⟩,q2,q3,Rps.mono _ sm r⟩
 unfold LS at q;cases e:ρ[i]? with
 |none=>
  rw[e]at q;exact other q λf ds _ z=>by rw[z,e]at q;cases q
 |some c'=>
  rw[e]at q;dsimp only at q;by_cases hij:i=j
  .subst hij;have hlt:i<ρ.length:=by
    by_cases hlt:i<ρ.length
    .exact hlt
    .rw[wU ()]at e;cases e
   rw[wY,ap rfl,ap hlt]at q;cases q;cases c' with
   |no=>obtain⟨o,e1,e2⟩:=h.at_ i _ e;exact⟨o,e1,trivial⟩
   |ex=>exact other e λf ds z=>by cases z
   |sh f d=>exact other e λf ds z=>by cases z
   |ow f ds=>
    obtain⟨o,e1,a,vs,q1,q2,q3,r⟩:=h.at_ i _ e;have hna:a∉(Q0 O i).adr:=λz=>by
      obtain⟨p,hp,ep⟩:=wl.mp z;have:=Sc h.ndA (J9.mp hp).1 q1 ep;exact(J9.mp hp).2 (by rw[this])
    refine⟨o,e1,.ref a,q2,Rp.lst_.mpr ⟨a,vs,rfl,h.bsFree (Y8 q1) f,by rw[i8 hna];exact q3,Rps.mono _ ?_ r⟩⟩;rw[W6,GC];refine S3 λb hb=>?_;rcases wg.mp hb with z|z
    .rw[z];exact Y8 q1
    .exact B4 b z
  .rw[wT hij]at q;exact other q λf ds _ z=>hij z.symm
theorem RepO.rels(h:RepO X H₀ H O ρ σ):∀is:ii,∃O',RepO X H₀ H O' (relS is ρ) σ:=λis=>by
 induction is generalizing O ρ with
 |nil=>exact⟨O,h⟩
 |cons i is ih=>exact ih (h.rel i)
end
inductive Oc where
 |nx (ρ:Rho)|rt (f:Fl) (d:Dt)|bk (ρ:Rho)|ct (ρ:Rho)|ex (n:Nat)
def OcOk(X:Cx)(H₀:Hp)(D:Ends):Oc->Prop
 |.nx ρ=>∀σ H,RepB X H₀ H ρ σ->D.nx σ H
 |.rt f d=>∀v H,Same H₀ H->Rp X.K (bsOf X.ky f.isFr) d H v->D.rt v H
 |.bk ρ=>∀σ H,RepB X H₀ H ρ σ->D.bk σ H
 |.ct ρ=>∀σ H,RepB X H₀ H ρ σ->D.ct σ H
 |.ex n=>∀C,X.mg (exN n)=aa (.ref C)->XOk X H₀ (wk n) C
abbrev FS:=Rho->Option Oc
def upS(X:Cx)(F:FS):TS:=λD σ H=>∃H₀ ρ oc,RepB X H₀ H ρ σ/\F ρ=aa oc/\OcOk X H₀ D oc
def PFS(X:Cx)(st:aZ)(F:FS):Prop:=PS X st (upS X F)
def PFSs(X:Cx)(sts:io)(F:FS):Prop:=PSs X sts (upS X F)
theorem PS.imp{X:Cx}{st:aZ}{t t':TS}(h:PS X st t)(q:∀D σ H,t' D σ H->t D σ H):PS X st t':=λπ s σ H D I z=>h π s σ H D I (q D σ H z)
theorem PSs.imp{X:Cx}{st:io}{t t':TS}(h:PSs X st t)(q:∀D σ H,t' D σ H->t D σ H):PSs X st t':=λπ s σ H D I z=>h π s σ H D I (q D σ H z)
section
variable {X:Cx}{st:aZ}{rest:io}{F G:FS}{e:aV}{Fe:FE}{pos:Pos}
def t9:FS:=λρ=>aa (.nx ρ)
def seqO(G:FS):Oc->Option Oc
 |.nx ρ=>G ρ
 |o=>aa o
noncomputable def sSeq(F G:FS):FS:=λρ=>(F ρ).bind (seqO G)
theorem u5:PFSs X [] t9:=RH.imp (by rintro D σ H ⟨H₀,ρ,oc,rb,e,k⟩;cases e;exact k σ H rb)
theorem i0(h:PFS X st F):PFSs X [st] F:=Y0 h
theorem d8(h1:PFS X st F)(h2:PFSs X rest G):PFSs X (st::rest) (sSeq F G):=(A8 h1 h2).imp λD σ H⟨H₀,ρ,oc,rb,e,k⟩=>by
 obtain⟨o1,e1,e2⟩:=bind_some e;refine⟨H₀,ρ,o1,rb,e1,?_⟩;cases o1 with
 |nx ρ'=>exact λσ' H' rb'=>⟨H₀,ρ',oc,rb',e2,k⟩
 |rt f d=>cases e2;exact k
 |ex C=>cases e2;exact k
 |bk ρ'=>cases e2;exact k
 |ct ρ'=>cases e2;exact k
def Y9:FS:=λ_=>aj
theorem CQ:PFS X st Y9:=λπ s σ H D I⟨H₀,ρ,oc,rb,e,k⟩=>by cases e
noncomputable def sRet(F:FE):FS:=λρ=>(F ρ).map λx=>.rt x.1 x.2
theorem k8(he:PF X e Fe):PFS X (.Return (aa e) pos) (sRet Fe):=(ND he).imp λD σ H⟨H₀,ρ,oc,⟨O,rb⟩,e0,k⟩=>by
 unfold sRet at e0;cases h:Fe ρ with
 |none=>rw[h]at e0;cases e0
 |some x=>
  rw[h]at e0;cases e0;refine⟨ρ,x.1,x.2,rb.all,h,λv H' sm r=>k v H' (rb.same.trans (l9.trans sm)) ?_⟩;by_cases q:x.1.isFr=ae
  .rw[q];exact r.fr rb.below q
  .rw[show x.1.isFr=ag by simpa using q];exact r.sh
noncomputable def sIf(c:FT)(F G:FS):FS:=λρ=>(c ρ).bind λb=>if b then F ρ else G ρ
theorem s_if{c:aV}{a b:io}{Fc:FT}(hc:PFT X c Fc)(ha:PFSs X a F)(hb:PFSs X b G):PFS X (.If c a b pos) (sIf Fc F G):=(ps_if hc ha hb).imp λD σ H⟨H₀,ρ,oc,⟨O,rb⟩,e0,k⟩=>by
 obtain⟨z,e1,e2⟩:=bind_some e0;refine⟨ρ,z,rb.all,e1,λH' sm=>?_⟩;dsimp only;cases z with
 |true=>rw[ap rfl]at e2|-;exact⟨H₀,ρ,oc,⟨O,rb.mono sm⟩,e2,k⟩
 |false=>rw[ax wH]at e2|-;exact⟨H₀,ρ,oc,⟨O,rb.mono sm⟩,e2,k⟩
def Ax(F:FE):FS:=λρ=>(F ρ).map λ_=>.nx ρ
theorem GD(he:PF X e Fe)(hs:cu e aj pos.line X.env=pure ag:=by rfl):PFS X (.Expr e pos) (Ax Fe):=(U3 he hs).imp λD σ H⟨H₀,ρ,oc,⟨O,rb⟩,e0,k⟩=>by
 unfold Ax at e0;cases h:Fe ρ with
 |none=>rw[h]at e0;cases e0
 |some x=>
  rw[h]at e0;cases e0;exact⟨ρ,x.1,x.2,rb.all,h,λv H' sm r=>k σ H' ⟨O,rb.mono sm⟩⟩
def AsgF(X:Cx)(st:aZ)(i:Nat)(F:FE):Prop:=PS X st (tAsg (upF X F) (G2 i))
theorem w8{i:Nat}{x:Str}{pos':Pos}(he:PF X e Fe)(hN:X.N.Nodup)(hi:X.N[i]?=aa x)(hx:Loc X.env.scope x)(hs:cu e (aa (.Name x pos')) pos.line X.env=pure ag)(hf:X.fn x=ae\/X.env.scope.names.lookup x=aa .local):
 AsgF X (.Assign [.Name x pos'] e pos) i Fe:=M2 hN hi hx he hs hf
theorem GE{N:ie}{scope:Scope}{nt:Nat}{js:ii}{tg elt iter:aV}{ifs:ik}{Fi:FI}{g:Tg}{Fc:FT}{i:Nat}{x:Str}{pos' spos:Pos}(hN:X.N.Nodup)(hix:X.N[i]?=aa x)(hx:X.env.scope.names.lookup x=aa .local)
  (hsw:cu (.ListComp elt [⟨tg,iter,ifs,0⟩] scope pos) (aa (.Name x pos')) spos.line X.env=pure ae)
  (S:CompScope X N scope nt js) (hc:X.calm=ae) (hi:PFI X tg iter Fi) (hg:∀cl C fp s H,PG (A1 X N scope cl C fp s H) tg (g.low X.K)) (hb:g.below nt)
  (hcs:∀cl C fp s H,PFTs (A1 X N scope cl C fp s H) ifs Fc) (he:∀cl C fp s H,PF (A1 X N scope cl C fp s H) elt Fe) (hj:∀j∈js,j<X.N.length)
  (hs:∀x,bX iter X.env x=pure x:=by intro _;rfl):AsgF X (.Assign [.Name x pos'] (.ListComp elt [⟨tg,iter,ifs,0⟩] scope pos) spos) i (k7 nt js Fi g Fc Fe):=by
 intro π s σ H D I h;exact Yv hN hix hx S hc hi hg (Tg.ok hb) (λcl C fp s H=>PTs.frame (t:=λH1=>upBK ⟨X.K,H1⟩ Fc) (hcs cl C fp s H)) (λcl C fp s H=>PE.frame (he cl C fp s H)) hsw hs π s σ H D I
  (RY (λj z=>by rw[I.len];exact hj j z) h)
def sSet(rels:ii)(i:Nat)(F:FE):FS:=λρ=>(F (O7 (relS rels ρ))).map λx=>.nx ((relS rels ρ).set i (.sh x.1.isFr x.2))
theorem O8{rels:ii}{i:Nat}(ha:AsgF X st i Fe):PFS X st (sSet rels i Fe):=(PS.frame ha).imp λD σ H⟨H₀,ρ,oc,⟨O,rb⟩,e0,k⟩=>by
 unfold sSet at e0;cases h:Fe (O7 (relS rels ρ)) with
 |none=>rw[h]at e0;cases e0
 |some x=>
  rw[h]at e0;cases e0;obtain⟨O',rb'⟩:=rb.rels rels;refine⟨O'.adr,rb'.own,O7 (relS rels ρ),x.1,x.2,rb'.rest,h,λv H' sm r hn=>?_⟩;have hg:hidL O'.adr (C9 O'.adr H H')=H':=R9 hn;have rb2:RepO X H₀ (C9 O'.adr H H') O' (relS rels ρ) σ:=rb'.mono (Same.glue sm hn);refine k _ _ ⟨_,rb2.set (f:=x.1.isFr) ?_⟩;rw[hg];by_cases q:x.1.isFr=ae
  .rw[q];exact r.fr (rb'.b0.trans rb'.same) q
  .rw[show x.1.isFr=ag by simpa using q];exact r.sh
def U4(i:Nat)(F:FE):FS:=λρ=>(F ρ).bind λx=>if x.1.isNw then aa (.nx (ρ.set i (.sh ae x.2))) else aj
theorem UR{H H':Hp}{O:Own}{f:Fl}{d:Dt}{v:V}(ho:OwnL X O.adr H)(sm:Same H H')(q:f.isNw=ae)(r:RpF X.ky H f d H' v):Rp X.K H d (hidL O.adr H') v:=by
 cases f<;>first|cases q|skip
 refine Rp.hid (λb hb=>?_) d (λb hb o e=>?_) r
 .obtain⟨⟨vs,z⟩,_⟩:=ho b hb;rw[z];exact λw=>nomatch w
 .obtain⟨⟨vs,z⟩,_⟩:=ho b hb;rw[sm _ _ z]at e;cases e;exact⟨vs,rfl⟩
theorem Ku{i:Nat}(ha:AsgF X st i Fe):PFS X st (U4 i Fe):=PS.imp ha λD σ H⟨H₀,ρ,oc,⟨O,rb⟩,e0,k⟩=>by
 obtain⟨x,e1,e2⟩:=bind_some e0;split at e2
 .rename_i q;cases e2;refine⟨ρ,x.1,x.2,rb.all,e1,λv H' sm r=>k _ _ ⟨_,(rb.mono sm).set (f:=ae) ?_⟩⟩;exact Rp.anti rb.below _ (UR rb.own sm q r)
 .cases e2
def sOwn(i:Nat)(F:FE):FS:=λρ=>(F (O7 ρ)).bind λx=>match x with
 |(.nw,.lst ds)=>if i<ρ.length then aa (.nx (ρ.set i (.ow ae ds))) else aj
 |(.tn,.lst ds)=>if i<ρ.length then aa (.nx (ρ.set i (.ow ag ds))) else aj
 |_=>aj
theorem US{i:Nat}(ha:AsgF X st i Fe):PFS X st (sOwn i Fe):=(PS.frame ha).imp λD σ H⟨H₀,ρ,oc,⟨O,rb⟩,e0,k⟩=>by
 obtain⟨x,e1,e2⟩:=bind_some e0;refine⟨O.adr,rb.own,O7 ρ,x.1,x.2,rb.rest,e1,λv H' sm r hn=>?_⟩;have hg:hidL O.adr (C9 O.adr H H')=H':=R9 hn;have sg:Same H (C9 O.adr H H'):=Same.glue sm hn;have new:∀{f:Bool}{ds:iC}{D:Addr}{vs:iD},hidL O.adr H D=aj->H' D=aa (.lst vs)->Rps X.K (bsOf X.ky f) ds (hidL [D] H') vs->i<ρ.length->RepB X H₀ (C9 O.adr H H') (ρ.set i (.ow f ds)) (σ.set i (aa (.ref D))):=by
   intro f ds D vs hD hv hr hi;have nO:D∉O.adr:=λz=>by rw[hn D z]at hv;cases hv
   have hH:H D=aj:=by rw[i8 nO]at hD;exact hD
   refine⟨_,rb.setNew hi sg hH (by rw[B0 nO];exact hv) nO (rb.below.free hH) ?_⟩;rw[<-GC,W6,hg];exact hr
 split at e2
 .rename_i ds;split at e2
  .rename_i hi;cases e2;obtain⟨D,vs,rfl,h0,h1,h2⟩:=(Rp.lst_ (K:=X.K)).mp (show Rp X.K (hidL O.adr H) (.lst ds) H' v from r);exact k _ _ (new (f:=ae) h0 h1 (Rps.anti (rb.b0.trans rb.same) _ h2) hi)
  .cases e2
 .rename_i ds;split at e2
  .rename_i hi;cases e2;obtain⟨D,vs,rfl,h0,h1,h2⟩:=Rp.lst_.mp r.1;exact k _ _ (new (f:=ag) (r.2.2 D rfl) h1 h2 hi)
  .cases e2
 .cases e2
def D5(c:FT)(F:FS):Nat->FS
 |0,_=>aj
 |n+1,ρ=>(c ρ).bind λb=>if b then(F ρ).bind λoc=>match oc with|.nx ρ'=>D5 c F n ρ'|.ct ρ'=>D5 c F n ρ'|.bk ρ'=>aa (.nx ρ')|.rt f d=>aa (.rt f d)|.ex C=>aa (.ex C) else aa (.nx ρ)
open Classical in
noncomputable def S8(c:FT)(F:FS):FS:=λρ=>if h:∃n o,D5 c F n ρ=aa o then aa (choose (choose_spec h)) else aj
theorem U5{c:FT}{F:FS}:∀{n m:Nat}{ρ:Rho}{o:Oc},n<=m->D5 c F n ρ=aa o->D5 c F m ρ=aa o
 |0,m,ρ,o,_,h=>by cases h
 |n+1,0,ρ,o,hl,h=>()
 | n+1,m+1,ρ,o,hl,h=>by
  unfold D5 at h|-;obtain⟨b,e1,e2⟩:=bind_some h;rw[e1];show(if b=ae then _ else _)=_;cases b with
  |false=>exact e2
  |true=>
   rw[ap rfl]at e2|-;obtain⟨oc,e3,e4⟩:=bind_some e2;rw[e3];cases oc with
   |nx ρ'=>exact U5 () e4
   |ct ρ'=>exact U5 () e4
   |bk ρ'=>exact e4
   |rt f d=>exact e4
   |ex C=>exact e4
theorem Be{c:FT}{F:FS}{n:Nat}{ρ:Rho}{o:Oc}(h:D5 c F n ρ=aa o):S8 c F ρ=aa o:=by
 have hx:∃n o,D5 c F n ρ=aa o:=⟨n,o,h⟩;unfold S8;rw[dif_pos hx];have z:=vp (vp hx);have a:=U5 (Nat.le_max_left n (uJ hx)) h;have b:=U5 (Nat.le_max_right n (uJ hx)) z;rw[a]at b;exact b.symm
theorem Td{c:FT}{F:FS}{ρ:Rho}{o:Oc}(h:S8 c F ρ=aa o):∃n,D5 c F n ρ=aa o:=by
 unfold S8 at h;split at h
 .rename_i hx;cases h;exact⟨_,vp (vp hx)⟩
 .cases h
theorem Kv{c:aV}{body:io}{Fc:FT}(hp:PassesOwn (model X.prog X.w) X.A X.env X.xe)(hc:PFT X c Fc)(hb:PFSs X body F):PFS X (.While c body [] pos) (S8 Fc F):=(LD hp hc hb).imp λD σ H⟨H₀,ρ,oc,rb,e0,k⟩=>by
 obtain⟨n0,e1⟩:=Td e0;refine⟨λm σ' H'=>∃ρ',RepB X H₀ H' ρ' σ'/\D5 Fc F m ρ'=aa oc,⟨n0,ρ,rb,e1⟩,?_⟩;rintro m σ' H' ⟨ρ',⟨O,rb'⟩,w'⟩;cases m with
 |zero=>cases w'
 | succ n =>
  unfold D5 at w';obtain⟨z,p1,p2⟩:=bind_some w';refine⟨ρ',z,rb'.all,p1,λH2 sm=>?_⟩;dsimp only;cases z with
  |false=>
   rw[ax wH]at p2|-;cases p2;exact k _ _ ⟨O,rb'.mono sm⟩
  |true=>
   rw[ap rfl]at p2|-;obtain⟨oc',p3,p4⟩:=bind_some p2;refine⟨λσ' H'=>∃ρ'',RepB X H₀ H' ρ'' σ'/\D5 Fc F n ρ''=aa oc,λσ3 H3⟨ρ3,rb3,w3⟩=>⟨n,wW n,ρ3,rb3,w3⟩,H₀,ρ',oc',⟨O,rb'.mono sm⟩,p3,?_⟩;cases oc' with
   |nx ρ3=>exact λσ3 H3 rb3=>⟨ρ3,rb3,p4⟩
   |ct ρ3=>exact λσ3 H3 rb3=>⟨ρ3,rb3,p4⟩
   |bk ρ3=>cases p4;exact k
   |rt f d=>cases p4;exact k
   |ex C=>cases p4;exact k
def forF(g:Tg)(F:FS):iC->FS
 |[],ρ=>aa (.nx ρ)
 |x::xs,ρ=>(g.put x ρ).bind λρ2=>(F ρ2).bind λoc=>match oc with|.nx ρ'=>forF g F xs ρ'|.ct ρ'=>forF g F xs ρ'|.bk ρ'=>aa (.nx ρ')|.rt f d=>aa (.rt f d)|.ex C=>aa (.ex C)
def sFor(rels:ii)(Fi:FI)(g:Tg)(F:FS):FS:=λρ=>(Fi (O7 (relS rels ρ))).bind λitems=>forF g F items (relS rels ρ)
end
section
variable {X:Cx}{H₀ H H':Hp}{O:Own}{ρ ρ':Rho}{σ:St}
theorem EJ:∀{is:ii}{ds:iC}{vs:iD}{O:Own}{ρ:Rho}{σ:St},RepO X H₀ H O ρ σ->Rps X.K emp ds (hidL O.adr H) vs->ds.length=is.length->V7 ρ is ds=ρ' ->
  L0 is vs σ H λσ' H'=>H'=H/\∃O',RepO X H₀ H O' ρ' σ'
 |[],[],vs,O,ρ,σ,rs,r,hl,q=>⟨Rps.nil_.mp r,rfl,O,by rw[<-q];exact rs⟩
 |[],d::ds,vs,O,ρ,σ,rs,r,hl,q=>by cases hl
 |i::is,[],vs,O,ρ,σ,rs,r,hl,q=>by cases hl
 |i::is,d::ds,vs,O,ρ,σ,rs,r,hl,q=>by
  obtain⟨v,r',rfl,h1,h2⟩:=Rps.cons_.mp r;exact⟨v,r',rfl,EJ (rs.set (f:=ag) h1) (Rps.mono _ (S3 B4) h2) (by simpa using hl) q⟩
theorem Tg.simO{g:Tg}{d:Dt}{v:V}(rs:RepO X H₀ H O ρ σ)(r:Rp X.K emp d (hidL O.adr H) v)(h:g.put d ρ=aa ρ'):
  g.low X.K v σ H λσ' H'=>H'=H/\∃O',RepO X H₀ H O' ρ' σ':=by
 cases g with
 |one i=>cases h;exact⟨rfl,_,rs.set (f:=ag) r⟩
 |many is=>
  cases d<;>first|cases h|skip
  rename_i ds;replace h:(if ds.length=is.length then aa (V7 ρ is ds) else aj)=aa ρ':=h;split at h
  .rename_i hl;obtain⟨a,vs,rfl,h1,h2⟩:=Rp.tup_.mp r;exact⟨a,vs,rfl,l9.seqT h1,by rw[h2.length];exact hl,EJ rs h2 hl (aM h)⟩
  .cases h
end
section
variable {X:Cx}{tg iter:aV}{body:io}{Fi:FI}{g:Tg}{F:FS}{pos:Pos}
theorem BO{rels:ii}(hp:PassesOwn (model X.prog X.w) X.A X.env X.xe)(hc:X.calm=ae)(hi:PFI X tg iter Fi)(hg:PG X tg (g.low X.K))(hb:PFSs X body F)
   (hs:∀x,bX iter X.env x=pure x:=by intro _;rfl):PFS X (.For tg iter body [] pos) (sFor rels Fi g F):=(NG hp hc (PI.frame hi) hg hb hs).imp λD σ H⟨H₀,ρ,oc,⟨O,rb⟩,e0,k⟩=>by
 obtain⟨items,e1,e2⟩:=bind_some e0;obtain⟨O',rb'⟩:=rb.rels rels;refine⟨O'.adr,rb'.own,O7 (relS rels ρ),items,rb'.rest,e1,λJ H1 sm hsz wk hn=>?_⟩;have hg1:hidL O'.adr (C9 O'.adr H H1)=H1:=R9 hn;have s01:Same H₀ H1:=rb'.same.trans sm;have start:RepO X H1 (C9 O'.adr H H1) O' (relS rels ρ) σ:=by
   have z:=rb'.mono (Same.glue sm hn);exact⟨z.ndA,z.ndI,z.own,z.len,rb'.b0.trans s01,by rw[hg1];exact Same.refl _,z.at_⟩
 have back:∀{oc:Oc},OcOk X H₀ D oc->OcOk X H1 D oc:=λ{oc}z=>by
   cases oc with
   |nx ρ5=>exact λσ5 H5⟨O5,r5⟩=>z σ5 H5 ⟨O5,r5.base s01 rb'.b0⟩
   |bk ρ5=>exact λσ5 H5⟨O5,r5⟩=>z σ5 H5 ⟨O5,r5.base s01 rb'.b0⟩
   |ct ρ5=>exact λσ5 H5⟨O5,r5⟩=>z σ5 H5 ⟨O5,r5.base s01 rb'.b0⟩
   |rt f d=>exact λv H5 s5 r5=>z v H5 (s01.trans s5) r5
   |ex n=>exact λC q=>(z C q).base s01
 refine⟨λi m σ' H'=>m=items.length-i/\∃ρ',RepB X H1 H' ρ' σ'/\forF g F (items.drop i) ρ'=aa oc,⟨_,rfl,_,⟨O',start⟩,e2⟩,?_⟩;rintro i m σ' H' ⟨rfl,ρ',⟨O2,r2⟩,f2⟩;obtain⟨w1,w2⟩:=wk O2.adr H' r2.same λa ha=>by obtain⟨⟨vs,q⟩,_⟩:=r2.own a ha;exact⟨_,q⟩
 by_cases hlt:i<items.length
 .obtain⟨x,hx⟩:∃x,items[i]?=aa x:=⟨_,wa hlt⟩;have hdrop:items.drop i=x::items.drop (i+1):=by
   rw[wZ hlt];rw[wa hlt]at hx;cases hx;rfl
  rw[hdrop]at f2;unfold forF at f2;obtain⟨ρ2,p1,f3⟩:=bind_some f2;obtain⟨oc',p2,f4⟩:=bind_some f3;obtain⟨go,yl⟩:=w1 i x hx;refine .inr ⟨go,λσ3 H3=>∃ρ3,RepB X H1 H3 ρ3 σ3/\forF g F (items.drop (i+1)) ρ3=aa oc,λσ3 H3⟨ρ3,r3,f3⟩=>⟨items.length-(i+1),(),rfl,ρ3,r3,f3⟩,λxv H3 y3=>?_⟩;obtain⟨s3,k3,r3⟩:=yl xv H3 y3;have sm3:Same H' H3:=λb o e=>by
   by_cases hb:b∈O2.adr
   .rw[k3 b hb];exact e
   .exact(B2 (s3 b o (by rw[i8 hb];exact e))).2
  refine Tg.low_mono (Tg.simO (r2.mono sm3) r3 p1) ?_;rintro σ4 H4 ⟨eH,O4,r4⟩;subst eH;refine⟨H1,ρ2,oc',⟨O4,r4⟩,p2,?_⟩;cases oc' with
  |nx ρ5=>exact λσ5 H5 r5=>⟨ρ5,r5,f4⟩
  |ct ρ5=>exact λσ5 H5 r5=>⟨ρ5,r5,f4⟩
  |bk ρ5=>cases f4;exact back k
  |rt f d=>cases f4;exact back k
  |ex C=>cases f4;exact back k
 .have hd:items.drop i=[]:=w0f ();rw[hd]at f2;cases f2;exact .inl ⟨w2 i (),back k σ' H' ⟨O2,r2⟩⟩
end
section
variable {P:aN}{w:aP}{K:aE}{mg:aF}{base:aX}
def rho0(n:Nat)(ds:iC):Rho:=ds.map (Cell.sh ag)++br (n-ds.length) Cell.no
theorem GF{X:Cx}{H:Hp}{ds:iC}{vs:iD}{N:ie}(h0:X.H₀=H)(h:Rps X.K emp ds H vs):RepO X H H [] (rho0 N.length ds) (start N vs):=by
 have hl:=h.length;refine⟨uw,uw,λa ha=>(nomatch ha),by unfold rho0 start;simp[hl],by rw[h0];exact Same.refl H,by show Same H (hidL [] H);rw[LM];exact Same.refl H,λi c e=>?_⟩;unfold rho0 at e;unfold start;by_cases hi:i<ds.length
 .rw[wJ (by simpa using hi),wx]at e;cases q:ds[i]? with
  |none=>rw[q]at e;cases e
  | some d =>
    rw[q]at e;cases e;obtain⟨v,e1,e2⟩:=h.get q;refine⟨aa v,?_,v,rfl,by show Rp X.K emp d (hidL [] H) v;rw[LM];exact e2⟩;rw[wJ (by simp;rfl'),wx,e1];rfl
 .rw[wE (by simp;rfl'),wV]at e;split at e
  .cases e;rename_i hlt;simp at hlt;refine⟨aj,?_,trivial⟩;rw[wE (by simp;rfl'),wV,ap (by simp;rfl')]
  .cases e
noncomputable def cOf(np n:Nat)(fr:Bool)(F:FS):FC:=λds=>if ds.length=np then
 (F (rho0 n ds)).bind λoc=>match oc with|.rt f d=>if fr&&!(f.isFr||d.flat) then aj else aa d|.nx _=>aa .non|_=>aj
 else aj
theorem Fun.dataP{Pre:Hp→Prop}{x qual:Str}{st:Stmt}{f:Addr}{fd:FuncData}{N ps:List Str}{k:Nat}{fr:Bool}{F:FS}(Fu:Fun K x qual st f fd)(S:FnScope N ps (d7 st))
    (body:∀(cdv:Value)(A:aU)(outer:iq)(s:Shared)(H:Hp)(E:XK),Room k (A.deeper (cz qual (d7 st) s.heap.objs.size f cdv))->Pre H ->
      PFSs (cxOf CX0 P w K mg base N qual (d7 st) f cdv A outer s H E).nox (A3 st) F):FnOk P w K mg base CX0 (k+1) f fd ps (λvs H Q E=>Pre H/\spc K fr (cOf ps.length N.length fr F) vs H Q E):=by
  refine Fu.ok S (λvs H Q E h=>?_) (λcdv A outer s H vs Q E hr h=>?_)
  .obtain⟨_,ds,d,r,e,q⟩:=h;unfold cOf at e;split at e
   .rename_i hl;rw[r.length];exact hl
   .cases e
  .obtain⟨ hP,ds,d,r,e,q⟩:=h
   unfold cOf at e;split at e
   .rename_i hl;obtain⟨oc,e1,e2⟩:=bind_some e;refine⟨_,body cdv A outer s H E hr hP,H,rho0 N.length ds,oc,⟨[],GF rfl r⟩,e1,?_⟩;cases oc with
    |nx ρ=>cases e2;exact λσ H'⟨O,rb⟩=>q _ H' (rb.same.trans l9) (Rp.non_.mpr rfl)
    |bk ρ=>cases e2
    |ct ρ=>cases e2
    |ex C=>cases e2
    | rt f d' =>
      have e2:(if(fr&&!(f.isFr||d'.flat))=ae then aj else aa d')=aa d:=e2;split at e2
      .cases e2
      .rename_i hf;cases e2;refine λv H' sm r'=>q v H' sm ?_;cases fr with
       |false=>exact Rp.anti Same.emp _ r'
       | true =>
         have hf:f.isFr=ae\/d.flat=ae:=by
           cases h1:f.isFr<;>cases h2:d.flat<;>simp[h1,h2]at hf|-
         rcases hf with hf|hf
         .rw[hf]at r';exact r'
         .exact Rp.flat d hf r'
   .cases e
theorem Fun.data{x qual:Str}{st:aZ}{f:Addr}{fd:az}{N ps:ie}{k:Nat}{fr:Bool}{F:FS}(Fu:Fun K x qual st f fd)(S:FnScope N ps (d7 st))
 (body:∀(cdv:Value) (A:Around) (outer:List Env) (s:Shared) (H:Hp) (E:XK),Room k (A.deeper (envOfC qual (d7 st) s.heap.objs.size f cdv)) →
  PFSs (cxOf CX0 P w K mg base N qual (d7 st) f cdv A outer s H E).nox (A3 st) F):FnOk P w K mg base CX0 (k+1) f fd ps (spc K fr (cOf ps.length N.length fr F)):=(Fu.dataP (Pre:=λ_=>True) S λcdv A outer s H E hr _=>body cdv A outer s H E hr).imp λ_ _ _ _ h=>⟨trivial,h⟩
end
def Kw(XN:ie)(xs:List (Str×bN))(scope:Scope)(N:ie)(nt:Nat)(js:ii):Bool:=
 decide ((scope.names.map (·.1)).Nodup)&&(N.length==nt+js.length)&&((aT js.length).all λk=>match js[k]? with
  |some j=>(match N[nt+k]?,XN[j]? with|some x,aa y=>x==y&&scope.names.lookup x==aa .free|_,_=>ag)
  |none=>ag)&&scope.names.all λp=>p.2 !=.free||xs.lookup p.1==aa .cell||xs.lookup p.1==aa .free
theorem J5{X:Cx}{N:ie}{scope:Scope}{nt:Nat}{js:ii}(XN:ie)(xs:List (Str×bN))(h1:X.N=XN)(h2:X.env.scope.names=xs)(hk:scope.kind=.function)(c:Kw XN xs scope N nt js=ae):CompScope X N scope nt js:=by
 unfold Kw at c;rw[wF,wF,wF]at c;obtain⟨⟨⟨c1,c2⟩,c3⟩,c4⟩:=c;have nd:=ba c1;refine⟨hk,nd,λx hx e=>by rw[P4 nd hx,e],beq_iff_eq.mp c2,λk j e=>?_,λx hx e=>?_⟩
 .have hk:k<js.length:=by
    by_cases hk:k<js.length
    .exact hk
    .rw[wU ()]at e;cases e
  have z:=ud.mp c3 k (wQ.mpr hk);rw[e]at z;dsimp only at z;rw[h1];cases q1:N[nt+k]? with
  |none=>rw[q1]at z;cases z
  | some x =>
    cases q2:XN[j]? with
    |none=>rw[q1,q2]at z;cases z
    | some y =>
      rw[q1,q2]at z;dsimp only at z;rw[wF]at z;have exy:x=y:=beq_iff_eq.mp z.1;subst exy;exact⟨x,rfl,rfl,beq_iff_eq.mp z.2⟩
 .have z:=ud.mp c4 x hx;rw[e]at z;have z:(xs.lookup x.1==aa .cell||xs.lookup x.1==aa .free)=ae:=by simpa using z
  show X.env.scope.names.lookup x.1=_\/X.env.scope.names.lookup x.1=_;rw[h2];rcases vJ _ _ |>.mp z with z|z
  .exact .inl (beq_iff_eq.mp z)
  .exact .inr (beq_iff_eq.mp z)
structure Df(K:aE)(mg:aF)(name:Str)(st:aZ)(ps:ie)(f:Addr)(fd:az):Prop where
 fn:Fun K name name st f fd
 mg:mg name=aa (.ref f)
 bd:Binds K fd ps []
theorem df_mk{K:aE}{h:aX}{mg:aF}(X:K.In h)(G:h.Ns aO mg){x:Str}{st:aZ}{f:Addr}{oc:Value}{od an:iB}{osl:Array (iA)}{kV doc pm cdv ct:Value}{ps:ie}
  (e:aY K aO x=aa (aa (.ref f))) (l:K.lookup f=aa ⟨oc,od,.func (bO x x (J1 st) (A3 st) (d7 st) .none kV doc pm an cdv ct),osl⟩) (c:cX K cdv x=ae) (k:cD K (.ref f)=ae)
  (hb:∀(kV doc pm:Value)(an:iB)(cdv ct:Value)(us:aG),us.length=ps.length->fA (bO x x (J1 st) (A3 st) (d7 st) .none kV doc pm an cdv ct) ⟨us,[]⟩=pure (ps.zip us)) :
  Df K mg x st ps f (bO x x (J1 st) (A3 st) (d7 st) .none kV doc pm an cdv ct):=
 ⟨Uu l c k,cw X G e,(Uu (st:=st) l c k).binds hb⟩
end L2
end
section
namespace ZL
def ItAt(h:aX)(tu:Bool)(it l:Addr)(k:Nat):Prop:=if tu then h.IsTupleIter it l k else h.IsListIter it l k
def SqAt(h:aX)(tu:Bool)(l:Addr)(xs:iu):Prop:=if tu then h.IsTuple l xs else h.IsList l xs
section
variable {h h':aX}{tu:Bool}{it l c:Addr}{k:Nat}{xs:iu}
theorem ItAt.at(x:ItAt h tu it l k)(q:∀o,h.get? it=aa o->h'.get? it=aa o):ItAt h' tu it l k:=by
 unfold ItAt at x|-;cases tu with
 |true=>obtain⟨o,e,r⟩:=x;exact⟨o,q o e,r⟩
 |false=>obtain⟨o,e,r⟩:=x;exact⟨o,q o e,r⟩
theorem SqAt.at(x:SqAt h tu l xs)(q:∀o,h.get? l=aa o->h'.get? l=aa o):SqAt h' tu l xs:=by
 unfold SqAt at x|-;cases tu with
 |true=>obtain⟨o,e,r⟩:=x;exact⟨o,q o e,r⟩
 |false=>obtain⟨o,e,r⟩:=x;exact⟨o,q o e,r⟩
theorem ItAt.lt(x:ItAt h tu it l k):it<h.objs.size:=by
 unfold ItAt at x;cases tu with
 |true=>obtain⟨o,e,_⟩:=x;exact wm e
 |false=>obtain⟨o,e,_⟩:=x;exact wm e
theorem SqAt.lt(x:SqAt h tu l xs):l<h.objs.size:=by
 unfold SqAt at x;cases tu with
 |true=>obtain⟨o,e,_⟩:=x;exact wm e
 |false=>obtain⟨o,e,_⟩:=x;exact wm e
end
section
variable {prog:aN}{w:aP}{A:aU}{E:aC}{s:Shared}
theorem NU{it t:Addr}{i:Nat}{items:iu}{x:Value}{Q:aC}(a:s.heap.IsTupleIter it t i)(b:s.heap.IsTuple t items)(c:items[i]?=aa x)
  (q:∀h',h'.IsTupleIter it t (i+1)->dU it s.heap h'->Q x { s with heap:=h' }):ay (model prog w) A (dH (.ref it)) Q E s:=by
 obtain⟨o,e1,e2,e3⟩:=id a;obtain⟨p,f1,_,n,f2⟩:=b;unfold dH;refine ah (dP (name:=bw "__next__") a.typeIs du (dD du a.typeIs F.entry_tuple_iterator_next ?_ (F.args_tuple_iterator_next_1 _)));show ay _ _ (field (.ref it) 0 >>= λz=>_) _ _ s;refine ah (bR e1 e3 (x:=ak t) rfl ?_);show ay _ _ (if(ak t==bM)=ae then _ else _) _ _ s;rw[ax (by exact wH)];show ay _ _ (field (.ref it) 1 >>= λz=>_) _ _ s;refine ah (bR e1 e3 (x:=cO i 0) rfl ?_);show ay _ _ (seqItems? (.ref t) >>= λz=>_) _ _ s;refine ah (dm f1 f2 ?_);simp only[vK,c];refine ah (eS e1 e3 (by simp) (ao ⟨x,rfl,ao (q _ ⟨_,vU _ e1 (fT (dO e3 _)),(Obj.cls_mapFields ..).trans e2,?_⟩ (bL ..))⟩));rw[dO e3];simp[cK]
theorem Tf{it t:Addr}{i:Nat}{items:iu}{Q:aC}(hn:A.handled=aj)(a:s.heap.IsTupleIter it t i)(b:s.heap.IsTuple t items)(c:items[i]?=aj)
  (q:∀h' e,Heap.ExtBut it s.heap h'->(∃o,h'.get? e=aa o/\o.cls=.type "StopIteration")->E (.ref e) { s with heap:=h' }):ay (model prog w) A (dH (.ref it)) Q E s:=by
 obtain⟨o,e1,e2,e3⟩:=id a;obtain⟨p,f1,_,n,f2⟩:=b;unfold dH;refine ah (dP (name:=bw "__next__") a.typeIs du (dD du a.typeIs F.entry_tuple_iterator_next ?_ (F.args_tuple_iterator_next_1 _)));show ay _ _ (field (.ref it) 0 >>= λz=>_) _ _ s;refine ah (bR e1 e3 (x:=ak t) rfl ?_);show ay _ _ (if(ak t==bM)=ae then _ else _) _ _ s;rw[ax (by exact wH)];show ay _ _ (field (.ref it) 1 >>= λz=>_) _ _ s;refine ah (bR e1 e3 (x:=cO i 0) rfl ?_);show ay _ _ (seqItems? (.ref t) >>= λz=>_) _ _ s;refine ah (dm f1 f2 ?_);simp only[vK,c];refine ah (cB (ah (eS e1 e3 (by simp) ?_)));show ay _ _ (newExc (.type "StopIteration") [] >>= λz=>_) _ _ _;refine ah ?_;simp only[newExc,newTuple];refine ah (di ?_ (by size_fits));refine ah (m:=fY _ _) (wpAny_of_eq (a:=bM) (by first|(simp only[fY];rfl)|rfl) ?_);refine di ?_ (by size_fits);simp only[raiseNew];refine ah (wpAny_handled ?_)
 first|rw[hn]|rw[show A.in1.handled=aj from hn]
 refine ah (ao (wpAny_throw ?_));exact q _ _ (((bL ..).extBut.push _).push _) ⟨_,wo _ rfl,rfl⟩
theorem IN{tu:Bool}{it l:Addr}{i:Nat}{items:iu}{x:Value}{Q:iA->Shared->Prop}(a:ItAt s.heap tu it l i)(b:SqAt s.heap tu l items)(c:items[i]?=aa x)
  (q:∀h',ItAt h' tu it l (i+1)->dU it s.heap h'->Q (aa x) { s with heap:=h' }):ay (model prog w) A (bu (.ref it)) Q E s:=by
 unfold bu;cases tu with
 |true=>exact ah (cH (NU a b c λh' p1 p2=>ao (q h' p1 p2)))
 |false=>exact ah (cH (wpAny_nextOf_list_item a b c λh' p1 p2=>ao (q h' p1 p2)))
theorem LU{tu:Bool}{it l:Addr}{i:Nat}{items:iu}{Q:iA->Shared->Prop}(hn:A.handled=aj)(a:ItAt s.heap tu it l i)(b:SqAt s.heap tu l items)(c:items[i]?=aj)
  (q:∀h',Heap.ExtBut it s.heap h'->Q aj { s with heap:=h' }):ay (model prog w) A (bu (.ref it)) Q E s:=by
 unfold bu;cases tu with
 |true=>exact ah (cH (Tf hn a b c λh' e p1⟨o,p2,p3⟩=>ah (fy (T :="StopIteration") (b:=ae) ⟨o,p2,p3⟩ isSubtype_stop (ao (q h' p1)))))
 |false=>exact ah (cH (wpAny_nextOf_list_end hn a b c λh' e p1⟨o,p2,p3⟩=>ah (fy (T :="StopIteration") (b:=ae) ⟨o,p2,p3⟩ isSubtype_stop (ao (q h' p1)))))
def O9(h:aX)(z ti to:Addr)(f:Value):Prop:=h.get? z=aa { cls:=.type "zip",dict:=aj,data:=.fields #[f,.bool ag,.bool ae,.ref ti,.ref to],slots:=#[] }
structure Apart(z ti to i j a b:Addr):Prop where
 p1:ti≠z
 p2:to≠z
 p3:i≠z
 p4:j≠z
 p5:ti≠to
 p6:ti≠i
 p7:ti≠j
 p8:to≠i
 p9:to≠j
 p10:i≠j
 a1:a≠z
 a2:a≠to
 a3:a≠i
 a4:a≠j
 b1:b≠z
 b2:b≠to
 b3:b≠i
 b4:b≠j
def zEnd(l:aG)(n:Nat):Sem PySem.Fin:=do
 if n > 0 then
  rule "zip.__next__.shorter";raiseError "ValueError" s!"zip() argument {n + 1} is shorter than {if n == 1 then "argument 1" else s!"arguments 1-{n}"}"
 for (e,m) in (l.drop 1).zipIdx 1 do
  if(<-bu e).isSome then
   rule "zip.__next__.longer";raiseError "ValueError" s!"zip() argument {m + 1} is longer than {if m == 1 then "argument 1" else s!"arguments 1-{m}"}"
 rule "zip.__next__.all-ended";gN
theorem UT{z ti to i j a b:Addr}{ta tb:Bool}{k:Nat}{xs ys:iu}{x y u v:Value}{Q:aC}(D:Apart z ti to i j a b)
  (hz:O9 s.heap z ti to .none) (hI:dr s.heap ti (.ref i) (.ref j)) (hO:dr s.heap to u v) (hi:ItAt s.heap ta i a k) (hj:ItAt s.heap tb j b k) (ha:SqAt s.heap ta a xs) (hb:SqAt s.heap tb b ys) (hx:xs[k]?=aa x) (hy:ys[k]?=aa y)
  (hQ:∀ h',O9 h' z ti to (rawInt s.heap.objs.size)→IsPair h' to x y→ItAt h' ta i a (k+1)→ItAt h' tb j b (k+1)→IsPair h' s.heap.objs.size x y→h'.objs.size=s.heap.objs.size+1 →
   (∀c o,c≠z->c≠to->c≠i->c≠j->s.heap.get? c=aa o->h'.get? c=aa o)->Q (.ref s.heap.objs.size) { s with heap:=h' }) :
  ay (model prog w) A (Builtin.«zip.__next__» ⟨[.ref z],[]⟩) (λfin s'=>∃v,fin=.done (.ret v)/\Q v s') E s:=by
 show ay _ _ (field (.ref z) 2 >>= λt=>_) _ _ _;refine ah (bR hz rfl (x:=fJ ae) rfl ?_);show ay _ _ (field (.ref z) 3 >>= λt=>_) _ _ _;refine ah (bR hz rfl (x:=ak ti) rfl ?_);refine ah (dm hI rfl ?_);show ay _ _ (cI (.ref z) >>= λt=>_) _ _ _;refine ah ?_;unfold cI;refine ah (bR hz rfl (x:=bM) rfl (ao ?_));simp only[if_true];refine ah (cB ?_);refine ah (bR hz rfl (x:=ak to) rfl ?_);refine ah (cU hz (by simp) λg1 z1 m1=>?_);replace z1:O9 g1 z ti to .ellipsis:=z1;refine ah ?_;simp only[w05,vI,w13,vN];refine ah (ah (wpAny_onRaise ?_));show ay _ _ (bu (.ref i)) _ _ _;refine IN (hi.at λo e=>m1.extBut _ _ D.p3 e) (ha.at λo e=>m1.extBut _ _ D.a1 e) hx λg2 i2 m2=>?_;have o2:dr g2 to u v:=m2.extBut _ _ D.p8 (m1.extBut _ _ D.p2 hO);refine ah (dm o2 rfl ?_);refine ah (wpAny_updateSeq_pair o2 λg3 o3 m3=>?_);replace o3:dr g3 to x v:=o3;refine ah (wpAny_letGo (ao ?_));refine ah (ah (wpAny_onRaise ?_));show ay _ _ (bu (.ref j)) _ _ _;refine IN (hj.at λo e=>m3.extBut _ _ D.p9.symm (m2.extBut _ _ D.p10.symm (m1.extBut _ _ D.p4 e))) (hb.at λo e=>m3.extBut _ _ D.b2 (m2.extBut _ _ D.b3 (m1.extBut _ _ D.b1 e))) hy λg4 j4 m4=>?_;have o4:dr g4 to x v:=m4.extBut _ _ D.p9 o3;refine ah (dm o4 rfl ?_);refine ah (wpAny_updateSeq_pair o4 λg5 o5 m5=>?_);replace o5:dr g5 to x y:=o5;refine ah (wpAny_letGo (ao (ao ?_)));refine ah (dm o5 rfl ?_);refine ah (fX ?_);have sz:g5.objs.size=s.heap.objs.size:=by rw[m5.1,m4.1,m3.1,m2.1,m1.1]
 have z5:O9 g5 z ti to .ellipsis:=m5.extBut _ _ D.p2.symm (m4.extBut _ _ D.p4.symm (m3.extBut _ _ D.p2.symm (m2.extBut _ _ D.p3.symm z1)));have k5:∀c o,c≠z->c≠to->c≠i->c≠j->s.heap.get? c=aa o->g5.get? c=aa o:=λc o c1 c2 c3 c4 e=>m5.extBut _ _ c2 (m4.extBut _ _ c4 (m3.extBut _ _ c2 (m2.extBut _ _ c3 (m1.extBut _ _ c1 e))));have i5:ItAt g5 ta i a (k+1):=i2.at λo e=>m5.extBut _ _ D.p8.symm (m4.extBut _ _ D.p10 (m3.extBut _ _ D.p8.symm e));have j5:ItAt g5 tb j b (k+1):=j4.at λo e=>m5.extBut _ _ D.p9.symm e;have zl:z<g5.objs.size:=wm z5;show ay _ _ (gv (.ref z) (.ref g5.objs.size) >>= λt=>_) _ _ _;refine ah ?_;unfold gv;have z6:O9 (g5.push { cls:=.type "tuple",data:=.seq #[x,y] }) z ti to .ellipsis:=wc _ z5;refine ah (cU z6 (by simp) λg7 z7 m7=>?_);replace z7:O9 g7 z ti to (cK g5.objs.size):=z7;refine cU z7 (by simp) λg8 z8 m8=>?_;replace z8:O9 g8 z ti to (cK g5.objs.size):=z8;have up:∀c o,c≠z->g5.get? c=aa o->g8.get? c=aa o:=λc o c1 e=>m8.extBut _ _ c1 (m7.extBut _ _ c1 (wc _ e));have t8:dr g8 g5.objs.size x y:=m8.extBut _ _ (vQ zl) (m7.extBut _ _ (vQ zl) (wo _ rfl));have s8:g8.objs.size=g5.objs.size+1:=by rw[m8.1,m7.1,vw]
 rw[sz]at z8 t8 s8;refine ao ⟨_,rfl,?_⟩;show Q (.ref g5.objs.size) _;rw[sz];exact hQ g8 z8 (up _ _ D.p2 o5) (i5.at λo e=>up _ o D.p3 e) (j5.at λo e=>up _ o D.p4 e) t8 s8 λc o c1 c2 c3 c4 e=>up c o c1 (k5 c o c1 c2 c3 c4 e)
theorem YF{z ti to i j a b:Addr}{ta tb:Bool}{k:Nat}{xs ys:iu}{u v:Value}{Q:Fin->Shared->Prop}(hn:A.handled=aj)(D:Apart z ti to i j a b)
  (hz:O9 s.heap z ti to .none) (hI:dr s.heap ti (.ref i) (.ref j)) (hO:dr s.heap to u v) (hi:ItAt s.heap ta i a k) (hj:ItAt s.heap tb j b k) (ha:SqAt s.heap ta a xs) (hb:SqAt s.heap tb b ys) (hx:xs[k]?=aj) (hy:ys[k]?=aj)
  (hE:∀h' e,(∀c o,c≠z->c≠to->c≠i->c≠j->s.heap.get? c=aa o->h'.get? c=aa o)->(∃o,h'.get? e=aa o/\o.cls=.type "StopIteration")->E (.ref e) { s with heap:=h' }) :
  ay (model prog w) A (Builtin.«zip.__next__» ⟨[.ref z],[]⟩) Q E s:=by
 show ay _ _ (field (.ref z) 2 >>= λt=>_) _ _ _;refine ah (bR hz rfl (x:=fJ ae) rfl ?_);show ay _ _ (field (.ref z) 3 >>= λt=>_) _ _ _;refine ah (bR hz rfl (x:=ak ti) rfl ?_);refine ah (dm hI rfl ?_);show ay _ _ (cI (.ref z) >>= λt=>_) _ _ _;refine ah ?_;unfold cI;refine ah (bR hz rfl (x:=bM) rfl (ao ?_));simp only[if_true];refine ah (cB ?_);refine ah (bR hz rfl (x:=ak to) rfl ?_);refine ah (cU hz (by simp) λg1 z1 m1=>?_);replace z1:O9 g1 z ti to .ellipsis:=z1;refine ah ?_;simp only[w05,vI,w13,vN];refine ah (ah (wpAny_onRaise ?_));show ay _ _ (bu (.ref i)) _ _ _;refine LU hn (hi.at λo e=>m1.extBut _ _ D.p3 e) (ha.at λo e=>m1.extBut _ _ D.a1 e) hx λg2 m2=>?_;have z2:O9 g2 z ti to .ellipsis:=m2 _ _ D.p3.symm z1;refine ah (cU z2 (by simp) λg3 z3 m3=>?_);refine ah ?_;show ay _ _ (zEnd [.ref i,.ref j] 0) _ _ _;unfold zEnd;rw[ax (wR 0)];show ay _ _ (forIn [(ak j,1)] PUnit.unit _ >>= λt=>_) _ _ _;simp only[vI,vN];refine ah (ah (ah (LU hn (hj.at λo e=>m3.extBut _ _ D.p4 (m2 _ _ D.p10.symm (m1.extBut _ _ D.p4 e))) (hb.at λo e=>m3.extBut _ _ D.b1 (m2 _ _ D.b3 (m1.extBut _ _ D.b1 e))) hy λg4 m4=>?_)));simp only[Option.isSome_none,uX,if_false];refine ao (ao (ah (cB ?_)));unfold gN;refine ah ?_;simp only[newExc,newTuple];refine ah (di ?_ (by size_fits));refine ah (m:=fY _ _) (wpAny_of_eq (a:=bM) (by first|(simp only[fY];rfl)|rfl) ?_);refine di ?_ (by size_fits);simp only[raiseNew];refine ah (wpAny_handled ?_)
 first|rw[hn]|rw[show A.in1.handled=aj from hn]
 refine ah (ao (wpAny_throw ?_));refine hE _ _ (λc o c1 c2 c3 c4 e=>?_) ⟨_,wo _ rfl,rfl⟩;exact wc _ (wc _ (m4 _ _ c4 (m3.extBut _ _ c1 (m2 _ _ c3 (m1.extBut _ _ c1 e)))))
theorem Th{z ti to i j a b:Addr}{ta tb:Bool}{k:Nat}{xs ys:iu}{x y u v:Value}{Q:iA->Shared->Prop}(D:Apart z ti to i j a b)
  (hz:O9 s.heap z ti to .none) (hI:dr s.heap ti (.ref i) (.ref j)) (hO:dr s.heap to u v) (hi:ItAt s.heap ta i a k) (hj:ItAt s.heap tb j b k) (ha:SqAt s.heap ta a xs) (hb:SqAt s.heap tb b ys) (hx:xs[k]?=aa x) (hy:ys[k]?=aa y)
  (hQ:∀ h',O9 h' z ti to (rawInt s.heap.objs.size)→IsPair h' to x y→ItAt h' ta i a (k+1)→ItAt h' tb j b (k+1)→IsPair h' s.heap.objs.size x y→h'.objs.size=s.heap.objs.size+1 →
   (∀c o,c≠z->c≠to->c≠i->c≠j->s.heap.get? c=aa o->h'.get? c=aa o)->Q (aa (.ref s.heap.objs.size)) { s with heap:=h' }):ay (model prog w) A (pyNext (.ref z)) Q E s:=by
 have t:s.TypeIs (.ref z) "zip" := ⟨_,hz,rfl⟩;unfold pyNext;exact ah (cH (dP (name:=bw "__next__") t fQ (dD fQ t F.entry_zip_next
  (UT D hz hI hO hi hj ha hb hx hy λh' q1 q2 q3 q4 q5 q6 q7=>ao (hQ h' q1 q2 q3 q4 q5 q6 q7)) (F.args_zip_next_1 _))))
theorem UU{z ti to i j a b:Addr}{ta tb:Bool}{k:Nat}{xs ys:iu}{u v:Value}{Q:iA->Shared->Prop}(hn:A.handled=aj)(D:Apart z ti to i j a b)
  (hz:O9 s.heap z ti to .none) (hI:dr s.heap ti (.ref i) (.ref j)) (hO:dr s.heap to u v) (hi:ItAt s.heap ta i a k) (hj:ItAt s.heap tb j b k) (ha:SqAt s.heap ta a xs) (hb:SqAt s.heap tb b ys) (hx:xs[k]?=aj) (hy:ys[k]?=aj)
  (hQ:∀h',(∀c o,c≠z->c≠to->c≠i->c≠j->s.heap.get? c=aa o->h'.get? c=aa o)->Q aj { s with heap:=h' }):ay (model prog w) A (pyNext (.ref z)) Q E s:=by
 have t:s.TypeIs (.ref z) "zip" := ⟨_,hz,rfl⟩;unfold pyNext;refine ah (cH (dP (name:=bw "__next__") t fQ (dD fQ t F.entry_zip_next
  (YF hn D hz hI hO hi hj ha hb hx hy λh' e q1⟨o,q2,q3⟩=>?_) (F.args_zip_next_1 _))))
 exact ah (fy (T :="StopIteration") (b:=ae) ⟨o,q2,q3⟩ isSubtype_stop (ao (hQ _ q1)))
theorem let_go{elts:ik}{n:Nat}{pos:Pos}{z ti to t:Addr}{Q:Unit->Shared->Prop}(hz:O9 s.heap z ti to (cK t))
  (hQ:∀h',O9 h' z ti to .none->dU z s.heap h'->Q .unit { s with heap:=h' }):ay (model prog w) A (dN (.Tuple elts n pos) (.ref z) (.ref t)) Q E s:=by
 unfold dN;refine ah (wpAny_load hz ?_);show ay _ _ (if(["enumerate","zip","dict_itemiterator","dict_reverseitemiterator","odict_iterator","itertools.zip_longest","itertools.pairwise"].contains "zip"&&(#[cK t,.bool ag,.bool ae,.ref ti,.ref to]:iu)[0]?==aa (cK t))=ae then _ else _) Q E s;rw[ap (by simp)];refine ah (cB ?_);show ay _ _ (setField (.ref z) 0 .none) Q E s;exact cU hz (by simp) λh' q1 q2=>hQ h' q1 q2
theorem LV{z ti to:Addr}{f:Value}{Q:aC}(hz:O9 s.heap z ti to f)(h:Q (.ref z) s):ay (model prog w) A (pyIter (.ref z)) Q E s:=by
 have t:s.TypeIs (.ref z) "zip" := ⟨_,hz,rfl⟩;refine wpAny_pyIter_slot t F.slot_zip_iter (dD F.slot_zip_iter t F.entry_zip_iter ?_ (F.args_zip_iter_1 _));show ay _ _ (ret (.ref z)) _ _ s;exact ao ⟨_,rfl,"zip",_,t,F.slot_zip_next.lookup,h⟩
def LW(tu:Bool)(l:Addr):Obj:={ cls:=.type (if tu then "tuple_iterator" else "list_iterator"),data:=.fields #[.ref l,.int 0 0] }
theorem LX{tu:Bool}{l:Addr}{xs:iu}{Q:aC}(h:SqAt s.heap tu l xs)(q:Q (.ref s.heap.objs.size) { s with heap:=s.heap.push (LW tu l) }):ay (model prog w) A (pyIter (.ref l)) Q E s:=by
 cases tu with
 |true=>exact wpAny_pyIter_tuple h q
 |false=>exact dQ h q
theorem LY{h:aX}{tu:Bool}{l p:Addr}(e:h.get? p=aa (LW tu l)):ItAt h tu p l 0:=by
 unfold ItAt;cases tu with
 |true=>exact⟨_,e,rfl,rfl⟩
 |false=>exact⟨_,e,rfl,rfl⟩
abbrev h1(h:aX)(ta:Bool)(a:Addr):aX:=h.push (LW ta a)
abbrev h2(h:aX)(ta tb:Bool)(a b:Addr):aX:=(h1 h ta a).push (LW tb b)
abbrev h3(h:aX)(ta tb:Bool)(a b:Addr):aX:=(h2 h ta tb a b).push { cls:=.type "tuple",data:=.seq #[.ref h.objs.size,.ref (h1 h ta a).objs.size] }
abbrev h4(h:aX)(ta tb:Bool)(a b:Addr):aX:=(h3 h ta tb a b).push { cls:=.type "tuple",data:=.seq #[.none,.none] }
abbrev h5(h:aX)(ta tb:Bool)(a b:Addr):aX:=(h4 h ta tb a b).push { cls:=.type "zip",data:=.fields #[.none,.bool ag,.bool ae,.ref (h2 h ta tb a b).objs.size,.ref (h3 h ta tb a b).objs.size] }
theorem Ti(a b:Addr)(ta tb:Bool)(xs ys:iu):Meets (Builtin.«zip.__new__» ⟨[.type "zip",.ref a,.ref b],[(bw "strict",.bool ae)]⟩)
  (λ_ R s=>SqAt s.heap ta a xs/\SqAt s.heap tb b ys/\R (.ok (.ret (.ref (h4 s.heap ta tb a b).objs.size))) { s with heap:=h5 s.heap ta tb a b }):=
 .of_wp λprog w A R s⟨qa,qb,q⟩=>by
  obtain⟨hp,g,d,tk,os⟩:=s;have f1:=sub_zip;have e1:SqAt (Shared.heap ⟨hp,g,d,tk,os⟩) ta a xs:=qa;have e2:SqAt (Shared.heap ⟨hp.push (LW ta a),g,d,tk,os⟩) tb b ys:=qb.at λo e=>wc _ e
  wp_walk using LX e1,LX e2
  exact⟨_,rfl,q⟩
end
end ZL
end
section
set_option maxHeartbeats 4000000
namespace ZL
theorem okT(a b v:Value):checkTypeCall "zip" ⟨[a,b],[(bw "strict",v)]⟩=pure .unit:=by kernel_rfl
theorem okN(a b v:Value):checkBuiltinCall "zip.__new__" ⟨[.type "zip",a,b],[(bw "strict",v)]⟩=pure .unit:=by kernel_rfl
theorem okI(a b c v:Value):argsOk "object.__init__" ⟨[a,b,c],[(bw "strict",v)]⟩:=by
 unfold argsOk;rw[signature?_of (id :="object.__init__") (n :="__init__".toList.reverse) (o :="object".toList.reverse) (by kernel_rfl) F.owner_object];kernel_rfl
section
variable {prog:aN}{w:aP}{A:aU}{E:aC}{s:Shared}
theorem NV(self a b v:Value):Meets (Builtin.«object.__init__» ⟨[self,a,b],[(bw "strict",v)]⟩) (λ_ R s=>s.TypeIs self "zip" /\ R (.ok (.ret .none)) s):=by
 refine Meets.of_wp ?_;rintro prog w A R s ⟨t,q⟩;have hl:=F.called_zip.init.lookup;have hm:=F.called_zip.made;have hne:(aa "zip.__new__" != aa "object.__new__")=ae:=by decide
 repeat (any_goals first|assumption|wp_step)
 exact⟨_,rfl,q⟩
theorem UV{a b:Addr}{ta tb:Bool}{xs ys:iu}{Q:aC}(qa:SqAt s.heap ta a xs)(qb:SqAt s.heap tb b ys)
   (q:Q (.ref (h4 s.heap ta tb a b).objs.size) { s with heap:=h5 s.heap ta tb a b }):ay (model prog w) A (call (.type "zip") [.ref a,.ref b] [(bw "strict",.bool ae)]) Q E s:=by
 obtain⟨c,tl,hmro⟩:=F.called_zip.mro;have m1:=F.called_zip.made;have m2:=F.called_zip.sub;have m3:=okT (.ref a) (.ref b) (.bool ae);refine gA (codeAny_of_tree ?_);show ay _ _ (callAny (.type "zip") _) _ _ _;refine ao ⟨Code.quiet_builtin _ (by decide +kernel),codeAny_builtin F.entry_type_call ?_⟩;rw[Around.under_plain (weight_type_call_type "zip" _ _) (units_type_call_type "zip" _ _)];have m4:=F.called_zip.notType;have m5:=F.called_zip.canCreate
 repeat (any_goals first|assumption|wp_step)
 refine dE (codeAny_call_builtin F.called_zip.plain F.entry_zip_new (wpAny_of_eq (okN _ _ _) (Ti a b ta tb xs ys prog w A.in1 (wants (λo s1=>s1.TypeIs o "zip" /\ Q o s1) E) s ⟨qa,qb,?_⟩))) λr s1 hr=>?_
 .exact⟨⟨_,wo _ rfl,rfl⟩,q⟩
 cases r with
 |error e=>exact hr
 | ok fl =>
   cases fl with
   | ret o =>
    obtain⟨ty,hq⟩:=hr;have n1:=F.called_zip.init.lookup;have n2:=F.called_zip.init.bind o
    repeat (any_goals first|assumption|wp_step)
    refine dE (codeAny_call_builtin F.called_zip.init.plain F.entry_object_init (F.called_zip.init.check _ _ _ _ _ _ _ _ ty (okI o _ _ _) (NV o _ _ _ prog w A.in1 (wants (λr s2=>r=.none/\Q o s2) E) s1 ⟨ty,rfl,hq⟩))) λr2 s2 hr2=>?_;cases r2 with
    |error e=>exact hr2
    | ok f2 =>
     cases f2 with
     |ret r=>
      obtain⟨rfl,hq⟩:=hr2
      repeat (any_goals first|assumption|wp_step)
     |_=>exact hr2.elim
   |_=>exact hr.elim
end
end ZL
end
section
local macro_rules|`(tactic|rfl')=>`(tactic|first|lia|omega +splitDisjunctions)
set_option maxHeartbeats 1000000
namespace L2
open PySem PySem.Spec PyProof.Rows ZL
section
variable {X:Cx}{π:aB}{σ:St}{H:Hp}{s:Shared}{h':aX}
theorem Inv.turnedL{t':Nat}{ch:ig}(I:Inv X π σ H s)(k:∀b o,b∉ch->s.heap.get? b=aa o->h'.get? b=aa o)(hc:∀b∈ch,FpOk X π H b):Inv X π σ H { s with heap:=h',toks:=t' }:=by
 have nit:∀b u,H b=aa u->b∉ch:=λb u e z=>by rw[(hc b z).1]at e;cases e
 refine I.step (g':=s.gens) (d':=s.drawn) (ch:=ch) (λb hb=>?_) (λb o _ _ hn e _=>k b o hn e) (λb o _ _ hn e _=>⟨o.slots,k b o hn e⟩) (λ_ _ _ _ n=>n)
   (λb o hn e=>⟨o,k b o hn e⟩) (λ_ _ e=>e) (λ_ _ _ e=>e) (λ_ _ _ e=>e) (λm hm=>?_) (λb u e=>?_) I.bare
 .obtain⟨f0,f1,f2,f3,f4,f5⟩:=hc b hb;exact⟨f3,f1,f4,f5⟩
 .obtain⟨o,es,ep,ho,r⟩:=hm;exact⟨o,es,ep,k _ o (λz=>(hc _ z).2.1 rfl) ho,r⟩
 .refine(I.hok b u e).stay (λc v hcc q=>k c v ?_ q) (λ_ q=>q) (λ_ _ q=>q) λ_ _ _ q=>q;rcases hcc with z|z
  .rw[z];exact nit b u e
  .exact nit c _ z
theorem Inv.pair{t':Nat}{ch:ig}{x y:V}{u v:Value}(I:Inv X π σ H s)(rx:RelV x u)(ry:RelV y v)(hp:h'.get? s.heap.objs.size=aa { cls:=.type "tuple",data:=.seq #[u,v] })
   (k:∀b o,b∉ch->s.heap.get? b=aa o->h'.get? b=aa o) (hc:∀b∈ch,FpOk X π H b) (hl:∀b∈ch,b<s.heap.objs.size) :
   H s.heap.objs.size=aj/\Inv X π σ (upd H s.heap.objs.size (.tup [x,y])) { s with heap:=h',toks:=t' }:=by
 have hn:H s.heap.objs.size=aj:=I.hok.fresh (wf _);have I1:Inv X π σ (upd H s.heap.objs.size (.tup [x,y])) { s with heap:=s.heap.push { cls:=.type "tuple",data:=.seq #[u,v] },toks:=t' }:=
   I.laid (λb o e=>wc _ e) (wf _) ⟨by show 2<=sizeLine;decide,[u,v],.cons rx (.cons ry .nil),⟨_,wo _ rfl,rfl,_,rfl⟩⟩
 refine⟨hn,Inv.turnedL (s:={ s with heap:=s.heap.push { cls:=.type "tuple",data:=.seq #[u,v] },toks:=t' }) (h':=h') (t':=t') (ch:=ch) I1 (λb o hb e=>?_) λb hb=>?_⟩
 .by_cases q:b=s.heap.objs.size
  .subst q;have e2:(s.heap.push { cls:=.type "tuple",data:=.seq #[u,v] }).get? s.heap.objs.size=aa _:=wo _ rfl;have e:(s.heap.push { cls:=.type "tuple",data:=.seq #[u,v] }).get? s.heap.objs.size=aa o:=e;rw[e2]at e;rw[hp];exact e
  .refine k b o hb ?_;have e:(s.heap.push { cls:=.type "tuple",data:=.seq #[u,v] }).get? b=aa o:=e;rw[uz _ _ _ q]at e;exact e
 .obtain⟨f0,f⟩:=hc b hb;exact⟨by rw[i7 (wD (hl b hb))];exact f0,f⟩
end
def SqV(K:aE)(tu:Bool)(H:Hp)(a:Addr)(xs:iD):Prop:=if tu then SqT K H a xs else SqL K H a xs
theorem SqV.mono{K:aE}{tu:Bool}{H H':Hp}{a:Addr}{xs:iD}(e:Same H H')(h:SqV K tu H a xs):SqV K tu H' a xs:=by
 unfold SqV at h|-;cases tu with
 |true=>exact e.seqT h
 |false=>exact e.seq h
theorem Inv.sq{X:Cx}{π:aB}{σ:St}{H:Hp}{s:Shared}{tu:Bool}{a:Addr}{xs:iD}(I:Inv X π σ H s)(h:SqV X.K tu H a xs):∃its:aG,Vals xs its/\SqAt s.heap tu a its.toArray/\xs.length<=sizeLine:=by
 unfold SqV at h;unfold SqAt;cases tu with
 |true=>obtain⟨its,r,p,z⟩:=I.tuple h;exact⟨its,r,p,z⟩
 |false=>obtain⟨its,r,p,z⟩:=I.list h;exact⟨its,r,p.isList,z⟩
theorem Inv.sq_inj{X:Cx}{π:aB}{σ:St}{H:Hp}{s:Shared}{tu:Bool}{a:Addr}{xs ys:iD}(I:Inv X π σ H s)(h:SqV X.K tu H a xs)(h':SqV X.K tu H a ys):xs=ys:=by
 unfold SqV at h h';cases tu with
 |true=>exact I.tuple_inj h h'
 |false=>exact I.list_inj h h'
def Itz(K:aE)(ta tb:Bool)(a b:Addr):It where
 go:=λi H=>∃xs ys x y,SqV K ta H a xs/\SqV K tb H b ys/\xs[i]?=aa x/\ys[i]?=aa y
 yld:=λi H v H'=>∃p x y,(∀xs,SqV K ta H a xs->xs[i]?=aa x)/\(∀ys,SqV K tb H b ys->ys[i]?=aa y)/\H p=aj/\v=.ref p/\H'=upd H p (.tup [x,y])
 stop:=λi H=>∃xs ys,SqV K ta H a xs/\SqV K tb H b ys/\xs.length<=i/\ys.length<=i
theorem mem5{z ti to i j c:Addr}(h:c ∉ [z,ti,to,i,j]):c≠z/\c≠ti/\c≠to/\c≠i/\c≠j:=by simpa using h
theorem UW{P:aN}{w:aP}{K:aE}{elts:ik}{n:Nat}{pos:Pos}{ta tb:Bool}{z ti to i j a b:Addr}(D:Apart z ti to i j a b):
  Turn P w K (.Tuple elts n pos) (Itz K ta tb a b) [z,ti,to,i,j] z (λk h=>O9 h z ti to .none/\dr h ti (.ref i) (.ref j)/\(∃u v,dr h to u v)/\ItAt h ta i a k/\ItAt h tb j b k) where
 mem:=by simp
 obj:=λk h⟨q1,q2,⟨u,v,q3⟩,q4,q5⟩c hc=>by
  have it:∀{tu:Bool}{it l:Addr}{k:Nat},ItAt h tu it l k->∃o,h.get? it=aa o/\∀v,o.data ≠ .cell v:=λ{tu it l k}q=>by
    unfold ItAt at q;cases tu with
    |true=>obtain⟨o,e,_,d⟩:=q;exact⟨o,e,λv z=>by rw[d]at z;cases z⟩
    |false=>obtain⟨o,e,_,d⟩:=q;exact⟨o,e,λv z=>by rw[d]at z;cases z⟩
  simp only[wg,vO,or_false]at hc;rcases hc with rfl|rfl|rfl|rfl|rfl
  .exact⟨_,q1,λv z=>by have z':hU _=gY v:=z;cases z'⟩
  .exact⟨_,q2,λv z=>by have z':Data.seq _ _=gY v:=z;cases z'⟩
  .exact⟨_,q3,λv z=>by have z':Data.seq _ _=gY v:=z;cases z'⟩
  .exact it q4
  .exact it q5
 keep:=λk h h'⟨q1,q2,⟨u,v,q3⟩,q4,q5⟩kk=>⟨kk z (by simp) _ q1,kk ti (by simp) _ q2,⟨u,v,kk to (by simp) _ q3⟩,q4.at λo e=>kk i (by simp) o e,q5.at λo e=>kk j (by simp) o e⟩
 item:=by
  intro X hP hw hK hc k π s σ H E I hf ⟨q1,q2,⟨u,v,q3⟩,q4,q5⟩ hg;subst hP hw hK;obtain⟨xs,ys,x,y,hx,hy,ex,ey⟩:=hg;obtain⟨its,rx,px,_⟩:=I.sq hx;obtain⟨jts,ry,py,_⟩:=I.sq hy;obtain⟨ux,hux,rux⟩:=rx.get ex;obtain⟨uy,huy,ruy⟩:=ry.get ey;have lt:∀b∈[z,ti,to,i,j],b<s.heap.objs.size:=λb hb=>by
    simp only[wg,vO,or_false]at hb;rcases hb with rfl|rfl|rfl|rfl|rfl
    .exact wm q1
    .exact wm q2
    .exact wm q3
    .exact q4.lt
    .exact q5.lt
  refine Th D q1 q2 q3 q4 q5 px py (x:=ux) (y:=uy) (by simpa using hux) (by simpa using huy) λh' a1 a2 a3 a4 a5 a6 a7=>⟨_,rfl,let_go a1 λh'' b1 b2=>?_⟩;have hzp:s.heap.objs.size≠z:=vQ (lt z (by simp));have kk:∀b o,b ∉ [z,ti,to,i,j]->s.heap.get? b=aa o->h''.get? b=aa o:=λb o hb e=>by
    obtain⟨c1,c2,c3,c4,c5⟩:=mem5 hb;exact b2.extBut _ _ c1 (a7 b o c1 c3 c4 c5 e)
  obtain⟨hn,I1⟩:=I.pair (t':=s.toks) (h':=h'') rux ruy (b2.extBut _ _ hzp a5) kk hf lt;refine⟨.ref s.heap.objs.size,_,I1,rfl,⟨_,x,y,λzs hz=>by rw[I.sq_inj hz hx];exact ex,λzs hz=>by rw[I.sq_inj hz hy];exact ey,hn,rfl,rfl⟩,?_,λb hb=>by rw[i7 (wD (lt b hb))];exact(hf b hb).1⟩;exact⟨b1,b2.extBut _ _ D.p1 (a7 _ _ D.p1 D.p5 D.p6 D.p7 q2),⟨_,_,b2.extBut _ _ D.p2 a2⟩,a3.at λo e=>b2.extBut _ _ D.p3 e,a4.at λo e=>b2.extBut _ _ D.p4 e⟩
 done:=by
  intro X hP hw hK hc k π s σ H E I hf ⟨q1,q2,⟨u,v,q3⟩,q4,q5⟩ hg;subst hP hw hK;obtain⟨xs,ys,hx,hy,ex,ey⟩:=hg;obtain⟨its,rx,px,_⟩:=I.sq hx;obtain⟨jts,ry,py,_⟩:=I.sq hy;have l1:=rx.length;have l2:=ry.length;refine UU (I.ok.hd hc) D q1 q2 q3 q4 q5 px py (by simp;rfl') (by simp;rfl') λh' a7=>⟨rfl,I.turnedL (t':=s.toks) (ch:=[z,ti,to,i,j]) (λb o hb e=>?_) hf⟩;obtain⟨c1,c2,c3,c4,c5⟩:=mem5 hb;exact a7 b o c1 c3 c4 c5 e
 self:=λ_ _ _ _ _ q h=>LV q.1 h
def Ite(K:aE)(a:Addr):It where
 go:=λi H=>∃xs x,SqL K H a xs/\xs[i]?=aa x
 yld:=λi H v H'=>∃p x,(∀xs,SqL K H a xs->xs[i]?=aa x)/\H p=aj/\v=.ref p/\H'=upd H p (.tup [.int i,x])
 stop:=λi H=>∃xs,SqL K H a xs/\xs.length<=i
theorem Tj{P:aN}{w:aP}{K:aE}{elts:ik}{n:Nat}{pos:Pos}{e it a:Addr}(hne:e≠it):
  Turn P w K (.Tuple elts n pos) (Ite K a) [e,it] e (λk h=>(∃old,IsEnum h e it k old)/\h.IsListIter it a k) where
 mem:=by simp
 obj:=λk h⟨⟨old,q1⟩,q2⟩c hc=>by
  simp only[wg,vO,or_false]at hc;rcases hc with rfl|rfl
  .exact⟨_,q1,λv z=>by have z':hU _=gY v:=z;cases z'⟩
  .obtain⟨o,e,_,d⟩:=q2;exact⟨o,e,λv z=>by rw[d]at z;cases z⟩
 keep:=λk h h'⟨⟨old,q1⟩,q2⟩kk=>⟨⟨old,kk e (by simp) _ q1⟩,q2.at λo q=>kk it (by simp) o q⟩
 item:=by
  intro X hP hw hK hc k π s σ H E I hf ⟨⟨old,q1⟩,q2⟩ hg;subst hP hw hK;obtain⟨xs,x,hx,ex⟩:=hg;obtain⟨its,rx,px,_⟩:=I.list hx;obtain⟨ux,hux,rux⟩:=rx.get ex;have lt:∀b∈[e,it],b<s.heap.objs.size:=λb hb=>by
    simp only[wg,vO,or_false]at hb;rcases hb with rfl|rfl
    .exact wm q1
    .obtain⟨o,z,_⟩:=q2;exact wm z
  refine wpAny_pyNext_enum_item q1 q2 px.isList (x:=ux) (by simpa using hux) hne λh' a1 a2 a3 a4 a5=>⟨_,rfl,wpAny_letOwnedTupleGo_enum a1 λh'' b1 b2=>?_⟩;have hzp:s.heap.objs.size≠e:=vQ (lt e (by simp));have kk:∀b o,b ∉ [e,it]->s.heap.get? b=aa o->h''.get? b=aa o:=λb o hb q=>by
    have c:b≠e/\b≠it:=by simpa using hb
    exact b2.extBut _ _ c.1 (a5 b o c.1 c.2 q)
  obtain⟨hn,I1⟩:=I.pair (x:=.int k) (t':=s.toks+1) (h':=h'') ⟨s.toks,rfl⟩ rux (b2.extBut _ _ hzp a3) kk hf lt;refine⟨.ref s.heap.objs.size,_,I1,rfl,⟨_,x,λzs hz=>by rw[I.list_inj hz hx];exact ex,hn,rfl,rfl⟩,⟨⟨_,b1⟩,a2.at λo q=>b2.extBut _ _ (bQ hne) q⟩,λb hb=>by rw[i7 (wD (lt b hb))];exact(hf b hb).1⟩
 done:=by
  intro X hP hw hK hc k π s σ H E I hf ⟨⟨old,q1⟩,q2⟩ hg;subst hP hw hK;obtain⟨xs,hx,ex⟩:=hg;obtain⟨its,rx,px,_⟩:=I.list hx;have l1:=rx.length;refine wpAny_pyNext_enum_end (I.ok.hd hc) q1 q2 px.isList (by simp;rfl') λh' a5=>⟨rfl,I.turnedL (t':=s.toks) (ch:=[e,it]) (λb o hb q=>?_) hf⟩;have c:b≠e/\b≠it:=by simpa using hb
  exact a5 b o c.2 q
 self:=λ_ _ _ _ _ q h=>by obtain⟨⟨old,q1⟩,_⟩:=q;exact wpAny_pyIter_enum q1 h
def Itv(K:aE)(a:Addr)(n:Nat):It where
 go:=λi H=>i<n/\∃xs,SqL K H a xs/\xs.length=n
 yld:=λi H v H'=>H'=H/\∀xs,SqL K H a xs->xs[n-1-i]?=aa v
 stop:=λi H=>n<=i
theorem UX{P:aN}{w:aP}{K:aE}{tg:aV}{it a:Addr}{n:Nat}:Turn P w K tg (Itv K a n) [it] it (λk h=>k<=n/\h.IsRevIter it a ((n:Int)-1-(k:Int))) where
 mem:=by simp
 obj:=λk h⟨_,q⟩c hc=>by
  have e:c=it:=by simpa using hc
  subst e;obtain⟨o,e,_,d⟩:=q;exact⟨o,e,λv z=>by rw[d]at z;cases z⟩
 keep:=λk h h'⟨q0,q⟩kk=>⟨q0,q.at λo z=>kk it (by simp) o z⟩
 item:=by
  intro X hP hw hK hc k π s σ H E I hf ⟨q0,q⟩ hg;subst hP hw hK;obtain⟨hk,xs,hx,hn⟩:=hg;obtain⟨its,rx,px,_⟩:=I.list hx;have hlt:n-1-k<xs.length:=()
  obtain⟨ux,hux,rux⟩:=rx.get (wa hlt);obtain⟨f0,f1,f2,f3,f4,f5⟩:=hf it (by simp);have e1:(n:Int)-1-(k:Int)=((n-1-k:Nat):Int):=()
  rw[e1]at q;refine wpAny_pyNext_rev_item q px.isList (x:=ux) (by simpa using hux) λh' b1 b2=>?_;have I1:Inv X π σ H { s with heap:=h' }:=I.turned (t':=s.toks) (λb o hb e=>(b2.2 b hb).trans e) f0 f1 f3 f4 f5;have e2:((n-1-k:Nat):Int)-1=(n:Int)-1-((k+1:Nat):Int):=()
  rw[e2]at b1;obtain⟨o,e,c,d⟩:=id b1;exact⟨ux,rfl,RJ (s:={ s with heap:=h' }) e c d (by decide) ⟨_,H,I1,rux,⟨rfl,λys hy=>by rw[I.list_inj hy hx];exact wa hlt⟩,⟨(),b1⟩,λb hb=>(hf b hb).1⟩⟩
 done:=by
  intro X hP hw hK hc k π s σ H E I hf ⟨q0,q⟩ hg;subst hP hw hK;have hg:n<=k:=hg;obtain rfl:k=n:=()
  obtain⟨f0,f1,f2,f3,f4,f5⟩:=hf it (by simp);have e1:(k:Int)-1-(k:Int) = -1:=()
  rw[e1]at q;exact wpAny_pyNext_rev_end (I.ok.hd hc) q λh' eb=>⟨rfl,I.turned (t':=s.toks) (λb o hb e=>eb b o hb e) f0 f1 f3 f4 f5⟩
 self:=λ_ _ _ _ _ st h=>wpAny_pyIter_revIter st.2 h
section
variable {K:aE}{H1:Hp}
theorem YG{A:ig}{H:Hp}{p:Addr}{o:HO}(hp:H p=aj)(hA:∀a∈A,∃o,H a=aa o):hidL A (upd H p o)=upd (hidL A H) p o:=funext λb=>by
 have np:p∉A:=λz=>by obtain⟨u,e⟩:=hA p z;rw[hp]at e;cases e
 by_cases q:b=p
 .subst q;rw[i8 np,j6,j6]
 .rw[i7 q];by_cases z:b∈A
  .rw[J2 z,J2 z]
  .rw[i8 z,i8 z,i7 q]
theorem LZ{A:ig}{H:Hp}{p:Addr}{d d':Dt}{x y:V}(hp:H p=aj)(hA:∀a∈A,∃o,H a=aa o)(rx:Rp K emp d (hidL A H) x)(ry:Rp K emp d' (hidL A H) y):
  Same (hidL A H) (hidL A (upd H p (.tup [x,y])))/\(∀a∈A,upd H p (.tup [x,y]) a=H a)/\Rp K emp (.tup [d,d']) (hidL A (upd H p (.tup [x,y]))) (.ref p):=by
 have np:p∉A:=λz=>by obtain⟨u,e⟩:=hA p z;rw[hp]at e;cases e
 have hq:hidL A H p=aj:=by rw[i8 np];exact hp
 rw[YG hp hA];refine⟨m6 hq,λa ha=>i7 λz=>np (z ▸ ha),Rp.tup_.mpr ⟨p,_,rfl,SqT.of j6,?_⟩⟩;exact Rps.cons_.mpr ⟨x,[y],rfl,Rp.mono _ (m6 hq) rx,Rps.one (Rp.mono _ (m6 hq) ry)⟩
def zipD:iC->iC->iC
 |x::xs,y::ys=>.tup [x,y]::zipD xs ys
 |_,_=>[]
theorem Ma:∀{xs ys:iC}{i:Nat}{d:Dt},(zipD xs ys)[i]?=aa d->∃x y,xs[i]?=aa x/\ys[i]?=aa y/\d=.tup [x,y]
 |[],ys,i,d,h=>by simp[zipD]at h
 |x::xs,[],i,d,h=>by simp[zipD]at h
 |x::xs,y::ys,0,d,h=>by simp[zipD]at h;exact⟨x,y,rfl,rfl,h.symm⟩
 |x::xs,y::ys,i+1,d,h=>by
  have h:(zipD xs ys)[i]?=aa d:=by simpa[zipD]using h
  obtain⟨a,b,q1,q2,q3⟩:=Ma h;exact⟨a,b,by simpa using q1,by simpa using q2,q3⟩
theorem CS:∀{xs ys:iC},(zipD xs ys).length=min xs.length ys.length
 |[],ys=>by simp[zipD]
 |x::xs,[]=>by simp[zipD]
 |x::xs,y::ys=>by rw[zipD,wp,CS,wp,wp];rfl'
theorem UY{ta tb:Bool}{a b:Addr}{ds es:iC}{vs ws:iD}(h1:SqV K ta H1 a vs)(h2:SqV K tb H1 b ws)(r1:Rps K emp ds H1 vs)(r2:Rps K emp es H1 ws)(hl:ds.length=es.length):Walk K (Itz K ta tb a b) (zipD ds es) H1:=by
 intro A H sm hA;have s2:Same H1 H:=sm.trans l9;refine⟨λi d e=>?_,λi hi=>⟨vs,ws,h1.mono s2,h2.mono s2,?_,?_⟩⟩
 .obtain⟨x,y,ex,ey,rfl⟩:=Ma e;obtain⟨v,e1,p1⟩:=r1.get ex;obtain⟨u,e2,p2⟩:=r2.get ey;refine⟨⟨vs,ws,v,u,h1.mono s2,h2.mono s2,e1,e2⟩,?_⟩;rintro z H' ⟨p,v',u',f1,f2,hp,ez,eH⟩;have g1:=f1 vs (h1.mono s2);have g2:=f2 ws (h2.mono s2);rw[e1]at g1;rw[e2]at g2;cases g1;cases g2;subst ez;subst eH;exact LZ hp hA (Rp.mono _ sm p1) (Rp.mono _ sm p2)
 .rw[CS]at hi;rw[r1.length];rfl'
 .rw[CS]at hi;rw[r2.length];rfl'
def S9:Nat->iC->iC
 |_,[]=>[]
 |n,x::xs=>.tup [.int n,x]::S9 (n+1) xs
theorem IP:∀{xs:iC}{n i:Nat}{d:Dt},(S9 n xs)[i]?=aa d->∃x,xs[i]?=aa x/\d=.tup [.int ((n+i:Nat):Int),x]
 |[],n,i,d,h=>by simp[S9]at h
 |x::xs,n,0,d,h=>by simp[S9]at h;exact⟨x,rfl,h.symm⟩
 |x::xs,n,i+1,d,h=>by
  have h:(S9 (n+1) xs)[i]?=aa d:=by simpa[S9]using h
  obtain⟨a,q1,q3⟩:=IP h;exact⟨a,by simpa using q1,by rw[q3,show n+1+i=n+(i+1) by rfl']⟩
theorem DE:∀{xs:iC}{n:Nat},(S9 n xs).length=xs.length
 |[],n=>rfl
 |x::xs,n=>by rw[S9,wp,wp,DE]
theorem Tk{a:Addr}{ds:iC}{vs:iD}(h1:SqL K H1 a vs)(r1:Rps K emp ds H1 vs):Walk K (Ite K a) (S9 0 ds) H1:=by
 intro A H sm hA;have s2:Same H1 H:=sm.trans l9;refine⟨λi d e=>?_,λi hi=>⟨vs,s2.seq h1,?_⟩⟩
 .obtain⟨x,ex,rfl⟩:=IP e;rw[vR];obtain⟨v,e1,p1⟩:=r1.get ex;refine⟨⟨vs,v,s2.seq h1,e1⟩,?_⟩;rintro z H' ⟨p,v',f1,hp,ez,eH⟩;have g1:=f1 vs (s2.seq h1);rw[e1]at g1;cases g1;subst ez;subst eH;exact LZ hp hA (Rp.int_.mpr rfl) (Rp.mono _ sm p1)
 .rw[DE]at hi;rw[r1.length];rfl'
theorem UZ{a:Addr}{ds:iC}{vs:iD}(h1:SqL K H1 a vs)(r1:Rps K emp ds H1 vs):Walk K (Itv K a vs.length) ds.reverse H1:=by
 intro A H sm hA;have s2:Same H1 H:=sm.trans l9;have hl:=r1.length;refine⟨λi d e=>?_,λi hi=>?_⟩
 .have hi:i<ds.length:=by
   by_cases hi:i<ds.length
   .exact hi
   .rw[wU (by simp;rfl')]at e;cases e
  rw[List.getElem?_reverse hi]at e;obtain⟨v,e1,p1⟩:=r1.get e;refine⟨⟨(),vs,s2.seq h1,rfl⟩,?_⟩;rintro z H' ⟨eH,f1⟩;subst eH;have g1:=f1 vs (s2.seq h1);rw[hl,e1]at g1;cases g1;exact⟨Same.refl _,λ_ _=>rfl,Rp.mono _ sm p1⟩
 .show vs.length<=i;rw[w0y]at hi;rfl'
end
section
variable {X:Cx}{a b e:aV}{Fa Fb:FE}{elts:ik}{n:Nat}{tpos pos:Pos}
theorem Tl{M:Model}{A:aU}{E:aC}{s:Shared}{env:Env}{T:String}{es:ik}{kws:List fL}{Q:aC}
  (h:ay M A (spliced (bZ pos (au (e::es) env))) (λvs s1=>ay M A (evalAll ((dR pos (cP kws env)).map (·.2))) (λks s2=>ay M A (call (.type T) vs (((dR pos (cP kws env)).filterMap (·.1)).zip ks)) Q E s2) E s1) E s)
  (h1:bZ pos (au (e::es) env)=(ag,eval e env)::bZ pos (au es env)) (h2:(bZ pos (au (e::es) env)).any (·.1)=ag) (h3:(dR pos (cP kws env)).all (·.1.isSome)=ae) (h4:(dR pos (cP kws env)).any (·.1.isNone)=ag) :
  ay M A (callWith pos (.type T) [] (bZ pos (au (e::es) env)) (dR pos (cP kws env))) Q E s:=by
 unfold callWith;have g:ay M A (evalArgs (.type T) ae (bZ pos (au (e::es) env)) (dR pos (cP kws env))) (λz s1=>ay M A (call (.type T) ([]++z.pos) z.kw) Q E s1) E s:=by
  rw[h1]at h|-;exact evalArgs_kwB h3 h
 refine ah (cj (bt g (λz s1 g1=>ah (fq ?_)) λ_ _ x=>x));simp only[h2,h4,Bool.or_false];refine ah (ao ?_);exact ah (bt g1 (λr s2 hr=>ah (cj (wpAny_point (ao hr)))) λ_ _ x=>x)
theorem Va{H:Hp}{d:Dt}{ds:iC}{v:V}(e:seqD d=aa ds)(r:Rp X.K emp d H v):∃tu p vs,v=.ref p/\SqV X.K tu H p vs/\Rps X.K emp ds H vs:=by
 cases d<;>first|cases e|skip
 .obtain⟨p,vs,rfl,_,h1,h2⟩:=r.items;exact⟨ag,p,vs,rfl,SqL.of h1,h2⟩
 .obtain⟨p,vs,rfl,h1,h2⟩:=Rp.tup_.mp r;exact⟨ae,p,vs,rfl,h1,h2⟩
def iZip(F G:FE):FI:=λρ=>(F ρ).bind λx=>(G ρ).bind λy=>(seqD x.2).bind λxs=>(seqD y.2).bind λys=>if xs.length=ys.length then aa (zipD xs ys) else aj
theorem i_zip{p kp kpos:Pos}{jc:Nat}(hg:Gl X "zip")(hm:X.mg "zip"=aj)(ha:PF X a Fa)(hb:PF X b Fb)(hs:au [a,b] X.env=[(ag,eval a X.env),(ag,eval b X.env)]:=by rfl)(hs1:au [b] X.env=[(ag,eval b X.env)]:=by rfl):
   PFI X (.Tuple elts n tpos) (.Call (.Name "zip" p) [a,b] [⟨aa "strict",.Constant (.bool ae) jc kp,kpos⟩] pos) (iZip Fa Fb):=by
 intro π s σ H R I ⟨ρ,items,rs,e0,k⟩;obtain⟨⟨fa,da⟩,ea,e1⟩:=bind_some e0;obtain⟨⟨fb,db⟩,eb,e2⟩:=bind_some e1;obtain⟨xs,ex,e3⟩:=bind_some e2;obtain⟨ys,ey,e4⟩:=bind_some e3;clear e0 e1 e2 e3;split at e4
 .rename_i hl;cases e4;have hA:PA X [a,b] (upAs X (b8 Fa (b8 Fb fNil))):=f7 ha (f7 hb e9 hs1) (by rw[hs,hs1]);refine bU (V4 I hg hm (by decide +kernel:bF "zip"=aa (.type "zip")) ?_);refine Tl (T :="zip") (thn (hA pos π s σ H (λvs H1=>Same H H1/\∃va vb,vs=[va,vb]/\Rp X.K emp da H1 va/\Rp X.K emp db H1 vb) I ⟨ρ,[(fa,da),(fb,db)],rs,by simp[b8,fNil,ea,eb],λvs H1 s1⟨va,r1,ee1,q1,vb,r2,ee2,q2,q3⟩=>⟨s1,va,vb,by rw[ee1,ee2,show r2=[]from q3],q1.sh,q2.sh⟩⟩) λus s1⟨vs,H1,I1,rv,s1H,va,vb,ev,ra,rb⟩=>?_) (by rw[hs,hs1];rfl) (by rw[hs];rfl) rfl rfl;subst ev;obtain⟨ua,ub,rfl,rua,rub⟩:=rv.two;obtain⟨ta,pa,vsa,rfl,qa1,qa2⟩:=Va ex ra;obtain⟨tb,pb,vsb,rfl,qb1,qb2⟩:=Va ey rb;cases rua;cases rub;have hk:=Kg (X:=X) (nm:=aa "strict") (kpos:=kpos) (RF (X:=X) (b:=ae) (j:=jc) (pos:=kp)) NK;refine thn (hk pos π s1 σ H1 (λzs H2=>zs=[.bl ae]/\H2=H1) I1 ⟨rfl,rfl⟩) ?_;rintro ks s2 ⟨zs,H2,I2,rz,ez,eH⟩;subst ez;subst eH;obtain⟨uk,rfl,ruk⟩:=rz.one;cases ruk;obtain⟨ita,rva,sa,hza⟩:=I2.sq qa1;obtain⟨itb,rvb,sb,hzb⟩:=I2.sq qb1;refine UV sa sb ?_;have z1:(h1 s2.heap ta pa).objs.size=s2.heap.objs.size+1:=vw ..;have z2:(h2 s2.heap ta tb pa pb).objs.size=s2.heap.objs.size+2:=by rw[vw,z1]
  have z3:(h3 s2.heap ta tb pa pb).objs.size=s2.heap.objs.size+3:=by rw[vw,z2]
  have z4:(h4 s2.heap ta tb pa pb).objs.size=s2.heap.objs.size+4:=by rw[vw,z3]
  have g5:(h5 s2.heap ta tb pa pb).get? (h4 s2.heap ta tb pa pb).objs.size=aa _:=wo _ rfl;have g4:(h5 s2.heap ta tb pa pb).get? (h3 s2.heap ta tb pa pb).objs.size=aa _:=wc _ (wo _ rfl);have g3:(h5 s2.heap ta tb pa pb).get? (h2 s2.heap ta tb pa pb).objs.size=aa _:=wc _ (wc _ (wo _ rfl));have g2:(h5 s2.heap ta tb pa pb).get? (h1 s2.heap ta pa).objs.size=aa _:=wc _ (wc _ (wc _ (wo _ rfl)));have g1:(h5 s2.heap ta tb pa pb).get? s2.heap.objs.size=aa _:=wc _ (wc _ (wc _ (wc _ (wo _ rfl))));have up:∀c o,s2.heap.get? c=aa o->(h5 s2.heap ta tb pa pb).get? c=aa o:=λc o x=>wc _ (wc _ (wc _ (wc _ (wc _ x))));refine LV (z:=(h4 s2.heap ta tb pa pb).objs.size) (ti:=(h2 s2.heap ta tb pa pb).objs.size) (to:=(h3 s2.heap ta tb pa pb).objs.size) (f:=.none) g5 ?_;have la:=sa.lt;have lb:=sb.lt;have D:Apart (h4 s2.heap ta tb pa pb).objs.size (h2 s2.heap ta tb pa pb).objs.size (h3 s2.heap ta tb pa pb).objs.size s2.heap.objs.size (h1 s2.heap ta pa).objs.size pa pb:=by
    rw[z1,z2,z3,z4];constructor<;>exact λz=>by simp only[Addr]at *;rfl'
  refine⟨_,[(h4 s2.heap ta tb pa pb).objs.size,(h2 s2.heap ta tb pa pb).objs.size,(h3 s2.heap ta tb pa pb).objs.size,s2.heap.objs.size,(h1 s2.heap ta pa).objs.size],_,_,H2,rfl,I2.kept (t':=s2.toks) up,UW (ta:=ta) (tb:=tb) D,⟨g5,g3,⟨_,_,g4⟩,LY g1,LY g2⟩,λc hc=>?_,k _ H2 s1H ?_ (UY qa1 qb1 qa2 qb2 hl)⟩
  .have hge:s2.heap.objs.size<=c:=by
    rw[z1,z2,z3,z4]at hc;simp only[wg,vO,or_false]at hc;rcases hc with rfl|rfl|rfl|rfl|rfl<;>rfl'
   exact I2.fpOk hge (I2.hok.fresh hge)
  .rw[CS,<-qa2.length];rfl'
 .cases e4
def lstD:Dt->Option (iC)
 |.lst ds=>aa ds
 |_=>aj
def CT(F:FE):FI:=λρ=>(F ρ).bind λx=>(lstD x.2).map (S9 0)
theorem Vb{H:Hp}{d:Dt}{ds:iC}{v:V}(e:lstD d=aa ds)(r:Rp X.K emp d H v):∃p vs,v=.ref p/\SqL X.K H p vs/\Rps X.K emp ds H vs:=by
 cases d<;>first|cases e|skip
 obtain⟨p,vs,rfl,_,h1,h2⟩:=r.items;exact⟨p,vs,rfl,SqL.of h1,h2⟩
theorem Vc{p:Pos}(hg:Gl X "enumerate")(hm:X.mg "enumerate"=aj)(ha:PF X a Fa)(hs:au [a] X.env=[(ag,eval a X.env)]:=by rfl):PFI X (.Tuple elts n tpos) (.Call (.Name "enumerate" p) [a] [] pos) (CT Fa):=by
 intro π s σ H R I ⟨ρ,items,rs,e0,k⟩;obtain⟨⟨fa,da⟩,ea,e1⟩:=bind_some e0;cases ex:lstD da with
 |none=>rw[ex]at e1;cases e1
 |some xs=>
  rw[ex]at e1;cases e1;have hA:PA X [a] (upAs X (b8 Fa fNil)):=f7 ha e9 hs;refine bU (V4 I hg hm (by decide +kernel:bF "enumerate"=aa (.type "enumerate")) ?_);refine cq (thn (hA pos π s σ H (λvs H1=>Same H H1/\∃va,vs=[va]/\Rp X.K emp da H1 va) I ⟨ρ,[(fa,da)],rs,by simp[b8,fNil,ea],λvs H1 s1⟨va,r1,ee1,q1,q3⟩=>⟨s1,va,by rw[ee1,show r1=[]from q3],q1.sh⟩⟩) λus s1⟨vs,H1,I1,rv,s1H,va,ev,ra⟩=>?_) hs rfl;subst ev;obtain⟨ua,rfl,rua⟩:=rv.one;obtain⟨pa,vsa,rfl,qa1,qa2⟩:=Vb ex ra;cases rua;obtain⟨ita,rva,pl,hza⟩:=I1.list qa1;refine call_enumerate_list pl.isList λh' b1 b2 b3 b4=>wpAny_pyIter_enum b1 ?_;refine⟨_,[s1.heap.objs.size+1,s1.heap.objs.size],_,_,H1,rfl,I1.kept (t':=s1.toks) b4,Tj (Nat.succ_ne_self _),⟨⟨_,b1⟩,b2⟩,λc hc=>?_,k _ H1 s1H ?_ (Tk qa1 qa2)⟩
  .have hge:s1.heap.objs.size<=c:=by
    simp only[wg,vO,or_false]at hc;rcases hc with rfl|rfl
    .exact Nat.le_succ _
    .exact wf _
   exact I1.fpOk hge (I1.hok.fresh hge)
  .rw[DE,<-qa2.length];exact hza
def iRev(F:FE):FI:=λρ=>(F ρ).bind λx=>(lstD x.2).map List.reverse
theorem i_rev{tg:aV}{p:Pos}(hg:Gl X "reversed")(hm:X.mg "reversed"=aj)(ha:PF X a Fa)(hs:au [a] X.env=[(ag,eval a X.env)]:=by rfl):PFI X tg (.Call (.Name "reversed" p) [a] [] pos) (iRev Fa):=by
 intro π s σ H R I ⟨ρ,items,rs,e0,k⟩;obtain⟨⟨fa,da⟩,ea,e1⟩:=bind_some e0;cases ex:lstD da with
 |none=>rw[ex]at e1;cases e1
 |some xs=>
  rw[ex]at e1;cases e1;have hA:PA X [a] (upAs X (b8 Fa fNil)):=f7 ha e9 hs;refine bU (V4 I hg hm (by decide +kernel:bF "reversed"=aa (.type "reversed")) ?_);refine cq (thn (hA pos π s σ H (λvs H1=>Same H H1/\∃va,vs=[va]/\Rp X.K emp da H1 va) I ⟨ρ,[(fa,da)],rs,by simp[b8,fNil,ea],λvs H1 s1⟨va,r1,ee1,q1,q3⟩=>⟨s1,va,by rw[ee1,show r1=[]from q3],q1.sh⟩⟩) λus s1⟨vs,H1,I1,rv,s1H,va,ev,ra⟩=>?_) hs rfl;subst ev;obtain⟨ua,rfl,rua⟩:=rv.one;obtain⟨pa,vsa,rfl,qa1,qa2⟩:=Vb ex ra;cases rua;obtain⟨ita,rva,pl,hza⟩:=I1.list qa1;have hn:ita.toArray.size=vsa.length:=by rw[wq,<-rva.length]
  refine call_reversed_list pl.isList ?_;rw[hn];have g1:(s1.heap.push (revObj pa ((vsa.length:Int)-1))).get? s1.heap.objs.size=aa _:=wo _ rfl;have it1:(s1.heap.push (revObj pa ((vsa.length:Int)-1))).IsRevIter s1.heap.objs.size pa ((vsa.length:Int)-1-((0:Nat):Int)):=⟨_,g1,rfl,by show hU _=_;simp⟩;refine wpAny_pyIter_revIter it1 ?_;refine⟨_,[s1.heap.objs.size],_,_,H1,rfl,I1.kept (t':=s1.toks) (λc o x=>wc _ x),UX (n:=vsa.length),⟨wy _,it1⟩,λc hc=>?_,k _ H1 s1H ?_ (UZ qa1 qa2)⟩
  .rw[wv.mp hc];exact I1.fpOk (wf _) (I1.hok.fresh (wf _))
  .rw[w0y,<-qa2.length];exact hza
end
end L2
end
section
set_option maxHeartbeats 1000000
namespace L2
section
variable {X:Cx}
def Vd:V->iD->Hp->VK->Prop:=λx vs H Q=>∃l xs y,x=.ref l/\vs=[.int 0,y]/\H l=aa (.lst xs)/\xs.length<sizeLine/\Q .non (upd H l (.lst (y::xs)))
theorem NW:MtM X "list.insert" Vd:=by
 intro π s σ H x vs v us Q I rx rv h;obtain⟨l,xs,y,rfl,rfl,hH,hz,q⟩:=h;cases rx;obtain⟨u0,u,rfl,ru0,ru⟩:=rv.two;obtain⟨t0,rfl⟩:=ru0;obtain⟨z,its,n,r,hl,e⟩:=I.lstM hH;refine call_meets F.slot_list_insert ⟨_,e,rfl⟩ F.entry_list_insert (F.args_list_insert_3 _ _ _) (AutoSeq1.list_insert_list_int_val_1 l its.toArray n 0 t0 u (by decide) (by rw[wq];rfl')) ⟨e,?_⟩;refine⟨.non,_,I.lset (its':=u::its) hH e ?_ (.cons ru r) ?_,rfl,q⟩
 .simp
 .rw[wp];rfl'
theorem Sd{Y:Ky}{f g:Bool}:Same (bsOf Y (f&&g)) (bsOf Y f):=by
 cases f<;>cases g<;>first|exact Same.refl _|exact Same.emp
theorem Se{Y:Ky}{f g:Bool}:Same (bsOf Y (f&&g)) (bsOf Y g):=by
 cases f<;>cases g<;>first|exact Same.refl _|exact Same.emp
section
variable {H₀ H H':Hp}{O:Own}{ρ:Rho}{σ:St}{i:Nat}{f:Bool}{ds:iC}
theorem RepO.get(h:RepO X H₀ H O ρ σ)(e:ρ[i]?=aa (.ow f ds)):∃a vs,(i,a)∈O/\σ[i]?=aa (aa (.ref a))/\H a=aa (.lst vs)/\Rps X.K (bsOf X.ky f) ds (hidL O.adr H) vs:=by
 obtain⟨o,e1,a,vs,q1,q2,q3,q4⟩:=h.at_ i _ e;subst q2;exact⟨a,vs,q1,e1,q3,q4⟩
theorem Mb{x:Dv}{v:V}(rb:RepO X H₀ H O ρ σ)(r:RpF X.ky (hidL O.adr H) x.1 x.2 H' v):Rp X.K (bsOf X.ky x.1.isFr) x.2 H' v:=by
 by_cases q:x.1.isFr=ae
 .rw[q];exact r.fr (rb.b0.trans rb.same) q
 .rw[show x.1.isFr=ag by simpa using q];exact r.sh
theorem YH{x:Dv}{v:V}(rb:RepO X H₀ H O ρ σ)(sm:Same H H')(q:x.1.isNw=ae)(r:RpF X.ky H x.1 x.2 H' v):Rp X.K (bsOf X.ky ae) x.2 (hidL O.adr H') v:=
 Rp.anti rb.below _ (UR rb.own sm q r)
end
abbrev FW:=iC->Dt->Option (iC)
def IQ(ρ:Rho)(i:Nat):Option (Bool×iC):=match ρ[i]? with|some (.ow f ds)=>aa (f,ds)|_=>aj
theorem DF{ρ:Rho}{i:Nat}{f:Bool}{ds:iC}(h:IQ ρ i=aa (f,ds)):ρ[i]?=aa (.ow f ds):=by
 unfold IQ at h;split at h
 .rename_i e;cases h;exact e
 .cases h
def sWr(w:FW)(i:Nat)(F:FE):FS:=λρ=>(IQ ρ i).bind λo=>(F (O7 ρ)).bind λx=>(w o.2 x.2).map λds=>.nx (ρ.set i (.ow (o.1&&x.1.isFr) ds))
def sWrA(w:FW)(i:Nat)(F:FE):FS:=λρ=>(IQ ρ i).bind λo=>(F ρ).bind λx=>if x.1.isNw then(w o.2 x.2).map λds=>.nx (ρ.set i (.ow o.1 ds)) else aj
def wApp:FW:=λds d=>if ds.length<1000000 then aa (ds++[d]) else aj
def GH:FW:=λds d=>if ds.length<1000000 then aa (d::ds) else aj
def MtW(X:Cx)(id:String)(pre:iD)(w:FW):Prop:=∀(H:Hp)(B:Hp)(Hh:Hp)(l:Addr)(vs:iD)(y:V)(ds:iC)(d:Dt)(ds':iC)(Q:VK),H l=aa (.lst vs)->Same Hh H->Rps X.K B ds Hh vs->Rp X.K B d Hh y->w ds d=aa ds' ->
 (∀vs',Rps X.K B ds' Hh vs'->Q .non (upd H l (.lst vs')))->∃r,MtM X id r/\r (.ref l) (pre++[y]) H Q
theorem mw_app:MtW X "list.append" [] wApp:=λH B Hh l vs y ds d ds' Q hl sm rs r e k=>by
 unfold wApp at e;split at e
 .rename_i h;cases e;exact⟨_,DB,l,vs,y,rfl,rfl,hl,by rw[rs.length];exact w0I h (by decide),k _ (rs.append (Rps.one r))⟩
 .cases e
theorem YI:MtW X "list.insert" [.int 0] GH:=λH B Hh l vs y ds d ds' Q hl sm rs r e k=>by
 unfold GH at e;split at e
 .rename_i h;cases e;exact⟨_,NW,l,vs,y,rfl,rfl,hl,by rw[rs.length];exact w0I h (by decide),k _ (Rps.cons_.mpr ⟨y,vs,rfl,r,rs⟩)⟩
 .cases e
section
variable {id:String}{w:FW}{x:Str}{name:Str}{e:aV}{Fe:FE}{i:Nat}{px apos cpos pos:Pos}{pre:iD}
theorem s_wr1(hw:MtW X id [] w)(slot:Slot "list" name id)(hty:typeOf (.builtin id)=pure (.type "method_descriptor"))(hN:X.N[i]?=aa x)(hv:Vis X.env.scope x)(he:PF X e Fe)(hd:(x==("__debug__":Str))=ag:=by decide)(hcd:(x==("__classdict__":Str))=ag:=by decide)
  (hbase:attributeBase (.Name x px) name X.env (eval (.Name x px) X.env)=eval (.Name x px) X.env:=by rfl)
  (hfew:((bZ cpos (au [e] X.env)).all (λx=>!x.1)&&(dR cpos (cP [] X.env)).all (λx=>x.1.isSome)&&decide ([e].length+([]:List fL).length+(if([]:List fL).isEmpty then 0 else 1)<30))=ae:=by rfl)
  (hline:(apos.endLine==cpos.line)=ae:=by rfl) (hs:au [e] X.env=[(ag,eval e X.env)]:=by rfl) (hsw:cu (.Call (.Attribute (.Name x px) name apos) [e] [] cpos) aj pos.line X.env=pure ag:=by rfl) :
  PFS X (.Expr (.Call (.Attribute (.Name x px) name apos) [e] [] cpos) pos) (sWr w i Fe):=by
 intro π s σ H D I ⟨H₀,ρ,oc,⟨O,rb⟩,e0,k⟩;obtain⟨⟨f,ds⟩,e1,e2⟩:=bind_some e0;obtain⟨z,e3,e4⟩:=bind_some e2;cases hw':w ds z.2 with
 |none=>rw[hw']at e4;cases e4
 | some ds' =>
  rw[hw']at e4;cases e4;obtain⟨a,vs,q1,q2,q3,q4⟩:=rb.get (DF e1);have hm:MtM X id (λo us H' Q=>∃y,o=.ref a/\us=[y]/\Same (hidL O.adr H) (hidL O.adr H')/\H' a=aa (.lst vs)/\Rp X.K (bsOf X.ky z.1.isFr) z.2 (hidL O.adr H') y/\∀vs',Rps X.K (bsOf X.ky (f&&z.1.isFr)) ds' (hidL O.adr H') vs'->Q .non (upd H' a (.lst vs'))):=by
   intro π s σ H' o us v vs2 Q I ro ru ⟨y,eo,eu,sm,ha,ry,kk⟩;subst eo;subst eu;obtain⟨r,hr,hq⟩:=hw H' (bsOf X.ky (f&&z.1.isFr)) (hidL O.adr H') a vs y ds z.2 ds' Q ha l9 (Rps.anti Sd _ (Rps.mono _ sm q4)) (Rp.anti Se _ ry) hw' kk;exact hr π s σ H' _ _ v vs2 Q I ro ru hq
  refine U3 (RO fg slot hty hm (Dz hN hv hd hcd) (PA.frame (f7 he e9 hs)) hbase hfew hline hs rfl) hsw π s σ H D I ⟨.ref a,q2,.inl ⟨rfl,vs,SqL.of q3⟩,O.adr,rb.own,O7 ρ,[z],rb.rest,by simp[b8,fNil,e3],?_⟩;rintro us H' sm ⟨y,r,eu,ry,er⟩ hn;have er:r=[]:=er;subst er;subst eu;have hg:hidL O.adr (C9 O.adr H H')=H':=R9 hn;refine⟨y,rfl,rfl,by rw[hg];exact sm,by rw[Bc (Y8 q1)];exact q3,by rw[hg];exact Mb rb ry,λvs' rs'=>k _ _ ⟨O,?_⟩⟩;exact(rb.mono (Same.glue sm hn)).upd (DF e1) q1 rs'
theorem s_insA{j0:Nat}{p0:Pos}(hN:X.N[i]?=aa x)(hv:Vis X.env.scope x)(he:PF X e Fe)(hd:(x==("__debug__":Str))=ag:=by decide)(hcd:(x==("__classdict__":Str))=ag:=by decide)
   (hbase:attributeBase (.Name x px) "insert" X.env (eval (.Name x px) X.env)=eval (.Name x px) X.env:=by rfl)
   (hfew:((bZ cpos (au [.Constant (.int 0) j0 p0,e] X.env)).all (λx=>!x.1)&&(dR cpos (cP [] X.env)).all (λx=>x.1.isSome)&&decide ([Expr.Constant (.int 0) j0 p0,e].length+([]:List fL).length+(if([]:List fL).isEmpty then 0 else 1)<30))=ae:=by rfl)
   (hline:(apos.endLine==cpos.line)=ae:=by rfl) (hs:au [e] X.env=[(ag,eval e X.env)]:=by rfl) (hs2:au [.Constant (.int 0) j0 p0,e] X.env=(ag,eval (.Constant (.int 0) j0 p0) X.env)::au [e] X.env:=by rfl)
   (hsw:cu (.Call (.Attribute (.Name x px) "insert" apos) [.Constant (.int 0) j0 p0,e] [] cpos) aj pos.line X.env=pure ag:=by rfl) :
   PFS X (.Expr (.Call (.Attribute (.Name x px) "insert" apos) [.Constant (.int 0) j0 p0,e] [] cpos) pos) (sWrA GH i Fe):=by
 intro π s σ H D I ⟨H₀,ρ,oc,⟨O,rb⟩,e0,k⟩;obtain⟨⟨f,ds⟩,e1,e2⟩:=bind_some e0;obtain⟨z,e3,e5⟩:=bind_some e2;split at e5
 .rename_i qn;cases hw':GH ds z.2 with
  |none=>rw[hw']at e5;cases e5
  | some ds' =>
   rw[hw']at e5;cases e5;obtain⟨a,vs,q1,q2,q3,q4⟩:=rb.get (DF e1);have hm:MtM X "list.insert" (λo us H' Q=>∃y,o=.ref a/\us=[.int 0,y]/\Same H H'/\RpF X.ky H z.1 z.2 H' y/\∀vs',Rps X.K (bsOf X.ky f) ds' (hidL O.adr H') vs'->Q .non (upd H' a (.lst vs'))):=by
    intro π s σ H' o us v vs2 Q I ro ru ⟨y,eo,eu,sm,ry,kk⟩;subst eo;subst eu;have r1:=YH rb sm qn ry;obtain⟨r,hr,hq⟩:=YI (X:=X) H' (bsOf X.ky f) (hidL O.adr H') a vs y ds z.2 ds' Q (sm _ _ q3) l9 (Rps.mono _ (A6 sm) q4) (Rp.anti (by cases f<;>first|exact Same.refl _|exact Same.emp) _ r1) hw' kk;exact hr π s σ H' _ _ v vs2 Q I ro ru hq
   refine U3 (RO fg F.slot_list_insert F.type_list_insert hm (Dz hN hv hd hcd) (f7 (f8 (X:=X)) (f7 he e9 hs) hs2) hbase hfew hline hs2 (by rw[hs];rfl)) hsw π s σ H D I ⟨.ref a,q2,.inl ⟨rfl,vs,SqL.of q3⟩,ρ,[(.nw,.int 0),z],rb.all,by simp[b8,fNil,fC,e3],?_⟩;rintro us H' sm ⟨y0,r0,eu0,ry0,y,r,eu,ry,er⟩;have er:r=[]:=er;subst er;subst eu;subst eu0;have e00:y0=.int 0:=Rp.int_.mp ry0.sh;subst e00;exact⟨y,rfl,rfl,sm,ry,λvs' rs'=>k _ _ ⟨O,(rb.mono sm).upd (DF e1) q1 rs'⟩⟩
 .cases e5
end
def setD(ds:iC)(j:Int)(d:Dt):Option (iC):=(ixN ds.length j).map λk=>ds.set k d
def sPut(i:Nat)(Fj Fe:FE):FS:=λρ=>(IQ ρ i).bind λo=>(Fe (O7 ρ)).bind λx=>(Fj ρ).bind λj=>(intD j.2).bind λn=>(setD o.2 n x.2).map λds=>.nx (ρ.set i (.ow (o.1&&x.1.isFr) ds))
section
variable {x:Str}{e j:aV}{Fe Fj:FE}{i:Nat}{px spos pos:Pos}
theorem s_put(hN:X.N[i]?=aa x)(hv:Vis X.env.scope x)(hj:PF X j Fj)(he:PF X e Fe)(hd:(x==("__debug__":Str))=ag:=by decide)(hcd:(x==("__classdict__":Str))=ag:=by decide)
  (ha:∀ v,assign (.Subscript (.Name x px) j spos) X.env v=(do
   let ov <-holding [v] (eval (.Name x px) X.env);let iv <-holding [v,ov] (eval j X.env)
   standAt spos
   holding [v,ov,iv] (setItem ov iv v)
   release [v,ov,iv] []):=by intro _;rfl)
  (hs:swapsWithSole [.Subscript (.Name x px) j spos] e pos.line X.env=pure ag:=by rfl) (hw:swappedStores [.Subscript (.Name x px) j spos] e X.env=pure aj:=by rfl)
  (h1:(cV [.Subscript (.Name x px) j spos] X.env).map (·.2)=[assign (.Subscript (.Name x px) j spos) X.env]:=by rfl) :
  PFS X (.Assign [.Subscript (.Name x px) j spos] e pos) (sPut i Fj Fe):=by
 intro π s σ H D I ⟨H₀,ρ,oc,⟨O,rb⟩,e0,k⟩;obtain⟨⟨f,ds⟩,e1,e2⟩:=bind_some e0;obtain⟨z,e3,e4⟩:=bind_some e2;obtain⟨⟨fj,dj⟩,e5,e6⟩:=bind_some e4;obtain⟨n,e7,e8⟩:=bind_some e6;obtain⟨a,vs,q1,q2,q3,q4⟩:=rb.get (DF e1);unfold setD at e8;cases hx:ixN ds.length n with
 |none=>rw[hx]at e8;cases e8
 |some m=>
  rw[hx]at e8;cases e8;refine ps_asg (PE.frame he) (pg_sub (Dz hN hv hd hcd) hj Us ha) hs hw h1 π s σ H D I ⟨O.adr,rb.own,O7 ρ,z.1,z.2,rb.rest,e3,λv H' sm r hn=>?_⟩;have hg:hidL O.adr (C9 O.adr H H')=H':=R9 hn;have rb2:=rb.mono (Same.glue sm hn);refine⟨.ref a,q2,ρ,fj,dj,rb2.all,e5,λv2 H2 s2 r2=>?_⟩;have ed:=CN e7;have ed:dj=.int n:=ed;subst ed;have rv:Rp X.K (bsOf X.ky z.1.isFr) z.2 (hidL O.adr H2) v:=Rp.mono _ (by rw[<-hg];exact A6 s2) (Mb rb r);have ha2:H2 a=aa (.lst vs):=s2 _ _ (by rw[Bc (Y8 q1)];exact q3);refine⟨a,vs,n,m,rfl,Rp.int_.mp r2.sh,ha2,by rw[q4.length];exact hx,k _ _ ⟨O,(rb2.mono s2).upd (DF e1) q1 ?_⟩⟩;exact Rps.set m (Rps.anti Sd _ (Rps.mono _ (A6 ((Same.glue sm hn).trans s2)) q4)) (Rp.anti Se _ rv)
end
end
end L2
end
section
set_option maxHeartbeats 1000000
namespace L2
section
variable {X:Cx}{tg a b e:aV}{Fa Fb Fe:FE}{pos:Pos}
end
section
variable {X:Cx}{tg iter:aV}{body:io}{Fi:FI}{g:Tg}{F:FS}{pos:Pos}
end
section
variable {P:aN}{w:aP}{K:aE}{mg:aF}{base:aX}
theorem Fun.dat{x qual:Str}{st:aZ}{f:Addr}{fd:az}{N ps:ie}{k np nn:Nat}{fr:Bool}{F:FS}(Fu:Fun K x qual st f fd)(S:FnScope N ps (d7 st))(hp:np=ps.length)(hn:nn=N.length)
  (body:∀(cdv:Value) (A:Around) (outer:List Env) (s:Shared) (H:Hp) (E:XK),Room k (A.deeper (envOfC qual (d7 st) s.heap.objs.size f cdv)) →
   PFSs (cxOf CX0 P w K mg base N qual (d7 st) f cdv A outer s H E).nox (A3 st) F):FnOk P w K mg base CX0 (k+1) f fd ps (spc K fr (cOf np nn fr F)):=by
 subst hp hn;exact Fun.data Fu S body
end
theorem p_cal{X:Cx}{e:aV}{es:ik}{pos:Pos}{Fs:FA}{fr:Bool}{k k':Nat}{f:Addr}{fd:az}{ps:ie}{ct:FC}{x:Str}{st:aZ}{p:Pos}(F:FnOk X.prog X.w X.K X.mg X.base CX0 k f fd ps (spc X.K fr ct))(D:Df X.K X.mg x st ps f fd)(hr:Room k' X.A)(hg:Gl X x)
  (ha:PFA X (e::es) Fs) (hle:k<=k':=by decide) (hdb:(x==("__debug__":Str))=ag:=by decide) (hst:au (e::es) X.env=(ag,eval e X.env)::au es X.env:=by rfl) (hpl:(bZ pos (au es X.env)).any (·.1)=ag:=by rfl):PF X (.Call (.Name x p) (e::es) [] pos) (f9 fr ct Fs):=
 p_call F (hr.mono hle) hg D.mg D.fn.kp D.bd ha hdb hst hpl
def Dh(K:aE)(x:Str)(st:aZ)(f:Addr):Prop:=∃(oc kV doc pm cdv ct:Value)(od an:iB)(osl:Array (iA)),aY K aO x=aa (aa (.ref f))/\K.lookup f=aa ⟨oc,od,.func (bO x x (J1 st) (A3 st) (d7 st) .none kV doc pm an cdv ct),osl⟩/\cX K cdv x=ae/\cD K (.ref f)=ae
theorem dh{K:aE}{x:Str}{st:aZ}{f:Addr}{oc kV doc pm cdv ct:Value}{od an:iB}{osl:Array (iA)}(e:aY K aO x=aa (aa (.ref f)))(l:K.lookup f=aa ⟨oc,od,.func (bO x x (J1 st) (A3 st) (d7 st) .none kV doc pm an cdv ct),osl⟩)(c:cX K cdv x=ae)(k:cD K (.ref f)=ae):Dh K x st f:=⟨_,_,_,_,_,_,_,_,_,e,l,c,k⟩
theorem ndp(l:ie)(h:l.Nodup:=by decide +kernel):l.Nodup:=h
theorem jlt(l:ii)(m:Nat)(h:∀j∈l,j<m:=by decide):∀j∈l,j<m:=h
theorem scm{N P:ie}{sc:Scope}(kind:sc.kind=.function:=by rfl)(co:sc.isCoroutine=ag:=by rfl)(gen:sc.isGenerator=ag:=by rfl)(nd:N.Nodup:=by decide +kernel)(pre:N.take P.length=P:=by rfl)(par:∀x∈P,sc.names.lookup x=aa .local\/sc.names.lookup x=aa .cell:=by decide +kernel)(nofree:∀y∈sc.names,y.2 ≠ .free:=by decide +kernel):FnScope N P sc:=⟨kind,co,gen,nd,pre,par,nofree⟩
end L2
end
section
namespace L2
open PySem.W
abbrev bmVE:aG:=[.type "ValueError",.type "Exception",.type "BaseException",.type "object"]
structure Xc(K:aE)(mg:aF)(n:Nat)(C:Addr):Prop where
 mg:mg (exN n)=aa (.ref C)
 ok:excIn K C bmVE "ValueError.__new__"=ae
 ve:gq K (.ref C) (.type "ValueError")=aa ae
theorem YJ{K:aE}{h:aX}{C:Addr}{bmB:aG}{newId:String}(kin:K.In h)(e:excIn K C bmB newId=ae):∃bm N nm q bs hdct sn sub ab col dd k0 k1 k2 k3 k5,
   h.get? C=aa (excClassObj nm q C N bs bm hdct sn sub ab col dd k0 k1 k2 k3 k5 newId)/\(∃mN,h.Ns N mN/\mN "__init__"=aj)/\OwnTail h bmB bm:=by
 unfold excIn at e;split at e
 .rename_i dct cd sl q;split at e
  .rename_i C' bm a0 a1 a2 a3 n a5 q1 q2;simp only[wF,beq_iff_eq,vX]at e;obtain⟨⟨⟨⟨⟨e1,e2⟩,e3⟩,e4⟩,e5⟩,e6⟩:=e;subst e1 e2;obtain⟨nm,bs,mro,ns,qn,hd,sn,sub,ab,hdel,col⟩:=cd;have hs:sl=#[a0,a1,a2,a3,aa (.builtin n),a5]:=by
    have:=bV List.toArray q2;simpa using this
   dsimp only at q1 e3 e5 e6;subst q1 hs;have z:=kin _ _ q;refine⟨bm,ns,nm,qn,bs,hd,sn,sub,ab,hdel,dct,a0,a1,a2,a3,a5,?_,⟨_,Heap.Ns.of_isNs (isNs_of_in kin e5),nsMap_none_of_in kin e5 e6⟩,tail_of_in kin e4⟩;rw[z,e3]
  .cases e
 .cases e
theorem Ve{h:aX}{bmB bm:aG}{v:Value}(t:OwnTail h bmB bm)(q:bmB.contains v=ae):bm.contains v=ae:=by
 induction t with
 |base=>exact q
 |own _ _ _ _ ih=>rw[List.contains_cons,ih,Bool.or_true]
theorem Vf{h h':aX}{N:Addr}{m:aF}(x:h.Ns N m)(k:∀b o,h.get? b=aa o->h'.get? b=aa o):h'.Ns N m:=by
 obtain⟨o,es,ep,ho,r⟩:=x;exact⟨o,es,ep,k _ _ ho,r⟩
theorem Mc{X:Cx}{sts:io}:PFSs X sts Y9:=λπ s σ H D I⟨H₀,ρ,oc,rb,e,k⟩=>by cases e
def Vg(n:Nat):FS:=λ_=>aa (.ex n)
section
variable {X:Cx}{C:Addr}{n:Nat}{e:aV}{es:ik}{pos:Pos}{Fs:FA}{fr:Bool}{k k':Nat}{f:Addr}{fd:az}{ps:ie}{x:Str}{st:aZ}{p:Pos}
theorem YK(n:Nat){t:Str}{j:Nat}{p1 np cpos:Pos}(hc:X.calm=ae)(xc:Xc X.K X.mg n C)(hg:Gl X x)(hx:exN n=x:=by rfl)(hdb:(x==("__debug__":Str))=ag:=by decide):
  PFS X (.Raise (aa (.Call (.Name x np) [.Constant (.str t) j p1] [] cpos)) aj pos) (Vg n):=by
 rintro π s σ H D I ⟨H₀,ρ,oc,⟨O,rb⟩,e0,k⟩;cases e0;obtain⟨E,hE,hp,hr,_⟩:=k C xc.mg;obtain⟨bm,N,nm,q,bs,hdct,sn,sub,ab,col,dd,k0,k1,k2,k3,k5,g1,⟨mN,g2,g3⟩,g4⟩:=YJ I.mod.kin xc.ok;refine wpAny_Raise_call_subT (nm:=nm) (q:=q) (N:=N) (bs:=bs) (hdct:=hdct) (sn:=sn) (sub:=sub) (ab:=ab) (col:=col) (dd:=dd) (k0:=k0) (k1:=k1) (k2:=k2) (k3:=k3) (k5:=k5) F.excBase_ValueError (Ve g4 (by decide)) (I.ok.hd hc) rfl g3 (CA I hg (by rw[<-hx];exact xc.mg) ⟨rfl,?_⟩ hdb);refine Calls.evalArgs_plain (thn ((show PFA X [.Constant (.str t) j p1] _ from f7 p_str e9) cpos π s σ H (λvs H'=>vs.length=1/\Same H H') I ⟨ρ,_,rb.all,rfl,λvs H' sm r=>⟨r.length,sm⟩⟩) λus s1 hZ=>?_);obtain⟨vs,H1,I1,r,hl,sm⟩:=hZ;refine⟨rfl,by show us.length<=_;rw[<-r.length,hl];decide,I1.bk _ _ g1,Vf g2 I1.bk,g4.keeps I1.bk,λh' ea m=>?_⟩;exact hr π σ H1 s1 _ ea _ I1 m rfl rfl (hE H1 aj (rb.same.trans (l9.trans sm)) (.inl rfl))
abbrev FX:=iC->Option (Dt ⊕ Nat)
def spx(K:aE)(mg:aF)(fr:Bool)(c:FX):Sp:=λvs H Q E=>∃ds r,Rps K emp ds H vs/\c ds=aa r /\
 match r with
 |.inl d=>∀v H',Same H H'->Rp K (if fr then H else emp) d H' v->Q v H'
 |.inr n=>∀C H' o,mg (exN n)=aa (.ref C)->Same H H'->(o=aj\/wk n=ae)->E (.ref C) o H'
theorem Vh{P:aN}{w:aP}:Ap (CX1 P w) X E0:=by
 rintro π σ H s e s' I ⟨ea,C,H',c,rfl,os,bare,un,hok,fly,hE⟩;exact hE.elim
theorem YL{CX:CXT}{sp:Sp}{E:XK}{t:TA}{π:aB}{s:Shared}{σ:St}{H:Hp}{Q:VK}(F:FnOk X.prog X.w X.K X.mg X.base CX k f fd ps sp)(hr:Room k X.A)(hg:Gl X x)(hm:X.mg x=aa (.ref f))(hk:cD X.K (.ref f)=ae)(hb:Binds X.K fd ps [])
  (ha:PA X (e::es) t) (hdb:(x==("__debug__":Str))=ag) (he:au (e::es) X.env=(ag,eval e X.env)::au es X.env) (hpl:(bZ pos (au es X.env)).any (·.1)=ag)
  (I:Inv X π σ H s) (h:t σ H λvs H1=>sp vs H1 Q E) (hx:∀H1 s1 e s',Inv X π σ H1 s1->CX X.stack H1 s1 E e s'->X.xe e s'):ay (model X.prog X.w) X.A (eval (.Call (.Name x p) (e::es) [] pos) X.env) (EP X π σ Q) X.xe s:=by
 refine bU (CA I hg hm ?_ hdb);refine PySem.W.callWith_K (h₀:=X.base) I.ok.mod.kin hk (thn (ha pos π s σ H _ I h) λus s1⟨vs,H1,I1,r,q⟩=>⟨I1.kIn,?_⟩) he hpl;have hl:(us++[]).length=ps.length:=by rw[vd,<-r.length];exact F.len _ _ _ _ q
 have hb2:=hb s1 us I1.kIn hl;rw[vd]at hb2;refine gA (dE (F.run X.A X.stack s1 H1 ⟨us,[]⟩ us vs Q E hr I1.env0 hb2 r q) λr s' hq=>?_);cases r with
 |error e=>exact hx H1 s1 e s' I1 hq
 |ok fl=>
  cases fl with
  |ret u=>exact I1.after hq
  |next=>exact cG hq
  |brk=>exact cG hq
  |cont=>exact cG hq
def Kx(c:FX)(Fs:FA):FS:=λρ=>(Fs ρ).bind λxs=>(c (sndL xs)).map λr=>match r with|.inl _=>.nx ρ|.inr n=>.ex n
theorem YM{ct:FX}{pos':Pos}(F:FnOk X.prog X.w X.K X.mg X.base (CX1 X.prog X.w) k f fd ps (spx X.K X.mg fr ct))(D:Df X.K X.mg x st ps f fd)(hr:Room k' X.A)(hg:Gl X x)
  (ha:PFA X (e::es) Fs) (hle:k<=k':=by decide) (hdb:(x==("__debug__":Str))=ag:=by decide) (hst:au (e::es) X.env=(ag,eval e X.env)::au es X.env:=by rfl) (hpl:(bZ pos (au es X.env)).any (·.1)=ag:=by rfl)
  (hs:cu (.Call (.Name x p) (e::es) [] pos) aj pos'.line X.env=pure ag:=by rfl):PFS X (.Expr (.Call (.Name x p) (e::es) [] pos) pos') (Kx ct Fs):=by
 rintro π s σ H De I ⟨H₀,ρ,oc,⟨O,rb⟩,e0,k⟩;obtain⟨xs,e1,e2⟩:=bind_some e0;cases q:ct (sndL xs) with
 |none=>rw[q]at e2;cases e2
 | some r =>
  rw[q]at e2;cases r with
  |inl d=>
   cases e2;exact U3 (E6 (E:=E0) (dvs:=[]) F (hr.mono hle) hg D.mg D.fn.kp D.bd .nil Vh ha hdb hst hpl) hs π s σ H De I ⟨ρ,xs,rb.all,e1,λvs H1 s1 r1=>by
     dsimp only;rw[vd];exact⟨_,.inl d,r1.sh,q,λv H' s' r'=>k σ H' ⟨O,rb.mono (s1.trans s')⟩⟩⟩
  |inr n=>
   cases e2;have go:∀E:XK,Ap (CX1 X.prog X.w) X E->(∀C H' o,X.mg (exN n)=aa (.ref C)->Same H H'->(o=aj\/wk n=ae)->E (.ref C) o H')->ay (model X.prog X.w) X.A (exec (.Expr (.Call (.Name x p) (e::es) [] pos) pos') X.env) (SP X π De) X.xe s:=λE hp hE=>
     U3 (E6 (E:=E) (dvs:=[]) F (hr.mono hle) hg D.mg D.fn.kp D.bd .nil hp ha hdb hst hpl) hs π s σ H De I ⟨ρ,xs,rb.all,e1,λvs H1 s1 r1=>by
      dsimp only;rw[vd];exact⟨_,.inr n,r1.sh,q,λC H' o hC s' ho=>hE C H' o hC (s1.trans s') ho⟩⟩
   by_cases hC:∃C,X.mg (exN n)=aa (.ref C)
   .obtain⟨C,hC⟩:=hC;obtain⟨E,hE,hp,hr⟩:=k C hC;refine go E hp λC' H' o hC' sm ho=>?_;rw[hC]at hC';cases hC';exact hE H' o (rb.same.trans (l9.trans sm)) ho
   .exact go E0 Vh λC H' o h=>(hC ⟨C,h⟩).elim
end
def xOf(np n:Nat)(fr:Bool)(F:FS):FX:=λds=>if ds.length=np then
 (F (rho0 n ds)).bind λoc=>match oc with|.rt f d=>if fr&&!(f.isFr||d.flat) then aj else aa (.inl d)|.nx _=>aa (.inl .non)|.ex n=>aa (.inr n)|_=>aj
 else aj
section
variable {P:aN}{w:aP}{K:aE}{mg:aF}{base:aX}
theorem Fun.datX{x qual:Str}{st:Stmt}{f:Addr}{fd:FuncData}{N ps:List Str}{k np nn:Nat}{fr:Bool}{F:FS}(Fu:Fun K x qual st f fd)(S:FnScope N ps (d7 st))(hp:np=ps.length)(hn:nn=N.length)
    (body:∀(cdv:Value)(A:aU)(outer:iq)(s:Shared)(H:Hp)(E:XK),Room k (A.deeper (cz qual (d7 st) s.heap.objs.size f cdv)) ->
      PFSs (cx1 P w K mg base N qual (d7 st) f cdv A outer s H E) (A3 st) F):FnOk P w K mg base (CX1 P w) (k+1) f fd ps (spx K mg fr (xOf np nn fr F)):=by
  subst hp hn;obtain⟨oc,od,kV,doc,pm,an,cdv,ct,osl,rfl,lk,hcd⟩:=Fu.ex;refine RL lk hcd S (λvs H Q E h=>?_) λA outer s H vs Q E hr h=>?_
  .obtain⟨ds,d,r,e,q⟩:=h;unfold xOf at e;split at e
   .rename_i hl;rw[r.length];exact hl
   .cases e
  .obtain⟨ ds,d,r,e,q⟩:=h
   unfold xOf at e;split at e
   .rename_i hl;obtain⟨oc,e1,e2⟩:=bind_some e;refine⟨_,body cdv A outer s H E hr,H,rho0 N.length ds,oc,⟨[],GF rfl r⟩,e1,?_⟩;cases oc with
    |nx ρ=>cases e2;exact λσ H'⟨O,rb⟩=>q _ H' (rb.same.trans l9) (Rp.non_.mpr rfl)
    |bk ρ=>cases e2
    |ct ρ=>cases e2
    |ex n=>cases e2;exact λC hC=>xok1 λH' o sm ho=>q C H' o hC sm ho
    | rt f d' =>
      have e2:(if(fr&&!(f.isFr||d'.flat))=ae then aj else aa (eY d'))=aa d:=e2;split at e2
      .cases e2
      .rename_i hf;cases e2;refine λv H' sm r'=>q v H' sm ?_;cases fr with
       |false=>exact Rp.anti Same.emp _ r'
       | true =>
         have hf:f.isFr=ae\/d'.flat=ae:=by
           cases h1:f.isFr<;>cases h2:d'.flat<;>simp[h1,h2]at hf|-
         rcases hf with hf|hf
         .rw[hf]at r';exact r'
         .exact Rp.flat d' hf r'
   .cases e
end
end L2
end
section
namespace L2
open PySem.W
abbrev Cx.caught(X:Cx)(ea:Addr):Cx:={ X with A:=X.A.mark (aa (.ref ea)),calm:=ag,xe:=λ_ _=>False }
section
variable {X:Cx}{π:aB}{σ:St}{H H1 H' H₀:Hp}{s s1:Shared}{ea C M:Addr}{cx:Value}{E:aC}
theorem Cx.Ok.caught(ok:X.Ok)(ea:Addr):(X.caught ea).Ok:=
 ⟨ok.mod,ok.kind,ok.glob,ok.blt,ok.above,ok.inj,ok.has,ok.cab,(λz=>by cases z),ok.frames,ok.stk,ok.exf,ok.bs,ok.bsz,ok.noex,ok.exfs,ok.funs,ok.frf⟩
theorem Inv.caught(I:Inv X π σ H s)(ea:Addr):Inv (X.caught ea) π σ H s:=⟨I.ok.caught ea,I.os,I.bare,I.base,I.loc,I.cell,I.free,I.freeC,I.pin,I.hok,I.len⟩
theorem Inv.uncaught(I:Inv (X.caught ea) π σ H s)(o:X.Ok):Inv X π σ H s:=⟨o,I.os,I.bare,I.base,I.loc,I.cell,I.free,I.freeC,I.pin,I.hok,I.len⟩
theorem SP.uncaught{D:Ends}{f:Flow}{s':Shared}(o:X.Ok)(h:SP (X.caught ea) π D f s'):SP X π D f s':=by
 cases f with
 |next=>obtain⟨σ',H',I,q⟩:=h;exact⟨σ',H',I.uncaught o,q⟩
 |brk=>obtain⟨σ',H',I,q⟩:=h;exact⟨σ',H',I.uncaught o,q⟩
 |cont=>obtain⟨σ',H',I,q⟩:=h;exact⟨σ',H',I.uncaught o,q⟩
 |ret u=>obtain⟨v,σ',H',I,r,q⟩:=h;exact⟨v,σ',H',I.uncaught o,r,q⟩
theorem RepB.caught{ρ:Rho}(h:RepB X H₀ H ρ σ)(ea:Addr):RepB (X.caught ea) H₀ H ρ σ:=by
 obtain⟨O,h⟩:=h;exact⟨O,h.ndA,h.ndI,h.own,h.len,h.b0,h.same,h.at_⟩
theorem RepB.uncaught{ρ:Rho}(h:RepB (X.caught ea) H₀ H ρ σ):RepB X H₀ H ρ σ:=by
 obtain⟨O,h⟩:=h;exact⟨O,h.ndA,h.ndI,h.own,h.len,h.b0,h.same,h.at_⟩
structure At(X:Cx)(π:aB)(σ:St)(H1:Hp)(s1:Shared)(H':Hp)(ea C:Addr)(cx:Value)(s:Shared):Prop where
 inv:Inv X π σ H' s
 fly:Fly s1.heap H' ea C cx s.heap
 un:Un (frs X.stack) [] H1 H' s1.heap s.heap
theorem At.step{a0:Value}{T:Addr}{l':iq}{h':aX}(I1:Inv X π σ H1 s1)(a:At X π σ H1 s1 H' ea C cx s)(n3:s1.heap.get? T=aj)(n4:H' T=aj)(f:(gG s.heap (ea::T::frs X.stack)).FlyingW l' ea (.ref C) a0 h')(us:s.heap.UpToSlots h')(cc:∀c,C2 s.heap ea c->C2 h' ea c):
  At X π σ H1 s1 H' ea C cx { s with heap:=h' }:=by
 obtain⟨f1,f2,f3⟩:=Fly.step a.fly.1 a.fly.2.1 n3 n4 a.inv.stack a.inv.stkFree a.inv.hok a.un f us (λb hb=>.inl hb) (λb o _=>by simp) (cc cx a.fly.c2);exact⟨I1.call' (ch:=[]) (a.inv.os.trans I1.os.symm) f3 f2 a.inv.bare λb z=>aW z (by simp),f1,f3⟩
theorem Tm{Q:Unit->Shared->Prop}{A2:aU}{E2:aC}(I1:Inv X π σ H1 s1)(a:At X π σ H1 s1 H' ea C cx s)(hs:X.stack=X.env::X.outer)(hf:X.env.frame=aa X.env.locals)
  (h:∀s',At X π σ H1 s1 H' ea C cx s'->Q .unit s'):ay (model X.prog X.w) X.A (gW (.ref ea) X.env) (λ_ s₂=>ay (model X.prog X.w) A2 (setFlight (.ref ea) aj) Q E2 s₂) E s:=by
 obtain⟨T,a0,n3,n4,fl⟩:=a.fly.base a.inv.stack;have fl':=fl;rw[hs]at fl';refine Sa (by rw[<-hs];exact a.inv.ok.frames) hf fl' λh1 held us cc=>CO (s:={ s with heap:=h1 }) held.1 held.2.2.1 held.2.1 held.2.2.2 λh2 fl2 us2 cc2=>h _ ?_;rw[<-hs]at fl2;exact(show At X π σ H1 s1 H' ea C cx { s with heap:=h2 }from a.step I1 n3 n4 fl2 (UpToSlots.trans us us2) λc z=>cc2 c (cc c z))
theorem GI{Q:Unit->Shared->Prop}{A2:aU}(I1:Inv X π σ H1 s1)(a:At X π σ H1 s1 H' ea C cx s)
  (h:∀s',At X π σ H1 s1 H' ea C cx s'->Q .unit s'):ay (model X.prog X.w) A2 (setFlight (.ref ea) aj) Q E s:=by
 obtain⟨T,a0,n3,n4,fl⟩:=a.fly.base a.inv.stack;exact CO fl.1 fl.2.2.1 fl.2.1 fl.2.2.2 λh2 fl2 us2 cc=>h _ (a.step I1 n3 n4 fl2 us2 cc)
theorem At.looks(a:At X π σ H1 s1 H' ea C cx s):Looks (model X.prog X.w) s.heap (typeOf (.ref ea)) (.ref C):=by
 obtain⟨_,_,oe,_,_,_,_,_,q1,q2,_⟩:=a.fly;intro A Q E s' k q;exact gR (k _ _ q1) (by rw[q2];exact q)
theorem Vi{Q:Flow->Shared->Prop}{nm:Option Str}{body:io}{hpos np:Pos}{x:Str}{rest:List ExceptHandler}(I1:Inv X π σ H1 s1)(a:At X π σ H1 s1 H' ea C cx s)(hg:Gl X x)(hm:X.mg x=aa (.ref M))(hit:gM X.K (.ref C) (.ref M)=aa ae)(hdb:(x==("__debug__":Str))=ag)
  (h:codeAny (model X.prog X.w) (X.A.mark (some (.ref ea))) (.handlers (.ref ea) [.ExceptHandler none nm body hpos] X.env) (fun r s₂=>match r with
   | .ok f=>(match nm with
    |none=>Q f s₂
    |some n=>ay (model X.prog X.w) X.A (do
     bindName X.env n bM
     unbindBehindTheSuite X.env n hpos) (λ_ s₃=>Q f s₃) E s₂)
   |.error x=>cameBackBy (model X.prog X.w) X.A X.env E x s₂) s) :
  ay (model X.prog X.w) X.A (handleBy (.ref ea) X.env (.ExceptHandler (aa (.Name x np)) nm body hpos::rest)) Q E s:=by
 refine wpAny_handleBy_cons (codeAny_handlers_test (CA (X:=X.caught ea) (a.inv.caught ea) hg hm ?_ hdb)) (λz=>nomatch z);exact exm_one a.inv.kIn a.looks hit _ _ _ s (λb o e=>e) h
end
def noEx:Oc->Option Oc
 |.ex _=>aj
 |o=>aa o
def clr(i:Nat):Oc->Option Oc
 |.nx ρ=>aa (.nx (ρ.set i .no))
 |.rt f d=>aa (.rt f d)
 |_=>aj
def sTry(c:FX)(Fs:FA)(hits:Nat->Bool)(G:FS):FS:=λρ=>(Fs ρ).bind λxs=>(c (sndL xs)).bind λr=>match r with|.inl _=>aa (.nx ρ)|.inr n=>if hits n then(G ρ).bind noEx else aj
def Kz(c:FX)(Fs:FA)(hits:Nat->Bool)(i:Nat)(G:FS):FS:=λρ=>(Fs ρ).bind λxs=>(c (sndL xs)).bind λr=>match r with|.inl _=>aa (.nx ρ)|.inr n=>if hits n then(G (ρ.set i .ex)).bind (clr i) else aj
structure Hit(K:aE)(mg:aF)(hits:Nat->Bool)(x:Str)(M:Addr):Prop where
 gl:mg x=aa (.ref M)
 hit:∀n C,hits n=ae->mg (exN n)=aa (.ref C)->gM K (.ref C) (.ref M)=aa ae/\gq K (.ref C) (.type "ValueError")=aa ae
theorem Vj{K:aE}{mg:aF}{hits:Nat->Bool}{x:Str}{M:Addr}(a:mg x=aa (.ref M))(b:∀n C,hits n=ae->mg (exN n)=aa (.ref C)->gM K (.ref C) (.ref M)=aa ae/\gq K (.ref C) (.type "ValueError")=aa ae):Hit K mg hits x M:=⟨a,b⟩
section
variable {X:Cx}{C:Addr}{n:Nat}{e:aV}{es:ik}{pos pos' tpos hpos np:Pos}{Fs:FA}{fr:Bool}{k k':Nat}{f:Addr}{fd:az}{ps:ie}{x y:Str}{st:aZ}{p:Pos}{ct:FX}
theorem Md{π:aB}{s:Shared}{σ:St}{H:Hp}{De:Ends}{ρ:Rho}{xs:iE}{r:Dt ⊕ Nat}{h0:ExceptHandler}{hs0:List ExceptHandler}(F:FnOk X.prog X.w X.K X.mg X.base (CX1 X.prog X.w) k f fd ps (spx X.K X.mg fr ct))(D:Df X.K X.mg x st ps f fd)(hr:Room k' X.A)(hg:Gl X x)
  (ha:∀E,PFA (X.wish E) (e::es) Fs) (hle:k<=k') (hdb:(x==("__debug__":Str))=ag) (hst:au (e::es) X.env=(ag,eval e X.env)::au es X.env) (hpl:(bZ pos (au es X.env)).any (·.1)=ag)
  (hs:cu (.Call (.Name x p) (e::es) [] pos) aj pos'.line X.env=pure ag) (hstk:X.stack=X.env::X.outer) (hfr:X.env.frame=aa X.env.locals)
  (I:Inv X π σ H s) (rs:RepS X.ky H ρ σ) (e1:Fs ρ=aa xs) (q:ct (sndL xs)=aa r) (hN:∀d,r=.inl d->∀H',Same H H'->De.nx σ H')
  (hX:∀n,r=.inr n->∀H1 s1 H' ea C cx s',Inv X π σ H1 s1->X.mg (exN n)=aa (.ref C)->Same H H'->(ctxO cx=aj\/wk n=ae)->At X π σ H1 s1 H' ea C cx s'->ay (model X.prog X.w) X.A (handleBy (.ref ea) X.env (h0::hs0)) (SP X π De) X.xe s') :
  ay (model X.prog X.w) X.A (exec (.Try [.Expr (.Call (.Name x p) (e::es) [] pos) pos'] (h0::hs0) [] [] tpos) X.env) (SP X π De) X.xe s:=by
 refine wpAny_Try_except ?_;have go:∀E1:aC,(∀n,r=.inr n->∀H1 s1 H' ea C cx s',Inv X π σ H1 s1->X.mg (exN n)=aa (.ref C)->Same H H'->(ctxO cx=aj\/wk n=ae)->At X π σ H1 s1 H' ea C cx s'->E1 (.ref ea) s') ->
    ay (model X.prog X.w) X.A (exec (.Expr (.Call (.Name x p) (e::es) [] pos) pos') X.env) (SP X π De) E1 s:=λE1 hE1=>by
  have I1:Inv (X.wish E1) π σ H s:=I.wish E1;refine thn (wpAny_Expr_any (thn (YL (X:=X.wish E1) (E:=λc o H'=>∃n C,r=.inr n/\c=.ref C/\X.mg (exN n)=aa (.ref C)/\Same H H'/\(o=aj\/wk n=ae)) (Q:=λ_ H'=>De.nx σ H') F (hr.mono hle) hg D.mg D.fn.kp D.bd (ha E1) hdb hst hpl I1 ⟨ρ,xs,rs,e1,λvs H1 s1 r1=>?_⟩ λH1 s1 e s' J cx=>?_)
    λv s1⟨u,H1,J,r1,q1⟩=>(show SP (X.wish E1) π De .next s1 from⟨σ,H1,J,q1⟩)) I1.quiet hs) λf s1 z=>z.unwish
  .refine⟨_,r,r1.sh,q,?_⟩;cases r with
   |inl d=>exact λv H' s' _=>hN d rfl H' (s1.trans s')
   |inr n=>exact λC H' o hC s' ho=>⟨n,C,rfl,rfl,hC,s1.trans s',ho⟩
  .obtain⟨ea,C,H',c0,rfl,os,bare,un,hok,fly,n,C',er,ec,hC,sm,ho⟩:=cx;cases ec;have J:=J.unwish;exact hE1 n er H1 s1 H' ea C c0 s' J hC sm ho ⟨J.call' (ch:=[]) os un hok bare λb z=>aW z (by simp),fly,un⟩
 refine gU (thn (go _ λn er H1 s1 H' ea C c0 s' J hC sm ho a=>Tm J a hstk hfr λs2 a2=>hX n er H1 s1 H' ea C c0 s2 J hC sm ho a2) λf s1 z=>?_);cases f with
 |next=>exact dM (dM z)
 |ret v=>exact z
 |brk=>exact z
 |cont=>exact z
theorem s_try{hits:Nat->Bool}{M:Addr}{b₀:aZ}{suite:io}{G:FS}(F:FnOk X.prog X.w X.K X.mg X.base (CX1 X.prog X.w) k f fd ps (spx X.K X.mg fr ct))(D:Df X.K X.mg x st ps f fd)(hr:Room k' X.A)(hg:Gl X x)
   (ha:∀E,PFA (X.wish E) (e::es) Fs) (hgy:Gl X y) (hh:Hit X.K X.mg hits y M) (hsu:∀ea,PFSs (X.caught ea) (b₀::suite) G) (hle:k<=k':=by decide) (hdb:(x==("__debug__":Str))=ag:=by decide) (hdy:(y==("__debug__":Str))=ag:=by decide) (hst:au (e::es) X.env=(ag,eval e X.env)::au es X.env:=by rfl) (hpl:(bZ pos (au es X.env)).any (·.1)=ag:=by rfl)
   (hs:cu (.Call (.Name x p) (e::es) [] pos) aj pos'.line X.env=pure ag:=by rfl) (hstk:X.stack=X.env::X.outer:=by rfl) (hfr:X.env.frame=aa X.env.locals:=by rfl) :
   PFS X (.Try [.Expr (.Call (.Name x p) (e::es) [] pos) pos'] [.ExceptHandler (aa (.Name y np)) aj (b₀::suite) hpos] [] [] tpos) (sTry ct Fs hits G):=by
 rintro π s σ H De I ⟨H₀,ρ,oc,⟨O,rb⟩,e0,k⟩;obtain⟨xs,e1,e2⟩:=bind_some e0;obtain⟨r,q,e3⟩:=bind_some e2;refine Md F D hr hg ha hle hdb hst hpl hs hstk hfr I rb.all e1 q (λd er H' sm=>?_) λn er H1 s1 H' ea C c0 s' J hC sm ho a=>?_
 .subst er;cases e3;exact k σ H' ⟨O,rb.mono sm⟩
 .subst er;dsimp only at e3;split at e3
  .rename_i hn;obtain⟨oc',e4,e5⟩:=bind_some e3;refine Vi J a hgy hh.gl (hh.hit n C hn hC).1 hdy (codeAny_handlers_suite (GI J a λs3 a3=>?_));refine bt (hsu ea π s3 σ H' De (a3.inv.caught ea) ⟨H₀,ρ,oc',RepB.caught ⟨O,rb.mono sm⟩ ea,e4,?_⟩) (λf s4 z=>SP.uncaught I.ok z) λ_ _ z=>z.elim;cases oc' with
   |nx ρ'=>cases e5;exact λσ' H'' z=>k σ' H'' z.uncaught
   |bk ρ'=>cases e5;exact λσ' H'' z=>k σ' H'' z.uncaught
   |ct ρ'=>cases e5;exact λσ' H'' z=>k σ' H'' z.uncaught
   |rt f d=>cases e5;exact k
   |ex m=>cases e5
  .cases e3
end
section
variable {X:Cx}{H₀ H:Hp}{O:Own}{ρ:Rho}{σ:St}{π:aB}{s:Shared}{ea:Addr}
theorem RepO.setC(h:RepO X H₀ H O ρ σ){i:Nat}{c:Cell}{o:Option V}(hc:UQ X H (Q0 O i) i c o):RepO X H₀ H (Q0 O i) (ρ.set i c) (σ.set i o):=by
 have sm:Same (hidL O.adr H) (hidL (Q0 O i).adr H):=S3 B4;refine⟨h.ndA.sublist (cC _ (vo)),h.ndI.sublist (cC _ (vo)),λa ha=>h.own a (B4 a ha),by rw[wG,wG];exact h.len,h.b0,h.same.trans sm,λj c' q=>?_⟩;by_cases e:i=j
 .subst e;rw[wY,ap rfl]at q;rw[wY,ap rfl];split at q
  .rename_i hl;cases q;rw[ap (by rw[<-h.len];exact hl)];exact⟨_,rfl,hc⟩
  .cases q
 .rw[wT e]at q|-;obtain⟨o',e1,e2⟩:=h.at_ j c' q;refine⟨o',e1,?_⟩;cases c' with
  |no=>trivial
  |ex=>obtain⟨a,φ,q,r,z⟩:=e2;exact⟨a,φ,q,sm _ _ r,z⟩
  |sh f d=>obtain⟨v,q,r⟩:=e2;exact⟨v,q,Rp.mono _ sm r⟩
  |ow f ds=>obtain⟨a,vs,q1,q2,q3,r⟩:=e2;exact⟨a,vs,J9.mpr ⟨q1,λz=>e z.symm⟩,q2,q3,Rps.mono _ sm r⟩
theorem Inv.trackX{o:HO}(I:Inv X π σ H s)(hn:H ea=aj)(hb:X.s₀.heap.get? ea=aj)(hl:ea≠X.env.locals)(hc:∀x c,X.env.cells.lookup x=aa c->c≠ea)(hp:∀p∈X.pn++π,p.1≠ea)(ho:ObjOk X.prog X.w (upd H ea o) s.heap ea o):Inv X π σ (upd H ea o) s:=by
 have ne:∀{b:Addr}{u:HO},H b=aa u->upd H ea o b=aa u:=λ{b u}e=>by
   rw[i7 λz=>by rw[z,hn]at e;cases e];exact e
 refine⟨I.ok,I.os,I.bare,⟨I.base.keep,I.base.slot,λb ob e n hx=>?_,I.base.there,λb xs e=>ne (I.base.tups b xs e),λb ob u e=>ne (I.base.frzs b ob u e),λb ps _ e=>?_⟩,I.loc,I.cell,?_,λx c e=>?_,λp z=>?_,λb u e=>?_,I.len⟩
 .rw[i7 λz=>by rw[z,hb]at e;cases e];exact I.base.free b ob e n hx
 .exact ne (I.base.tbls b ps _ e)
 .rw[i7 hl.symm];exact I.free
 .rw[i7 (hc x c e)];exact I.freeC x c e
 .obtain⟨p1,p2,p3⟩:=I.pin p z;exact⟨p1,by rw[i7 (hp p z)];exact p2,p3⟩
 .by_cases hb:b=ea
  .subst hb;rw[j6]at e;cases e;exact ho
  .rw[i7 hb]at e;exact(I.hok b u e).stay (λc v _ q=>q) (λc r=>ne r) (λc xs r=>ne r) λc _ _ r=>ne r
theorem Sf{M:Model}{A:aU}{E:aC}{i:Nat}{x:Str}{pos:Pos}{Q:Unit->Shared->Prop}(I:Inv X π σ H s)(hN:X.N.Nodup)(hi:X.N[i]?=aa x)(hk:X.env.scope.names.lookup x=aa .local)
   (h:∀s',Inv X π (σ.set i aj) H s'->Q .unit s'):ay M A (do
     bindName X.env x bM
     unbindBehindTheSuite X.env x pos) Q E s:=by
 obtain⟨m,hn,hl⟩:=id I.loc;have hcls:(X.env.scope.kind==.class||(X.env.scope.kind==.module&&X.env.locals != X.env.globals))=ag:=by rw[I.ok.kind];rfl
 have hiσ:i<σ.length:=by rw[I.len];exact(wr.mp hi).1
 have cne:=I.cne;obtain⟨oL,_,_,hoL,_⟩:=id hn;refine wpAny_nameGoes_keeps hk hn hcls λh' v hn' hs=>?_;have tracked:HOk X.prog X.w H h':=λb ob e=>by
   refine(I.hok b ob e).stay (λc w' hc q=>(hs.2 c ?_).trans q) (λ_ q=>q) (λ_ _ q=>q) λ_ _ _ q=>q;rintro rfl;rcases hc with z|hc
   .rw[<-z,I.free]at e;cases e
   .rw[I.free]at hc;cases hc
 refine h _ ⟨I.ok,I.os,I.bare,⟨λb o e n hb hx=>?_,λb o e n hb hx=>?_,I.base.free,λb o e hx=>?_,I.base.tups,I.base.frzs,I.base.tbls⟩,⟨_,hn',λj y v' e1 e2 e3=>?_⟩,λy c e=>?_,I.free,I.freeC,λp hp=>?_,tracked,by simpa using I.len⟩
 .exact(hs.2 b (wD (wt (wm e) I.ok.above))).trans (I.base.keep b o e n hb hx)
 .obtain⟨sl,e1⟩:=I.base.slot b o e n hb hx;exact⟨sl,(hs.2 b (wD (wt (wm e) I.ok.above))).trans e1⟩
 .obtain⟨o',e1⟩:=I.base.there b o e hx;exact⟨o',(hs.2 b (wD (wt (wm e) I.ok.above))).trans e1⟩
 .by_cases hj:j=i
  .subst hj;rw[uu hiσ]at e2;cases e2
  .rw[wT (bQ hj)]at e2;obtain⟨u',r',q⟩:=hl j y v' e1 e2 e3;refine⟨u',r',?_⟩;rcases q with⟨k,e⟩|⟨k,c,e,z⟩
   .refine .inl ⟨k,?_⟩;have:y≠x:=λe=>hj (Gd hN e1 (e ▸ hi));simp[this,e]
   .exact .inr ⟨k,c,e,z.sameBut hs (cne y c e)⟩
 .obtain⟨w',z⟩:=I.cell y c e;exact⟨w',z.sameBut hs (cne y c e)⟩
 .obtain⟨e,n,ne,nf,d⟩:=I.pin p hp;exact⟨(hs.2 p.1 ne).trans e,n,ne,nf,d⟩
end
end L2
end
section
namespace L2
open PySem.W
theorem Vk{M:aN}{w:aP}{A:aU}{Q:aC}{E:aC}{s:Shared}{K:aE}{a C:Addr}{oe:Obj}(kin:K.In s.heap)(h1:s.heap.get? a=aa oe)(h2:oe.cls=.ref C)(h3:gq K (.ref C) (.type "ValueError")=aa ae)
  (q:Q (.bool ae) s):ay (model M w) A (call (.builtin "isinstance") [.ref a,.type "ValueError"]) Q E s:=by
 obtain⟨l1,l2,l3⟩:=kit_cls (M:=model M w) kin h3;have l4:Looks (model M w) s.heap (isInstance (.ref a) (.type "ValueError")) ae:=λA Q E s' k q=>by
  unfold isInstance;refine ah (gR (k _ _ h1) ?_);rw[h2];exact l3 _ _ _ _ k q
 refine call_isinstance_of ?_ (λz=>nomatch z);unfold Builtin.«isinstance.nested»;refine ah (gR h1 ?_);rw[h2];refine wpAny_ite ?_;rw[ax (show ¬(ak C==dY "ValueError")=ae from wH)];refine ah (l1 _ _ _ _ (λb o e=>e) ?_);refine wpAny_ite ?_;rw[ap (by decide)];refine ah ?_;refine ah (m:=isType (.type "ValueError")) (l2 _ _ _ _ (λb o e=>e) ?_);refine wpAny_ite ?_;rw[ax (by decide)];refine ah (l4 _ _ _ _ (λb o e=>e) ?_);refine wpAny_ite ?_;rw[ap rfl];exact ao (ao q)
section
variable {X:Cx}{C:Addr}{n:Nat}{e:aV}{es:ik}{pos pos' tpos hpos np:Pos}{Fs:FA}{fr:Bool}{k k':Nat}{f:Addr}{fd:az}{ps:ie}{x y z:Str}{st:aZ}{p:Pos}{ct:FX}
theorem YN:Ao X (.builtin "isinstance") (λxs H Q=>∃a φ,xs=[.ref a,.ty "ValueError"]/\H a=aa (.ext φ)/\(∀h,φ h->UB X.K a h)/\Q (.bl ae) H):=by
 rintro π s σ H xs us Q I r ⟨a,φ,rfl,h1,h2,fin⟩;obtain⟨u,u',rfl,r1,r2⟩:=vals2 r;cases r1;cases r2;obtain⟨oe,C,q1,q2,q3⟩:=h2 _ (I.hok a _ h1).1;exact Vk I.kIn q1 q2 q3 ⟨.bl ae,H,I,rfl,fin⟩
def fIsx(i:Nat):FE:=λρ=>match ρ[i]? with|some .ex=>aa (.nw,.bl ae)|_=>aj
theorem p_isx(i:Nat){p q pe pos:Pos}(hg:Gl X "isinstance")(hm:X.mg "isinstance"=aj)(hgT:Gl X "ValueError")(hmT:X.mg "ValueError"=aj)(hN:X.N[i]?=aa x:=by rfl)(hv:Vis X.env.scope x:=by first|exact aR rfl|exact bH (aR rfl)|exact bH (bH rfl))(hd:(x==("__debug__":Str))=ag:=by decide)
  (hcd:(x==("__classdict__":Str))=ag:=by decide) (hs1:au [.Name "ValueError" q] X.env=[(ag,eval (.Name "ValueError" q) X.env)]:=by rfl)
  (hs:au [.Name x pe,.Name "ValueError" q] X.env=(ag,eval (.Name x pe) X.env)::au [.Name "ValueError" q] X.env:=by rfl):PF X (.Call (.Name "isinstance" p) [.Name x pe,.Name "ValueError" q] [] pos) (fIsx i):=
 (CB YN hg hm boot_isinstance (m9 (Dz hN hv hd hcd) (m9 (pe_ty (T := "ValueError") hgT hmT (by rfl) (by decide) (by decide)) A4 hs1) hs) (by decide) (by decide) hs (by rw[hs1];rfl)).imp fun σ H Q hZ=>by
  obtain⟨ρ,f,d,rs,e0,k⟩:=hZ;unfold fIsx at e0;split at e0
  .rename_i q;cases e0;obtain⟨o,q1,a,φ,rfl,q2,q3⟩:=rs.at_ i _ q;exact⟨.ref a,q1,a,φ,rfl,q2,q3,k _ H (Same.refl H) RpF.b_⟩
  .cases e0
theorem YO{hits:Nat→Bool}{M:Addr}{b₀:Stmt}{suite:List Stmt}{G:FS}(i:Nat)(F:FnOk X.prog X.w X.K X.mg X.base (CX1 X.prog X.w) k f fd ps (spx X.K X.mg fr ct))(D:Df X.K X.mg x st ps f fd)(hr:Room k' X.A)(hg:Gl X x)
    (ha:∀E,PFA (X.wish E) (e::es) Fs) (hgy:Gl X y) (hh:Hit X.K X.mg hits y M) (hsu:∀ea,PFSs (X.caught ea) (b₀::suite) G) (hNd:X.N.Nodup) (hN:X.N[i]?=aa z:=by rfl) (hk:X.env.scope.names.lookup z=aa .local:=by rfl) (hle:k<=k':=by decide) (hdb:(x==("__debug__":Str))=ag:=by decide) (hdy:(y==("__debug__":Str))=ag:=by decide) (hst:au (e::es) X.env=(ag,eval e X.env)::au es X.env:=by rfl) (hpl:(bZ pos (au es X.env)).any (·.1)=ag:=by rfl)
    (hs:cu (.Call (.Name x p) (e::es) [] pos) aj pos'.line X.env=pure ag:=by rfl) (hstk:X.stack=X.env::X.outer:=by rfl) (hfr:X.env.frame=aa X.env.locals:=by rfl) (hex:X.ex=[]:=by rfl) :
    PFS X (.Try [.Expr (.Call (.Name x p) (e::es) [] pos) pos'] [.ExceptHandler (aa (.Name y np)) (aa z) (b₀::suite) hpos] [] [] tpos) (Kz ct Fs hits i G):=by
  rintro π s σ H De I ⟨H₀,ρ,oc,⟨O,rb⟩,e0,k⟩;obtain⟨xs,e1,e2⟩:=bind_some e0;obtain⟨r,q,e3⟩:=bind_some e2;refine Md F D hr hg ha hle hdb hst hpl hs hstk hfr I rb.all e1 q (λd er H' sm=>?_) λn er H1 s1 H' ea C c0 s' J hC sm ho a=>?_
  .subst er;cases e3;exact k σ H' ⟨O,rb.mono sm⟩
  .subst er
   dsimp only at e3;split at e3
   .rename_i hn;obtain⟨oc',e4,e5⟩:=bind_some e3;refine Vi J a hgy hh.gl (hh.hit n C hn hC).1 hdy (codeAny_handlers_suite_as (GI J a λs3 a3=>?_));obtain⟨m1,m2,oe,vs,T,oT,ts,a0,g1,g2,_⟩:=a3.fly;have hne:∀{b:Addr}{o:Obj},s1.heap.get? b=aa o->ea≠b:=λ{b o}z w=>by rw[<-w,m1]at z;cases z
    have It:=(a3.inv.trackX (o:=.ext λh=>∃oe,h.get? ea=aa oe/\oe.cls=.ref C) m2 (by
        cases y:X.s₀.heap.get? ea with
        |none=>rfl
        | some o =>
          obtain⟨o',e'⟩:=J.base.there ea o y (by rw[hex];simp);rw[m1]at e';cases e')
      (by obtain⟨m,⟨o,_,_,ho,_⟩,_⟩:=J.loc;exact hne ho)
      (λx c e=>by obtain⟨v,o,ho,hd⟩:=J.cell x c e;exact(hne ho).symm)
      (λp hp=>(hne (J.pin p hp).1).symm)
      ⟨⟨oe,g1,g2⟩,⟨oe,g1⟩,λh1 h2⟨ob,z1,z2⟩w=>⟨ob,w _ z1,z2⟩⟩).caught ea
    have sm2:Same H' (upd H' ea (.ext λh=>∃oe,h.get? ea=aa oe/\oe.cls=.ref C)):=m6 m2;have rb2:=rb.mono (sm.trans sm2);refine Ge (X:=X.caught ea) (v:=.ref ea) It hNd hN (.inl hk) rfl (λs4 I4=>?_) (.inr hk);refine bt (hsu ea π s4 (σ.set i (aa (.ref ea))) _ { nx:=λσ' H''=>De.nx (σ'.set i aj) H'',rt:=De.rt } I4 ⟨H₀,ρ.set i .ex,oc',RepB.caught ⟨_,rb2.setC (c:=.ex) ⟨ea,λh=>∃oe,h.get? ea=aa oe/\oe.cls=.ref C,rfl,?_,λh z=>?_⟩⟩ ea,e4,?_⟩) (λf s5 w=>?_) λ_ _ w=>w.elim
    .rw[i8 λw=>?_,j6];obtain⟨⟨vs,w2⟩,_⟩:=rb.own ea (B4 ea w);rw[sm _ _ w2]at m2;cases m2
    .obtain⟨oe,z1,z2⟩:=z;exact⟨oe,C,z1,z2,(hh.hit n C hn hC).2⟩
    .cases oc' with
     | nx ρ' =>
       cases e5;refine λσ' H'' w=>?_;obtain⟨O',w⟩:=w.uncaught;exact k _ _ ⟨_,w.setC (c:=.no) (o:=aj) trivial⟩
     |bk ρ'=>cases e5
     |ct ρ'=>cases e5
     |rt f d=>cases e5;exact k
     |ex m=>cases e5
    .cases f with
     | next =>
       obtain⟨σ',H'',I5,w⟩:=w;exact Sf (I5.uncaught I.ok) hNd hN hk λs6 I6=>⟨_,_,I6,w⟩
     | ret u =>
       obtain⟨v,σ',H'',I5,rv,w⟩:=w;exact Sf (I5.uncaught I.ok) hNd hN hk λs6 I6=>⟨v,_,_,I6,rv,w⟩
     |brk=>obtain⟨σ',H'',I5,w⟩:=w;exact w.elim
     |cont=>obtain⟨σ',H'',I5,w⟩:=w;exact w.elim
   .cases e3
end
end L2
end
section
namespace L2
open PySem.W
abbrev FR:=Rho->Option Nat
def upX(X:Cx)(R:FR):TE:=λσ H _=>∃H₀ ρ n,RepB X H₀ H ρ σ/\R ρ=aa n/\∀C,X.mg (exN n)=aa (.ref C)->XOk X H₀ (wk n) C
def PFX(X:Cx)(e:aV)(R:FR):Prop:=PE X e (upX X R)
def Sg(c:FX)(Fs:FA):FR:=λρ=>(Fs ρ).bind λxs=>(c (sndL xs)).bind λr=>match r with|.inl _=>aj|.inr n=>aa n
def sEx(R:FR):FS:=λρ=>(R ρ).map .ex
section
variable {X:Cx}{e a b:aV}{es:ik}{pos pos' p:Pos}{Fs:FA}{R:FR}{fr:Bool}{k k':Nat}{f:Addr}{fd:az}{ps:ie}{x:Str}{st:aZ}{ct:FX}
theorem r_call(F:FnOk X.prog X.w X.K X.mg X.base (CX1 X.prog X.w) k f fd ps (spx X.K X.mg fr ct))(D:Df X.K X.mg x st ps f fd)(hr:Room k' X.A)(hg:Gl X x)
  (ha:PFA X (e::es) Fs) (hle:k<=k':=by decide) (hdb:(x==("__debug__":Str))=ag:=by decide) (hst:au (e::es) X.env=(ag,eval e X.env)::au es X.env:=by rfl) (hpl:(bZ pos (au es X.env)).any (·.1)=ag:=by rfl) :
  PFX X (.Call (.Name x p) (e::es) [] pos) (Sg ct Fs):=by
 rintro π s σ H Q I ⟨H₀,ρ,n,⟨O,rb⟩,e0,k⟩;obtain⟨xs,e1,e2⟩:=bind_some e0;obtain⟨r,q,e3⟩:=bind_some e2;cases r with
 |inl d=>cases e3
 |inr m=>
  cases e3;have go:∀E:XK,Ap (CX1 X.prog X.w) X E->(∀C H' o,X.mg (exN n)=aa (.ref C)->Same H H'->(o=aj\/wk n=ae)->E (.ref C) o H')->ay (model X.prog X.w) X.A (eval (.Call (.Name x p) (e::es) [] pos) X.env) (EP X π σ Q) X.xe s:=λE hp hE=>
    E6 (E:=E) (dvs:=[]) F (hr.mono hle) hg D.mg D.fn.kp D.bd .nil hp ha hdb hst hpl π s σ H Q I ⟨ρ,xs,rb.all,e1,λvs H1 s1 r1=>by
     dsimp only;rw[vd];exact⟨_,.inr n,r1.sh,q,λC H' o hC s' ho=>hE C H' o hC (s1.trans s') ho⟩⟩
  by_cases hC:∃C,X.mg (exN n)=aa (.ref C)
  .obtain⟨C,hC⟩:=hC;obtain⟨E,hE,hp,hr⟩:=k C hC;refine go E hp λC' H' o hC' sm ho=>?_;rw[hC]at hC';cases hC';exact hE H' o (rb.same.trans (l9.trans sm)) ho
  .exact go E0 Vh λC H' o h=>(hC ⟨C,h⟩).elim
theorem s_asgR{i:Nat}(ha:PFX X e R)(hN:X.N.Nodup)(hi:X.N[i]?=aa x)(hx:Loc X.env.scope x)(hs:cu e (aa (.Name x pos')) pos.line X.env=pure ag:=by rfl)(hf:X.fn x=ae\/X.env.scope.names.lookup x=aa .local:=by exact .inl rfl):
  PFS X (.Assign [.Name x pos'] e pos) (sEx R):=(M2 hN hi hx ha hs hf).imp λD σ H⟨H₀,ρ,oc,rb,e0,k⟩=>by
 unfold sEx at e0;cases h:R ρ with
 |none=>rw[h]at e0;cases e0
 |some n=>rw[h]at e0;cases e0;exact⟨H₀,ρ,n,rb,h,k⟩
end
end L2
end
section
namespace L2
section
variable {X:Cx}{x y:Str}{j j2:aV}{Fj Fk:FE}{i iy:Nat}{px px2 spos spos2 pos pos':Pos}
end
end L2
end
section
namespace L2
theorem asn{X:Cx}{e:aV}{Fe:FE}{pos pos':Pos}{x:Str}(i:Nat)(he:PF X e Fe)(hN:X.N.Nodup)(hi:X.N[i]?=aa x:=by rfl)(hx:Loc X.env.scope x:=by exact aR rfl)(hs:cu e (aa (.Name x pos')) pos.line X.env=pure ag:=by rfl)(hf:X.fn x=ae\/X.env.scope.names.lookup x=aa .local:=by exact aR rfl):PFS X (.Assign [.Name x pos'] e pos) (sSet [] i Fe):=O8 (rels:=[]) (w8 he hN hi hx hs hf)
section
variable {X:Cx}{e:aV}{es:ik}{pos p:Pos}{Fs:FA}{r:FB}{x:Str}
theorem p_bu{id:String}(hc:Aw X (.builtin id) r)(hm:X.mg x=aj)(ha:PFA X (e::es) Fs)(hg:Gl X x:=by rfl)(hv:bF x=aa (.builtin id):=by decide +kernel)(hn:x ≠ "__name__":=by decide)(hdb:(x==("__debug__":Str))=ag:=by decide)(hst:au (e::es) X.env=(ag,eval e X.env)::au es X.env:=by rfl)(hpl:(bZ pos (au es X.env)).any (·.1)=ag:=by rfl):
 PF X (.Call (.Name x p) (e::es) [] pos) (fBlt r Fs):=YA hc hg hm hv ha hn hdb hst hpl
theorem p_ty{T:String}(hc:Aw X (.type T) r)(hm:X.mg x=aj)(ha:PFA X (e::es) Fs)(hg:Gl X x:=by rfl)(hv:bF x=aa (.type T):=by decide +kernel)(hn:x ≠ "__name__":=by decide)(hdb:(x==("__debug__":Str))=ag:=by decide)(hst:au (e::es) X.env=(ag,eval e X.env)::au es X.env:=by rfl)(hpl:(bZ pos (au es X.env)).any (·.1)=ag:=by rfl):
 PF X (.Call (.Name x p) (e::es) [] pos) (fBlt r Fs):=UH hc hg hm hv ha hn hdb hst hpl
theorem p_ca{fr:Bool}{k k':Nat}{f:Addr}{fd:az}{ps:ie}{ct:FC}{st:aZ}(F:FnOk X.prog X.w X.K X.mg X.base CX0 k f fd ps (spc X.K fr ct))(D:Df X.K X.mg x st ps f fd)(hr:Room k' X.A)
  (ha:PFA X (e::es) Fs) (hg:Gl X x:=by rfl) (hle:k<=k':=by decide) (hdb:(x==("__debug__":Str))=ag:=by decide) (hst:au (e::es) X.env=(ag,eval e X.env)::au es X.env:=by rfl) (hpl:(bZ pos (au es X.env)).any (·.1)=ag:=by rfl):PF X (.Call (.Name x p) (e::es) [] pos) (f9 fr ct Fs):=
 p_cal F D hr hg ha hle hdb hst hpl
end
section
variable {X:Cx}{a b:aV}{Fa Fb:FE}{pos:Pos}{op:hV}{r:FO}
theorem p_cm(ho:OpF X (bK op) r)(ha:PF X a Fa)(hb:PF X b Fb)(h:op ≠ .In:=by decide)(h2:op ≠ .NotIn:=by decide):PF X (.Compare a [op] [b] pos) (fOp r Fa Fb):=p_cmp ho ha hb (Ul _ h h2)
theorem t_cm(ho:OpF X (bK op) r)(ha:PF X a Fa)(hb:PF X b Fb)(h:op ≠ .In:=by decide)(h2:op ≠ .NotIn:=by decide):PFT X (.Compare a [op] [b] pos) (j9 (fOp r Fa Fb)):=t_cmp ho ha hb (Ul _ h h2)
end
section
variable {X:Cx}{scope:Scope}{x:Str}{tp pos:Pos}{elt iter:aV}{Fi:FI}{Fe:FE}
theorem p_co(N:ie)(nt:Nat)(js:ii)(XN:ie)(xs:List (Str×bN))(hi:PFI X (.Name x tp) iter Fi)(he:∀cl C fp s H,PF (A1 X N scope cl C fp s H) elt Fe)
  (h1:X.N=XN:=by rfl) (h2:X.env.scope.names=xs:=by rfl) (hk:scope.kind=.function:=by rfl) (c:Kw XN xs scope N nt js=ae:=by decide +kernel) (hc:X.calm=ae:=by rfl) (nd:N.Nodup:=by decide +kernel) (h0:N[0]?=aa x:=by rfl) (hl:∀cl C fp s H,(A1 X N scope cl C fp s H).env.scope.names.lookup x=aa .local:=by intro _ _ _ _ _;rfl) (hb:0<nt:=by decide) (hj:∀j∈js,j<XN.length:=by decide)
  (hs:∀x,bX iter X.env x=pure x:=by intro _;rfl):PF X (.ListComp elt [⟨.Name x tp,iter,[],0⟩] scope pos) (k7 nt js Fi (Tg.one 0) fYes Fe):=
 Ks (J5 XN xs h1 h2 hk c) hc hi (λcl C fp s H=>Ai nd h0 (aR (hl cl C fp s H)) (bH (hl cl C fp s H))) hb (λ_ _ _ _ _=>GB) he (λj hj'=>by rw[h1];exact hj j hj') hs
theorem a_co{y:Str}{pos' spos:Pos}(i:Nat)(hN:X.N.Nodup)(N:ie)(nt:Nat)(js:ii)(XN:ie)(xs:List (Str×bN))(hi:PFI X (.Name x tp) iter Fi)(he:∀cl C fp s H,PF (A1 X N scope cl C fp s H) elt Fe)
  (hix:X.N[i]?=aa y:=by rfl) (hx:X.env.scope.names.lookup y=aa .local:=by rfl) (hsw:cu (.ListComp elt [⟨.Name x tp,iter,[],0⟩] scope pos) (aa (.Name y pos')) spos.line X.env=pure ae:=by rfl)
  (h1:X.N=XN:=by rfl) (h2:X.env.scope.names=xs:=by rfl) (hk:scope.kind=.function:=by rfl) (c:Kw XN xs scope N nt js=ae:=by decide +kernel) (hc:X.calm=ae:=by rfl) (nd:N.Nodup:=by decide +kernel) (h0:N[0]?=aa x:=by rfl) (hl:∀cl C fp s H,(A1 X N scope cl C fp s H).env.scope.names.lookup x=aa .local:=by intro _ _ _ _ _;rfl) (hb:0<nt:=by decide) (hj:∀j∈js,j<XN.length:=by decide)
  (hs:∀x,bX iter X.env x=pure x:=by intro _;rfl):AsgF X (.Assign [.Name y pos'] (.ListComp elt [⟨.Name x tp,iter,[],0⟩] scope pos) spos) i (k7 nt js Fi (Tg.one 0) fYes Fe):=
 GE hN hix hx hsw (J5 XN xs h1 h2 hk c) hc hi (λcl C fp s H=>Ai nd h0 (aR (hl cl C fp s H)) (bH (hl cl C fp s H))) hb (λ_ _ _ _ _=>GB) he (λj hj'=>by rw[h1];exact hj j hj') hs
end
theorem p_i{X:Cx}{a b:aV}{Fa Fb:FE}{pos:Pos}(ha:PF X a Fa)(hb:PF X b Fb)(hs:Ki b:=by exact λ_ _=>rfl):PF X (.Subscript a b pos) (fAt Fa Fb):=p_ix ha hb hs
theorem Df.d{P:aN}{w:aP}{K:aE}{mg:aF}{base:aX}{x:Str}{st:aZ}{f:Addr}{fd:az}{N ps:ie}{np nn:Nat}{fr:Bool}(D:Df K mg x st ps f fd)(k:Nat)(F:FS)(S:FnScope N ps (d7 st))
 (body:∀{cdv:Value} {A:Around} {outer:List Env} {s:Shared} {H:Hp} {E:XK},Room k (A.deeper (envOfC x (d7 st) s.heap.objs.size f cdv))→(A.deeper (envOfC x (d7 st) s.heap.objs.size f cdv)).units+64<cLine →
  PFSs (cxOf CX0 P w K mg base N x (d7 st) f cdv A outer s H E).nox (A3 st) F) (hp:np=ps.length:=by rfl) (hn:nn=N.length:=by rfl):FnOk P w K mg base CX0 (k+1) f fd ps (spc K fr (cOf np nn fr F)):=Fun.dat D.fn S hp hn λcdv A outer s H E hr=>body hr hr.units
theorem q_n{X:Cx}{x:Str}{pos:Pos}{es:ik}{Fs:FA}(i:Nat)(hr:PFA X es Fs)(hN:X.N[i]?=aa x:=by rfl)(hv:Vis X.env.scope x:=by first|exact aR rfl|exact bH (aR rfl)|exact bH (bH rfl))(hd:(x==("__debug__":Str))=ag:=by decide)(hcd:(x==("__classdict__":Str))=ag:=by decide)(hs:au (.Name x pos::es) X.env=(ag,eval (.Name x pos) X.env)::au es X.env:=by rfl):PFA X (.Name x pos::es) (b8 (fN i) Fs):=f7 (b9 i hN hv hd hcd) hr hs
end L2
end
section
namespace L2
end L2
end
section
local macro_rules|`(tactic|rfl')=>`(tactic|first|lia|omega +splitDisjunctions)
set_option maxHeartbeats 2000000
namespace L2
section
variable {α β:Type}
def insK(p:Int×α):List (Int×α)->List (Int×α)
 |[]=>[p]
 |q::qs=>if p.1<=q.1 then p::q::qs else q::insK p qs
def Q1:List (Int×α)->List (Int×α)
 |[]=>[]
 |p::ps=>insK p (Q1 ps)
theorem DG(p:Int×α):∀qs:List (Int×α),(insK p qs).Perm (p::qs)
 |[]=>cF _
 |q::qs=>by
  unfold insK;split
  .exact cF _
  .exact((DG p qs).cons q).trans (List.Perm.swap p q qs)
theorem J7:∀ps:List (Int×α),(Q1 ps).Perm ps
 |[]=>cF _
 |p::ps=>(DG p _).trans ((J7 ps).cons p)
abbrev Le(p q:Int×α):Prop:=p.1<=q.1
theorem EK(p:Int×α):∀qs:List (Int×α),qs.Pairwise Le->(insK p qs).Pairwise Le
 |[],_=>List.pairwise_singleton _ _
 |q::qs,h=>by
  obtain⟨h1,h2⟩:=vc.mp h;unfold insK;split
  .rename_i hle;exact vc.mpr ⟨λx hx=>by
     rcases wg.mp hx with rfl|hx
     .exact hle
     .exact Int.le_trans hle (h1 x hx),h⟩
  .rename_i hle;refine vc.mpr ⟨λx hx=>?_,EK p qs h2⟩;rcases wg.mp ((DG p qs).mem_iff.mp hx)with rfl|hx
   .show q.1<=x.1;rfl'
   .exact h1 x hx
theorem Z0:∀ps:List (Int×α),(Q1 ps).Pairwise Le
 |[]=>cT
 |p::ps=>EK p _ (Z0 ps)
theorem Me(g:α->β)(p:Int×α):∀qs:List (Int×α),insK (p.1,g p.2) (qs.map λq=>(q.1,g q.2))=(insK p qs).map λq=>(q.1,g q.2)
 |[]=>rfl
 |q::qs=>by
  rw[wj];unfold insK;by_cases h:p.1<=q.1
  .rw[ap h,ap h];rfl
  .rw[ax h,ax h,wj,Me g p qs]
theorem Bg(g:α->β):∀ps:List (Int×α),Q1 (ps.map λq=>(q.1,g q.2))=(Q1 ps).map λq=>(q.1,g q.2)
 |[]=>rfl
 |p::ps=>by rw[wj,Q1,Q1,Bg g ps,Me g p]
theorem GJ:∀{xs ys:List (Int×α)},xs.Perm ys->xs.Pairwise Le->ys.Pairwise Le->(xs.map (·.1)).Nodup->xs=ys
 |[],ys,p,_,_,_=>(List.Perm.nil_eq p)
 |x::xs,[],p,_,_,_=>by have:=p.length_eq;simp at this
 | x::xs,y::ys,p,h1,h2,nd=>by
  obtain⟨a1,a2⟩:=vc.mp h1;obtain⟨b1,b2⟩:=vc.mp h2;have nd':(x.1::xs.map (·.1)).Nodup:=nd;obtain⟨n1,n2⟩:=vf.mp nd';have hx:x∈y::ys:=p.mem_iff.mp wd;have hy:y∈x::xs:=p.mem_iff.mpr wd
  have exy:x=y:=by
   rcases wg.mp hx with e|hx
   .exact e
   .rcases wg.mp hy with e|hy
    .exact e.symm
    .have l1:x.1<=y.1:=a1 y hy;have l2:y.1<=x.1:=b1 x hx;have e:x.1=y.1:=()
     exact aW (wl.mpr ⟨y,hy,e.symm⟩) n1
  subst exy;rw[GJ (p.cons_inv) a2 b2 n2]
end
section
variable {X:Cx}{π:aB}{σ:St}{H:Hp}{s:Shared}
theorem Inv.track{D:Addr}{its:aG}{ys:iD}{n:Nat}(I:Inv X π σ H s)(hD:H D=aj)(f:FpOk X π H D)(hn:X.s₀.heap.objs.size<=D)(ho:s.heap.get? D=aa { cls:=.type "list",data:=.seq its.toArray n })(hv:Vals ys its)(hz:ys.length<=sizeLine):
   Inv X π σ (upd H D (.lst ys)) s:=by
 obtain⟨f0,f1,f2,f3,f4,f5⟩:=f;have ne:∀b o,X.s₀.heap.get? b=aa o->b≠D:=λb o e z=>by
   subst z;exact aW (wt (wm e) hn) (wR _)
 have nH:∀b o,H b=aa o->b≠D:=λb o e z=>by rw[z,hD]at e;cases e
 refine⟨I.ok,I.os,I.bare,⟨I.base.keep,I.base.slot,λb o e q hx=>?_,I.base.there,λb xs e=>?_,λb o u e=>?_,λb ps _ e=>?_⟩,I.loc,I.cell,?_,λx c e=>?_,λp hp=>?_,λa o e=>?_,I.len⟩
 .rw[i7 (ne b o e)];exact I.base.free b o e q hx
 .have:=I.base.tups b xs e;rw[i7 (nH b _ this)];exact this
 .have:=I.base.frzs b o u e;rw[i7 (nH b _ this)];exact this
 .have this:=I.base.tbls b ps _ e;rw[i7 (nH b _ this)];exact this
 .rw[i7 (bQ f1)];exact I.free
 .rw[i7 (f4 x c e)];exact I.freeC x c e
 .obtain⟨q1,q2,q3⟩:=I.pin p hp;exact⟨q1,by rw[i7 (f5 p hp)];exact q2,q3⟩
 .by_cases z:a=D
  .subst z;rw[j6]at e;cases e;exact⟨hz,its,n,hv,ho⟩
  .rw[i7 z]at e;refine(I.hok a o e).stay (λb u _ q=>q) (λb q=>?_) (λb xs q=>?_) (λb _ _ q=>?_)
   .rw[i7 (nH b _ q)];exact q
   .rw[i7 (nH b _ q)];exact q
   .rw[i7 (nH b _ q)];exact q
theorem ns_inj{h:aX}{a:Addr}{m m':aF}(p:h.Ns a m)(q:h.Ns a m'):m=m':=by
 obtain⟨o,es,ep,e,d,_,f⟩:=p;obtain⟨o',es',ep',e',d',_,f'⟩:=q;rw[e]at e';cases e';rw[d]at d';cases d'
 funext x
 rw[<-f x,<-f' x]
def GK(base:aX)(L a b:Addr)(h:aX):aB:=(aT h.objs.size).filterMap λc=>match h.get? c with
 |some o=>if base.get? c=aj/\c≠L/\c≠a/\c≠b then aa (c,o) else aj
 |none=>aj
theorem NX{base:aX}{L a b c:Addr}{h:aX}{o:Obj}(e:h.get? c=aa o)(h1:base.get? c=aj)(h2:c≠L)(h3:c≠a)(h4:c≠b):(c,o)∈GK base L a b h:=
 vC.mpr ⟨c,wQ.mpr (wm e),by rw[e];simp[h1,h2,h3,h4]⟩
theorem DH{base:aX}{L a b:Addr}{h:aX}{p:Addr×Obj}(hp:p∈GK base L a b h):h.get? p.1=aa p.2/\base.get? p.1=aj/\p.1≠L/\p.1≠a/\p.1≠b:=by
 obtain⟨c,hc,e⟩:=vC.mp hp;cases q:h.get? c with
 |none=>rw[q]at e;cases e
 |some o=>
  rw[q]at e;dsimp only at e;split at e
  .rename_i hh;cases e;exact⟨q,hh⟩
  .cases e
theorem Inv.turnedN{h':aX}{t':Nat}{ch:ig}{m:aF}(I:Inv X π σ H s)(hm:s.heap.Ns X.env.locals m)(hm':h'.Ns X.env.locals m)(hl:∃o,h'.get? X.env.locals=aa o)(k:∀b o,b∉ch->b≠X.env.locals->s.heap.get? b=aa o->h'.get? b=aa o)(hc:∀b∈ch,FpOk X π H b):
   Inv X π σ H { s with heap:=h',toks:=t' }:=by
 have nit:∀b u,H b=aa u->b∉ch:=λb u e z=>by rw[(hc b z).1]at e;cases e
 have nL:∀b u,H b=aa u->b≠X.env.locals:=λb u e z=>by rw[z,I.free]at e;cases e
 refine I.step (g':=s.gens) (d':=s.drawn) (ch:=ch) (λb hb=>?_) (λb o nl _ hn e _=>k b o hn nl e) (λb o nl _ hn e _=>⟨o.slots,k b o hn nl e⟩) (λ_ _ _ _ n=>n)
   (λb o hn e=>?_) (λ_ _ e=>e) (λ_ _ _ e=>e) (λ_ _ _ e=>e) (λm' hm2=>by rw[<-ns_inj hm hm2];exact hm') (λb u e=>?_) I.bare
 .obtain⟨f0,f1,f2,f3,f4,f5⟩:=hc b hb;exact⟨f3,f1,f4,f5⟩
 .by_cases z:b=X.env.locals
  .subst z;exact hl
  .exact⟨o,k b o hn z e⟩
 .refine(I.hok b u e).stay (λc v hcc q=>k c v ?_ ?_ q) (λ_ q=>q) (λ_ _ q=>q) λ_ _ _ q=>q
  .rcases hcc with z|z
   .rw[z];exact nit b u e
   .exact nit c _ z
  .rcases hcc with z|z
   .rw[z];exact nL b u e
   .exact nL c _ z
end
def P5(c:FC):iC->Option (aH)
 |[]=>aa []
 |d::ds=>(c [d]).bind λr=>(intD r).bind λi=>(P5 c ds).map (i::·)
theorem BZ{c:FC}:∀{ds:iC}{ks:aH},P5 c ds=aa ks->ks.length=ds.length
 |[],ks,h=>by cases h;rfl
 |d::ds,ks,h=>by
  obtain⟨r,_,h⟩:=bind_some h;obtain⟨i,_,h⟩:=bind_some h;cases q:P5 c ds with
  |none=>rw[q]at h;cases h
  |some js=>rw[q]at h;cases h;rw[wp,wp,BZ q]
theorem GL{c:FC}:∀{ds:iC}{ks:aH}{j:Nat}{d:Dt}{k:Int},P5 c ds=aa ks->ds[j]?=aa d->ks[j]?=aa k->c [d]=aa (.int k)
 |[],ks,j,d,k,h,e,_=>by simp at e
 | a::ds,ks,j,d,k,h,e,e'=>by
  obtain⟨r,h1,h⟩:=bind_some h;obtain⟨i,h2,h⟩:=bind_some h;cases q:P5 c ds with
  |none=>rw[q]at h;cases h
  | some js =>
   rw[q]at h;cases h;cases j with
   |zero=>
    simp at e e';subst e;subst e';rw[h1,CN h2]
   |succ j=>exact GL q (by simpa using e) (by simpa using e')
section
variable {X:Cx}{π:aB}{σ:St}{H:Hp}{s:Shared}{k:Nat}{f:Addr}{fd:az}{p:Str}{fr:Bool}{ct:FC}{l:Addr}{vs:iD}{ds:iC}{ks:aH}{Q:VK}
theorem YQ{H1:Hp}{s1:Shared}{d:Dt}{v:V}{u:Value}{n:Int}(F:FnOk X.prog X.w X.K X.mg X.base CX0 k f fd [p] (spc X.K fr ct))(hr:Room (k+2) X.A)(hb:Binds X.K fd [p] [])(I:Inv X π σ H1 s1)(r:RelV v u)(rd:Rp X.K emp d H1 v)(hc:ct [d]=aa (.int n))
  {P:aC} {E:aC} (q:∀t H2 s2,Inv X π σ H2 s2->Same H1 H2->(∀b o,s1.heap.get? b=aa o->H1 b=aj->b∉frs X.stack->s2.heap.get? b=aa o/\H2 b=aj)->P (.int n t) s2):ay (model X.prog X.w) X.A.in1.in1 (call (.ref f) [u]) P E s1:=by
 have hr2:Room k X.A.in1.in1:=(show Room (k+1+1) X.A from hr).in1.in1;refine gA (dE (F.run X.A.in1.in1 X.stack s1 H1 ⟨[u],[]⟩ [u] [v] (λw H2=>w=.int n/\Same H1 H2) E0 hr2 I.env0.in1.in1 (hb s1 [u] I.kIn rfl) (.cons r .nil) ⟨[d],_,Rps.one rd,hc,λw H2 sm rw'=>⟨by cases fr<;>exact Rp.int_.mp rw',sm⟩⟩) λres s2 hres=>?_);cases res with
 |error e=>exact hres.elim
 | ok fl =>
  cases fl with
  |ret w=>
   obtain⟨x,H2,os,bare,un,hok,rw',ex,sm⟩:=hres;subst ex;obtain⟨t,rfl⟩:=rw';exact q t H2 s2 (I.call' (ch:=[]) os un hok bare λb hb=>aW hb (by simp)) sm λb o e hn hf=>⟨un.keep b o e hn hf (by simp),un.free b o e hn (by simp)⟩
  |next=>exact hres.elim
  |brk=>exact hres.elim
  |cont=>exact hres.elim
theorem KA(I:Inv X π σ H s){b:Addr}(hb:b∈frs X.stack):b<s.heap.objs.size:=by
 obtain⟨_,o,e,_⟩:=I.stack.mem hb;exact wm e
theorem Tn{D kS:Addr}{e1:Nat}{its:List Value}{P:PySem.Fin→Shared→Prop}{E:Value→Shared→Prop}(F:FnOk X.prog X.w X.K X.mg X.base CX0 k f fd [p] (spc X.K fr ct))(hr:Room (k+2) X.A)(hb:Binds X.K fd [p] [])(I:Inv X π    σ H s)(rv:Vals vs its)(rs:Rps X.K emp ds H vs)(hk:P5 ct ds=some ks)(h64:ds.length<64)
  (hD:s.heap.get? D=aa (bh "list" #[] e1)) (hS:s.heap.get? kS=aa (bh "list" #[] 0)) (nDS:kS≠D) (fD:FpOk X π H D) (fS:FpOk X π H kS) (gD:D∉frs X.stack) (gS:kS∉frs X.stack) (sD:X.s₀.heap.objs.size<=D) (sS:X.s₀.heap.objs.size<=kS)
  (q:∀H2 s2(out:aG)c,Inv X π σ H2 s2->Same H H2->H2 D=aj->s2.heap.get? D=aa (bh "list" out.toArray c)->KskOut ag ks its out->P (.done (.ret .none)) s2) :
  ay (model X.prog X.w) X.A.in1.in1 (ksk_rest D (.ref f) ag its.toArray e1 (.ref kS)) P E s:=by
 have hlen:=BZ hk;have l1:=rs.length;have l2:=rv.length;unfold ksk_rest;refine ah (cB ?_);rw[w0E];refine ah (ksk_fold (λi s'=>∃H1 kA e,Inv X π σ H1 s'/\Same H H1/\H1 D=aj/\H1 kS=aj/\s'.heap.get? D=aa (bh "list" #[] e1)/\s'.heap.get? kS=aa (bh "list" kA e)/\cR kA.toList (ks.take i)) its 0 s
  ⟨H,#[],0,I,Same.refl H,fD.1,fS.1,hD,hS,by simpa using IntsAre.nil⟩ ?step ?done)
 case step=>
  rintro j u s' hu ⟨H1,kA,e,I1,sm,d1,d2,o1,o2,hka⟩;simp only[vR]at hka|-;have hj:j<its.length:=(wr.mp hu).1;obtain⟨n,hn⟩:∃n,ks[j]?=aa n:=⟨_,wa ()⟩;obtain⟨d,hd⟩:∃d,ds[j]?=aa d:=⟨_,wa ()⟩;obtain⟨v,hv,rd⟩:=rs.get hd;obtain⟨u',hu',ru⟩:=rv.get hv;rw[hu]at hu';cases hu';have hz:kA.size<=its.length:=by
    have h1:=hka.length;rw[aq,vg]at h1;rfl'
  refine ah (cH (YQ F hr hb I1 ru (Rp.mono _ sm rd) (GL hk hd hn) λt H2 s2 I2 sm2 kk=>?_));obtain⟨p1,p2⟩:=kk D _ o1 d1 gD;obtain⟨p3,p4⟩:=kk kS _ o2 d2 gS
  try dsimp only
  have sb:=bL s2.heap kS (bj (·.push (.int n t)));have g2:=dC p3 (·.push (.int n t));have ek:ks.take (j+1)=ks.take j++[n]:=by rw[uA,hn];simp
  have ea:(kA.push (cO n t)).toList=kA.toList++[cO n t]:=by simp
  refine ah (cS p3 rfl ?_ (by rw[bv];rfl') (wu (w0J (Array.size_push ..)) (by rw[bv];rfl')));have fS2:FpOk X π H2 kS:=⟨p4,fS.2⟩;refine ao ⟨rfl,H2,kA.push (.int n t),_,I2.turnedL (t':=s2.toks) (ch:=[kS]) (λb o hb e=>(sb.2 b (by simpa using hb)).trans e) (λb hb=>by rw[wv.mp hb];exact fS2),sm.trans sm2,p2,p4,(sb.2 D (bQ nDS)).trans p1,g2,by rw[ea,ek];exact ksk_snoc hka⟩
 case done =>
  rintro s' ⟨H1,kA,e,I1,sm,d1,d2,o1,o2,hka⟩;have hk':cR kA.toList ks:=by
    rw[vm ()]at hka;exact hka
  try dsimp only
  refine ah (bE o2 rfl ?_);obtain⟨m,hfr⟩:=I1.fr;have fD1:FpOk X π H1 D:=⟨d1,fD.2⟩;have fS1:FpOk X π H1 kS:=⟨d2,fS.2⟩;have bD:X.base.get? D=aj:=vD (wu I.ok.bsz sD);have bS:X.base.get? kS=aj:=vD (wu I.ok.bsz sS);refine ksk_end_ (e:=e) (news:=GK X.base X.env.locals kS D s'.heap) hfr (λz hz=>?_) nDS (λz hz=>(DH hz).2.2.2.1) (λz hz=>(DH hz).2.2.2.2) hk' () () λh' tk out c F' N' ko=>?_
  .rcases wn.mp hz with hz|hz
   .obtain⟨z1,z2,z3,_⟩:=DH hz;exact⟨z1,z3,z2⟩
   .rcases wg.mp hz with rfl|hz
    .exact⟨o2,fS1.2.1,bS⟩
    .rw[wv.mp hz];exact⟨o1,fD1.2.1,bD⟩
  .have nd:=N' (D,bh "list" out c) wd;refine q H1 _ out.toList c (I1.turnedN (t':=tk) (ch:=[kS,D]) hfr.ns F'.ns (by obtain⟨o,_,_,e,_⟩:=F'.ns;exact⟨o,e⟩) (λb o hb hl eb=>?_) (λb hb=>?_)) sm d1 nd.1 ko
   .have hb2:b≠kS/\b≠D:=by simpa using hb
    cases z:X.base.get? b with
    | some o' =>
      have e2:=I1.bk b o' z;rw[eb]at e2;cases e2;exact F'.keep b _ z
    |none=>exact(N' _ (wb _ (NX eb z hl hb2.1 hb2.2))).1
   .rcases wg.mp hb with rfl|hb
    .exact fS1
    .rw[wv.mp hb];exact fD1
theorem To{D:Addr}{n0:Nat}{its:aG}{P:PySem.Fin->Shared->Prop}{E:aC}(F:FnOk X.prog X.w X.K X.mg X.base CX0 k f fd [p] (spc X.K fr ct))(hr:Room (k+2) X.A)(hb:Binds X.K fd [p] [])(I:Inv X π σ H s)(rv:Vals vs its)(rs:Rps X.K emp ds H vs)(hk:P5 ct ds=aa ks)(h64:ds.length<64)
  (hD:s.heap.get? D=aa (bh "list" its.toArray n0)) (fD:FpOk X π H D) (gD:D∉frs X.stack) (sD:X.s₀.heap.objs.size<=D)
  (q:∀H2 s2(out:aG)c,Inv X π σ H2 s2->Same H H2->H2 D=aj->s2.heap.get? D=aa (bh "list" out.toArray c)->KskOut ag ks its out->P (.done (.ret .none)) s2) :
  ay (model X.prog X.w) X.A.in1.in1 (ksk_tree D (.ref f) ag) P E s:=by
 have l1:=rs.length;have l2:=rv.length;have hlt:D<s.heap.objs.size:=wm hD;unfold ksk_tree;refine ah (bE hD rfl ?_);have sb:=bL s.heap D (bj λ_=>(#[]:iu));have o1:=dC hD λ_=>(#[]:iu);refine ah (cS hD rfl ?_ (by rw[wq,bv];rfl') (wy _));have I1:Inv X π σ H { s with heap:=s.heap.update D (bj λ_=>(#[]:iu)) }:=I.turnedL (t':=s.toks) (ch:=[D]) (λb o hb e=>(sb.2 b (by simpa using hb)).trans e) (λb hb=>by rw[wv.mp hb];exact fD);refine ah (fU o1 rfl ?_);refine ah (fX ?_ (by show its.length<=_;rw[bv];rfl'));refine ah (eB ?_ (wy _));refine cj ?_;generalize hg:s.heap.update D (bj λ_=>(#[]:iu))=g at *;have zg:g.objs.size=s.heap.objs.size:=sb.1;have I2:Inv X π σ H { s with heap:=(g.push (bh "tuple" its.toArray 0)).push (bh "list" #[] 0) }:=I1.kept (t':=s.toks) λb o e=>wc _ (wc _ e);have zk:(g.push (bh "tuple" its.toArray 0)).objs.size=g.objs.size+1:=size_push' _ _;have ge:s.heap.objs.size<=(g.push (bh "tuple" its.toArray 0)).objs.size:=()
 refine Tn (s:={ s with heap:=(g.push (bh "tuple" its.toArray 0)).push (bh "list" #[] 0) }) (kS:=(g.push (bh "tuple" its.toArray 0)).objs.size) F hr hb I2 rv rs hk h64 (wc _ (wc _ o1)) (wo _ rfl) (vQ (wt hlt ge)) fD (I.fpOk ge (I.hok.fresh ge)) gD (λz=>?_) sD (wu I.sz ge) q;exact aW (wt (KA I z) ge) (wR _)
theorem NY(F:FnOk X.prog X.w X.K X.mg X.base CX0 k f fd [p] (spc X.K fr ct))(hr:Room (k+2) X.A)(hb:Binds X.K fd [p] [])(I:Inv X π σ H s)(hl:H l=aa (.lst vs))(rs:Rps X.K emp ds H vs)(hk:P5 ct ds=aa ks)(h64:ds.length<64)(nd:ks.Nodup)
  (q:∀D H2 ys,Same H H2->H2 D=aj->Rps X.K emp ((Q1 (ks.zip ds)).map (·.2)) H2 ys->Q (.ref D) (upd H2 D (.lst ys))) :
  ay (model X.prog X.w) X.A (call (.builtin "sorted") [.ref l] [(bw "key",.ref f)]) (EP X π σ Q) X.xe s:=by
 obtain⟨its,rv,pl,hz⟩:=I.list (SqL.of (K:=X.K) hl);have l1:=rs.length;have l2:=rv.length;have l3:=BZ hk;refine call_function_entry_kw kind_sorted plain_sorted entry_sorted (ksk_s1 _ _) ?_;unfold Builtin.«sorted»;refine ah (m:=checkCount "sorted" 1 1 _) (ao ?_);refine ah (collect_list pl.isList ?_ (by rw[bv];rfl'));refine ah (eB ?_ (by rw[bv];rfl'));generalize hg:(s.heap.push (bh "list" #[] 0)).update s.heap.objs.size (bj (·++its.toArray))=g;have zg:g.objs.size=s.heap.objs.size+1:=by rw[<-hg,w06,size_push']
 have kg:∀b o,s.heap.get? b=aa o->g.get? b=aa o:=λb o e=>by
  have hlt:=wm e;rw[<-hg,uU _ _ _ _ (wD hlt),uz _ _ _ (wD hlt)];exact e
 have I1:Inv X π σ H { s with heap:=g.push (bh "list" its.toArray 0) }:=I.kept (t':=s.toks) λb o e=>wc _ (kg b o e);have oD:(g.push (bh "list" its.toArray 0)).get? g.objs.size=aa (bh "list" its.toArray 0):=wo _ rfl;have ge:s.heap.objs.size<=g.objs.size:=()
 refine ah (cj (wpAny_call_entry_kw slot_list_sort ⟨_,oD,rfl⟩ entry_list_sort ?body (ksk_l1 _ _)))
 case body =>
  show ay (model X.prog X.w) X.A.in1.in1 (Builtin.«list.sort» ⟨[.ref g.objs.size],[(bw "key",.ref f)]⟩) _ _ _;rw[ksk_t1];refine To (s:={ s with heap:=g.push (bh "list" its.toArray 0) }) F hr hb I1 rv rs hk h64 oD (I.fpOk ge (I.hok.fresh ge)) (λz=>aW (wt (KA I z) ge) (wR _)) (wu I.sz ge) λH2 s2 out c I2 sm d2 o2⟨ps,pp,eo,so⟩=>⟨_,rfl,?_⟩;refine ao ⟨_,rfl,?_⟩;have key:∃ts:List (Int×(Dt×(V×Value))),(ts.map λt=>(t.1,t.2.2.2))=ps/\(ts.map λt=>(t.1,t.2.1))=Q1 (ks.zip ds)/\∀t∈ts,Rp X.K emp t.2.1 H t.2.2.1/\RelV t.2.2.1 t.2.2.2:=by
   refine⟨Q1 (ks.zip (ds.zip (vs.zip its))),?_,?_,λt ht=>?_⟩
   .have e1:ks.zip its=(ks.zip (ds.zip (vs.zip its))).map λt=>(t.1,t.2.2.2):=by
     apply ue
     .simp;rfl'
     .intro i h1 h2;simp
    rw[<-Bg (λz:Dt×(V×Value)=>z.2.2),<-e1];refine GJ ((J7 _).trans pp.symm) (Z0 _) (so.imp λh=>by simpa using h) ?_;have:((Q1 (ks.zip its)).map (·.1)).Perm ks:=((J7 (ks.zip its)).map _).trans (by rw[w07 ()]);exact this.nodup_iff.mpr nd
   .have e1:ks.zip ds=(ks.zip (ds.zip (vs.zip its))).map λt=>(t.1,t.2.1):=by
     apply ue
     .simp;rfl'
     .intro i h1 h2;simp
    rw[<-Bg (λz:Dt×(V×Value)=>z.1),<-e1]
   .have ht:=(J7 _).mem_iff.mp ht;obtain⟨i,hi,e⟩:=wI ht;simp at hi;subst e;simp only[vt];obtain⟨v,e1,r1⟩:=rs.get (i:=i) (wa ());obtain⟨u,e2,r2⟩:=rv.get e1;rw[wa ()]at e1 e2;cases e1;cases e2;exact⟨r1,r2⟩
  obtain⟨ts,k1,k2,k3⟩:=key;have ev:Vals (ts.map λt=>t.2.2.1) out:=by
   rw[eo,<-k1,wK];clear k1 k2 eo
   induction ts with
   |nil=>exact .nil
   |cons t ts ih=>exact .cons (k3 t wd).2 (ih λz hz=>k3 z (wb _ hz))
  have er:Rps X.K emp ((Q1 (ks.zip ds)).map (·.2)) H (ts.map λt=>t.2.2.1):=by
   rw[<-k2,wK];clear k1 k2 eo ev
   induction ts with
   |nil=>exact Rps.nil_.mpr rfl
   |cons t ts ih=>exact Rps.cons_.mpr ⟨_,_,rfl,(k3 t wd).1,ih λz hz=>k3 z (wb _ hz)⟩
  have lt:(ts.map λt=>t.2.2.1).length<=sizeLine:=by
   rw[we,<-we (f:=λt:Int×(Dt×(V×Value))=>(t.1,t.2.1)),k2,(J7 _).length_eq,vy,bv];rfl'
  exact⟨.ref g.objs.size,_,I2.track d2 ⟨d2,(I.fpOk ge (I.hok.fresh (H:=H) ge)).2⟩ (wu I.sz ge) (by simpa using o2) ev lt,rfl,q _ _ _ sm d2 (Rps.mono _ sm er)⟩
end
section
variable {X:Cx}{a:aV}{Fa:FE}{k:Nat}{f:Addr}{fd:az}{prm:Str}{fr:Bool}{ct:FC}{x:Str}{p pos kp kpos:Pos}
def Ca(c:FC)(F:FE):FE:=λρ=>(F ρ).bind λx=>(lstD x.2).bind λds=>(P5 c ds).bind λks=>if ds.length<64/\ks.Nodup then aa (newL ((Q1 (ks.zip ds)).map (·.2))) else aj
theorem YR(F:FnOk X.prog X.w X.K X.mg X.base CX0 k f fd [prm] (spc X.K fr ct))(hr:Room (k+2) X.A)(hg:Gl X "sorted")(hm:X.mg "sorted"=aj)(hf:X.mg x=aa (.ref f))(hgf:Gl X x)(hb:Binds X.K fd [prm] [])(ha:PF X a Fa)(hd:(x==("__debug__":Str))=ag:=by decide)(hs:au [a] X.env=[(ag,eval a X.env)]:=by rfl):
   PF X (.Call (.Name "sorted" p) [a] [⟨aa "key",.Name x kp,kpos⟩] pos) (Ca ct Fa):=by
 intro π s σ H Q I ⟨ρ,fz,dz,rs,e0,kk⟩;obtain⟨⟨fa,da⟩,ea,e1⟩:=bind_some e0;obtain⟨ds,ed,e2⟩:=bind_some e1;obtain⟨ks,ek,e3⟩:=bind_some e2;split at e3
 .rename_i hh;cases e3;have hA:PA X [a] (upAs X (b8 Fa fNil)):=f7 ha e9 hs;refine bU (V4 I hg hm (by decide +kernel:bF "sorted"=aa (.builtin "sorted")) ?_);refine gZ (thn (hA pos π s σ H (λvs H1=>Same H H1/\∃va,vs=[va]/\Rp X.K emp da H1 va) I ⟨ρ,[(fa,da)],rs,by simp[b8,fNil,ea],λvs H1 s1⟨va,r1,ee1,q1,q3⟩=>⟨s1,va,by rw[ee1,show r1=[]from q3],q1.sh⟩⟩) λus s1⟨vs,H1,I1,rv,s1H,va,ev,ra⟩=>?_) (by rw[hs];rfl) (by rw[hs];rfl) rfl rfl;subst ev;obtain⟨ua,rfl,rua⟩:=rv.one;have hkw:=Kg (X:=X) (nm:=aa "key") (kpos:=kpos) (RG (v:=V.ref f) (pos:=kp) hgf hf rfl hd) NK;refine thn (hkw pos π s1 σ H1 (λzs H2=>zs=[.ref f]/\H2=H1) I1 ⟨rfl,rfl⟩) ?_;rintro kvs s2 ⟨zs,H2,I2,rz,ez,eH⟩;subst ez;subst eH;obtain⟨uk,rfl,ruk⟩:=rz.one;cases ruk;have ex:∃l vs,va=.ref l/\H2 l=aa (.lst vs)/\Rps X.K emp ds H2 vs:=by
   cases da<;>first|cases ed|skip
   obtain⟨l,vs,e,_,h1,h2⟩:=ra.items;exact⟨l,vs,e,h1,h2⟩
  obtain⟨l,vs,rfl,h1,h2⟩:=ex;cases rua;refine NY F hr hb I2 h1 h2 ek hh.1 hh.2 λD H3 ys sm d3 r3=>kk _ _ (s1H.trans (sm.trans (m6 d3))) ?_;exact(CI d3 r3).early (s1H.trans sm)
 .cases e3
end
end L2
end
section
namespace L2
section
variable {κ:Type}[DecidableEq κ]
def valV(kvs:List (κ×V))(k:κ):Option V:=(kvs.find? λkv=>decide (kv.1=k)).map (·.2)
def putK(kvs:List (κ×V))(k:κ)(v:V):List (κ×V):=
 if(kvs.any λkv=>decide (kv.1=k))=ae then kvs.map (λkv=>if kv.1=k then(kv.1,v) else kv) else kvs++[(k,v)]
theorem GM{p:κ×V}{r:List (κ×V)}{k:κ}(e:p.1=k):valV (p::r) k=aa p.2:=by simp[valV,uR,e]
theorem GN{p:κ×V}{r:List (κ×V)}{k:κ}(e:¬p.1=k):valV (p::r) k=valV r k:=by simp[valV,uR,e]
theorem GO(k:κ):∀kvs:List (κ×V),(kvs.any λkv=>decide (kv.1=k))=(valV kvs k).isSome
 |[]=>rfl
 |p::r=>by
  rw[List.any_cons];by_cases e:p.1=k
  .simp only[GM e,aI e,Bool.true_or,w0C]
  .rw[GN e,aK e,Bool.false_or];exact GO k r
theorem Mf(kvs:List (κ×V))(k:κ)(v:V):(putK kvs k v).length<=kvs.length+1:=by
 unfold putK;split
 .rw[we];rfl'
 .rw[wz,wp,w14];rfl'
theorem Vl{kvs:List (κ×V)}{k:κ}(v:V)(h:valV kvs k=aj):putK kvs k v=kvs++[(k,v)]:=by
 unfold putK;rw[GO,h];exact ax (by decide)
theorem RelO.isSome_eq{o:Option V}{u:iA}(r:RelO o u):o.isSome=u.isSome:=by
 cases o with
 |none=>cases u with
  |none=>rfl
  |some _=>exact(show False from r).elim
 |some _=>cases u with
  |none=>exact(show False from r).elim
  |some _=>rfl
end
theorem kV_is{P:aN}{w:aP}{k:Key}{u:Value}(r:RelV (kV k) u):(J0 P w).is k u=ae:=by
 cases k with
 |inl i=>obtain⟨t,e⟩:=(show ∃t,u=cO i t from r);subst e;exact LB P w i t
 |inr x=>obtain⟨t,e⟩:=(show ∃t,u=Value.str x t from r);subst e;exact LC P w x t
theorem IR{P:aN}{w:aP}:∀{ks:List Key}{us:aG},Vals (ks.map kV) us->ItemsAre (J0 P w) ks us
 |[],_,r=>by rw[w0e]at r;cases r;exact .nil
 |k::ks,_,r=>by
  rw[wj]at r;cases r with
  |cons h t=>exact .cons (kV_is h) (IR t)
abbrev KT(H:Hp):List (List Key×V)->List (List Key×Addr×Value)->Prop:=Paired λp q=>p.1=q.1/\H q.2.1=aa (.tup (p.1.map kV))/\RelV p.2 q.2.2
theorem KT.val{H:Hp}{kvs:List (List Key×V)}{xs:List (List Key×Addr×Value)}(r:KT H kvs xs)(k:List Key):RelO (valV kvs k) ((atKey xs k).map (·.2)):=by
 induction r with
 |nil=>exact eE
 | @cons p q ps qs h t ih=>
  obtain⟨h1,_,h2⟩:=h;by_cases e:p.1=k
  .have e':q.1=k:=h1.symm.trans e;have b:atKey (q::qs) k=aa q.2:=by simp[atKey,uR,e']
   rw[GM e,b];exact h2
  .have e':¬q.1=k:=λz=>e (h1.trans z);have b:atKey (q::qs) k=atKey qs k:=by simp[atKey,uR,e']
   rw[GN e,b];exact ih
theorem KT.repl{H:Hp}{kvs:List (List Key×V)}{xs:List (List Key×Addr×Value)}(r:KT H kvs xs)(k:List Key){y:V}{u:Value}(ry:RelV y u):
  KT H (kvs.map λkv=>if kv.1=k then(kv.1,y) else kv) (xs.map (putAt k u)):=by
 induction r with
 |nil=>exact .nil
 | @cons p q ps qs h t ih=>
  rw[wj,wj];refine .cons ?_ ih;obtain⟨h1,h2,h3⟩:=h;unfold putAt;by_cases e:p.1=k
  .rw[ap e,ap (h1.symm.trans e)];exact⟨h1,h2,ry⟩
  .rw[ax e,ax (λz=>e (h1.trans z))];exact⟨h1,h2,h3⟩
theorem KT.put{H:Hp}{kvs:List (List Key×V)}{xs:List (List Key×Addr×Value)}(r:KT H kvs xs)(k:List Key){b:Addr}{y:V}{u:Value}(hb:H b=aa (.tup (k.map kV)))(ry:RelV y u):
   KT H (putK kvs k y) (storedH xs k b u):=by
 have e:(kvs.any λkv=>decide (kv.1=k))=(atKey xs k).isSome:=by
   rw[GO,(r.val k).isSome_eq,w0K]
 unfold putK storedH;rw[e];by_cases q:(atKey xs k).isSome=ae
 .rw[ap q,ap q];exact r.repl k ry
 .rw[ax q,ax q];exact Paired.snoc r ⟨rfl,hb,ry⟩
theorem KT.keeps{H H':Hp}{kvs:List (List Key×V)}{xs:List (List Key×Addr×Value)}(r:KT H kvs xs)(ht:∀b ys,H b=aa (.tup ys)->H' b=aa (.tup ys)):KT H' kvs xs:=
 Paired.mapP r λ_ _ z=>⟨z.1,ht _ _ z.2.1,z.2.2⟩
section
variable {P:aN}{w:aP}{H:Hp}{h:aX}{a:Addr}
theorem rd_of{u:HO}(ok:HOk P w H h)(e:Rd H a u):ObjOk P w H h a u:=e.ok ok
theorem KB{ks:List Key}(ok:HOk P w H h)(e:H a=aa (.tup (ks.map kV))):(gi (J0 P w)).is h ks a:=by
 obtain⟨_,its,r,o,h1,h2,n,h3⟩:=(show ObjOk P w H h a (.tup (ks.map kV))from ok a _ e);exact⟨o,its.toArray,n,h1,h2,h3,by simpa using IR r⟩
theorem dt_rd{kvs:List (List Key×V)}(ok:HOk P w H h)(e:Rd H a (.dT kvs)):kvs.length<=sizeLine/\(a==dX)=ag /\
  ∃xs,KT H kvs xs/\h.DictOfH (gi (J0 P w)) a xs:=by
 obtain⟨z,y,xs,r,o,es,ep,h1,h2,h3,h4,h5⟩:=(show ObjOk P w H h a (.dT kvs)from rd_of ok e);refine⟨z,y,xs,r,o,es,ep,h1,h2,h3,h4,λx hx=>?_,h5⟩;have all:∀{l:List (List Key×V)}{m:List (List Key×Addr×Value)},KT H l m->∀x∈m,(gi (J0 P w)).is h x.1 x.2.1:=by
  intro l m q
  induction q with
  |nil=>intro x hx;exact nomatch hx
  | @cons p q ps qs hq t ih=>
   intro x hx;rcases wg.mp hx with e|hx
   .subst e;exact KB ok (by rw[<-hq.1];exact hq.2.1)
   .exact ih x hx
 exact all r x hx
theorem Vm{kvs:List (List Key×V)}(ok:HOk P w H h)(e:H a=aa (.dT kvs)):kvs.length<=sizeLine/\(a==dX)=ag /\
 ∃xs,KT H kvs xs/\h.DictOfH (gi (J0 P w)) a xs:=dt_rd ok (.inl e)
end
abbrev kI(ns:aH):List Key:=ns.map eY
theorem NZ(ns:aH):(kI ns).map kV=ns.map V.int:=by rw[wK];rfl
section
variable {X:Cx}{π:aB}{σ:St}{H:Hp}{s:Shared}{a b:Addr}{k:List Key}{kvs:List (List Key×V)}{v:V}{r:Value}{A:aU}{E:aC}
theorem Inv.big(I:Inv X π σ H s):dX<s.heap.objs.size:=by
 have h:aO<s.heap.objs.size:=(I.mod.glob.keeps I.bk).lt;exact w0I (by decide) h
theorem Vn{Q:aC}(hu:A.units+1<dk)(I:Inv X π σ H s)(e:H a=aa (.dT kvs))(eb:H b=aa (.tup (k.map kV)))(h:∀s',Inv X π σ H s'->Q (.bool (!(valV kvs k).isSome)) s'):
  ay (model X.prog X.w) A (bK .NotIn (.ref b) (.ref a)) Q E s:=by
 obtain⟨z,hd,xs,rel,dd⟩:=Vm I.hok e;refine wpAny_notIn_heap (tupleKind_room_in1 hu) (KB I.hok eb) hd dd ?_;have q:=(rel.val k).isSome_eq;rw[w0K]at q;rw[<-q];exact h _ (I.tok _)
theorem Vo{h':aX}{t':Nat}{ob:HO}(I:Inv X π σ H s)(mu:Mut (H a))(hs:dU a s.heap h')(he:∃q,h'.get? a=aa q)(new:ObjOk X.prog X.w (upd H a ob) h' a ob):
  Inv X π σ (upd H a ob) { s with heap:=h',toks:=t' }:=
 I.write (x:=a) (e:=a) mu (.inl rfl) (λb q hb z=>(hs.2 b hb).trans z) he new
theorem Vp{h':aX}{t':Nat}{xs:List (List Key×Addr×Value)}(I:Inv X π σ H s)(e:H a=aa (.dT kvs))(eb:H b=aa (.tup (k.map kV)))(l:kvs.length<sizeLine)(hd:(a==dX)=ag)(rel:KT H kvs xs)(rv:RelV v r)(dd:h'.DictOfH (gi (J0 X.prog X.w)) a (storedH xs k b r))(hs:dU a s.heap h'):
  Inv X π σ (upd H a (.dT (putK kvs k v))) { s with heap:=h',toks:=t' }:=by
 have hl:(putK kvs k v).length<=sizeLine:=by have:=Mf kvs k v;rfl'
 obtain⟨q,es,ep,hq,h2,h3,h4,_,h5⟩:=dd;refine Vo I (by rw[e];exact eE) hs ⟨q,hq⟩ ⟨hl,hd,_,(rel.put k eb rv).keeps λc ys ec=>?_,q,es,ep,hq,h2,h3,h4,h5⟩;rw[i7 (An ec e (λz=>nomatch z))];exact ec
theorem Oa{Q:Unit->Shared->Prop}(hu:A.units+1<dk)(I:Inv X π σ H s)(e:H a=aa (.dT kvs))(eb:H b=aa (.tup (k.map kV)))(l:kvs.length<sizeLine)(rv:RelV v r)(h:∀s',Inv X π σ (upd H a (.dT (putK kvs k v))) s'->Q .unit s'):
  ay (model X.prog X.w) A (setItem (.ref a) (.ref b) r) Q E s:=by
 obtain⟨z,hd,xs,rel,dd⟩:=Vm I.hok e;have hz:xs.length<=sizeLine:=by rw[<-gx rel];exact z
 exact wpAny_setItem_heap (hsz:=hz) (tupleKind_room_in1 hu) (KB I.hok eb) dd λh' dd' hs=>h _ (Vp I e eb l hd rel rv dd' hs)
theorem Ob{Q:Unit->Shared->Prop}(hu:A.units<dk)(I:Inv X π σ H s)(e:H a=aa (.dT kvs))(eb:H b=aa (.tup (k.map kV)))(l:kvs.length<sizeLine)(rv:RelV v r)(h:∀s',Inv X π σ (upd H a (.dT (putK kvs k v))) s'->Q .unit s'):
  ay (model X.prog X.w) A (dictSet a (.ref b) r) Q E s:=by
 obtain⟨z,hd,xs,rel,dd⟩:=Vm I.hok e;have hz:xs.length<=sizeLine:=by rw[<-gx rel];exact z
 exact wpAny_dictSet_heap (hsz:=hz) hu (KB I.hok eb) dd λh' dd' hs=>h _ (Vp I e eb l hd rel rv dd' hs)
end
def tDIn(f:Bool->Bool)(ty td:TE):TE:=λσ H Q=>ty σ H λy H1=>td σ H1 λx H2=>∃a b kvs k,x=.ref a/\y=.ref b/\H2 a=aa (.dT kvs)/\H2 b=aa (.tup (k.map kV))/\Q (.bl (f (valV kvs k).isSome)) H2
def sDPut(td ty tv:TE):TS:=λD σ H=>tv σ H λv H1=>td σ H1 λx H2=>ty σ H2 λy H3=>∃a b kvs k,x=.ref a/\y=.ref b/\H3 a=aa (.dT kvs)/\H3 b=aa (.tup (k.map kV))/\kvs.length<sizeLine/\D.nx σ (upd H3 a (.dT (putK kvs k v)))
theorem Vq{P:aN}{w:aP}{H:Hp}(h:aX)(hb:dX<h.objs.size):ObjOk P w H (h.push { cls:=.type "dict",data:=.dict #[] }) h.objs.size (.dT []):=
 ⟨wy _,beq_eq_false_iff_ne.mpr (bQ (wD hb)),[],.nil,_,#[],0,wo _ rfl,⟨rfl,rfl,rfl⟩,rfl,rfl,uw⟩
def tDOne(ty tv:TE):TE:=λσ H Q=>∀p,H p=aj->ty σ (upd H p (.dT [])) λy H1=>tv σ H1 λv H2=>∃b k,y=.ref b/\H2 b=aa (.tup (k.map kV))/\H2 p=aa (.dT [])/\Q (.ref p) (upd H2 p (.dT [(k,v)]))
section
variable {X:Cx}{o i e value:aV}{pos pos' tpos:Pos}{td ty tv:TE}
theorem Tp(hu:X.A.units+1<dk)(hi:PE X i ty)(ho:PE X o td):PC X .NotIn i o (tDIn not ty td):=by
 intro π s σ H Q I h;refine thn (hi π s σ H _ I h) λiv s1⟨y,H1,I1,ry,q1⟩=>thn (ho π s1 σ H1 _ I1 q1) λu s2⟨x,H2,I2,rx,a,b,kvs,k,ex,ey,g1,g2,q2⟩=>?_;subst ex ey;obtain rfl:u=ak a:=rx;obtain rfl:iv=ak b:=ry;exact Vn hu I2 g1 g2 λs3 I3=>⟨.bl (!(valV kvs k).isSome),H2,I3,rfl,q2⟩
theorem YS(hu:X.A.units+1<dk)(ho:PE X o td)(hi:PE X i ty)(hv:PE X value tv)(hs:cu value (aa (.Subscript o i pos')) pos.line X.env=pure ag):
  PS X (.Assign [.Subscript o i pos'] value pos) (sDPut td ty tv):=by
 intro π s σ H D I h;refine wpAny_Assign_Subscript (thn (hv π s σ H _ I h) λr s1⟨v,H1,I1,rv,q1⟩=>thn (ho π s1 σ H1 _ I1 q1) λu s2⟨x,H2,I2,rx,q2⟩=>thn (hi π s2 σ H2 _ I2 q2) λiv s3⟨y,H3,I3,ry,a,b,kvs,k,ex,ey,g1,g2,l,q3⟩=>?_) hs;subst ex ey;obtain rfl:u=ak a:=rx;obtain rfl:iv=ak b:=ry;exact Oa hu I3 g1 g2 l rv λs4 I4=>⟨σ,_,I4,q3⟩
theorem YT(hu:X.A.units<dk)(hi:PE X i ty)(hv:PE X value tv):PE X (.Dict [aa i] [value] pos) (tDOne ty tv):=by
 intro π s σ H Q I q;have hn:=I.hok.fresh (wf s.heap.objs.size);have I1:=I.laid (a:=s.heap.objs.size) (o:=.dT []) (h':=s.heap.push { cls:=.type "dict",data:=.dict #[] }) (t':=s.toks) (λ_ _ q=>wc _ q) (wf _) (Vq s.heap I.big);refine wpAny_Dict_any rfl rfl (by simp) (Nat.le_of_ble_eq_true rfl) (pairTrees_cons_walk (thn (hi π _ σ _ _ I1 (q _ hn)) λu s1⟨y,H1,I1,ry,q1⟩=>thn (hv π s1 σ H1 _ I1 q1) λw2 s2⟨v,H2,I2,rv,b,k,ey,g1,g2,q2⟩=>pairTrees_nil_walk ?_));subst ey;obtain rfl:u=ak b:=ry;unfold storeAll;rw[vI];refine ah (ah (Ob hu I2 g2 g1 (by decide) rv λs3 I3=>ao ?_));show ay _ _ (forIn [] PUnit.unit _) _ _ _;rw[vN];exact ao ⟨.ref s.heap.objs.size,_,I3,rfl,q2⟩
end
end L2
end
section
local macro_rules|`(tactic|rfl')=>`(tactic|first|lia|omega +splitDisjunctions)
namespace L2
section
variable {prog:aN}{w:aP}{A:aU}{E:aC}{s:Shared}{a₀:Array aQ}{κ:cM}{st:bi}
def Vr(prog:aN)(w:aP)(A:aU)(s:Shared)(a₀:Array aQ)(κ:cM):Prop:=
 ∀(x y p q:Value)(a b:κ.α){Q:Bool->Shared->Prop}{E:aC},(x,p)∈a₀.toList->(y,q)∈a₀.toList->κ.keyOf x=aa a->κ.keyOf y=aa b->Q (κ.blt a b) s->ay (model prog w) A (oneLt' ae x y) Q E s
end
end L2
end
section
namespace L2
def KC:Bool->aQ->Array aQ->Nat->Nat->Nat->StateT bi Sem (Option Nat):=sortPriv% PySem.Builtin.gallop
section
variable {prog:aN}{w:aP}{A:aU}{E:aC}{s:Shared}{r:aQ->Nat}{P:aQ->Prop}{k0:eX}
def LtRk(prog:aN)(w:aP)(A:aU)(s:Shared)(k0:eX)(P:aQ->Prop)(r:aQ->Nat):Prop:=
 ∀(x y:aQ)(E:aC)(Q:Option Bool->bi->Prop)(st:bi),P x->P y->kindOf st=k0->Q (aa (decide (r x<r y))) st->wpS (model prog w) A E s (lt' x y) Q st
theorem n9{arr:Array aQ}{i:Nat}{x:aQ}{Q:aQ->bi->Prop}{st:bi}(e:arr[i]?=aa x)(q:Q x st):wpS (model prog w) A E s (elem' arr i) Q st:=by
 rw[elem'_eq,e];exact aJ q
abbrev IS:=Option (Option Nat)×Nat×Nat
theorem Vs{n:Nat}{f:Nat->Bool}{st:bi}{body:Nat->IS->StateT bi Sem (ForInStep IS)}(mono:∀i j,i<=j->j<n->f j=ae->f i=ae)
  (h1:∀(x lo hi:Nat)(Q:ForInStep IS->bi->Prop),lo<hi->hi<=n->Q (.yield (if f (lo+(hi-lo)/2)=ae then(aj,lo+(hi-lo)/2+1,hi) else(aj,lo,lo+(hi-lo)/2))) st->wpS (model prog w) A E s (body x (aj,lo,hi)) Q st)
  (h2:∀(x lo hi:Nat)(Q:ForInStep IS->bi->Prop),hi<=lo->Q (.done (aj,lo,hi)) st->wpS (model prog w) A E s (body x (aj,lo,hi)) Q st)
  {lo hi:Nat} (a:lo<=hi) (b:hi<=n) (t:∀i,i<lo->f i=ae) (u:∀i,hi<=i->i<n->f i=ag) {Q:IS->bi->Prop} (q:∀k,k<=n->(∀i,i<k->f i=ae)->(∀i,k<=i->i<n->f i=ag)->Q (aj,k,k) st):wpS (model prog w) A E s (forIn [:n] ((aj,lo,hi):IS) body) Q st:=by
 refine bC (I:=λx c st'=>st'=st/\∃lo hi,c=(aj,lo,hi)/\lo<=hi/\hi<=n/\hi-lo<=n-x/\(∀i,i<lo->f i=ae)/\∀i,hi<=i->i<n->f i=ag) ?step ?fin ⟨rfl,lo,hi,rfl,a,b,(),t,u⟩
 case fin=>
  rintro c st' ⟨rfl,lo,hi,rfl,a,b,d,t,u⟩;have:lo=hi:=()
  subst this;exact q lo b t u
 case step =>
  rintro x c st' _ hx ⟨rfl,lo,hi,rfl,a,b,d,t,u⟩;by_cases e:hi<=lo
  .refine h2 x lo hi _ e ?_;have:lo=hi:=()
   subst this;exact q lo b t u
  .refine h1 x lo hi _ () b ?_;have m1:lo+(hi-lo)/2<hi:=()
   have m2:lo<=lo+(hi-lo)/2:=()
   generalize lo+(hi-lo)/2=m at m1 m2|-;by_cases g:f m=ae
   .rw[ap g];exact⟨rfl,_,_,rfl,(),b,(),λi hi'=>mono i m () () g,u⟩
   .rw[ax g];refine⟨rfl,_,_,rfl,m2,(),(),t,λi h1 h2=>?_⟩;cases z:f i with
    |false=>rfl
    |true=>exact aW (mono m i h1 h2 z) g
theorem IT{left:Bool}{key:aQ}{arr:Array aQ}{base n hint:Nat}{st:bi}{Q:Option Nat->bi->Prop}(lt:LtRk prog w A s k0 P r)(hk:kindOf st=k0)(pk:P key)(pa:∀i,i<n->∃x,arr[base+i]?=aa x/\P x)(f:Nat->Bool)
  (hf:∀i x,i<n->arr[base+i]?=aa x->f i=if left then decide (r x<r key) else !decide (r key<r x)) (mono:∀i j,i<=j->j<n->f j=ae->f i=ae) (hh:hint<n)
  (q:∀k,k<=n->(∀i,i<k->f i=ae)->(∀i,k<=i->i<n->f i=ag)->Q (aa k) st):wpS (model prog w) A E s (KC left key arr base n hint) Q st:=by
 have bey:∀(i:Nat)(Q:Option Bool->bi->Prop),i<n->Q (aa (f i)) st->wpS (model prog w) A E s (do
   let x <-elem' arr (base+i)
   if left then lt' x key else return (<-lt' key x).map (!·)) Q st:=λi Q hi h=>by
  obtain⟨x,e,px⟩:=pa i hi;have hf:=hf i x hi e;refine am (n9 e ?_);cases left with
  |true=>
   rw[ap rfl]at hf;show wpS _ _ _ _ (lt' x key) _ _;exact lt x key E Q st px pk hk (by rw[<-hf];exact h)
  |false=>
   rw[ax (by decide)]at hf;refine am (lt key x E _ st pk px hk (aJ ?_));show Q (aa (!decide (r key<r x))) st;rw[<-hf];exact h
 refine am (bey hint _ hh ?_);dsimp only;have nf:∀i j,i<=j->j<n->f i=ag->f j=ag:=λi j a b z=>by
  cases g:f j with
  |false=>rfl
  |true=>rw[mono i j a b g]at z;cases z
 cases fh:f hint with
 | true =>
  rw[ap rfl];refine am (cQ (bC (I:=λx c st'=>st'=st/\∃l o,c=(aj,l,o)/\l<o/\x+1<=o/\hint+l<n/\f (hint+l)=ae)
   (Q:=λc st'=>st'=st/\∃l o,c=(aj,l,o)/\l<o/\hint+l<n/\f (hint+l)=ae/\(n-hint<=o\/f (hint+o)=ag)) ?s1 ?f1 ⟨rfl,0,1,rfl,(),(),(),fh⟩) ?p1)
  case f1=>
   rintro c st' ⟨rfl,l,o,rfl,a,b,d,e⟩;exact⟨rfl,l,o,rfl,a,d,e,.inl ()⟩
  case s1=>
   rintro x c st' _ hx ⟨rfl,l,o,rfl,a,b,d,e⟩;dsimp only;by_cases g:o≥n-hint
   .rw[ap g];exact aJ ⟨rfl,l,o,rfl,a,d,e,.inl g⟩
   .rw[ax g];refine am (bey (hint+o) _ () ?_);cases z:f (hint+o) with
    |true=>exact aJ ⟨rfl,o,_,rfl,(),(),(),z⟩
    |false=>exact aJ ⟨rfl,l,o,rfl,a,d,e,.inr z⟩
  case p1=>
   rintro c st' ⟨rfl,l,o,rfl,a,d,e,g⟩;dsimp only;refine am (Vs mono (λx lo hi Q g1 g2 h=>?_) (λx lo hi Q g h=>?_) () () (λi hi=>mono i (hint+l) () d e) (λi g1 g2=>?_) λk k1 k2 k3=>?_)
   .dsimp only;rw[ax ()];refine am (bey _ _ () ?_);dsimp only;split<;>rename_i z<;>simp only[z,if_true,if_false,uX]at h<;>exact aJ h
   .dsimp only;rw[ap g];exact aJ h
   .rcases g with g|g
    .rfl'
    .exact nf (hint+o) i () g2 g
   .exact aJ (q k k1 k2 k3)
 | false =>
  rw[ax (by decide)];refine am (cQ (bC (I:=λx c st'=>st'=st/\∃l o,c=(aj,l,o)/\l<o/\x+1<=o/\l<=hint/\f (hint-l)=ag)
   (Q:=λc st'=>st'=st/\∃l o,c=(aj,l,o)/\l<o/\l<=hint/\f (hint-l)=ag/\(hint+1<=o\/(o<=hint/\f (hint-o)=ae))) ?s2 ?f2 ⟨rfl,0,1,rfl,(),(),(),fh⟩) ?p2)
  case f2=>
   rintro c st' ⟨rfl,l,o,rfl,a,b,d,e⟩;exact⟨rfl,l,o,rfl,a,d,e,.inl ()⟩
  case s2=>
   rintro x c st' _ hx ⟨rfl,l,o,rfl,a,b,d,e⟩;dsimp only;by_cases g:o≥hint+1
   .rw[ap g];exact aJ ⟨rfl,l,o,rfl,a,d,e,.inl g⟩
   .rw[ax g];refine am (bey (hint-o) _ () ?_);cases z:f (hint-o) with
    |true=>exact aJ ⟨rfl,l,o,rfl,a,d,e,.inr ⟨(),z⟩⟩
    |false=>exact aJ ⟨rfl,o,_,rfl,(),(),(),z⟩
  case p2=>
   rintro c st' ⟨rfl,l,o,rfl,a,d,e,g⟩;dsimp only;refine am (Vs mono (λx lo hi Q g1 g2 h=>?_) (λx lo hi Q g h=>?_) () () (λi hi=>?_) (λi g1 g2=>nf (hint-l) i g1 g2 e) λk k1 k2 k3=>?_)
   .dsimp only;rw[ax ()];refine am (bey _ _ () ?_);dsimp only;split<;>rename_i z<;>simp only[z,if_true,if_false,uX]at h<;>exact aJ h
   .dsimp only;rw[ap g];exact aJ h
   .rcases g with g|⟨g,g'⟩
    .rfl'
    .exact mono i (hint-o) () () g'
   .exact aJ (q k k1 k2 k3)
end
end L2
end
section
namespace L2
def Vt:Array aQ->Array aQ->StateT bi Sem (Array aQ):=sortPriv% PySem.Builtin.mergeLo
section
variable {r:aQ->Nat}
def Srt(r:aQ->Nat)(a:Array aQ):Prop:=∀(i j:Nat)(x y:aQ),i<=j->a[i]?=aa x->a[j]?=aa y->r x<=r y
theorem Vu{l:List aQ}:Srt r l.toArray↔l.Pairwise λx y=>r x<=r y:=by
 unfold Srt;constructor
 .intro h;rw[wC];intro i j hi hj ij;exact h i j _ _ (wN ij) (by rw[uG];exact wa hi) (by rw[uG];exact wa hj)
 .intro h i j x y ij e1 e2;rw[uG]at e1 e2;obtain⟨hi,rfl⟩:=wr.mp e1;obtain⟨hj,rfl⟩:=wr.mp e2;rcases ut ij with z|z
  .subst z;exact wf _
  .exact wC.mp h i j hi hj z
structure Core(r:aQ->Nat)(a b out:Array aQ)(ia ib:Nat):Prop where
 perm:out.toList.Perm (a.toList.take ia++b.toList.take ib)
 srt:out.toList.Pairwise λx y=>r x<=r y
 upA:∀x∈out.toList,∀j y,ia<=j->a[j]?=aa y->r x<=r y
 upB:∀x∈out.toList,∀j y,ib<=j->b[j]?=aa y->r x<=r y
structure Merged(r:aQ->Nat)(a b out:Array aQ):Prop where
 perm:out.toList.Perm (a.toList++b.toList)
 srt:out.toList.Pairwise λx y=>r x<=r y
theorem DI{a:Array aQ}{i k:Nat}{x:aQ}(h:x∈(a.extract i (i+k)).toList):∃j,i<=j/\j<i+k/\a[j]?=aa x:=by
 obtain⟨n,hn,e⟩:=wI h;rw[aq,ce]at hn;refine⟨i+n,(),(),?_⟩;rw[<-e,bT,bI,av]
theorem Tq{a:Array aQ}(sa:Srt r a)(i k:Nat):(a.extract i (i+k)).toList.Pairwise λx y=>r x<=r y:=by
 rw[wC];intro p q hp hq pq;rw[aq,ce]at hp hq;exact sa (i+p) (i+q) _ _ () (by rw[bT,bI,av]) (by rw[bT,bI,av])
theorem Od(a:Array aQ)(i k:Nat):a.toList.take (i+k)=a.toList.take i++(a.extract i (i+k)).toList:=by
 rw[cY,vA,w08,List.take_add]
section
variable {a b out:Array aQ}{ia ib k:Nat}
theorem Core.takeA(C:Core r a b out ia ib)(sa:Srt r a)(h:∀j x,ia<=j->j<ia+k->a[j]?=aa x->∀j' y,ib<=j'->b[j']?=aa y->r x<=r y):Core r a b (out++a.extract ia (ia+k)) (ia+k) ib:=by
 have mm:∀x∈(out++a.extract ia (ia+k)).toList,x∈out.toList\/x∈(a.extract ia (ia+k)).toList:=λx hx=>by
   rw[bG]at hx;exact wn.mp hx
 refine⟨?_,?_,λx hx j y hj e=>?_,λx hx j y hj e=>?_⟩
 .rw[bG,Od];refine(C.perm.append_right _).trans ?_;rw[wP,wP];exact List.Perm.append_left _ vq
 .rw[bG,uN];refine⟨C.srt,Tq sa ia k,λx hx y hy=>?_⟩;obtain⟨j,j1,j2,e⟩:=DI hy;exact C.upA x hx j y j1 e
 .rcases mm x hx with hx|hx
  .exact C.upA x hx j y () e
  .obtain⟨j',j1,j2,e'⟩:=DI hx;exact sa j' j x y () e' e
 .rcases mm x hx with hx|hx
  .exact C.upB x hx j y hj e
  .obtain⟨j',j1,j2,e'⟩:=DI hx;exact h j' x j1 j2 e' j y hj e
theorem Core.flip(C:Core r a b out ia ib):Core r b a out ib ia:=⟨C.perm.trans vq,C.srt,C.upB,C.upA⟩
theorem Core.takeB(C:Core r a b out ia ib)(sb:Srt r b)(h:∀j y,ib<=j->j<ib+k->b[j]?=aa y->∀j' x,ia<=j'->a[j']?=aa x->r y<=r x):Core r a b (out++b.extract ib (ib+k)) ia (ib+k):=(C.flip.takeA sb h).flip
theorem GP{x:aQ}(e:a[ia]?=aa x):out.push x=out++a.extract ia (ia+1):=by
 obtain⟨hi,rfl⟩:=Array.getElem?_eq_some_iff.mp e;apply Array.toList_inj.mp;rw[eP,bG,cY,vA,w08,wZ (by simpa using hi)];simp
theorem Core.pushA(C:Core r a b out ia ib)(sa:Srt r a)(sb:Srt r b){x y:aQ}(e:a[ia]?=aa x)(e':b[ib]?=aa y)(h:r x<=r y):Core r a b (out.push x) (ia+1) ib:=by
 rw[GP e];refine C.takeA sa λj z j1 j2 ez j' y' j3 ey=>?_;have:j=ia:=()
 subst this;rw[e]at ez;cases ez;exact wu h (sb ib j' y y' j3 e' ey)
theorem Core.pushB(C:Core r a b out ia ib)(sa:Srt r a)(sb:Srt r b){x y:aQ}(e:b[ib]?=aa y)(h:∀j' x,ia<=j'->a[j']?=aa x->r y<=r x):Core r a b (out.push y) ia (ib+1):=by
 rw[GP e];refine C.takeB sb λj z j1 j2 ez j' y' j3 ey=>?_;have:j=ib:=()
 subst this;rw[e]at ez;cases ez;exact h j' y' j3 ey
theorem Core.all(C:Core r a b out a.size b.size):Merged r a b out:=⟨by
 have:=C.perm
 rwa [vm (by simp),vm (by simp)]at this,C.srt⟩
theorem Sh(h:ia<=a.size):a.extract ia=a.extract ia (ia+(a.size-ia)):=by
 show a.extract ia a.size=_;rw[show ia+(a.size-ia)=a.size by rfl']
theorem Core.done(C:Core r a b out ia ib)(sa:Srt r a)(sb:Srt r b)(ha:ia<=a.size)(hb:ib<=b.size)(h:∀j x,ia<=j->a[j]?=aa x->∀j' y,ib<=j'->b[j']?=aa y->r x<=r y):Merged r a b (out++a.extract ia++b.extract ib):=by
 rw[Sh ha,Sh hb];have C1:=C.takeA (k:=a.size-ia) sa λj x j1 _ e=>h j x j1 e;have C2:=C1.takeB (k:=b.size-ib) sb λj y _ _ _ j' x j3 e=>by
  have:=(Array.getElem?_eq_some_iff.mp e).1;rfl'
 rw[show ia+(a.size-ia)=a.size by rfl',show ib+(b.size-ib)=b.size by rfl']at C2|-;exact C2.all
theorem Core.done'(C:Core r a b out ia ib)(sa:Srt r a)(sb:Srt r b)(ha:ia<=a.size)(hb:ib<=b.size)(h:∀j x,ia<=j->a[j]?=aa x->∀j' y,ib<=j'->b[j']?=aa y->r y<=r x):Merged r a b (out++b.extract ib++a.extract ia):=by
 have M:=C.flip.done sb sa hb ha λj x j1 e j' y j2 e'=>h j' y j2 e' j x j1 e;exact⟨M.perm.trans vq,M.srt⟩
end
end
end L2
end
section
local macro_rules|`(tactic|rfl')=>`(tactic|first|lia|omega +splitDisjunctions)
namespace L2
structure Sm(st st':bi):Prop where
 kind:kindOf st'=kindOf st
 arr:aw st'=aw st
 pend:aL st'=aL st
 fail:ci st'=ci st
theorem Sm.refl(st:bi):Sm st st:=⟨rfl,rfl,rfl,rfl⟩
section
variable {prog:aN}{w:aP}{A:aU}{E:aC}{s:Shared}
theorem i9{α:Type}{c:Prop}[Decidable c]{m m':StateT bi Sem α}{Q:α->bi->Prop}{st:bi}(h:c->wpS (model prog w) A E s m Q st)(h':¬c->wpS (model prog w) A E s m' Q st):wpS (model prog w) A E s (if c then m else m') Q st:=by
 by_cases e:c
 .rw[ap e];exact h e
 .rw[ax e];exact h' e
end
section
variable {prog:aN}{w:aP}{A:aU}{E:aC}{s:Shared}{r:aQ->Nat}{P:aQ->Prop}{k0:eX}
structure Hid(p:Prop):Prop where
 h:p
theorem cutP{K G:Prop}(k:K)(h:Hid K->G):G:=h ⟨k⟩
theorem P6{a:Array aQ}(pa:∀x∈a.toList,P x){i:Nat}{x:aQ}(e:a[i]?=aa x):P x:=pa x (by
 obtain⟨hi,rfl⟩:=Array.getElem?_eq_some_iff.mp e;exact dw hi)
def SrtOn(r:aQ->Nat)(a:Array aQ)(lo hi:Nat):Prop:=∀(i j:Nat)(x y:aQ),lo<=i->i<=j->j<hi->a[i]?=aa x->a[j]?=aa y->r x<=r y
theorem Srt.on{a:Array aQ}(h:Srt r a)(lo hi:Nat):SrtOn r a lo hi:=λi j x y _ ij _=>h i j x y ij
theorem Vv{key:aQ}{arr:Array aQ}{base:Nat}{hint:Nat}{st:bi}{Q:Option Nat->bi->Prop}(lt:LtRk prog w A s k0 P r)(hk:kindOf st=k0)(pk:P key)(pa:∀x∈arr.toList,P x){n:Nat}(sa:SrtOn r arr base (base+n))(hn:base+n<=arr.size)(hh:hint<n)
   (q:∀k,k<=n->(∀j x,base<=j->j<base+k->arr[j]?=aa x->r x<=r key)->(∀j x,base+k<=j->j<base+n->arr[j]?=aa x->r key<r x)->Q (aa k) st):wpS (model prog w) A E s (KC ag key arr base n hint) Q st:=by
 refine IT lt hk pk (λi hi=>⟨arr[base+i],av (),pa _ (dw _)⟩) (λi=>(arr[base+i]?).any λx=>!decide (r key<r x)) (λi x hi e=>by rw[e];rfl) (λi j ij hj h=>?_) hh λk hk' t u=>q k hk' (λj x j1 j2 e=>?_) λj x j1 j2 e=>?_
 .have e1:arr[base+i]?=aa arr[base+i]:=av ();have e2:arr[base+j]?=aa arr[base+j]:=av ();have:=sa _ _ _ _ (show base<=base+i by rfl') (show base+i<=base+j by rfl') (show base+j<base+n by rfl') e1 e2;rw[e1];rw[e2]at h;simp only[ur,vX,decide_eq_false_iff_not]at h|-;rfl'
 .have:=t (j-base) ();rw[show base+(j-base)=j by rfl',e]at this;simp only[ur,vX,decide_eq_false_iff_not]at this;rfl'
 .have:=u (j-base) () ();rw[show base+(j-base)=j by rfl',e]at this;simp only[ur,Bool.not_eq_false',decide_eq_true_eq]at this;exact this
theorem Vw{key:aQ}{arr:Array aQ}{base:Nat}{hint:Nat}{st:bi}{Q:Option Nat->bi->Prop}(lt:LtRk prog w A s k0 P r)(hk:kindOf st=k0)(pk:P key)(pa:∀x∈arr.toList,P x){n:Nat}(sa:SrtOn r arr base (base+n))(hn:base+n<=arr.size)(hh:hint<n)
   (q:∀k,k<=n->(∀j x,base<=j->j<base+k->arr[j]?=aa x->r x<r key)->(∀j x,base+k<=j->j<base+n->arr[j]?=aa x->r key<=r x)->Q (aa k) st):wpS (model prog w) A E s (KC ae key arr base n hint) Q st:=by
 refine IT lt hk pk (λi hi=>⟨arr[base+i],av (),pa _ (dw _)⟩) (λi=>(arr[base+i]?).any λx=>decide (r x<r key)) (λi x hi e=>by rw[e];rfl) (λi j ij hj h=>?_) hh λk hk' t u=>q k hk' (λj x j1 j2 e=>?_) λj x j1 j2 e=>?_
 .have e1:arr[base+i]?=aa arr[base+i]:=av ();have e2:arr[base+j]?=aa arr[base+j]:=av ();have:=sa _ _ _ _ (show base<=base+i by rfl') (show base+i<=base+j by rfl') (show base+j<base+n by rfl') e1 e2;rw[e1];rw[e2]at h;simp only[ur,decide_eq_true_eq]at h|-;rfl'
 .have:=t (j-base) ();rw[show base+(j-base)=j by rfl',e]at this;simpa using this
 .have:=u (j-base) () ();rw[show base+(j-base)=j by rfl',e]at this;simp only[ur,decide_eq_false_iff_not]at this;rfl'
theorem Oe{a b:Array Keyed}{st:SortSt}{Q:Array Keyed→SortSt→Prop}(lt:LtRk prog w A s k0 P r)(hk:kindOf st=k0)(pa:∀ x∈a.toList,P x)(pb:∀ x∈b.toList,P x)(sa:Srt r a)(sb:Srt r b)(a1:0<a.size)(b1:0<b.size)
    (first:∀y,b[0]?=aa y->∀(j:Nat)x,a[j]?=aa x->r y<=r x) (last:∀x,a[a.size-1]?=aa x->∀(j:Nat)y,b[j]?=aa y->r y<=r x)
    (q:∀out st',Sm st st'->Merged r a b out->Q out st'):wpS (model prog w) A E s (Vt a b) Q st:=by
  have at_:∀{c:Array aQ}{i:Nat},i<c.size->∃x,c[i]?=aa x:=λ{c i}h=>⟨_,av h⟩;obtain⟨y0,e0⟩:=at_ b1;refine am (gm (cB ⟨rfl,?_⟩));refine am (n9 e0 ?_);have C0:Core r a b #[] 0 0:=⟨by simp,by simp,λx h=>by simp at h,λx h=>by simp at h⟩;have C1:Core r a b #[y0] 0 1:=C0.pushB (x:=y0) sa sb e0 λj x _ e=>first y0 e0 j x e
  have dA:∀{out:Array aQ}{ia ib:Nat},Core r a b out ia ib->ia<=a.size->ib=b.size->Merged r a b (out++a.extract ia++b.extract ib):=λC h1 h2=>C.done sa sb h1 () λj x _ _ j' y j1 e=>by
    have:=(Array.getElem?_eq_some_iff.mp e).1;rfl'
  have dB:∀{out:Array aQ}{ia ib:Nat},Core r a b out ia ib->ia=a.size->ib<=b.size->Merged r a b (out++a.extract ia++b.extract ib):=λC h1 h2=>C.done sa sb () h2 λj x j1 e=>by
    have:=(Array.getElem?_eq_some_iff.mp e).1;rfl'
  have dL:∀{out:Array aQ}{ia ib:Nat},Core r a b out ia ib->ia+1=a.size->ib<=b.size->Merged r a b (out++b.extract ib++a.extract ia):=λC h1 h2=>C.done' sa sb () h2 λj x j1 e j' y j2 e'=>by
    have:=(Array.getElem?_eq_some_iff.mp e).1;exact last x (by rw[<-e];congr 1;rfl') j' y e'
  refine i9 (λh=>aJ (q _ _ (Sm.refl _) (dA C1 () (by simpa using h)))) λh1=>?_;refine i9 (λh=>aJ (q _ _ (Sm.refl _) (dL C1 (by simpa using h) ()))) λh2=>?_;have h1:1<b.size:=by
    have:¬1=b.size:=by simpa using h1
    rfl'
  have h2:0+1<a.size:=by
    have:¬0+1=a.size:=by simpa using h2
    rfl'
  refine am (eJ ?_);refine am (cQ (bC (I:=λx c st'=>Sm st st'/\∃out ia ib mg,c=(aj,out,ia,ib,mg)/\Core r a b out ia ib/\ia+1<a.size/\ib<b.size/\x+1<=ia+ib)
    (Q:=λc st'=>Sm st st'/\∃m,c.1=aa m/\Merged r a b m) ?step ?fin ⟨Sm.refl _,_,_,_,_,rfl,C1,(),h1,()⟩) ?post)
  case fin=>
    rintro c st' ⟨_,out,ia,ib,mg,rfl,_,g1,g2,g3⟩;rfl'
  case post=>
    rintro⟨c,d⟩ st' ⟨sm,m,e,M⟩;have e:c=aa m:=e;subst e;exact aJ (q m st' sm M)
  case step =>
    rintro x c st1 _ hx ⟨sm,out,ia,ib,mg,rfl,C,g1,g2,g3⟩;refine am (cQ (bC (I:=λx' c st'=>st'=st1/\∃out' ia' ib' ac bc,c=(aj,out',ia',ib',ac,bc)/\Core r a b out' ia' ib'/\ia'+1<a.size/\ib'<b.size/\ia+ib+x'<=ia'+ib')
      (Q:=λc st'=>st'=st1/\((∃m,c.1=aa m/\Merged r a b m)\/∃out' ia' ib' ac bc,c=(aj,out',ia',ib',ac,bc)/\Core r a b out' ia' ib'/\ia'+1<a.size/\ib'<b.size/\ia+ib+1<=ia'+ib')) ?s1 ?f1 ⟨rfl,_,_,_,_,_,rfl,C,g1,g2,by show ia+ib+0<=ia+ib;rfl'⟩) ?p1)
    case f1=>
      rintro c st' ⟨rfl,out',ia',ib',ac,bc,rfl,C',z1,z2,z3⟩;exact⟨rfl,.inr ⟨_,_,_,_,_,rfl,C',z1,z2,()⟩⟩
    case s1=>
      rintro x' c st' _ hx' ⟨rfl,out',ia',ib',ac,bc,rfl,C',z1,z2,z3⟩;obtain⟨y,ey⟩:=at_ z2;obtain⟨u,eu⟩:=at_ (show ia'<a.size by rfl');dsimp only;refine am (n9 ey (am (n9 eu (am (lt y u E _ _ (P6 pb ey) (P6 pa eu) (sm.kind.trans hk) ?_)))));by_cases c:r y<r u
      .rw[aI c];refine am (n9 ey ?_);have C2:=C'.pushB (x:=y) sa sb ey λj z j1 e=>wu (wN c) (sa ia' j u z j1 eu e);refine i9 (λh=>aJ ⟨rfl,.inl ⟨_,rfl,dA C2 () (by simpa using h)⟩⟩) λh=>?_;have h:¬ib'+1=b.size:=by simpa using h
       exact i9 (λ_=>aJ ⟨rfl,.inr ⟨_,_,_,_,_,rfl,C2,z1,(),()⟩⟩) λ_=>aJ ⟨rfl,_,_,_,_,_,rfl,C2,z1,(),()⟩
      .rw[aK c];refine am (n9 eu ?_);have C2:=C'.pushA sa sb eu ey ();refine i9 (λh=>aJ ⟨rfl,.inl ⟨_,rfl,dL C2 (by simpa using h) ()⟩⟩) λh=>?_;have h:¬ia'+1+1=a.size:=by simpa using h
       exact i9 (λ_=>aJ ⟨rfl,.inr ⟨_,_,_,_,_,rfl,C2,(),(),()⟩⟩) λ_=>aJ ⟨rfl,_,_,_,_,_,rfl,C2,(),(),()⟩
    case p1 =>
      rintro⟨c,d⟩ st' ⟨rfl,⟨m,em,M⟩|⟨out',ia',ib',ac,bc,ec,C',z1,z2,z3⟩⟩
      .have em:c=aa m:=em;subst em;exact aJ ⟨sm,m,rfl,M⟩
      .obtain⟨ rfl,rfl⟩:=Prod.mk.inj ec
       refine am (gm (cB ⟨rfl,?_⟩));dsimp only;refine am (cQ (bC (I:=λx' c st'=>Sm st st'/\∃out' ia' ib' mg ac bc,c=(aj,out',ia',ib',mg,ac,bc)/\Core r a b out' ia' ib'/\ia'+1<a.size/\ib'<b.size/\ia+ib+1<=ia'+ib')
         (Q:=λc st'=>Sm st st'/\((∃m,c.1=aa m/\Merged r a b m)\/∃out' ia' ib' mg ac bc,c=(aj,out',ia',ib',mg,ac,bc)/\Core r a b out' ia' ib'/\ia'+1<a.size/\ib'<b.size/\ia+ib+1<=ia'+ib')) ?s2 ?f2 ⟨sm,_,_,_,_,_,_,rfl,C',z1,z2,z3⟩) ?p2)
       case f2=>
         rintro c st' ⟨sm',h⟩;exact⟨sm',.inr h⟩
       case p2=>
         rintro⟨c,d⟩ st' ⟨sm',⟨m,em,M⟩|⟨out',ia',ib',mg,ac,bc,ec,C',z1,z2,z3⟩⟩
         .have em:c=aa m:=em;subst em;exact aJ ⟨sm',m,rfl,M⟩
         .obtain⟨rfl,rfl⟩:=fH ec;refine am (cy (aJ ⟨⟨sm'.kind,sm'.arr,sm'.pend,sm'.fail⟩,_,_,_,_,rfl,C',z1,z2,?_⟩));dsimp only;rfl'
       case s2 =>
         rintro x' c st' _ hx' ⟨sm',out',ia',ib',mg,ac,bc,rfl,C',z1,z2,z3⟩;obtain⟨y,ey⟩:=at_ z2;dsimp only;have go:∀st2:bi,Sm st st2->kindOf st2=k0:=λst2 z=>z.kind.trans hk
         refine' cutP ?kp λkey=>?main
         case main=>
           refine i9 (λ_=>am (cy ?_)) λ_=>am (cy ?_)
           .generalize mg-1=m;revert m;exact key.h
           .exact key.h mg
         case kp =>
           intro m;have sm2:∀g:Nat,Sm st (SortSt.mk' (kindOf st') (aw st') (aL st') g (ci st')):=λg=>⟨sm'.kind,sm'.arr,sm'.pend,sm'.fail⟩;refine am (n9 ey (am (Vv lt (go _ (sm2 _)) (P6 pb ey) pa (sa.on _ _) () () λk hk' t u=>?_)));have C3:=C'.takeA (k:=k) sa λj x j1 j2 e j' y' j3 e'=>wu (t j x j1 j2 e) (sb ib' j' y y' j3 ey e');have U:∀(j:Nat)x,ia'+k<=j->a[j]?=aa x->r y<r x:=λj x j1 e=>u j x j1 (by have:=(Array.getElem?_eq_some_iff.mp e).1;rfl') e;clear t u
           refine' cutP ?k2 λkey=>?m2
           case m2=>
             refine i9 (λhk0=>?_) λhk0=>?_
             .refine i9 (λh=>aJ ⟨sm2 _,.inl ⟨_,rfl,dL C3 (by simpa using h) ()⟩⟩) λh3=>?_;refine i9 (λh=>aJ ⟨sm2 _,.inl ⟨_,rfl,dB C3 (by simpa using h) ()⟩⟩) λh4=>?_;have h3:¬ia'+k+1=a.size:=by simpa using h3
              have h4:¬ia'+k=a.size:=by simpa using h4
              have z1:ia'+k+1<a.size:=()
              have z3:ia+ib+1<=ia'+k+ib':=()
              have C3':=C3;have U':=U;revert C3' U' z1 z3;generalize ia'+k=i;generalize out'++a.extract ia' i=o;revert o i;exact key.h
             .exact key.h _ _ z1 z3 C' λj x j1 e=>U j x () e
           case k2 =>
             intro ia' out' z1 z3 C3 U;have C4:=C3.pushB (x:=y) sa sb ey λj x j1 e=>wN (U j x j1 e);refine am (n9 ey ?_);refine i9 (λh=>aJ ⟨sm2 _,.inl ⟨_,rfl,dA C4 () (by simpa using h)⟩⟩) λh5=>?_;have h5:¬ib'+1=b.size:=by simpa using h5
             obtain⟨v,ev⟩:=at_ (show ia'<a.size by rfl');refine am (n9 ev (am (Vw lt (go _ (sm2 _)) (P6 pa ev) pb (sb.on _ _) () () λk1 hk1 t1 u1=>?_)));have C5:=C4.takeB (k:=k1) sb λj x j1 j2 e j' y' j3 e'=>wu (wN (t1 j x j1 j2 e)) (sa ia' j' v y' j3 ev e')
             refine' cutP ?k3 λkey=>?m3
             case m3=>
               refine i9 (λhk2=>?_) λhk2=>?_
               .refine i9 (λh=>aJ ⟨sm2 _,.inl ⟨_,rfl,dA C5 () (by simpa using h)⟩⟩) λh6=>?_;have h6:ib'+1+k1<b.size:=by
                  have:¬ib'+1+k1=b.size:=by simpa using h6
                  rfl'
                have h7:ia+ib+1<=ia'+(ib'+1+k1):=()
                have V:∀u,b[ib'+1+k1]?=aa u->r v<=r u:=λu e=>u1 _ _ (wf _) () e;have C5':=C5;revert C5' h6 h7 V;generalize ib'+1+k1=i;generalize out'.push y++b.extract (ib'+1) i=o;revert o i;exact key.h
               .exact key.h _ _ () () (λu e=>u1 _ _ () () e) C4
             case k3=>
               intro i o h6 h7 V C5;obtain⟨u,eu⟩:=at_ h6;have C6:=C5.pushA sa sb ev eu (V u eu);refine am (n9 ev ?_);refine i9 (λh=>aJ ⟨sm2 _,.inl ⟨_,rfl,dL C6 (by simpa using h) ()⟩⟩) λh7=>?_;have h7:¬ia'+1+1=a.size:=by simpa using h7
               exact i9 (λ_=>aJ ⟨sm2 _,.inr ⟨_,_,_,_,_,_,rfl,C6,(),(),()⟩⟩) λ_=>aJ ⟨sm2 _,_,_,_,_,_,_,rfl,C6,(),(),()⟩
end
end L2
end
section
namespace L2
def Vx:Array aQ->Array aQ->StateT bi Sem (Array aQ):=sortPriv% PySem.Builtin.mergeHi
structure CoreH(r:aQ->Nat)(a b out:Array aQ)(na nb:Nat):Prop where
 perm:out.toList.Perm (a.toList.drop na++b.toList.drop nb)
 srt:out.toList.Pairwise λx y=>r y<=r x
 dnA:∀x∈out.toList,∀j y,j<na->a[j]?=aa y->r y<=r x
 dnB:∀x∈out.toList,∀j y,j<nb->b[j]?=aa y->r y<=r x
section
variable {r:aQ->Nat}{a b out:Array aQ}{na nb k:Nat}
theorem DJ{i j:Nat}{x:aQ}(h:x∈(a.extract i j).reverse.toList):∃n,i<=n/\n<j/\a[n]?=aa x:=by
 rw[cN]at h;obtain⟨n,hn,e⟩:=wI (List.mem_reverse.mp h);rw[aq,ce]at hn;refine⟨i+n,(),(),?_⟩;rw[<-e,bT,bI,av]
theorem Tr(sa:Srt r a)(i j:Nat):(a.extract i j).reverse.toList.Pairwise λx y=>r y<=r x:=by
 rw[cN,w0l,wC];intro p q hp hq pq;rw[aq,ce]at hp hq;exact sa (i+p) (i+q) _ _ () (by rw[bT,bI,av]) (by rw[bT,bI,av])
theorem Cb(h:k<=na):a.toList.drop k=(a.extract k na).toList++a.toList.drop na:=by
 rw[cY,vA];have:na=k+(na-k):=()
 rw[show a.toList.drop na=(a.toList.drop k).drop (na-k) by rw[List.drop_drop];congr 1,uH]
theorem CoreH.takeA(C:CoreH r a b out na nb)(sa:Srt r a)(hk:k<=na)(h:∀j x,k<=j->j<na->a[j]?=aa x->∀j' y,j'<nb->b[j']?=aa y->r y<=r x):CoreH r a b (out++(a.extract k na).reverse) k nb:=by
 have mm:∀x∈(out++(a.extract k na).reverse).toList,x∈out.toList\/x∈(a.extract k na).reverse.toList:=λx hx=>by
   rw[bG]at hx;exact wn.mp hx
 refine⟨?_,?_,λx hx j y hj e=>?_,λx hx j y hj e=>?_⟩
 .rw[bG,Cb hk,cN];refine(C.perm.append (w0L _)).trans (vq.trans ?_);rw[wP]
 .rw[bG,uN];refine⟨C.srt,Tr sa k na,λx hx y hy=>?_⟩;obtain⟨j,j1,j2,e⟩:=DJ hy;exact C.dnA x hx j y j2 e
 .rcases mm x hx with hx|hx
  .exact C.dnA x hx j y () e
  .obtain⟨j',j1,j2,e'⟩:=DJ hx;exact sa j j' y x () e e'
 .rcases mm x hx with hx|hx
  .exact C.dnB x hx j y hj e
  .obtain⟨j',j1,j2,e'⟩:=DJ hx;exact h j' x j1 j2 e' j y hj e
theorem CoreH.flip(C:CoreH r a b out na nb):CoreH r b a out nb na:=⟨C.perm.trans vq,C.srt,C.dnB,C.dnA⟩
theorem CoreH.takeB(C:CoreH r a b out na nb)(sb:Srt r b)(hk:k<=nb)(h:∀j y,k<=j->j<nb->b[j]?=aa y->∀j' x,j'<na->a[j']?=aa x->r x<=r y):CoreH r a b (out++(b.extract k nb).reverse) na k:=(C.flip.takeA sb hk h).flip
theorem Og{x:aQ}(h:0<na)(e:a[na-1]?=aa x):out.push x=out++(a.extract (na-1) na).reverse:=by
 obtain⟨hi,rfl⟩:=Array.getElem?_eq_some_iff.mp e;apply Array.toList_inj.mp;rw[eP,bG,cN,cY,vA,show na-(na-1)=1 by rfl',wZ (by simpa using hi)];simp
theorem CoreH.pushA(C:CoreH r a b out na nb)(sa:Srt r a)(h0:0<na){x:aQ}(e:a[na-1]?=aa x)(h:∀j' y,j'<nb->b[j']?=aa y->r y<=r x):CoreH r a b (out.push x) (na-1) nb:=by
 rw[Og h0 e];refine C.takeA sa () λj z j1 j2 ez j' y' j3 ey=>?_;have:j=na-1:=()
 subst this;rw[e]at ez;cases ez;exact h j' y' j3 ey
theorem CoreH.pushB(C:CoreH r a b out na nb)(sb:Srt r b)(h0:0<nb){y:aQ}(e:b[nb-1]?=aa y)(h:∀j' x,j'<na->a[j']?=aa x->r x<=r y):CoreH r a b (out.push y) na (nb-1):=(C.flip.pushA sb h0 e h).flip
theorem CoreH.all(C:CoreH r a b out 0 0):Merged r a b out.reverse:=⟨by
 rw[cN];have:=C.perm;rw[w1a,w1a]at this;exact(w0L _).trans this,by rw[cN,w0l];exact C.srt⟩
theorem CoreH.done(C:CoreH r a b out na nb)(sa:Srt r a)(sb:Srt r b)(h:∀j x,j<na->a[j]?=aa x->∀j' y,j'<nb->b[j']?=aa y->r x<=r y):Merged r a b (a.extract 0 na++b.extract 0 nb++out.reverse):=by
 have C1:=C.takeB (k:=0) sb (wy _) λj y _ j2 e j' x j3 e'=>h j' x j3 e' j y j2 e;have C2:=C1.takeA (k:=0) sa (wy _) λj x _ _ _ j' y j3=>()
 have:=C2.all
 rwa [Array.reverse_append,Array.reverse_append,Array.reverse_reverse,Array.reverse_reverse,<-eI]at this
theorem CoreH.done'(C:CoreH r a b out na nb)(sa:Srt r a)(sb:Srt r b)(h:∀j x,j<na->a[j]?=aa x->∀j' y,j'<nb->b[j']?=aa y->r y<=r x):Merged r a b (b.extract 0 nb++a.extract 0 na++out.reverse):=by
 have M:=C.flip.done sb sa λj x j1 e j' y j2 e'=>h j' y j2 e' j x j1 e;exact⟨M.perm.trans vq,M.srt⟩
end
end L2
end
section
local macro_rules|`(tactic|rfl')=>`(tactic|first|lia|omega +splitDisjunctions)
namespace L2
section
variable {prog:aN}{w:aP}{A:aU}{E:aC}{s:Shared}{r:aQ->Nat}{P:aQ->Prop}{k0:eX}
theorem Oh{a b:Array Keyed}{st:SortSt}{Q:Array Keyed→SortSt→Prop}(lt:LtRk prog w A s k0 P r)(hk:kindOf st=k0)(pa:∀ x∈a.toList,P x)(pb:∀ x∈b.toList,P x)(sa:Srt r a)(sb:Srt r b)(a1:0<a.size)(b1:0<b.size)
    (first:∀y,b[0]?=aa y->∀(j:Nat)x,a[j]?=aa x->r y<=r x) (last:∀x,a[a.size-1]?=aa x->∀(j:Nat)y,b[j]?=aa y->r y<=r x)
    (q:∀out st',Sm st st'->Merged r a b out->Q out st'):wpS (model prog w) A E s (Vx a b) Q st:=by
  have at_:∀{c:Array aQ}{i:Nat},i<c.size->∃x,c[i]?=aa x:=λ{c i}h=>⟨_,av h⟩;obtain⟨y0,e0⟩:=at_ (show a.size-1<a.size by rfl');refine am (gm (cB ⟨rfl,?_⟩));refine am (n9 e0 ?_);have C0:CoreH r a b #[] a.size b.size:=⟨by simp,by simp,λx h=>by simp at h,λx h=>by simp at h⟩;have C1:CoreH r a b #[y0] (a.size-1) b.size:=C0.pushA sa a1 e0 λj x _ e=>last y0 e0 j x e;have dA:∀{out:Array aQ}{na nb:Nat},CoreH r a b out na nb->na=0->Merged r a b (a.extract 0 na++b.extract 0 nb++out.reverse):=λC h=>C.done sa sb λj x j1=>()
  have dZ:∀{out:Array aQ}{na nb:Nat},CoreH r a b out na nb->nb=0->Merged r a b (a.extract 0 na++b.extract 0 nb++out.reverse):=λC h=>C.done sa sb λj x _ _ j' y j1=>()
  have dF:∀{out:Array aQ}{na nb:Nat},CoreH r a b out na nb->nb=1->Merged r a b (b.extract 0 nb++a.extract 0 na++out.reverse):=λC h=>C.done' sa sb λj x _ e j' y j1 e'=>first y (by rw[<-e'];congr 1;rfl') j x e
  refine i9 (λh=>aJ (q _ _ (Sm.refl _) (dA C1 (by simpa using h)))) λh1=>?_;refine i9 (λh=>aJ (q _ _ (Sm.refl _) (dF C1 (by simpa using h)))) λh2=>?_;have h1:1<a.size:=by
    have:¬a.size-1=0:=by simpa using h1
    rfl'
  have h2:1<b.size:=by
    have:¬b.size=1:=by simpa using h2
    rfl'
  refine am (eJ ?_);refine am (cQ (bC (I:=λx c st'=>Sm st st'/\∃out na nb mg,c=(aj,na,nb,out,mg)/\CoreH r a b out na nb/\0<na/\na<=a.size/\1<nb/\nb<=b.size/\na+nb+x+1<=a.size+b.size)
    (Q:=λc st'=>Sm st st'/\∃m,c.1=aa m/\Merged r a b m) ?step ?fin ⟨Sm.refl _,_,_,_,_,rfl,C1,(),(),h2,wf _,()⟩) ?post)
  case fin=>
    rintro c st' ⟨_,out,na,nb,mg,rfl,_,g1,g2,g3,g4,g5⟩;rfl'
  case post=>
    rintro⟨c,d⟩ st' ⟨sm,m,e,M⟩;have e:c=aa m:=e;subst e;exact aJ (q m st' sm M)
  case step =>
    rintro x c st1 _ hx ⟨sm,out,na,nb,mg,rfl,C,g1,g2,g3,g4,g5⟩;refine am (cQ (bC (I:=λx' c st'=>st'=st1/\∃out' na' nb' ac bc,c=(aj,na',nb',out',ac,bc)/\CoreH r a b out' na' nb'/\0<na'/\na'<=a.size/\1<nb'/\nb'<=b.size/\na'+nb'+x'<=na+nb)
      (Q:=λc st'=>st'=st1/\((∃m,c.1=aa m/\Merged r a b m)\/∃out' na' nb' ac bc,c=(aj,na',nb',out',ac,bc)/\CoreH r a b out' na' nb'/\0<na'/\na'<=a.size/\1<nb'/\nb'<=b.size/\na'+nb'+1<=na+nb)) ?s1 ?f1 ⟨rfl,_,_,_,_,_,rfl,C,g1,g2,g3,g4,by show na+nb+0<=na+nb;rfl'⟩) ?p1)
    case f1=>
      rintro c st' ⟨rfl,out',na',nb',ac,bc,rfl,C',z1,z2,z3,z4,z5⟩;exact⟨rfl,.inr ⟨_,_,_,_,_,rfl,C',z1,z2,z3,z4,()⟩⟩
    case s1=>
      rintro x' c st' _ hx' ⟨rfl,out',na',nb',ac,bc,rfl,C',z1,z2,z3,z4,z5⟩;obtain⟨y,ey⟩:=at_ (show nb'-1<b.size by rfl');obtain⟨u,eu⟩:=at_ (show na'-1<a.size by rfl');dsimp only;refine am (n9 ey (am (n9 eu (am (lt y u E _ _ (P6 pb ey) (P6 pa eu) (sm.kind.trans hk) ?_)))));by_cases c:r y<r u
      .rw[aI c];refine am (n9 eu ?_);have C2:=C'.pushA sa z1 eu λj z j1 e=>wu (sb j (nb'-1) z y () e ey) (wN c);refine i9 (λh=>aJ ⟨rfl,.inl ⟨_,rfl,dA C2 (by simpa using h)⟩⟩) λh=>?_;have h:¬na'-1=0:=by simpa using h
       exact i9 (λ_=>aJ ⟨rfl,.inr ⟨_,_,_,_,_,rfl,C2,(),(),(),(),()⟩⟩) λ_=>aJ ⟨rfl,_,_,_,_,_,rfl,C2,(),(),(),(),()⟩
      .rw[aK c];refine am (n9 ey ?_);have C2:=C'.pushB sb () ey λj z j1 e=>wu (sa j (na'-1) z u () e eu) ();refine i9 (λh=>aJ ⟨rfl,.inl ⟨_,rfl,dF C2 (by simpa using h)⟩⟩) λh=>?_;have h:¬nb'-1=1:=by simpa using h
       exact i9 (λ_=>aJ ⟨rfl,.inr ⟨_,_,_,_,_,rfl,C2,(),(),(),(),()⟩⟩) λ_=>aJ ⟨rfl,_,_,_,_,_,rfl,C2,(),(),(),(),()⟩
    case p1 =>
      rintro⟨c,d⟩ st' ⟨rfl,⟨m,em,M⟩|⟨out',na',nb',ac,bc,ec,C',z1,z2,z3,z4,z5⟩⟩
      .have em:c=aa m:=em;subst em;exact aJ ⟨sm,m,rfl,M⟩
      .obtain⟨ rfl,rfl⟩:=Prod.mk.inj ec
       refine am (gm (cB ⟨rfl,?_⟩));dsimp only;refine am (cQ (bC (I:=λx' c st'=>Sm st st'/\∃out' na' nb' mg ac bc,c=(aj,na',nb',out',mg,ac,bc)/\CoreH r a b out' na' nb'/\0<na'/\na'<=a.size/\1<nb'/\nb'<=b.size/\na'+nb'+1<=na+nb)
         (Q:=λc st'=>Sm st st'/\((∃m,c.1=aa m/\Merged r a b m)\/∃out' na' nb' mg ac bc,c=(aj,na',nb',out',mg,ac,bc)/\CoreH r a b out' na' nb'/\0<na'/\na'<=a.size/\1<nb'/\nb'<=b.size/\na'+nb'+1<=na+nb)) ?s2 ?f2 ⟨sm,_,_,_,_,_,_,rfl,C',z1,z2,z3,z4,z5⟩) ?p2)
       case f2=>
         rintro c st' ⟨sm',h⟩;exact⟨sm',.inr h⟩
       case p2=>
         rintro⟨c,d⟩ st' ⟨sm',⟨m,em,M⟩|⟨out',na',nb',mg,ac,bc,ec,C',z1,z2,z3,z4,z5⟩⟩
         .have em:c=aa m:=em;subst em;exact aJ ⟨sm',m,rfl,M⟩
         .obtain⟨rfl,rfl⟩:=fH ec;refine am (cy (aJ ⟨⟨sm'.kind,sm'.arr,sm'.pend,sm'.fail⟩,_,_,_,_,rfl,C',z1,z2,z3,z4,?_⟩));dsimp only;rfl'
       case s2 =>
         rintro x' c st' _ hx' ⟨sm',out',na',nb',mg,ac,bc,rfl,C',z1,z2,z3,z4,z5⟩;obtain⟨y0,ey0⟩:=at_ (show nb'-1<b.size by rfl');dsimp only;have go:∀st2:bi,Sm st st2->kindOf st2=k0:=λst2 z=>z.kind.trans hk
         refine' cutP ?kp λkey=>?main
         case main=>
           refine i9 (λ_=>am (cy ?_)) λ_=>am (cy ?_)
           .generalize mg-1=m;revert m;exact key.h
           .exact key.h mg
         case kp =>
           intro m;have sm2:∀g:Nat,Sm st (SortSt.mk' (kindOf st') (aw st') (aL st') g (ci st')):=λg=>⟨sm'.kind,sm'.arr,sm'.pend,sm'.fail⟩;refine am (n9 ey0 (am (Vv lt (go _ (sm2 _)) (P6 pb ey0) pa (sa.on _ _) () () λk hk' t u=>?_)));simp only[vR]at t u;have C3:=C'.takeA (k:=k) sa hk' λj x j1 j2 e j' y' j3 e'=>wu (sb j' (nb'-1) y' y0 () e' ey0) (wN (u j x j1 j2 e));have U:∀y,b[nb'-1]?=aa y->∀(j:Nat)x,j<k->a[j]?=aa x->r x<=r y:=λy ey j x j1 e=>by
             rw[ey0]at ey;cases ey;exact t j x (wy _) j1 e
           clear t u ey0
           refine' cutP ?k2 λkey=>?m2
           case m2=>
             refine i9 (λhk0=>?_) λhk0=>?_
             .refine i9 (λh=>aJ ⟨sm2 _,.inl ⟨_,rfl,dA C3 (by simpa using h)⟩⟩) λh4=>?_;have h4:¬k=0:=by simpa using h4
              have z1:0<k:=()
              have z2:k<=a.size:=()
              have z5:k+nb'+1<=na+nb:=()
              have C3':=C3;have U':=U;revert z1 z2 z5 C3' U';generalize out'++(a.extract k na').reverse=o;generalize k=i;revert o i;exact key.h
             .obtain rfl:na'=k:=()
              exact key.h _ _ z1 z2 z5 C' U
           case k2=>
             intro out' na' z1 z2 z5 C3 U;obtain⟨y,ey⟩:=at_ (show nb'-1<b.size by rfl');have C4:=C3.pushB sb () ey (U y ey);refine am (n9 ey ?_);refine i9 (λh=>aJ ⟨sm2 _,.inl ⟨_,rfl,dF C4 (by simpa using h)⟩⟩) λh5=>?_;have h5:¬nb'-1=1:=by simpa using h5
             obtain⟨v,ev⟩:=at_ (show na'-1<a.size by rfl');refine am (n9 ev (am (Vw lt (go _ (sm2 _)) (P6 pa ev) pb (sb.on _ _) () () λk1 hk1 t1 u1=>?_)));simp only[vR]at t1 u1;have C5:=C4.takeB (k:=k1) sb hk1 λj x j1 j2 e j' y' j3 e'=>wu (sa j' (na'-1) y' v () e' ev) (u1 j x j1 j2 e);have V:∀(j:Nat)y',j<k1->b[j]?=aa y'->r y'<=r v:=λj y' j1 e=>wN (t1 j y' (wy _) j1 e);clear t1 u1
             refine' cutP ?k3 λkey=>?m3
             case m3=>
               refine i9 (λhk2=>?_) λhk2=>?_
               .refine i9 (λh=>aJ ⟨sm2 _,.inl ⟨_,rfl,dF C5 (by simpa using h)⟩⟩) λh6=>?_;refine i9 (λh=>aJ ⟨sm2 _,.inl ⟨_,rfl,dZ C5 (by simpa using h)⟩⟩) λh8=>?_;have h6:¬k1=1:=by simpa using h6
                have h8:¬k1=0:=by simpa using h8
                have y1:1<k1:=()
                have y2:k1<=b.size:=()
                have y3:na'-1+k1+1<=na+nb:=()
                have C5':=C5;have V':=V;revert y1 y2 y3 C5' V';generalize out'.push y++(b.extract k1 (nb'-1)).reverse=o;generalize k1=i;revert o i;exact key.h
               .obtain rfl:k1=nb'-1:=()
                exact key.h _ _ () () () C4 V
             case k3=>
               intro o i y1 y2 y3 C5 V;have C6:=C5.pushA sa () ev λj y' j1 e=>V j y' j1 e;refine am (n9 ev ?_);refine i9 (λh=>aJ ⟨sm2 _,.inl ⟨_,rfl,dA C6 (by simpa using h)⟩⟩) λh7=>?_;have h7:¬na'-1=0:=by simpa using h7
               exact i9 (λ_=>aJ ⟨sm2 _,.inr ⟨_,_,_,_,_,_,rfl,C6,(),(),(),(),()⟩⟩) λ_=>aJ ⟨sm2 _,_,_,_,_,_,_,rfl,C6,(),(),(),(),()⟩
end
end L2
end
section
local macro_rules|`(tactic|rfl')=>`(tactic|first|lia|omega +splitDisjunctions)
namespace L2
theorem Si:∀(l:List aQ)(arr:Array aQ)(o n:Nat),o+n+l.length<=arr.size->((l.zipIdx n).foldl (λa(p:aQ×Nat)=>a.setIfInBounds (o+p.2) p.1) arr).toList=arr.toList.take (o+n)++l++arr.toList.drop (o+n+l.length)
 |[],arr,o,n,h=>by simp
 |p::l,arr,o,n,h=>by
  rw[wp]at h;rw[w05,w15,Si l _ o (n+1) (by rw[Array.size_setIfInBounds];rfl')];have hl:o+n<arr.toList.length:=by rw[aq];rfl'
  rw[gP,wp,show o+(n+1)=(o+n)+1 by rfl',List.take_set,List.drop_set_of_lt (),List.take_succ_eq_append_getElem hl,w0m _ _ (by rw[vg];rfl'),show o+n-(arr.toList.take (o+n)).length=0 by rw[vg];rfl'];simp[w0B,w0M 1]
section
variable {prog:aN}{w:aP}{A:aU}{E:aC}{s:Shared}{r:aQ->Nat}{P:aQ->Prop}{k0:eX}
theorem Vy{a:Array aQ}{lo hi:Nat}(h:SrtOn r a lo hi):Srt r (a.extract lo hi):=λi j x y ij e1 e2=>by
 obtain⟨h1,rfl⟩:=Array.getElem?_eq_some_iff.mp e1;obtain⟨h2,rfl⟩:=Array.getElem?_eq_some_iff.mp e2;rw[ce]at h1 h2;exact h (lo+i) (lo+j) _ _ () () () (by rw[bI,av]) (by rw[bI,av])
theorem DK{a:Array aQ}{lo hi j:Nat}{x:aQ}(e:(a.extract lo hi)[j]?=aa x):lo+j<hi/\a[lo+j]?=aa x:=by
 obtain⟨h1,rfl⟩:=Array.getElem?_eq_some_iff.mp e;rw[ce]at h1;exact⟨(),by rw[bI,av]⟩
theorem splice{a b:Array aQ}{l:List aQ}{o:Nat}(e:b.toList=a.toList.take o++l++a.toList.drop (o+l.length))(h:o+l.length<=a.size)(t:Nat):b[t]?=if t<o then a[t]? else if t<o+l.length then l[t-o]? else a[t]?:=by
 have lt:(a.toList.take o).length=o:=by rw[vg,aq];rfl'
 rw[<-bJ,e];by_cases h1:t<o
 .rw[ap h1,wP,wJ (),w01 h1,bJ]
 .rw[ax h1];by_cases h2:t<o+l.length
  .rw[ap h2,wJ (by rw[wz];rfl'),wE (),lt]
  .rw[ax h2,wE (by rw[wz];rfl'),wz,lt,List.getElem?_drop,bJ];congr 1;rfl'
theorem Oi{st:bi}{i sa na pw nb pw2:Nat}{Q:Bool->bi->Prop}(lt:LtRk prog w A s k0 P r)(hk:kindOf st=k0)(p1:(aL st)[i]?=aa (sa,na,pw))(p2:(aL st)[i+1]?=aa (sa+na,nb,pw2))(n1:0<na)(n2:0<nb)
   (sz:sa+na+nb<=(aw st).size) (pa:∀x∈(aw st).toList,P x) (s1:SrtOn r (aw st) sa (sa+na)) (s2:SrtOn r (aw st) (sa+na) (sa+na+nb)) (fl:ci st=aj)
   (q:∀st',kindOf st'=k0->ci st'=aj->aL st'=((aL st).setIfInBounds i (sa,na+nb,pw)).eraseIdxIfInBounds (i+1)->(aw st').toList.Perm (aw st).toList->SrtOn r (aw st') sa (sa+na+nb) ->
     (∀t,t<sa\/sa+na+nb<=t->(aw st')[t]?=(aw st)[t]?)->Q ae st'):wpS (model prog w) A E s (mergeAt' i) Q st:=by
 have at_:∀{c:Array aQ}{i:Nat},i<c.size->∃x,c[i]?=aa x:=λ{c i}h=>⟨_,av h⟩;obtain⟨y,ey⟩:=at_ (show sa+na<(aw st).size by rfl');refine am (eJ ?_);rw[p1,p2];refine am (cy ?_);have glue:(∀(j:Nat)x,sa<=j->j<sa+na->(aw st)[j]?=aa x->∀(j':Nat)y,sa+na<=j'->j'<sa+na+nb->(aw st)[j']?=aa y->r x<=r y)->SrtOn r (aw st) sa (sa+na+nb):=λh i j x y hi ij hj e1 e2=>by
   by_cases c1:j<sa+na
   .exact s1 i j x y hi ij c1 e1 e2
   .by_cases c2:i<sa+na
    .exact h i x hi c2 e1 j y () hj e2
    .exact s2 i j x y () ij hj e1 e2
 refine am (n9 ey (am (Vv (st:=gy st (((aL st).setIfInBounds i (sa,na+nb,pw)).eraseIdxIfInBounds (i+1))) lt hk (P6 pa ey) pa s1 () n1 λk hk' t u=>?_)));refine i9 (λh=>aJ (q _ hk fl rfl (cF _) (glue λj x j1 j2 e j' y' j3 j4 e'=>?_) λ_ _=>rfl)) λh=>?_
 .have h:na-k=0:=by simpa using h
  exact wu (t j x j1 () e) (s2 _ j' y y' (wf _) j3 j4 ey e')
 have h:¬na-k=0:=by simpa using h
 obtain⟨z,ez⟩:=at_ (show sa+k+(na-k)-1<(aw st).size by rfl');refine am (n9 ez (am (Vw (st:=gy st (((aL st).setIfInBounds i (sa,na+nb,pw)).eraseIdxIfInBounds (i+1))) lt hk (P6 pa ez) pa s2 () () λk2 hk2 t2 u2=>?_)));have ez:(aw st)[sa+na-1]?=aa z:=by rw[<-ez];congr 1;rfl'
 refine i9 (λh=>aJ (q _ hk fl rfl (cF _) (glue λj x j1 j2 e j' y' j3 j4 e'=>?_) λ_ _=>rfl)) λh'=>?_
 .have h:k2=0:=by simpa using h
  exact wu (s1 j (sa+na-1) x z j1 () () e ez) (u2 j' y' () j4 e')
 have h':¬k2=0:=by simpa using h'
 have sx:Srt r ((aw st).extract (sa+k) (sa+na)):=Vy λi j x y a b c=>s1 i j x y () b c;have sy:Srt r ((aw st).extract (sa+na) (sa+na+k2)):=Vy λi j x y a b c=>s2 i j x y a b ();have mx:∀{lo hi:Nat},∀x∈((aw st).extract lo hi).toList,P x:=λ{lo hi}x hx=>by
   rw[cY,vA]at hx;exact pa x (List.mem_of_mem_drop (w0q hx))
 have zx:((aw st).extract (sa+k) (sa+na)).size=na-k:=by rw[ce];rfl'
 have zy:((aw st).extract (sa+na) (sa+na+k2)).size=k2:=by rw[ce];rfl'
 have first:∀v,((aw st).extract (sa+na) (sa+na+k2))[0]?=aa v->∀(j:Nat)x,((aw st).extract (sa+k) (sa+na))[j]?=aa x->r v<=r x:=λv ev j x ex=>by
   obtain⟨g1,g2⟩:=DK ev;obtain⟨g3,g4⟩:=DK ex;rw[Nat.add_zero,ey]at g2;cases g2;exact wN (u _ x () g3 g4)
 have last:∀x,((aw st).extract (sa+k) (sa+na))[((aw st).extract (sa+k) (sa+na)).size-1]?=aa x->∀(j:Nat)v,((aw st).extract (sa+na) (sa+na+k2))[j]?=aa v->r v<=r x:=λx ex j v ev=>by
   obtain⟨g1,g2⟩:=DK ev;obtain⟨g3,g4⟩:=DK ex;rw[zx,show sa+k+(na-k-1)=sa+na-1 by rfl',ez]at g4;cases g4;exact wN (t2 _ v () g1 g2)
 have fin:∀(out:Array aQ)(st':bi),Merged r ((aw st).extract (sa+k) (sa+na)) ((aw st).extract (sa+na) (sa+na+k2)) out->kindOf st'=k0->ci st'=aj->aL st'=((aL st).setIfInBounds i (sa,na+nb,pw)).eraseIdxIfInBounds (i+1)->(aw st').toList=(aw st).toList.take (sa+k)++out.toList++(aw st).toList.drop (sa+k+out.toList.length)->Q ae st':=λout st' M g1 g2 g3 g4=>by
   have lo:out.toList.length=na-k+k2:=by
     have:=M.perm.length_eq;rw[wz,aq,aq,aq,zx,zy]at this;exact this
   have sp:=splice g4 ();rw[lo,show sa+k+(na-k+k2)=sa+na+k2 by rfl']at sp;refine q st' g1 g2 g3 ?_ ?_ λt ht=>?_
   .rw[g4,lo,show sa+k+(na-k+k2)=sa+na+k2 by rfl'];have e0:(aw st).toList=(aw st).toList.take (sa+k)++(((aw st).extract (sa+k) (sa+na)).toList++((aw st).extract (sa+na) (sa+na+k2)).toList)++(aw st).toList.drop (sa+na+k2):=by
      rw[wP,wP,<-Cb (),<-Cb (),uH]
    exact(List.Perm.append_right _ (List.Perm.append_left _ M.perm)).trans (List.Perm.of_eq e0.symm)
   .have mid:∀v,v∈out.toList->r y<=r v/\r v<=r z:=λv hv=>by
      rcases wn.mp (M.perm.mem_iff.mp hv)with hv|hv
      .obtain⟨n,hn,en⟩:=wI hv;obtain⟨c1,c2⟩:=DK (j:=n) (x:=v) (by rw[<-bJ,wa hn,en]);exact⟨wN (u _ v () c1 c2),s1 _ (sa+na-1) v z () () () c2 ez⟩
      .obtain⟨n,hn,en⟩:=wI hv;obtain⟨c1,c2⟩:=DK (j:=n) (x:=v) (by rw[<-bJ,wa hn,en]);exact⟨s2 _ _ y v (wf _) () () ey c2,wN (t2 _ v () c1 c2)⟩
    intro i j x v hi ij hj e1 e2;rw[sp]at e1 e2;by_cases a1:i<sa+k
    .rw[ap a1]at e1;have px:=t i x hi a1 e1;by_cases b1:j<sa+k
     .rw[ap b1]at e2;exact s1 i j x v hi ij () e1 e2
     .rw[ax b1]at e2;by_cases b2:j<sa+na+k2
      .rw[ap b2]at e2;exact wu px (mid v (vj e2)).1
      .rw[ax b2]at e2;exact wu px (s2 _ j y v (wf _) () hj ey e2)
    .rw[ax a1]at e1;have b1:¬j<sa+k:=()
     rw[ax b1]at e2;by_cases a2:i<sa+na+k2
     .rw[ap a2]at e1;by_cases b2:j<sa+na+k2
      .rw[ap b2]at e2;obtain⟨c1,c2⟩:=wr.mp e1;obtain⟨c3,c4⟩:=wr.mp e2;rcases ut ij with ij|ij
       .subst ij;rw[e1]at e2;cases e2;exact wf _
       .have:=wC.mp M.srt _ _ c1 c3 ()
        rwa [c2,c4]at this
      .rw[ax b2]at e2;exact wu (mid x (vj e1)).2 (u2 j v () hj e2)
     .rw[ax a2]at e1;rw[ax (show ¬j<sa+na+k2 by rfl')]at e2;exact s2 i j x v () ij hj e1 e2
   .rw[sp];by_cases a1:t<sa+k
    .rw[ap a1]
    .rw[ax a1,ax ()]
 refine i9 (λ_=>am (Oe (st:=gy st (((aL st).setIfInBounds i (sa,na+nb,pw)).eraseIdxIfInBounds (i+1))) lt hk mx mx sx sy (by rw[zx];rfl') (by rw[zy];rfl') first last λout st2 sm M=>?_)) λ_=>am (Oh (st:=gy st (((aL st).setIfInBounds i (sa,na+nb,pw)).eraseIdxIfInBounds (i+1))) lt hk mx mx sx sy (by rw[zx];rfl') (by rw[zy];rfl') first last λout st2 sm M=>?_)
 all_goals
   refine am (cy (am (eJ (aJ ?_))));have lo:out.toList.length=na-k+k2:=by
     have:=M.perm.length_eq;rw[wz,aq,aq,aq,zx,zy]at this;exact this
   have sa2:aw st2=aw st:=sm.arr;have f2:ci st2=aj:=sm.fail.trans fl;have pt:=Si out.toList (aw st2) (sa+k) 0 (by rw[sa2];rfl');rw[sa2]at pt;have key:=fin out (setArr st2 ((out.toList.zipIdx 0).foldl (λa(p:aQ×Nat)=>a.setIfInBounds (sa+k+p.2) p.1) (aw st2))) M (sm.kind.trans hk) f2 sm.pend (by show gh _=_;rw[sa2];exact pt);have ff:(ci st2).isNone=ae:=by rw[f2];rfl
   show Q (ci st2).isNone _;rw[ff];exact key
end
end L2
end
section
local macro_rules|`(tactic|rfl')=>`(tactic|first|lia|omega +splitDisjunctions)
namespace L2
def rk(r:aQ->Nat)(a:Array aQ)(i:Nat):Nat:=(a[i]?.map r).getD 0
def SrtK(r:aQ->Nat)(a:Array aQ)(lo hi:Nat):Prop:=∀i j,lo<=i->i<=j->j<hi->rk r a i<=rk r a j
structure Wi(st st':bi)(lo hi:Nat):Prop where
 kind:kindOf st'=kindOf st
 pend:aL st'=aL st
 fail:ci st'=ci st
 perm:(aw st').toList.Perm (aw st).toList
 out:∀t,t<lo\/hi<=t->(aw st')[t]?=(aw st)[t]?
theorem Wi.refl(st:bi)(lo hi:Nat):Wi st st lo hi:=⟨rfl,rfl,rfl,cF _,λ_ _=>rfl⟩
theorem Wi.trans{a b c:bi}{lo hi lo' hi':Nat}(h:Wi a b lo hi)(h':Wi b c lo' hi')(l:lo<=lo')(u:hi'<=hi):Wi a c lo hi:=⟨h'.kind.trans h.kind,h'.pend.trans h.pend,h'.fail.trans h.fail,h'.perm.trans h.perm,λt ht=>(h'.out t ()).trans (h.out t ht)⟩
theorem Wi.size{a b:bi}{lo hi:Nat}(h:Wi a b lo hi):(aw b).size=(aw a).size:=by
 have:=h.perm.length_eq
 rwa [aq,aq]at this
section
variable {prog:aN}{w:aP}{A:aU}{E:aC}{s:Shared}{r:aQ->Nat}{P:aQ->Prop}{k0:eX}
theorem IU{a:Array aQ}{i:Nat}{x:aQ}(e:a[i]?=aa x):rk r a i=r x:=by unfold rk;rw[e];rfl
theorem SrtK.on{a:Array aQ}{lo hi:Nat}(h:SrtK r a lo hi):SrtOn r a lo hi:=λi j x y h1 h2 h3 e1 e2=>by
 have:=h i j h1 h2 h3
 rwa [IU e1,IU e2]at this
theorem rk_ne{a:Array aQ}(nd:(a.toList.map r).Nodup){i j:Nat}(hi:i<a.size)(hj:j<a.size)(ij:i≠j):rk r a i≠rk r a j:=λz=>by
 rw[IU (av hi),IU (av hj)]at z;refine ij ((uc (xs:=a.toList.map r) (h₀:=by simpa using hi) (h₁:=by simpa using hj) nd).mp ?_);rw[wM,wM,bT,bT,z]
theorem Bh{st:bi}{i j:Nat}{Q:Option Bool->bi->Prop}(lt:LtRk prog w A s k0 P r)(hk:kindOf st=k0)(pa:∀x∈(aw st).toList,P x)(hi:i<(aw st).size)(hj:j<(aw st).size)(q:Q (aa (decide (rk r (aw st) i<rk r (aw st) j))) st):wpS (model prog w) A E s (ltAt' i j) Q st:=by
 have e1:=av hi;have e2:=av hj;rw[IU e1,IU e2]at q;rw[ltAt'_eq];exact am (eJ (am (n9 e1 (am (n9 e2 (lt _ _ E Q st (P6 pa e1) (P6 pa e2) hk q))))))
theorem wp_rev{st:bi}{lo hi:Nat}{Q:Unit->bi->Prop}(h:hi<=(aw st).size)(ds:∀i j,lo<=i->i<j->j<hi->rk r (aw st) j<rk r (aw st) i)(q:∀st',Wi st st' lo hi->SrtK r (aw st') lo hi->Q .unit st'):wpS (model prog w) A E s (reverseSlice' lo hi) Q st:=by
 refine wpS_reverse (q _ ⟨rfl,rfl,rfl,Array.perm_iff_toList_perm.mp (mirror_perm _ _ _ _),λt ht=>?_⟩ λi j h1 h2 h3=>?_)
 .show(mirror _ _ _ _)[t]?=_;rw[ic h,ax ()]
 .show rk r (mirror _ _ _ _) i<=rk r (mirror _ _ _ _) j;unfold rk;rw[ic h,ic h,ap (),ap ()];show rk r _ _<=rk r _ _;rcases ut h2 with z|z
  .rw[z];exact wf _
  .exact wN (ds (lo+hi-1-j) (lo+hi-1-i) () () ())
theorem SrtK.more{a:Array aQ}{lo n:Nat}(h:SrtK r a lo (lo+n))(h1:1<=n)(c:¬rk r a (lo+n)<rk r a (lo+n-1)):SrtK r a lo (lo+(n+1)):=λi j h2 h3 h4=>by
 by_cases e:j=lo+n
 .subst e;rcases ut h3 with z|z
  .rw[z];exact wf _
  .have:=h i (lo+n-1) h2 () ();rfl'
 .exact h i j h2 h3 ()
theorem Vz{st:bi}{lo nrem:Nat}{Q:Option Nat->bi->Prop}(lt:LtRk prog w A s k0 P r)(hk:kindOf st=k0)(pa:∀x∈(aw st).toList,P x)(nd:((aw st).toList.map r).Nodup)(h1:1<=nrem)(hn:lo+nrem<=(aw st).size)
  (q:∀n st',Wi st st' lo (lo+nrem)->1<=n->n<=nrem->SrtK r (aw st') lo (lo+n)->Q (aa n) st'):wpS (model prog w) A E s (countRun' lo nrem) Q st:=by
 refine am (cQ (bC (I:=λx c st'=>st'=st/\c=(aj,x)/\1<=x/\SrtK r (aw st) lo (lo+x))
  (Q:=λc st'=>st'=st/\∃n,c=(aj,n)/\1<=n/\n<=nrem/\SrtK r (aw st) lo (lo+n)/\(n=nrem\/rk r (aw st) (lo+n)<rk r (aw st) (lo+n-1))) ?s1 ?f1 ⟨rfl,rfl,wf _,λi j a b c=>by rw[show i=j by rfl'];exact wf _⟩) ?p1)
 case f1=>
  rintro c st' ⟨rfl,rfl,a,b⟩;rw[show max 1 nrem=nrem by rfl']at *;exact⟨rfl,_,rfl,a,(),b,.inl ()⟩
 case s1=>
  rintro x c st' hx1 hx ⟨rfl,rfl,a,b⟩;refine am (Bh lt hk pa (by dsimp only;rfl') (by dsimp only;rfl') ?_);dsimp only;by_cases c:rk r (aw st') (lo+x)<rk r (aw st') (lo+x-1)
  .rw[aI c];exact aJ ⟨rfl,_,rfl,a,(),b,.inr c⟩
  .rw[aK c];exact aJ ⟨rfl,rfl,(),b.more a c⟩
 case p1 =>
  rintro c st' ⟨rfl,n,rfl,a,b,d,e⟩;dsimp only;refine i9 (λh=>aJ (q n _ (Wi.refl _ _ _) a b d)) λh=>?_;have h:¬n=nrem:=by simpa using h
  refine i9 (λh2=>?_) λh2=>?_
  .refine am (Bh lt hk pa () () ?_);have l:=d lo (lo+n-1) (wf _) () ();have ne:=rk_ne nd (show lo<(aw st').size by rfl') (show lo+n-1<(aw st').size by rfl') ();rw[aI (show rk r (aw st') lo<rk r (aw st') (lo+n-1) by rfl')];exact aJ (q n _ (Wi.refl _ _ _) a b d)
  .have n1:n=1:=by omega
   subst n1;refine am (gm (cB ⟨rfl,?_⟩));have e:rk r (aw st') (lo+1)<rk r (aw st') lo:=by
    rcases e with e|e
    .rfl'
    .exact e
   refine am (cQ (bC (I:=λx c st2=>st2=st'/\c=(aj,x,0)/\2<=x/\x<=nrem/\∀i j,lo<=i->i<j->j<lo+x->rk r (aw st') j<rk r (aw st') i)
    (Q:=λc st2=>st2=st'/\∃n,c=(aj,n,0)/\2<=n/\n<=nrem/\∀i j,lo<=i->i<j->j<lo+n->rk r (aw st') j<rk r (aw st') i) ?s2 ?f2 ⟨rfl,rfl,wf _,(),λi j a b c=>by
      rw[show i=lo by rfl',show j=lo+1 by rfl'];exact e⟩) ?p2)
   case f2=>
    rintro c st2 ⟨rfl,rfl,a,b,d⟩;exact⟨rfl,_,rfl,a,b,d⟩
   case s2 =>
    rintro x c st2 hx1 hx ⟨rfl,rfl,a,b,d⟩;refine am (Bh lt hk pa (by dsimp only;rfl') (by dsimp only;rfl') ?_);dsimp only;by_cases c:rk r (aw st2) (lo+x)<rk r (aw st2) (lo+x-1)
    .rw[aI c];refine aJ ⟨rfl,rfl,(),(),λi j g1 g2 g3=>?_⟩;by_cases z:j=lo+x
     .subst z;rcases Nat.lt_or_ge i (lo+x-1)with y|y
      .have:=d i (lo+x-1) g1 y ();rfl'
      .rw[show i=lo+x-1 by rfl'];exact c
     .exact d i j g1 g2 ()
    .rw[aK c];refine am (Bh lt hk pa () () ?_);have ne:=rk_ne nd (show lo+x<(aw st2).size by rfl') (show lo+x-1<(aw st2).size by rfl') ();rw[aI (show rk r (aw st2) (lo+x-1)<rk r (aw st2) (lo+x) by rfl')];exact aJ ⟨rfl,_,rfl,a,b,d⟩
   case p2=>
    rintro c st2 ⟨rfl,n,rfl,a,b,d⟩;dsimp only;refine i9 (λh=>aW h ()) λ_=>?_;refine am (wp_rev (r:=r) () d λst3 w3 s3=>?_);have k3:=w3.kind.trans hk;have p3:∀x∈(aw st3).toList,P x:=λx hx=>pa x (w3.perm.mem_iff.mp hx);have z3:=w3.size;have w4:Wi st2 st3 lo (lo+nrem):=⟨w3.kind,w3.pend,w3.fail,w3.perm,λt ht=>w3.out t ()⟩;refine am (cQ (bC (I:=λx c st'=>st'=st3/\c=(aj,x)/\1<=x/\x<=nrem/\SrtK r (aw st3) lo (lo+x))
      (Q:=λc st'=>st'=st3/\∃n,c=(aj,n)/\1<=n/\n<=nrem/\SrtK r (aw st3) lo (lo+n)) ?s3 ?f3 ⟨rfl,rfl,(),b,s3⟩) ?p3)
    case f3=>
      rintro c st' ⟨rfl,rfl,a,b,d⟩;exact⟨rfl,_,rfl,a,b,d⟩
    case s3=>
      rintro x c st' hx1 hx ⟨rfl,rfl,a,b,d⟩;refine am (Bh lt k3 p3 (by dsimp only;rfl') (by dsimp only;rfl') ?_);dsimp only;by_cases c:rk r (aw st') (lo+x)<rk r (aw st') (lo+x-1)
      .rw[aI c];exact aJ ⟨rfl,_,rfl,a,b,d⟩
      .rw[aK c];exact aJ ⟨rfl,rfl,(),(),d.more a c⟩
    case p3=>
      rintro c st' ⟨rfl,n,rfl,a,b,d⟩;exact aJ (q n _ w4 a b d)
theorem Ts{st:SortSt}{lo n ok:Nat}{Q:Bool→SortSt→Prop}(lt:LtRk prog w A s k0 P r)(hk:kindOf st=k0)(pa:∀ x∈(arrOf st).toList,P x)(h1:1≤ok)(ho:ok≤n)(hn:lo+n≤(arrOf st).size)(so:SrtK r (arrOf st) lo (lo+ok))
    (q:∀st',Wi st st' lo (lo+n)->SrtK r (aw st') lo (lo+n)->Q ae st'):wpS (model prog w) A E s (binarySort' lo n ok) Q st:=by
  refine am (cQ (bC (I:=λx c st'=>c=(aj,.unit)/\Wi st st' lo (lo+n)/\1<=x/\SrtK r (aw st') lo (lo+x))
    (Q:=λc st'=>c=(aj,.unit)/\Wi st st' lo (lo+n)/\SrtK r (aw st') lo (lo+n)) ?s1 ?f1 ⟨rfl,Wi.refl _ _ _,(),by rw[show max ok 1=ok by rfl'];exact so⟩) ?p1)
  case f1=>
    rintro c st' ⟨rfl,a,b,d⟩;rw[show max (max ok 1) n=n by rfl']at d;exact⟨rfl,a,d⟩
  case p1=>
    rintro c st' ⟨rfl,a,d⟩;exact aJ (q st' a d)
  case s1 =>
    rintro k c st1 hk1 hk2 ⟨rfl,w1,k1,s1⟩;have z1:=w1.size;have p1:∀x∈(aw st1).toList,P x:=λx hx=>pa x (w1.perm.mem_iff.mp hx);refine am (cQ (bC (I:=λx c st'=>st'=st1/\∃l h,c=(aj,l,h)/\l<=h/\h<=k/\h-l<=k-x/\(∀i,i<l->rk r (aw st1) (lo+i)<=rk r (aw st1) (lo+k))/\∀i,h<=i->i<k->rk r (aw st1) (lo+k)<rk r (aw st1) (lo+i))
      (Q:=λc st'=>st'=st1/\∃l,c=(aj,l,l)/\l<=k/\(∀i,i<l->rk r (aw st1) (lo+i)<=rk r (aw st1) (lo+k))/\∀i,l<=i->i<k->rk r (aw st1) (lo+k)<rk r (aw st1) (lo+i)) ?s2 ?f2 ⟨rfl,0,k,rfl,wy _,wf _,(),λi hi=>(),λi a b=>()⟩) ?p2)
    case f2=>
      rintro c st' ⟨rfl,l,h,rfl,a,b,d,e,f⟩;obtain rfl:l=h:=()
      exact⟨rfl,_,rfl,b,e,f⟩
    case s2=>
      rintro x c st' _ hx ⟨rfl,l,h,rfl,a,b,d,e,f⟩;dsimp only;refine i9 (λg=>aJ ?_) λg=>?_
      .obtain rfl:l=h:=()
       exact⟨rfl,_,rfl,b,e,f⟩
      .have m1:(l+h)/2<h:=()
       have m2:l<=(l+h)/2:=()
       generalize (l+h)/2=m at m1 m2|-;refine am (Bh lt (w1.kind.trans hk) p1 () () ?_);by_cases c:rk r (aw st') (lo+k)<rk r (aw st') (lo+m)
       .rw[aI c];refine aJ ⟨rfl,l,m,rfl,m2,(),(),e,λi g1 g2=>?_⟩;have:=s1 (lo+m) (lo+i) () () ();rfl'
       .rw[aK c];refine aJ ⟨rfl,m+1,h,rfl,(),b,(),λi g1=>?_,f⟩;have:=s1 (lo+i) (lo+m) () () ();rfl'
    case p2 =>
      rintro c st' ⟨rfl,l,rfl,b,e,f⟩;dsimp only;have gb:=λt=>getElem?_bubble (xs:=aw st') (src:=lo+k) () (lo+k-(lo+l)) () t;have gr:∀t,rk r (bubble (aw st') (lo+k) (lo+k-(lo+l))) t=if t=lo+l then rk r (aw st') (lo+k) else if lo+l<t/\t<=lo+k then rk r (aw st') (t-1) else rk r (aw st') t:=λt=>by
        unfold rk;rw[gb,show lo+k-(lo+k-(lo+l))=lo+l by rfl'];split
        .rfl
        .split<;>rfl
      refine am (cy (aJ ⟨rfl,w1.trans (hi':=lo+n) (lo':=lo) ⟨rfl,rfl,rfl,Array.perm_iff_toList_perm.mp (bubble_perm _ _ _),λt ht=>?_⟩ (wf _) (wf _),(),λi j g1 g2 g3=>?_⟩))
      .show(bubble _ _ _)[t]?=_;rw[gb,ax (),ax ()]
      .show rk r (bubble _ _ _) i≤rk r (bubble _ _ _) j
       rw[gr,gr];by_cases a1:i=lo+l
       .rw[ap a1];by_cases b1:j=lo+l
        .rw[ap b1];exact wf _
        .rw[ax b1,ap ()];have:=f (j-1-lo) () ();rw[show lo+(j-1-lo)=j-1 by rfl']at this;rfl'
       .rw[ax a1];by_cases a2:lo+l<i/\i<=lo+k
        .rw[ap a2,ax (show ¬j=lo+l by rfl'),ap ()];exact s1 (i-1) (j-1) () () ()
        .rw[ax a2];by_cases b1:j=lo+l
         .rw[ap b1];have:=e (i-lo) ()
          rwa [show lo+(i-lo)=i by rfl']at this
         .rw[ax b1];by_cases b2:lo+l<j/\j<=lo+k
          .rw[ap b2];exact s1 i (j-1) () () ()
          .rw[ax b2];exact s1 i j () () ()
end
end L2
end
section
local macro_rules|`(tactic|rfl')=>`(tactic|first|lia|omega +splitDisjunctions)
namespace L2
abbrev Run3:=Nat×Nat×Nat
def Cov:List Run3->Nat->Nat->Prop
 |[],a,b=>a=b
 |p::l,a,b=>p.1=a/\0<p.2.1/\Cov l (a+p.2.1) b
theorem FL:∀{l m:List Run3}{a c:Nat},Cov (l++m) a c↔∃b,Cov l a b/\Cov m b c
 |[],m,a,c=>⟨λh=>⟨a,rfl,h⟩,λ⟨b,h,h'⟩=>by rw[show a=b from h];exact h'⟩
 |p::l,m,a,c=>by
  show p.1=a/\0<p.2.1/\Cov (l++m) _ _↔_;rw[FL];exact⟨λ⟨h1,h2,b,h3,h4⟩=>⟨b,⟨h1,h2,h3⟩,h4⟩,λ⟨b,⟨h1,h2,h3⟩,h4⟩=>⟨h1,h2,b,h3,h4⟩⟩
theorem KD:∀{l:List Run3}{a b:Nat},Cov l a b->a+l.length<=b
 |[],a,b,h=>by have h:a=b:=h;simp;rfl'
 |p::l,a,b,h=>by
  obtain⟨h1,h2,h3⟩:=h;have:=KD h3;rw[wp];rfl'
theorem FM:∀{l:List Run3}{a b:Nat},Cov l a b->∀p∈l,a<=p.1/\p.1+p.2.1<=b
 |[],a,b,_,p,hp=>nomatch hp
 |q::l,a,b,h,p,hp=>by
  obtain⟨h1,h2,h3⟩:=h;have l1:=KD h3;rcases wg.mp hp with rfl|hp
  .rfl'
  .have:=FM h3 p hp;rfl'
section
variable {prog:aN}{w:aP}{A:aU}{E:aC}{s:Shared}{r:aQ->Nat}{P:aQ->Prop}{k0:eX}
structure Rn(r:aQ->Nat)(k0:eX)(a0:List aQ)(lo:Nat)(st:bi):Prop where
 kind:kindOf st=k0
 fail:ci st=aj
 perm:(aw st).toList.Perm a0
 cov:Cov (aL st).toList 0 lo
 srt:∀p∈(aL st).toList,SrtOn r (aw st) p.1 (p.1+p.2.1)
theorem Rn.size{a0:List aQ}{lo:Nat}{st:bi}(h:Rn r k0 a0 lo st):(aw st).size=a0.length:=by
 have:=h.perm.length_eq
 rwa [aq]at this
theorem SrtOn.same{a b:Array aQ}{lo hi:Nat}(h:SrtOn r a lo hi)(e:∀t,lo<=t->t<hi->b[t]?=a[t]?):SrtOn r b lo hi:=λi j x y h1 h2 h3 e1 e2=>h i j x y h1 h2 h3 (by rw[<-e i h1 ()];exact e1) (by rw[<-e j () h3];exact e2)
theorem KE{a0:List aQ}{lo i:Nat}{st:bi}{Q:Bool->bi->Prop}(lt:LtRk prog w A s k0 P r)(pa:∀x∈a0,P x)(R:Rn r k0 a0 lo st)(hl:lo<=a0.length)(hi:i+1<(aL st).size)
   (q:∀st',Rn r k0 a0 lo st'->(aL st').size+1=(aL st).size->(∀t,lo<=t->(aw st')[t]?=(aw st)[t]?)->Q ae st'):wpS (model prog w) A E s (mergeAt' i) Q st:=by
 have sp:∃pre r1 r2 post,(aL st).toList=pre++r1::r2::post/\pre.length=i:=by
   have h1:i<(aL st).toList.length:=by rw[aq];rfl'
   have h2:i+1<(aL st).toList.length:=by rw[aq];rfl'
   refine⟨(aL st).toList.take i,(aL st).toList[i],(aL st).toList[i+1],(aL st).toList.drop (i+2),?_,by rw[vg];rfl'⟩;rw[<-wZ h2,<-wZ h1,uH]
 obtain⟨pre,⟨sa,na,pw⟩,⟨sb,nb,pw2⟩,post,ep,li⟩:=sp;have cv:=R.cov;rw[ep]at cv;obtain⟨b,c1,c2⟩:=FL.mp cv;obtain⟨d1,d2,d3,d4,d5⟩:=c2;have d1:sa=b:=d1;have d2:0<na:=d2;have d3:sb=b+na:=d3;have d4:0<nb:=d4;have d5:Cov post (b+na+nb) lo:=d5;subst d1 d3;have d5:Cov post (sa+na+nb) lo:=d5;have d4:0<nb:=d4;have l5:=KD d5;have p1:(aL st)[i]?=aa (sa,na,pw):=by rw[<-bJ,ep,<-li,wE (wf _),w0g];rfl
 have p2:(aL st)[i+1]?=aa (sa+na,nb,pw2):=by rw[<-bJ,ep,<-li,wE (),show pre.length+1-pre.length=1 by rfl'];rfl
 have sz:=R.size;refine Oi lt R.kind p1 p2 d2 d4 () (λx hx=>pa x (R.perm.mem_iff.mp hx)) (R.srt (sa,na,pw) (by rw[ep];simp)) (R.srt (sa+na,nb,pw2) (by rw[ep];simp)) R.fail λst' g1 g2 g3 g4 g5 g6=>?_;have e':(aL st').toList=pre++(sa,na+nb,pw)::post:=by
   rw[g3,Array.toList_eraseIdxIfInBounds,gP,ep,<-li,w0m _ _ (wf _),w0g,List.eraseIdx_append_of_length_le (),show pre.length+1-pre.length=1 by rfl'];rfl
 refine q st' ⟨g1,g2,g4.trans R.perm,?_,λp hp=>?_⟩ ?_ λt ht=>g6 t ()
 .rw[e'];exact FL.mpr ⟨sa,c1,rfl,by show 0<na+nb;rfl',by show Cov post (sa+(na+nb)) lo;rw[<-w0B];exact d5⟩
 .rw[e']at hp;rcases wn.mp hp with hp|hp
  .have b1:=FM c1 p hp;exact(R.srt p (by rw[ep];exact wO _ hp)).same λt _ h2=>g6 t ()
  .rcases wg.mp hp with rfl|hp
   .rw[show sa+na+nb=sa+(na+nb) by rfl']at g5;exact g5
   .have b1:=FM d5 p hp;exact(R.srt p (by rw[ep];simp[hp])).same λt h1 _=>g6 t ()
 .rw[<-aq,<-aq,e',ep];simp;rfl'
theorem Sj{f:Run3->Run3}(hf:∀p,(f p).1=p.1/\(f p).2.1=p.2.1):∀(l:List Run3)(i a b:Nat),Cov l a b->Cov (l.modify i f) a b/\∀p∈l.modify i f,∃p0∈l,p.1=p0.1/\p.2.1=p0.2.1
 |[],i,a,b,h=>by rw[List.modify_nil];exact⟨h,λ_ z=>nomatch z⟩
 |q::l,0,a,b,h=>by
  rw[List.modify_zero_cons];refine⟨⟨(hf q).1.trans h.1,by rw[(hf q).2];exact h.2.1,by rw[(hf q).2];exact h.2.2⟩,λp hp=>?_⟩;rcases wg.mp hp with rfl|hp
  .exact⟨q,wd,hf q⟩
  .exact⟨p,wb _ hp,rfl,rfl⟩
 |q::l,i+1,a,b,h=>by
  rw[List.modify_succ_cons];obtain⟨h1,h2⟩:=Sj hf l i _ b h.2.2;refine⟨⟨h.1,h.2.1,h1⟩,λp hp=>?_⟩;rcases wg.mp hp with rfl|hp
  .exact⟨p,wd,rfl,rfl⟩
  .obtain⟨p0,m,e⟩:=h2 p hp;exact⟨p0,wb _ m,e⟩
theorem Rn.mod{a0:List aQ}{lo i:Nat}{st:bi}{f:Run3->Run3}(hf:∀p,(f p).1=p.1/\(f p).2.1=p.2.1)(R:Rn r k0 a0 lo st):Rn r k0 a0 lo (gy st ((aL st).modify i f)):=by
 obtain⟨h1,h2⟩:=Sj hf (aL st).toList i 0 lo R.cov;have e:((aL st).modify i f).toList=(aL st).toList.modify i f:=by simp
 refine⟨R.kind,R.fail,R.perm,by show Cov ((aL st).modify i f).toList _ _;rw[e];exact h1,λp hp=>?_⟩;have hp:p∈((aL st).modify i f).toList:=hp;rw[e]at hp;obtain⟨p0,m,e1,e2⟩:=h2 p hp;rw[e1,e2];exact R.srt p0 m
theorem Sk{st:SortSt}{Q:Unit→SortSt→Prop}(lt:LtRk prog w A s k0 P r)(hk:kindOf st=k0)(fl:failedOf st=none)(pe:pendingOf st=#[])(pa:∀ x∈(arrOf st).toList,P x)(nd:((arrOf st).toList.map r).Nodup)
    (q:∀st',(aw st').toList.Perm (aw st).toList->ci st'=aj->SrtOn r (aw st') 0 (aw st).size->Q .unit st'):wpS (model prog w) A E s sortRuns' Q st:=by
  have R0:Rn r k0 (aw st).toList 0 st:=⟨hk,fl,cF _,by rw[pe];rfl,λp hp=>by rw[pe]at hp;simp at hp⟩;have hN:∃N,(aw st).size=N:=⟨_,rfl⟩;obtain⟨N,hN⟩:=hN;rw[hN]at q;refine am (eJ ?_);generalize e0:(aw st).size=N0;obtain rfl:N0=N:=by rw[<-e0];exact hN
  dsimp only;generalize (sortPriv% PySem.Builtin.minRun) N0 N0 0=mr;refine am (cQ (bC (I:=λx c st'=>∃lo,c=(aj,lo)/\Rn r k0 (aw st).toList lo st'/\lo<=N0/\(x<=lo\/lo=N0))
    (Q:=λc st'=>c=(aj,N0)/\Rn r k0 (aw st).toList N0 st') ?s1 ?f1 ⟨0,rfl,R0,wy _,.inl (wf _)⟩) ?p1)
  case f1=>
    rintro c st' ⟨lo,rfl,R,a,b⟩;obtain rfl:lo=N0:=()
    exact⟨rfl,R⟩
  case s1 =>
    rintro x c st1 _ hx ⟨lo,rfl,R,a,b⟩;have z1:=R.size;rw[aq,hN]at z1;refine i9 (λh=>aJ ?_) λh=>?_
    .obtain rfl:lo=N0:=Nat.le_antisymm a h;exact⟨rfl,R⟩
    have h:lo<N0:=w0Q h;have P1:∀x∈(aw st1).toList,P x:=λx hx=>pa x (R.perm.mem_iff.mp hx);have N1:((aw st1).toList.map r).Nodup:=(R.perm.map r).nodup_iff.mpr nd;refine am (Vz lt R.kind P1 N1 (by dsimp only;rfl') (by dsimp only;rfl') λn st2 w2 n1 n2 s2=>?_);dsimp only at w2 n1 n2 s2|-;rw[show lo+(N0-lo)=N0 by rfl']at w2;have rn:∀st',Wi st1 st' lo N0->Rn r k0 (aw st).toList lo st':=λst' w'=>⟨w'.kind.trans R.kind,w'.fail.trans R.fail,w'.perm.trans R.perm,by rw[w'.pend];exact R.cov,λp hp=>by
      rw[w'.pend]at hp;have:=FM R.cov p hp;exact(R.srt p hp).same λt _ h2=>w'.out t ()⟩
    have fin:∀(n:Nat)(st3:bi),1<=n->Rn r k0 (aw st).toList lo st3->SrtOn r (aw st3) lo (lo+n)->Rn r k0 (aw st).toList (lo+n) (gy st3 ((aL st3).push (lo,n,0))):=λn st3 n1 R3 s3=>by
      refine⟨R3.kind,R3.fail,R3.perm,?_,λp hp=>?_⟩
      .show Cov ((aL st3).push (lo,n,0)).toList 0 (lo+n);rw[eP];exact FL.mpr ⟨lo,R3.cov,rfl,n1,rfl⟩
      .have hp:p∈((aL st3).push (lo,n,0)).toList:=hp;rw[eP]at hp;rcases wn.mp hp with hp|hp
       .exact R3.srt p hp
       .rw[wv.mp hp];exact s3
    refine i9 (λhm=>?_) λhm=>?_
    .have z2 := w2.size
     refine am (gm (cB ⟨rfl,?_⟩));refine am (Ts lt (w2.kind.trans R.kind) (λx hx=>P1 x (w2.perm.mem_iff.mp hx)) n1 () () s2 λst3 w3 s3=>?_);refine i9 (λh=>aW h (by decide)) λ_=>?_;have w2:Wi st1 st3 lo N0:=w2.trans w3 (wf _) ();have s2:=s3.on;have n1:1<=min (N0-lo) mr:=()
     have n2:min (N0-lo) mr<=N0-lo:=()
     clear s3 w3 z2 hm;generalize min (N0-lo) mr=n at s2 n1 n2|-;have R3:=rn st3 w2;refine am (eJ ?_)
     match hb:(aL st3).back? with
     | none =>
       exact am (cy (aJ ⟨_,rfl,fin n st3 n1 R3 s2,(),.inl ()⟩))
     | some (a1,a2,a3) =>
       refine am (cQ (bC (I:=λx c st'=>c=(aj,.unit)/\Rn r k0 (aw st).toList lo st'/\SrtOn r (aw st') lo (lo+n)) (Q:=λc st'=>c=(aj,.unit)/\Rn r k0 (aw st).toList lo st'/\SrtOn r (aw st') lo (lo+n)) ?s9 (λc st' h=>h) ⟨rfl,R3,s2⟩) ?p9)
       case s9=>
         rintro x c st' _ hx ⟨rfl,R',s'⟩;refine am (eJ ?_)
         match hs:(if(aL st').size > 1 then(aL st')[(aL st').size-2]? else aj) with
         |none=>exact aJ ⟨rfl,R',s'⟩
         | some (o1,o2,o3) =>
           have g1:(aL st').size > 1:=by
             by_cases g:(aL st').size > 1
             .exact g
             .rw[ax g]at hs;cases hs
           refine i9 (λ_=>aJ ⟨rfl,R',s'⟩) λ_=>?_;refine am (KE lt pa R' (by rw[aq,hN];exact a) (show(aL st').size-2+1<(aL st').size by rfl') λst4 R4 _ o4=>?_);exact i9 (λh=>aW h (by decide)) λ_=>aJ ⟨rfl,R4,s'.same λt h1 _=>o4 t h1⟩
       case p9=>
         rintro c st' ⟨rfl,R',s'⟩;exact am (cy (am (cy (aJ ⟨_,rfl,fin n _ n1 (R'.mod λp=>⟨rfl,rfl⟩) s',(),.inl ()⟩))))
    .generalize st2=st3 at w2 s2|-;have s2:=s2.on;clear hm;have R3:=rn st3 w2;refine am (eJ ?_)
     match hb:(aL st3).back? with
     | none =>
       exact am (cy (aJ ⟨_,rfl,fin n st3 n1 R3 s2,(),.inl ()⟩))
     | some (a1,a2,a3) =>
       refine am (cQ (bC (I:=λx c st'=>c=(aj,.unit)/\Rn r k0 (aw st).toList lo st'/\SrtOn r (aw st') lo (lo+n)) (Q:=λc st'=>c=(aj,.unit)/\Rn r k0 (aw st).toList lo st'/\SrtOn r (aw st') lo (lo+n)) ?s9 (λc st' h=>h) ⟨rfl,R3,s2⟩) ?p9)
       case s9=>
         rintro x c st' _ hx ⟨rfl,R',s'⟩;refine am (eJ ?_)
         match hs:(if(aL st').size > 1 then(aL st')[(aL st').size-2]? else aj) with
         |none=>exact aJ ⟨rfl,R',s'⟩
         | some (o1,o2,o3) =>
           have g1:(aL st').size > 1:=by
             by_cases g:(aL st').size > 1
             .exact g
             .rw[ax g]at hs;cases hs
           refine i9 (λ_=>aJ ⟨rfl,R',s'⟩) λ_=>?_;refine am (KE lt pa R' (by rw[aq,hN];exact a) (show(aL st').size-2+1<(aL st').size by rfl') λst4 R4 _ o4=>?_);exact i9 (λh=>aW h (by decide)) λ_=>aJ ⟨rfl,R4,s'.same λt h1 _=>o4 t h1⟩
       case p9=>
         rintro c st' ⟨rfl,R',s'⟩;exact am (cy (am (cy (aJ ⟨_,rfl,fin n _ n1 (R'.mod λp=>⟨rfl,rfl⟩) s',(),.inl ()⟩))))
  case p1=>
    rintro c st1 ⟨rfl,R⟩;have z1:=R.size;rw[aq,hN]at z1;have l1:=KD R.cov;rw[aq]at l1;refine am (cQ (bC (I:=λx c st'=>c=(aj,.unit)/\Rn r k0 (aw st).toList N0 st'/\((aL st').size+x<=N0+1\/(aL st').size<=1))
      (Q:=λc st'=>c=(aj,.unit)/\Rn r k0 (aw st).toList N0 st'/\(aL st').size<=1) ?s3 ?f3 ⟨rfl,R,.inl ()⟩) ?p3)
    case f3=>
      rintro c st' ⟨rfl,R,d⟩;exact⟨rfl,R,()⟩
    case s3=>
      rintro x c st' _ hx ⟨rfl,R,d⟩;refine am (eJ ?_);refine i9 (λh=>aJ ⟨rfl,R,h⟩) λh=>?_;have h:1<(aL st').size:=w0Q h;refine am (KE lt pa R (by rw[aq,hN];exact wf _) ?_ λst2 R2 e _=>?_)
      .have key:∀(c:Prop)[Decidable c](n:Nat),1<n->(if c then n-2-1 else n-2)+1<n:=λc _ n h=>by split<;>rfl'
       exact key _ _ h
      .exact aJ ⟨rfl,R2,.inl ()⟩
    case p3=>
      rintro c st' ⟨rfl,R,d⟩;refine aJ (q st' R.perm R.fail ?_);have cv:=R.cov;have sr:=R.srt;have ln:(aL st').toList.length<=1:=by rw[aq];exact d
      match hp:(aL st').toList with
      | [] =>
        rw[hp]at cv;have cv:0=N0:=cv;intro i j x y _ _ h3;rfl'
      | [p] =>
        rw[hp]at cv sr;obtain⟨c1,c2,c3⟩:=cv;have c3:0+p.2.1=N0:=c3;have:=sr p (by simp);rw[c1,c3]at this;exact this
      |_::_::_=>rw[hp]at ln;simp at ln
end
end L2
end
section
namespace L2
theorem EL{α:Type}{p q:α->Bool}:∀{l:List α},(∀x∈l,p x=ae->q x=ae)->(∃x∈l,q x=ae/\p x=ag)->l.countP p<l.countP q
 |[],_,h=>by obtain⟨x,hx,_⟩:=h;cases hx
 |a::l,hs,h=>by
  rw[w0R,w0R];have mono:l.countP p<=l.countP q:=w0n λx hx=>hs x (wb _ hx);have ha:=hs a wd;obtain⟨x,hx,h1,h2⟩:=h;rcases wg.mp hx with rfl|hx
  .rw[h1,h2];simp;rfl'
  .have:=EL (λx hx=>hs x (wb _ hx)) ⟨x,hx,h1,h2⟩;cases e1:p a with
   |true=>rw[ha e1];simp;rfl'
   |false=>cases q a<;>simp<;>rfl'
section
variable {prog:aN}{w:aP}{A:aU}{E:aC}{s:Shared}{a₀:Array aQ}{κ:cM}{st:bi}
def keyD(κ:cM)(x:aQ):κ.α:=(κ.keyOf x.1).getD κ.dflt
def rkK(κ:cM)(a₀:Array aQ)(x:aQ):Nat:=a₀.toList.countP λz=>κ.blt (keyD κ z) (keyD κ x)
theorem KF{x y:aQ}(hx:x∈a₀.toList):κ.blt (keyD κ x) (keyD κ y)=decide (rkK κ a₀ x<rkK κ a₀ y):=by
 cases e:κ.blt (keyD κ x) (keyD κ y) with
 |true=>
  refine(aI ?_).symm;exact EL (λz _ h=>κ.trans _ _ _ h e) ⟨x,hx,e,κ.irrefl _⟩
 | false =>
  refine(aK ?_).symm;have:rkK κ a₀ y<=rkK κ a₀ x:=w0n λz _ h=>by
   rcases κ.negTrans _ (keyD κ x) _ h with g|g
   .exact g
   .rw[e]at g;cases g
  rfl'
theorem YU{Q:Unit->bi->Prop}(lt:Vr prog w A s a₀ κ)(hk:PyProof.Rows.KeysOf κ a₀)(nd:(a₀.toList.map λp=>κ.keyOf p.1).Nodup)(B:SBase a₀ st)
   (q:∀st',(aw st').Perm a₀->ci st'=aj->SortedToK κ (aw st') a₀.size->Q .unit st'):wpS (model prog w) A E s sortRuns' Q st:=by
 have pm:(aw st).toList.Perm a₀.toList:=Array.perm_iff_toList_perm.mp B.perm;have key:∀x∈a₀.toList,κ.keyOf x.1=aa (keyD κ x):=λx hx=>by
   obtain⟨k,e⟩:=hk x hx;unfold keyD;rw[e];rfl
 refine Sk (P:=λx=>x∈a₀.toList) (r:=rkK κ a₀) (k0:=oneType') (λx y E Q st hx hy hk0 h=>?_) B.kind B.failed B.pend (λx hx=>pm.mem_iff.mp hx) ?_ λst' p' f' s'=>q st' (Array.perm_iff_toList_perm.mpr (p'.trans pm)) f' λi j ij hj=>?_
 .rw[lt'_eq];refine am (eJ ?_);refine am (gm (cH ?_));rw[hk0,keyLt'_oneType];refine lt x.1 y.1 x.2 y.2 _ _ hx hy (key x hx) (key y hy) ⟨rfl,aJ ?_⟩;rw[KF hx];exact h
 .rw[(pm.map _).nodup_iff];rw[vY,vi]at nd|-;refine nd.imp_of_mem λ{x y}hx hy ne z=>ne ?_;have g1:κ.blt (keyD κ x) (keyD κ y)=ag:=by rw[KF hx,aK];rfl'
  have g2:κ.blt (keyD κ y) (keyD κ x)=ag:=by rw[KF hy,aK];rfl'
  rw[key x hx,key y hy,κ.total _ _ g1 g2]
 .have sz:(aw st).size=a₀.size:=B.size;have s2:(aw st').size=a₀.size:=by
   have:=(p'.trans pm).length_eq
   rwa [aq,aq]at this
  rw[sz]at s';have e1:(aw st')[i]?=aa (aw st')[i]:=av ();have e2:(aw st')[j]?=aa (aw st')[j]:=av ();have le:=s' i j _ _ (wy _) ij hj e1 e2;have mj:(aw st')[j]∈a₀.toList:=(p'.trans pm).mem_iff.mp (dw _);have g:=KF (κ:=κ) (y:=(aw st')[i]) mj;rw[aK ()]at g;show κ.kle (KK κ (aw st') i) (KK κ (aw st') j);have k1:KK κ (aw st') i=keyD κ (aw st')[i]:=by unfold KK;rw[e1];rfl
  have k2:KK κ (aw st') j=keyD κ (aw st')[j]:=by unfold KK;rw[e2];rfl
  rw[k1,k2];exact g
end
end L2
end
section
namespace L2
section
open PySem.SeqAt
open PySem.AutoSeq1 (wpAny_loadPart')
open PySem.MeetsSeq PySem.MeetsSeq2 PySem.MeetsSeq3
def LiAt(h:aX)(l:Addr)(items:iu):Prop:=∃o n,h.get? l=aa o/\o.cls=.type "list" /\ o.data=.seq items n
theorem KG:∀{vs:aG}{ns:aH}{i:Nat},cR vs ns->i<ns.length->∃t,vs[i]?=aa (.int (ns.getD i 0) t)
 |_,_,0,.cons n t h,_=>⟨t,rfl⟩
 |_,_,i+1,.cons n t h,hi=>by
  obtain⟨u,hu⟩:=KG (i:=i) h (by simpa using hi);exact⟨u,by simpa using hu⟩
theorem KH{ns:aH}{i:Nat}(h:i<ns.length):ns.drop i=ns.getD i 0::ns.drop (i+1):=by
 rw[wZ h];simp[bA,wa h]
theorem YV(l b:Addr)(items items2:iu)(ns ms:List Int)(hi:cR items.toList ns)(hj:cR items2.toList ms):∀(k i:Nat),ns.length-i≤k→i≤ns.length→i≤ms.length →
  Meets (Builtin.«list.__eq__.loop» ⟨[.ref l,.ref b,cK (i:Int),cK 0],[]⟩)
    (λ_ R s=>LiAt s.heap l items/\LiAt s.heap b items2 /\
      R (.ok (.ret (.bool (HT.lexLt (ns.drop i) (ms.drop i))))) s):=by
 have z1:items.size=ns.length:=by rw[<-hi.length];simp
 have z2:items2.size=ms.length:=by rw[<-hj.length];simp
 intro k
 induction k with
 |zero=>
  intro i hk h1 h2 prog w A R s ⟨hl,hb,h⟩;obtain⟨o1,n1,hl1,hl2,hl3⟩:=id hl;obtain⟨o2,n2,hb1,hb2,hb3⟩:=id hb;have e:i=ns.length:=()
  subst e;show ay _ _ (fO (.ref l) >>= λxs=>_) _ _ _;refine ah (bE hl1 hl3 ?_);refine ah (bE hb1 hb3 ?_);have g:items[((ns.length:Nat):Int).toNat]?=aj:=by rw[vK];exact Array.getElem?_eq_none ()
  rw[g];refine ah (bE hl1 hl3 ?_);refine ah (bE hb1 hb3 ?_);refine ao ?_;show R (.ok (.ret (.bool (decide (items.size<items2.size))))) s;rw[uB (wf _)]at h;have:HT.lexLt [] (ms.drop ns.length)=decide (items.size<items2.size):=by
    by_cases c:ns.length<ms.length
    .rw[KH c,HT.lexLt_nil_cons];exact(aI ()).symm
    .rw[uB (),HT.lexLt_nil_nil];exact(aK ()).symm
  rw[this]at h;exact h
 |succ k ih=>
  intro i hk h1 h2 prog w A R s ⟨hl,hb,h⟩;obtain⟨o1,n1,hl1,hl2,hl3⟩:=id hl;obtain⟨o2,n2,hb1,hb2,hb3⟩:=id hb;by_cases c1:i<ns.length
  .show ay _ _ (fO (.ref l) >>= λxs=>_) _ _ _;refine ah (bE hl1 hl3 ?_);refine ah (bE hb1 hb3 ?_);obtain⟨t,g1⟩:=KG hi c1;have g1':items[((i:Nat):Int).toNat]?=aa (.int (ns.getD i 0) t):=by rw[vK,<-bJ];exact g1
   rw[g1'];rw[KH c1]at h;by_cases c2:i<ms.length
   .obtain⟨u,g2⟩:=KG hj c2;have g2':items2[((i:Nat):Int).toNat]?=aa (.int (ms.getD i 0) u):=by rw[vK,<-bJ];exact g2
    rw[g2'];rw[KH c2,HT.lexLt_cons]at h;refine ah (wpAny_eqBool_int ?_);by_cases e:ns.getD i 0=ms.getD i 0
    .rw[ap e]at h;rw[ap (by simpa using e)];exact(meets_again rfl plain_eq_loop entry_eq_loop (ih (i+1) () () ())) prog w A R s ⟨hl,hb,h⟩
    .rw[ax e]at h;rw[ax (by simpa using e)];refine ah (bE hl1 hl3 ?_);refine ah (bE hb1 hb3 ?_);rw[g1',g2'];refine ah (HT.rcLt_int _ _ _ _ _ _ _ _ _ _ (ao ?_));exact h
   .have g:items2[((i:Nat):Int).toNat]?=aj:=by rw[vK];exact Array.getElem?_eq_none ()
    rw[g];refine ah (bE hl1 hl3 ?_);refine ah (bE hb1 hb3 ?_);refine ao ?_;show R (.ok (.ret (.bool (decide (items.size<items2.size))))) s;rw[uB (by rfl':ms.length<=i),HT.lexLt_cons_nil]at h;rw[aK ()];exact h
  .exact(ih i () h1 h2) prog w A R s ⟨hl,hb,h⟩
theorem CU(l b:Addr)(items items2:iu)(ns ms:aH)(hi:cR items.toList ns)(hj:cR items2.toList ms):
  Meets (Builtin.«list.__lt__» ⟨[.ref l,.ref b],[]⟩)
   (fun _ R s=>LiAt s.heap l items∧LiAt s.heap b items2 ∧
    R (.ok (.ret (.bool (HT.lexLt ns ms)))) s):=by
 intro prog w A R s ⟨hl,hb,h⟩;obtain⟨o2,n2,hb1,hb2,hb3⟩:=id hb;show ay _ _ (isInstance (.ref b) (.type "list") >>= λr=>_) _ _ _;refine ah (fy (b:=ae) ⟨_,hb1,hb2⟩ (by rw[isSubtype_type];kernel_rfl) ?_);exact(meets_again rfl plain_eq_loop entry_eq_loop (YV l b items items2 ns ms hi hj _ 0 (wf _) (wy _) (wy _))) prog w A R s ⟨hl,hb,h⟩
theorem Oj{prog:aN}{w:aP}{A:aU}{E:aC}{s:Shared}{Q:Bool->Shared->Prop}(l b:Addr)(items items2:iu)(ns ms:aH)(hi:cR items.toList ns)(hj:cR items2.toList ms)(hl:LiAt s.heap l items)(hb:LiAt s.heap b items2)
  (hu:A.units<dk) (h:Q (HT.lexLt ns ms) s):ay (model prog w) A (oneLt' ae (.ref l) (.ref b)) Q E s:=by
 obtain⟨o1,n1,hl1,hl2,hl3⟩:=id hl;rw[oneLt'_eq];show ay _ _ (cRoomFor "comparison" [.ref l,.ref b] >>= λ_=>_) _ _ _;refine ah (wpAny_cRoom hu ?_);refine ah (wpAny_callSpecialIfBound?_slot (T :="list") ⟨_,hl1,hl2⟩ fG ?_);refine call_meets fG ⟨_,hl1,hl2⟩ PySem.F.entry_list_lt (PySem.F.args_list_lt_2 _ _) (CU l b items items2 ns ms hi hj) ⟨hl,hb,?_⟩;exact bW h
theorem Sl{β:Type}{M:Model}{A:aU}{E:aC}{s:Shared}{f:Value->Sem β}{g:Value->β}:∀(vs:aG){Q:List β->Shared->Prop},(∀v∈vs,∀{Q:β->Shared->Prop},Q (g v) s->ay M A (f v) Q E s)->Q (vs.map g) s->ay M A (List.mapM f vs) Q E s
 |[],Q,_,q=>by rw[List.mapM_nil];exact ao q
 |v::vs,Q,h,q=>by
  rw[List.mapM_cons];refine ah (h v wd ?_);refine ah (Sl vs (λu hu=>h u (wb _ hu)) ?_);exact ao q
theorem FN{β:Type}{M:Model}{A:aU}{E:aC}{s:Shared}{f:Value->Sem β}{g:Value->β}(vs:aG){Q:Array β->Shared->Prop}(h:∀v∈vs,∀{Q:β->Shared->Prop},Q (g v) s->ay M A (f v) Q E s)(q:Q (vs.map g).toArray s):ay M A (Array.mapM f vs.toArray) Q E s:=by
 rw[Array.mapM_eq_mapM_toList];rw[map_eq_pure_bind];refine ah (Sl vs h ?_);exact ao q
theorem Ol{M:Model}{A:aU}{E:aC}{s:Shared}{vs:aG}{Q:eX->Shared->Prop}(h:∀v∈vs,s.TypeIs v "list")(h0:0<vs.length)(q:Q oneType' s):ay M A (keyKind' vs.toArray) Q E s:=by
 rw[keyKind'_eq];refine ah (FN (g:=λ_=>aj) vs (λv hv Q' q'=>?_) ?_)
 .show ay M A (typeOf v >>= λr=>_) _ _ _;refine ah (gH (h v hv) ?_);exact ao q'
 .cases vs with
  |nil=>exact aW h0 (wR _)
  |cons v vs=>
   rw[ax (by simp)];rw[ax (by simp)];rw[oneTypeOnly'_eq];refine ah (ah (FN (g:=λ_=>dY "list") (v::vs) (λu hu Q' q'=>gH (h u hu) q') ?_));have e:((eT (λ_=>dY "list") (v::vs)).toArray)[0]?=aa (dY "list"):=by simp
   rw[e];refine ao ?_;rw[ap (by simp)];exact ao q
end
end L2
end
section
namespace L2
theorem M3:∀a:aH,HT.lexLt a a=ag
 |[]=>rfl
 |x::xs=>by rw[HT.lexLt_cons,ap rfl];exact M3 xs
theorem Bi:∀a b c:aH,HT.lexLt a b=ae->HT.lexLt b c=ae->HT.lexLt a c=ae
 |[],[],_,h,_=>by cases h
 |[],_::_,[],_,h=>by cases h
 |[],_::_,_::_,_,_=>rfl
 |_::_,[],_,h,_=>by cases h
 |_::_,_::_,[],_,h=>by cases h
 |x::xs,y::ys,z::zs,h1,h2=>by
  rw[HT.lexLt_cons]at h1 h2|-;by_cases e1:x=y
  .subst e1;rw[ap rfl]at h1;by_cases e2:x=z
   .subst e2;rw[ap rfl]at h2|-;exact Bi xs ys zs h1 h2
   .rw[ax e2]at h2|-;exact h2
  .rw[ax e1]at h1;have h1:=ba h1;by_cases e2:y=z
   .subst e2;rw[ax e1];exact aI h1
   .rw[ax e2]at h2;have h2:=ba h2;rw[ax ()];exact aI ()
theorem KI:∀a b c:List Int,HT.lexLt a c=ae→HT.lexLt a b=ae∨HT.lexLt b c=ae
 |[],[],_,h=>.inr h
 |[],_::_,_,_=>.inl rfl
 |_::_,_,[],h=>by cases h
 |_::_,[],_::_,_=>.inr rfl
 |x::xs,y::ys,z::zs,h=>by
  rw[HT.lexLt_cons]at h|-;rw[HT.lexLt_cons];by_cases e1:x=y
  .subst e1;by_cases e2:x=z
   .subst e2;rw[ap rfl]at h|-;rw[ap rfl];exact KI xs ys zs h
   .rw[ax e2]at h;rw[ax e2];exact .inr h
  .rw[ax e1];by_cases c:x<y
   .exact .inl (aI c)
   .right;by_cases e2:x=z
    .subst e2;rw[ax ()];exact aI ()
    .rw[ax e2]at h;have h:=ba h;rw[ax ()];exact aI ()
theorem Bj:∀a b:aH,HT.lexLt a b=ag->HT.lexLt b a=ag->a=b
 |[],[],_,_=>rfl
 |[],_::_,h,_=>by cases h
 |_::_,[],_,h=>by cases h
 |x::xs,y::ys,h1,h2=>by
  rw[HT.lexLt_cons]at h1 h2;by_cases e:x=y
  .subst e;rw[ap rfl]at h1 h2;rw[Bj xs ys h1 h2]
  .rw[ax e]at h1;rw[ax (bQ e)]at h2;have h1:=of_decide_eq_false h1;have h2:=of_decide_eq_false h2;rfl'
def vint:V->Int
 |.int i=>i
 |_=>0
theorem GQ(ns:aH):(ns.map V.int).map vint=ns:=by
 rw[wK];exact(vL (λx _=>rfl)).trans (w0W ns)
def kyL(H:Hp):cM where
 α:=aH
 blt:=HT.lexLt
 irrefl:=M3
 trans:=Bi
 negTrans:=KI
 total:=Bj
 keyOf:=λv=>match v with
  |.ref a=>match H a with
   |some (.lst xs)=>aa (xs.map vint)
   |_=>aj
  |_=>aj
 dflt:=[]
theorem KJ{H:Hp}{a:Addr}{ns:aH}(e:H a=aa (.lst (ns.map V.int))):(kyL H).keyOf (.ref a)=aa ns:=by
 show(match H a with|some (.lst xs)=>aa (xs.map vint)|_=>aj)=_;rw[e];exact bV aa (GQ ns)
def kof(H:Hp)(v:Value):aH:=((kyL H).keyOf v).getD ([]:aH)
theorem kof_of{H:Hp}{a:Addr}{ns:aH}(e:H a=aa (.lst (ns.map V.int))):kof H (.ref a)=ns:=by
 unfold kof;rw[KJ e];rfl
section
variable {X:Cx}{π:aB}{σ:St}{H:Hp}{s:Shared}
def Om(kn:aA)(its out:aG):Prop:=∃ps:List (aH×Value),ps.Perm (kn.zip its)/\out=ps.map (·.2)/\ps.Pairwise λp q=>HT.lexLt q.1 p.1=ag
theorem Mg(I:Inv X π σ H s){a:Addr}{ns:aH}(e:H a=aa (.lst (ns.map V.int))):∃its:aG,cR its ns/\LiAt s.heap a its.toArray:=by
 obtain⟨its,rv,⟨o,n,e1,c,dd,dt⟩,_⟩:=I.list (SqL.of (K:=X.K) e);exact⟨its,NL rv,o,n,e1,c,dt⟩
theorem YW(I:Inv X π σ H s){A:aU}{a₀:Array aQ}(hu:A.units<dk)(hk:∀p∈a₀.toList,∃(a:Addr)(ns:aH),p.1=.ref a/\H a=aa (.lst (ns.map V.int))):Vr X.prog X.w A s a₀ (kyL H):=by
 intro x y p q a b Q E hx hy ka kb h;obtain⟨a1,ns,e1,g1⟩:=hk _ hx;obtain⟨b1,ms,e2,g2⟩:=hk _ hy;have e1:x=.ref a1:=e1;have e2:y=.ref b1:=e2;subst e1 e2;rw[KJ g1]at ka;rw[KJ g2]at kb;cases ka;cases kb;obtain⟨i1,j1,l1⟩:=Mg I g1;obtain⟨i2,j2,l2⟩:=Mg I g2;exact Oj a1 b1 i1.toArray i2.toArray _ _ (by simpa using j1) (by simpa using j2) l1 l2 hu h
theorem YX{a₀ st:List aQ}{kn:aA}{its:aG}(h0:a₀.map (λp=>(kof H p.1,p.2))=kn.zip its)(pm:st.Perm a₀)(so:st.Pairwise λp q=>HT.lexLt (kof H q.1) (kof H p.1)=ag):Om kn its (st.map (·.2)):=
 ⟨st.map (λp=>(kof H p.1,p.2)),by rw[<-h0];exact pm.map _,by rw[wK];rfl,vi.mpr so⟩
theorem Tt{D kS:Addr}{e e1:Nat}{ka:ig}{kn:aA}{its:aG}{A:aU}{P:PySem.Fin->Shared->Prop}{E:aC}(I:Inv X π σ H s)(hu:A.units<dk)
   (o1:s.heap.get? D=aa (bh "list" #[] e1)) (o2:s.heap.get? kS=aa (bh "list" (ka.map ak).toArray e)) (nDS:kS≠D) (fD:FpOk X π H D) (fS:FpOk X π H kS)
   (l1:ka.length=its.length) (l2:kn.length=its.length) (hk:∀(j:Nat)(a:Addr)(ns:aH),ka[j]?=aa a->kn[j]?=aa ns->H a=aa (.lst (ns.map V.int))) (h64:its.length<4096) (nd:kn.Nodup)
   (q:∀s2(out:aG)c,Inv X π σ H s2->s2.heap.get? D=aa (bh "list" out.toArray c)->Om kn its out->P (.done (.ret .none)) s2) :
   ay (model X.prog X.w) A (ksk_end D ag its.toArray e1 (.ref kS) (ka.map ak).toArray) P E s:=by
 generalize ha:((ka.map ak).toArray.zip its.toArray:Array aQ)=a₀;have al:a₀.toList=(ka.map ak).zip its:=by rw[<-ha];simp
 have asz:a₀.size=its.length:=by rw[<-aq,al,vy,we];rfl'
 have get:∀j(h:j<its.length),∃(a:Addr)(ns:aH),ka[j]?=aa a/\kn[j]?=aa ns/\H a=aa (.lst (ns.map V.int)):=λj h=>by
   have e1:ka[j]?=aa ka[j]:=wa ();have e2:kn[j]?=aa kn[j]:=wa ();exact⟨_,_,e1,e2,hk j _ _ e1 e2⟩
 have hm:∀p∈a₀.toList,∃(a:Addr)(ns:aH),p.1=.ref a/\H a=aa (.lst (ns.map V.int)):=λp hp=>by
   rw[al]at hp;obtain⟨j,hj,e⟩:=wI hp;rw[vy,we]at hj;obtain⟨a,ns,g1,g2,g3⟩:=get j ();rw[vt,wM]at e;have g1':ka[j]=a:=by rw[wa ()]at g1;exact aM g1
   exact⟨a,ns,by rw[<-e,g1'],g3⟩
 have h0:a₀.toList.map (λp=>(kof H p.1,p.2))=kn.zip its:=by
   rw[al];apply ue
   .simp;rfl'
   .intro j h1 h2;simp only[we,vy]at h1 h2;obtain⟨a,ns,g1,g2,g3⟩:=get j ();have g1':ka[j]=a:=by rw[wa ()]at g1;exact aM g1
    have g2':kn[j]=ns:=by rw[wa ()]at g2;exact aM g2
    simp only[wM,vt];rw[g1',g2',kof_of g3]
 have hkk:PyProof.Rows.KeysOf (kyL H) a₀:=λp hp=>by
   obtain⟨a,ns,e,g⟩:=hm p hp;exact⟨ns,by rw[e];exact KJ g⟩
 have hnd:(a₀.toList.map λp=>(kyL H).keyOf p.1).Nodup:=by
   have e:a₀.toList.map (λp=>kof H p.1)=kn:=by
     have:a₀.toList.map (λp=>kof H p.1)=(a₀.toList.map (λp=>(kof H p.1,p.2))).map (·.1):=by rw[wK];rfl
     rw[this,h0,w07 ()]
   have n2:(a₀.toList.map (λp=>kof H p.1)).Nodup:=by rw[e];exact nd
   unfold List.Nodup at n2|-;rw[vi]at n2|-;exact n2.imp λh z=>h (by unfold kof;rw[z])
 have tail:∀ st:SortSt,(arrOf st).Perm a₀→failedOf st=none→SortedToK (kyL H) (arrOf st) a₀.size→wpAny (model X.prog X.w) A (ksk_tail D false e1 (.ref kS) st) P E s:=by
   intro st pm fl so;have sz:(aw st).size=its.length:=by rw[pm.size_eq,asz]
   unfold ksk_tail;have sb:=bL s.heap kS (bj λ_=>(#[]:iu));refine ah (cS o2 rfl ?_ (by rw[wq,we,bv];rfl') (wy _));have I2:Inv X π σ H { s with heap:=s.heap.update kS (bj λ_=>(#[]:iu)) }:=I.turnedL (t':=s.toks) (ch:=[kS]) (λb o hb e=>(sb.2 b (by simpa using hb)).trans e) (λb hb=>by rw[wv.mp hb];exact fS);have o3:(s.heap.update kS (bj λ_=>(#[]:iu))).get? D=aa (bh "list" #[] e1):=(sb.2 D (bQ nDS)).trans o1;refine ah (wpAny_letGo ?_);refine ah (fU o3 rfl ?_);generalize hg:s.heap.update kS (bj λ_=>(#[]:iu))=g at *;have sb2:=bL g D (bj λ_=>(eU (λx=>x.2) (aw st)));refine ah (cS o3 rfl ?_ (wy _) (by rw[ax (by decide),Array.size_map,sz,bv];rfl'));have I3:Inv X π σ H { s with heap:=g.update D (bj λ_=>(eU (λx=>x.2) (aw st))) }:=I2.turnedL (s:={ s with heap:=g }) (t':=s.toks) (ch:=[D]) (λb o hb e=>(sb2.2 b (by simpa using hb)).trans e) (λb hb=>by rw[wv.mp hb];exact fD);rw[fl];show ay _ _ (if(e1 != e1)=ae then _ else _) _ _ _;rw[ax (by simp)];have oo:=dC o3 λ_=>(eU (λx=>x.2) (aw st));have ee:eU (λx:aQ=>x.2) (aw st)=((aw st).toList.map (·.2)).toArray:=by rw[<-Array.toList_inj,Array.toList_map]
   refine ao (q _ ((aw st).toList.map (·.2)) _ I3 (oo.trans (by rw[ee])) (YX h0 (Array.perm_iff_toList_perm.mp pm) ?_))
   .rw[wC];intro i j hi hj hij;rw[aq]at hi hj;have:=so i j () ();have gk:∀k(h:k<(aw st).size),KK (kyL H) (aw st) k=kof H ((aw st).toList[k]'(by simpa using h)).1:=λk h=>by
     unfold KK;rw[av h];rfl
    rw[<-gk i hi,<-gk j hj];exact this
 unfold ksk_end;show ay _ _ (if its.toArray.size<2 then _ else _) _ _ _;by_cases c:its.length<2
 .rw[ap (by simpa using c)];refine ah (ao ?_);rw[ap (by simpa using c)];refine ah (ao ?_);refine tail _ ?_ rfl ?_
  .show Array.Perm _ a₀;rw[ax (by decide),ha]
  .intro i j h1 h2;have:i=j:=()
   subst this;exact KeyOrd.kle_refl _
 .rw[ax (by simpa using c)];refine ah (Ol (λv hv=>?_) (by rw[we];rfl') ?_)
  .obtain⟨a,ha',rfl⟩:=wl.mp hv;obtain⟨j,hj,e⟩:=wI ha';obtain⟨a2,ns,g1,g2,g3⟩:=get j ();have g1':ka[j]=a2:=by rw[wa ()]at g1;exact aM g1
   rw[<-e,g1'];obtain⟨i1,j1,o,n,l1',l2',l3'⟩:=Mg I g3;exact⟨o,l1',l2'⟩
  .rw[ax (by simpa using c),ax (by decide),ha];have B:SBase a₀ (SortSt.mk' oneType' a₀ #[] 7 aj):=⟨Array.Perm.refl _,rfl,rfl,rfl⟩;have:=YU (E:=E) (YW I hu hm) hkk hnd B (Q:=λ_ st=>(aw st).Perm a₀/\ci st=aj/\SortedToK (kyL H) (aw st) a₀.size) (λst' h1 h2 h3=>⟨h1,h2,h3⟩);refine ah (bt this ?_ λ_ _ z=>z);rintro⟨u,st⟩ s' ⟨rfl,h1,h2,h3⟩;exact tail st h1 h2 h3
end
end L2
end
section
namespace L2
theorem Oo{pos:Pos}{a b:Int}{c cv:Value}(l:aG)(h:gX l)(e:eQ pos (l++[cK a,cK b,c])=aa cv):eQ pos l=aa cv\/cv=c:=by
 fun_induction gX l with
 |case1=>
  right;simp only[w0j,cK,eQ]at e;split at e
  .cases e;rfl
  .cases e
 |case2 a' t b' u x rest ih=>
  simp only[w09,eQ]at e|-;split at e
  .rename_i hh;rw[ap hh];exact .inl e
  .rename_i hh;rw[ax hh];exact ih h e
 |case3=>exact h.elim
structure Lam(base:aX)(mg:aF)(c P:Addr):Prop where
 code:∃o vs file tf flags tg inF text tt,base.get? c=aa o/\o.cls=.type "code" /\ o.data=.fields vs/\vs[11]?=aa (.ref P)/\vs.getD 11 .none=.ref P/\vs.getD 18 .none=.str file tf /\
  vs.getD 7 .none=.int flags tg/\vs.getD 9 .none=.bool inF/\vs.getD 10 .none=.int text tt
 bm:∃bm o,mg "__builtins__"=aa (.ref bm)/\bm≠dq/\base.get? bm=aa o/\o.cls=.type "module" /\ o.dict=aa dq/\o.data=.plain
def EM(q:Str)(params:eR)(body:aV)(scope:Scope)(H:Hp)(f:Addr):Prop:=
 ∃pm c ctv oc u vs t,H f=aa (.frz (dW "<lambda>" q params body scope [] pm c ctv) (.own 0))/\H c=aa (.frz oc u)/\oc.data=.fields vs/\vs[1]?=aa (.str q t)
section
variable {X:Cx}{π:aB}{σ:St}{H:Hp}{s:Shared}{c P:Addr}{ps:iu}{q:Str}{params:eR}{body:aV}{scope:Scope}{pos:Pos}
theorem Inv.coded{h':aX}{tk:Nat}{more:iu}{c':Addr}{oc:Obj}{vs:iu}{t:Tok}{la lb:Int}(I:Inv X π σ H s)(hP:H P=aa (.tbl ps q))(tr:gX (ps++more).toList)
   (old:∀pos cv,eQ pos (ps++more).toList=aa cv->∃c o u vs t,cv=.ref c/\H c=aa (.frz o u)/\o.data=.fields vs/\vs[1]?=aa (.str q t))
   (hx:Heap.ExtBut P s.heap h') (hge:s.heap.objs.size<=c') (hoc:h'.get? c'=aa oc) (hd:oc.data=.fields vs) (hv:vs[1]?=aa (.str q t))
   (ht:h'.get? P=aa { cls:=.none,data:=.fields ((ps++more)++#[cK la,cK lb,.ref c']) }) :
   Inv X π σ (upd H c' (.frz oc (.own 0))) { s with heap:=h',toks:=tk }:=by
 have hn:H c'=aj:=I.hok.fresh hge;have nb:∀b u,H b=aa u->b≠c':=λb u e z=>by rw[z,hn]at e;cases e
 have nP:∀b,H b=aj->b≠P:=λb e z=>by rw[z,hP]at e;cases e
 have lP:X.env.locals≠P:=λz=>by rw[<-z,I.free]at hP;cases hP
 refine I.step (g':=s.gens) (d':=s.drawn) (ch:=[]) (λ_ z=>nomatch z) (λb o _ _ _ e n=>hx b o (nP b n) e) (λb o _ _ _ e n=>⟨o.slots,hx b o (nP b n) e⟩) (λb o _ e n=>?_) (λb o _ e=>?_)
   (λb xs e=>by rw[i7 (nb b _ e)];exact e) (λb o u e=>by rw[i7 (nb b _ e)];exact e) (λb ps q e=>by rw[i7 (nb b _ e)];exact e) (λm hm=>hm.extBut hx lP) (λb u e=>?_) I.bare
 .rw[i7 (wD (wt (wm e) hge))];exact n
 .by_cases z:b=P
  .subst z;exact⟨_,ht⟩
  .exact⟨o,hx b o z e⟩
 .by_cases z:b=c'
  .subst z;rw[j6]at e;cases e;exact⟨hoc,oc,hoc⟩
  .rw[i7 z]at e
   by_cases y:b=P
   .subst y;rw[hP]at e;cases e;refine⟨more++#[cK la,cK lb,.ref c'],by rw[<-eI];exact ht,?_,λpos cv e=>?_⟩
    .rw[<-eI,bG];exact TriplesOk_snoc _ _ _ _ tr
    .rw[<-eI,bG]at e;rcases Oo _ tr e with e|e
     .obtain⟨c1,o,u,vs',t',h1,h2,h3⟩:=old pos cv e;exact⟨c1,o,u,vs',t',h1,by rw[i7 (nb c1 _ h2)];exact h2,h3⟩
     .exact⟨c',oc,_,vs,t,e,j6,hd,hv⟩
   .refine(I.hok b u e).stay (λd v hd' g=>hx d v (λw=>?_) g) (λd g=>?_) (λd xs g=>?_) (λd _ _ g=>?_)
    .rcases hd' with g'|g'
     .exact y (g'.symm.trans w)
     .rw[w,hP]at g';cases g'
    .rw[i7 (nb d _ g)];exact g
    .rw[i7 (nb d _ g)];exact g
    .rw[i7 (nb d _ g)];exact g
theorem VA{Q:aC}{E:aC}(I:Inv X π σ H s)(L:Lam X.base X.mg c P)(hc:X.env.code=.ref c)(hq:X.env.qual ++ "<lambda>"=q)(hP:H P=aa (.tbl ps q))(hcl:gB scope X.env=pure [])(hdf:defaultsOf params X.env=([],[]))
  (h:∀f H' s',Inv X π σ H' s'->Same H H'->EM q params body scope H' f->Q (.ref f) s'):ay (model X.prog X.w) X.A (eval (.Lambda params body scope pos) X.env) Q E s:=by
 subst hq;obtain⟨more,e,tr,old⟩:=(show ObjOk X.prog X.w H s.heap P (.tbl ps _)from I.hok P _ hP);have nb:∀b o,X.base.get? b=aa o->b≠P:=λb o g z=>by
  have:=(I.bs b o g).2;rw[z,hP]at this;cases this
 have hg:s.heap.Ns aO X.mg:=I.mod.glob.keeps I.bk;obtain⟨o,vs,file,tf,flags,tg,inF,text,tt,c1,c2,c3,c4,c5,c6,c7,c8,c9⟩:=L.code;have C:PySem.W.CodeHd s.heap c P:=⟨o,vs,file,tf,flags,tg,inF,text,tt,I.bk _ _ c1,c2,c3,c4,c5,c6,c7,c8,c9,nb _ _ c1⟩;obtain⟨bm,ob,b1,b2,b3,b4,b5,b6⟩:=L.bm;have hgP:aO≠P:=by
  obtain⟨o,_,_,g,_⟩:=I.mod.glob;exact nb _ _ g
 have hbG:bm≠aO:=λz=>by
  obtain⟨o,es,ep,g,hd,_⟩:=I.mod.glob;rw[z,g]at b3;cases b3;rw[hd]at b6;cases b6
 have B:s.heap.BuiltinsAt X.mg P:=⟨bm,ob,b1,b2,hbG,nb _ _ b3,I.bk _ _ b3,b4,b5,b6⟩;refine PySem.W.kla_eval hdf ?_;cases z:eQ pos (ps++more).toList with
 |none=>
  refine PySem.W.kla_makeFunction (mg:=X.mg) hcl I.ok.glob hg hc C e tr z hgP B λc' ctv h' tk hx hge hlt hrec htb=>?_;obtain⟨c2',oc,vs',t',e2,hoc,hd,hv⟩:=hrec;cases e2;have I1:=I.coded (tk:=tk) hP tr old hx hge hoc hd hv htb;have hf:upd H c' (.frz oc (.own 0)) h'.objs.size=aj:=I1.hok.fresh (wf _);have hn:H c'=aj:=I.hok.fresh hge;have I2:=I1.laid (a:=h'.objs.size) (o:=.frz (dW "<lambda>" (X.env.qual ++ "<lambda>") params body scope [] ((X.mg "__name__").getD .none) c' ctv) (.own 0)) (h':=h'.push (dW "<lambda>" (X.env.qual ++ "<lambda>") params body scope [] ((X.mg "__name__").getD .none) c' ctv)) (t':=tk) (λb u g=>wc _ g) (wf _) ⟨wo _ rfl,_,wo _ rfl⟩;refine h _ _ _ I2 ((m6 hn).trans (m6 hf)) ⟨_,c',ctv,oc,.own 0,vs',t',j6,?_,hd,hv⟩;rw[i7 (wD hlt),j6]
 |some cv=>
  obtain⟨c',oc,u,vs',t',rfl,hfr,hd,hv⟩:=old _ _ z;refine PySem.W.kla_makeFunctionHit (mg:=X.mg) hcl I.ok.glob hg hc C e tr z B λctv h' tk hk hsz=>?_;have I1:Inv X π σ H { s with heap:=h',toks:=tk }:=I.kept (t':=tk) hk;have hf:H h'.objs.size=aj:=I1.hok.fresh (wf _);have I2:=I1.laid (a:=h'.objs.size) (o:=.frz (dW "<lambda>" (X.env.qual ++ "<lambda>") params body scope [] ((X.mg "__name__").getD .none) c' ctv) (.own 0)) (h':=h'.push (dW "<lambda>" (X.env.qual ++ "<lambda>") params body scope [] ((X.mg "__name__").getD .none) c' ctv)) (t':=tk) (λb u g=>wc _ g) (wf _) ⟨wo _ rfl,_,wo _ rfl⟩;exact h _ _ _ I2 (m6 hf) ⟨_,c',ctv,oc,u,vs',t',j6,m6 hf _ _ hfr,hd,hv⟩
end
theorem YY{P:aN}{w:aP}{K:aE}{mg:aF}{base:aX}{k:Nat}{f:Addr}{q:Str}{params:eR}{body:aV}{scope:Scope}{N ps:ie}{A:aU}{outer:iq}{s:Shared}{H:Hp}{us:aG}{vs:iD}{Q:VK}
  (L:EM q params body scope H f) (S:FnScope N ps scope) (hr:Room (k+1) A) (e0:Env0 P w K mg base A outer s H) (hb:∀pm cd ct,fA (PySem.W.kla_fn "<lambda>" q params body scope [] pm cd ct) ⟨us,[]⟩=pure (ps.zip us)) (r:Vals vs us) (hl:vs.length=ps.length)
  (hbody:∀cd,∃t,PE (cxOf CX0 P w K mg base N q scope f cd A outer s H E0) body t/\t (start N vs) H Q) :
  gj (model P w) A (.call (.ref f) ⟨us,[]⟩) (CR CX0 outer P w H s Q E0) s:=by
 obtain⟨pm,c,ctv,oc,u,xs,t,h1,h2,h3,h4⟩:=L;obtain⟨g1,_⟩:=(show ObjOk P w H s.heap f (.frz _ _)from e0.hok f _ h1);obtain⟨g2,_⟩:=(show ObjOk P w H s.heap c (.frz _ _)from e0.hok c _ h2);have lim:s.heap.NoLimit:=e0.mod.nolimit.keeps λb o e=>(e0.bs b o e).1;have hkind:∀y∈ps.zip us,scope.names.lookup y.1=aa .local\/(scope.names.lookup y.1=aa .cell/\((be (s.heap.objs.size+1) scope.names []).lookup y.1).isSome=ae):=λ⟨n,v⟩hy=>by
  rcases S.par n (uQ hy).1 with q|q
  .exact .inl q
  .exact .inr ⟨q,dJ _ _ _ (.inl q)⟩
 refine PySem.W.kla_callFunE hr.depth g1 rfl S.co S.gen rfl ⟨c,oc,xs,t,rfl,g2,h3,h4⟩ ?_;rw[hb];refine ao ?_;refine wpAny_newFunctionEnv_cells S.kind hkind λenv he s1 x=>?_;subst he;refine⟨lim.keeps x.toInCall.keep,PySem.W.kla_codeExpr ?_⟩;obtain⟨tt,ht,hq⟩:=hbody (.ref c);have I:Inv (cxOf CX0 P w K mg base N q scope f (.ref c) A outer s H E0) [] (start N vs) H s1:=IF S hr.hd e0 hl r x;refine bt (ht [] s1 (start N vs) H _ I hq) (λu s' hs=>?_) λe s' hs=>hs;obtain⟨v,H',J,rv,q⟩:=hs;exact⟨v,H',J.os,J.bare,J.base,J.hok,rv,q⟩
end L2
end
section
namespace L2
def LexV(kn:aA)(ts ys:ig):Prop:=∃ps:List (aH×Addr),ps.Perm (kn.zip ts)/\ys=ps.map (·.2)/\ps.Pairwise λp q=>HT.lexLt q.1 p.1=ag
def VB:Value->Addr
 |.ref a=>a
 |_=>0
theorem YZ{kn:aA}{ts:ig}{out:aG}(h:Om kn (ts.map ak) out):∃ys,LexV kn ts ys/\out=ys.map ak:=by
 obtain⟨ps,h1,h2,h3⟩:=h;have e:(kn.zip (ts.map ak)).map (λp=>(p.1,VB p.2))=kn.zip ts:=by
  rw[w0F,wK];exact(vL λp _=>rfl).trans (w0W _)
 have all:∀p∈ps,p.2=ak (VB p.2):=λp hp=>by
  have:=h1.mem_iff.mp hp;rw[w0F]at this;obtain⟨z,_,rfl⟩:=wl.mp this;rfl
 refine⟨_,⟨ps.map (λp=>(p.1,VB p.2)),by rw[<-e];exact h1.map _,rfl,vi.mpr h3⟩,?_⟩;rw[h2,wK,wK];exact vL λp hp=>all p hp
theorem DL:∀{ts:ig}{us:aG},Vals (ts.map V.ref) us->us=ts.map ak
 |[],us,h=>by rw[w0e]at h;exact h.zero
 |t::ts,us,h=>by
  rw[wj]at h;obtain⟨u,vs,rfl,r,h⟩:=h.uncons;rw[DL h,show u=ak t from r];rfl
theorem DM:∀(ts:ig),Vals (ts.map V.ref) (ts.map ak)
 |[]=>.nil
 |t::ts=>.cons rfl (DM ts)
section
variable {X:Cx}{π:aB}{σ:St}{H:Hp}{s:Shared}{k:Nat}{f:Addr}{q p:Str}{params:eR}{body:aV}{scope:Scope}{l:Addr}{ts ka:ig}{kn:aA}{Q:VK}
structure First(X:Cx)(q p:Str)(params:eR)(body:aV)(scope:Scope):Prop where
 sc:FnScope [p] [p] scope
 bind:∀pm cd ct u,fA (PySem.W.kla_fn "<lambda>" q params body scope [] pm cd ct) ⟨[u],[]⟩=pure [(p,u)]
 body:∀f cd A outer s H,PE (cxOf CX0 X.prog X.w X.K X.mg X.base [p] q scope f cd A outer s H E0) body (tOp (rIxT X.K) (tVar 0) (tC (.int 0)))
theorem VC{s1:Shared}{t a:Addr}{b:V}(F:First X q p params body scope)(L:EM q params body scope H f)(hr:Room (k+3) X.A)(I:Inv X π σ H s1)(hv:SqT X.K H t [.ref a,b])
   {P:aC} {E:aC} (z:∀s2,Inv X π σ H s2->(∀b o,s1.heap.get? b=aa o->H b=aj->b∉frs X.stack->s2.heap.get? b=aa o)->P (.ref a) s2):ay (model X.prog X.w) X.A.in1.in1 (call (.ref f) [.ref t]) P E s1:=by
 have hr2:Room (k+1) X.A.in1.in1:=(show Room (k+1+1+1) X.A from hr).in1.in1;refine gA (dE (YY (k:=k) (Q:=λw H2=>w=.ref a/\H2=H) (vs:=[.ref t]) (ps:=[p]) (N:=[p]) L F.sc hr2 I.env0.in1.in1 (λpm cd ct=>F.bind pm cd ct _) (.cons rfl .nil) rfl λcd=>⟨_,F.body f cd _ _ _ _,?_⟩) λres s2 hres=>?_)
 .exact⟨.ref t,rfl,t,_,0,.ref a,rfl,rfl,hv,rfl,rfl,rfl⟩
 cases res with
 |error e=>exact hres.elim
 | ok fl =>
   cases fl with
   |ret w=>
    obtain⟨x,H2,os,bare,un,hok,rw',ex,eH⟩:=hres;subst ex eH;obtain rfl:w=ak a:=rw';exact z s2 (I.call' (ch:=[]) os un hok bare λb hb=>aW hb (by simp)) λb o e hn hf=>un.keep b o e hn hf (by simp)
   |next=>exact hres.elim
   |brk=>exact hres.elim
   |cont=>exact hres.elim
structure Pairs(K:aE)(H:Hp)(ts ka:ig)(kn:aA):Prop where
 l1:ka.length=ts.length
 l2:kn.length=ts.length
 tup:∀(j:Nat)(t a:Addr),ts[j]?=aa t->ka[j]?=aa a->∃b,SqT K H t [.ref a,b]
 key:∀(j:Nat)(a:Addr)(ns:aH),ka[j]?=aa a->kn[j]?=aa ns->H a=aa (.lst (ns.map V.int))
 few:ts.length<4096
 nd:kn.Nodup
theorem Op{D kS:Addr}{e1:Nat}{P:PySem.Fin->Shared->Prop}{E:aC}(F:First X q p params body scope)(L:EM q params body scope H f)(hr:Room (k+3) X.A)(I:Inv X π σ H s)(pr:Pairs X.K H ts ka kn)
  (hD:s.heap.get? D=aa (bh "list" #[] e1)) (hS:s.heap.get? kS=aa (bh "list" #[] 0)) (nDS:kS≠D) (fD:FpOk X π H D) (fS:FpOk X π H kS) (gD:D∉frs X.stack) (gS:kS∉frs X.stack)
  (z:∀s2(ys:ig)c,Inv X π σ H s2->s2.heap.get? D=aa (bh "list" (ys.map ak).toArray c)->LexV kn ts ys->P (.done (.ret .none)) s2) :
  ay (model X.prog X.w) X.A.in1.in1 (ksk_rest D (.ref f) ag (ts.map ak).toArray e1 (.ref kS)) P E s:=by
 have l1:=pr.l1;have l2:=pr.l2;have h64:=pr.few;have sl:(4096:Nat)<sizeLine:=by rw[bv];rfl'
 unfold ksk_rest;refine ah (cB ?_);rw[w0E];refine ah (ksk_fold (λi s'=>∃e,Inv X π σ H s'/\s'.heap.get? D=aa (bh "list" #[] e1)/\s'.heap.get? kS=aa (bh "list" ((ka.take i).map ak).toArray e)) (ts.map ak) 0 s
  ⟨0,I,hD,hS⟩ ?step ?done)
 case step=>
  rintro j u s' hu ⟨e,I1,o1,o2⟩;simp only[vR]at o2|-;rw[wx]at hu;obtain⟨t,ht,rfl⟩:=vF.mp hu;have hj:j<ts.length:=(wr.mp ht).1;obtain⟨a,ha⟩:∃a,ka[j]?=aa a:=⟨_,wa ()⟩;obtain⟨b,hb⟩:=pr.tup j t a ht ha;refine ah (cH (VC F L hr I1 hb λs2 I2 kk=>?_));have p1:=kk D _ o1 fD.1 gD;have p3:=kk kS _ o2 fS.1 gS
  try dsimp only
  have sb:=bL s2.heap kS (bj (·.push (.ref a)));have g2:=dC p3 (·.push (.ref a));have ek:ka.take (j+1)=ka.take j++[a]:=by rw[uA,ha];simp
  have ea:((ka.take j).map ak).toArray.push (.ref a)=((ka.take (j+1)).map ak).toArray:=by rw[ek];simp
  have hz:((ka.take j).map ak).toArray.size<=ts.length:=by rw[wq,we,vg];rfl'
  refine ah (cS p3 rfl ?_ () (wu (w0J (Array.size_push ..)) ()));rw[ea]at g2;exact ao ⟨rfl,_,I2.turnedL (t':=s2.toks) (ch:=[kS]) (λb o hb e=>(sb.2 b (by simpa using hb)).trans e) (λb hb=>by rw[wv.mp hb];exact fS),(sb.2 D (bQ nDS)).trans p1,g2⟩
 case done=>
  rintro s' ⟨e,I1,o1,o2⟩;rw[vm (by rw[we];rfl')]at o2
  try dsimp only
  refine ah (bE o2 rfl ?_);refine Tt I1 (A:=X.A.in1.in1) (by have:=hr.un;show X.A.units+1+1<dk;rfl') o1 o2 nDS fD fS (by rw[we];rfl') (by rw[we];rfl') pr.key (by rw[we];exact h64) pr.nd λs2 out c I2 oD lo=>?_;obtain⟨ys,ly,rfl⟩:=YZ lo;exact z s2 ys c I2 oD ly
theorem Oq{D:Addr}{n0:Nat}{P:PySem.Fin->Shared->Prop}{E:aC}(F:First X q p params body scope)(L:EM q params body scope H f)(hr:Room (k+3) X.A)(I:Inv X π σ H s)(pr:Pairs X.K H ts ka kn)
  (hD:s.heap.get? D=aa (bh "list" (ts.map ak).toArray n0)) (fD:FpOk X π H D) (gD:D∉frs X.stack)
  (z:∀s2(ys:ig)c,Inv X π σ H s2->s2.heap.get? D=aa (bh "list" (ys.map ak).toArray c)->LexV kn ts ys->P (.done (.ret .none)) s2) :
  ay (model X.prog X.w) X.A.in1.in1 (ksk_tree D (.ref f) ag) P E s:=by
 have h64:=pr.few;have hlt:D<s.heap.objs.size:=wm hD;have sz:(ts.map ak).length<=sizeLine:=by rw[we,bv];rfl'
 unfold ksk_tree;refine ah (bE hD rfl ?_);have sb:=bL s.heap D (bj λ_=>(#[]:iu));have o1:=dC hD λ_=>(#[]:iu);refine ah (cS hD rfl ?_ (by rw[wq];exact sz) (wy _));have I1:Inv X π σ H { s with heap:=s.heap.update D (bj λ_=>(#[]:iu)) }:=I.turnedL (t':=s.toks) (ch:=[D]) (λb o hb e=>(sb.2 b (by simpa using hb)).trans e) (λb hb=>by rw[wv.mp hb];exact fD);refine ah (fU o1 rfl ?_);refine ah (fX ?_ (by show(ts.map ak).length<=_;exact sz));refine ah (eB ?_ (wy _));refine cj ?_;generalize hg:s.heap.update D (bj λ_=>(#[]:iu))=g at *;have zg:g.objs.size=s.heap.objs.size:=sb.1;have I2:Inv X π σ H { s with heap:=(g.push (bh "tuple" (ts.map ak).toArray 0)).push (bh "list" #[] 0) }:=I1.kept (t':=s.toks) λb o e=>wc _ (wc _ e);have zk:(g.push (bh "tuple" (ts.map ak).toArray 0)).objs.size=g.objs.size+1:=size_push' _ _;have ge:s.heap.objs.size<=(g.push (bh "tuple" (ts.map ak).toArray 0)).objs.size:=()
 refine Op (s:={ s with heap:=(g.push (bh "tuple" (ts.map ak).toArray 0)).push (bh "list" #[] 0) }) (kS:=(g.push (bh "tuple" (ts.map ak).toArray 0)).objs.size) F L hr I2 pr (wc _ (wc _ o1)) (wo _ rfl) (vQ (wt hlt ge)) fD (I.fpOk ge (I.hok.fresh ge)) gD (λz=>?_) z;exact aW (wt (KA I z) ge) (wR _)
theorem Os(F:First X q p params body scope)(L:EM q params body scope H f)(hr:Room (k+3) X.A)(I:Inv X π σ H s)(hl:H l=aa (.lst (ts.map V.ref)))(pr:Pairs X.K H ts ka kn)
  (z:∀D ys,H D=aj->LexV kn ts ys->Q (.ref D) (upd H D (.lst (ys.map V.ref)))) :
  ay (model X.prog X.w) X.A (call (.builtin "sorted") [.ref l] [(bw "key",.ref f)]) (EP X π σ Q) X.xe s:=by
 obtain⟨its,rv,pl,hz⟩:=I.list (SqL.of (K:=X.K) hl);have ei:=DL rv;subst ei;have h64:=pr.few;have sz:(ts.map ak).length<=sizeLine:=by rw[we,bv];rfl'
 refine call_function_entry_kw kind_sorted plain_sorted entry_sorted (ksk_s1 _ _) ?_;unfold Builtin.«sorted»;refine ah (m:=checkCount "sorted" 1 1 _) (ao ?_);refine ah (collect_list pl.isList ?_ (by simpa using sz));refine ah (eB ?_ (by simpa using sz));generalize hg:(s.heap.push (bh "list" #[] 0)).update s.heap.objs.size (bj (·++(ts.map ak).toArray))=g;have zg:g.objs.size=s.heap.objs.size+1:=by rw[<-hg,w06,size_push']
 have kg:∀b o,s.heap.get? b=aa o->g.get? b=aa o:=λb o e=>by
  have hlt:=wm e;rw[<-hg,uU _ _ _ _ (wD hlt),uz _ _ _ (wD hlt)];exact e
 have I1:Inv X π σ H { s with heap:=g.push (bh "list" (ts.map ak).toArray 0) }:=I.kept (t':=s.toks) λb o e=>wc _ (kg b o e);have oD:(g.push (bh "list" (ts.map ak).toArray 0)).get? g.objs.size=aa (bh "list" (ts.map ak).toArray 0):=wo _ rfl;have ge:s.heap.objs.size<=g.objs.size:=()
 refine ah (cj (wpAny_call_entry_kw slot_list_sort ⟨_,oD,rfl⟩ entry_list_sort ?body (ksk_l1 _ _)))
 case body=>
  show ay (model X.prog X.w) X.A.in1.in1 (Builtin.«list.sort» ⟨[.ref g.objs.size],[(bw "key",.ref f)]⟩) _ _ _;rw[ksk_t1];refine Oq (s:={ s with heap:=g.push (bh "list" (ts.map ak).toArray 0) }) F L hr I1 pr oD (I.fpOk ge (I.hok.fresh ge)) (λz=>aW (wt (KA I z) ge) (wR _)) λs2 ys c I2 o2 ly=>⟨_,rfl,?_⟩;refine ao ⟨_,rfl,?_⟩;have hn:H g.objs.size=aj:=I.hok.fresh ge;have ll:ys.length=ts.length:=by
   obtain⟨ps,h1,h2,_⟩:=ly;rw[h2,we,h1.length_eq,vy,pr.l2,w0h]
  exact⟨.ref g.objs.size,_,I2.track hn ⟨hn,(I.fpOk ge (I.hok.fresh (H:=H) ge)).2⟩ (wu I.sz ge) (by simpa using o2) (DM ys) (by rw[we,bv];rfl'),rfl,z _ _ hn ly⟩
def VD(K:aE)(P:Addr)(ps:iu)(q:Str)(i:Nat):TE:=λσ H Q=>∃l ts ka kn,σ[i]?=aa (aa (.ref l))/\H l=aa (.lst (ts.map V.ref))/\Pairs K H ts ka kn/\H P=aa (.tbl ps q) /\
 ∀D ys H2,Same H H2->H2 D=aj->LexV kn ts ys->Q (.ref D) (upd H2 D (.lst (ys.map V.ref)))
end
theorem Pairs.mono{K:aE}{H H':Hp}{ts ka:ig}{kn:aA}(h:Pairs K H ts ka kn)(s:Same H H'):Pairs K H' ts ka kn:=
 ⟨h.l1,h.l2,λj t a e1 e2=>let ⟨b,g⟩:=h.tup j t a e1 e2;⟨b,s.seqT g⟩,λj a ns e1 e2=>s _ _ (h.key j a ns e1 e2),h.few,h.nd⟩
section
variable {X:Cx}{k i:Nat}{c P:Addr}{ps:iu}{q p x:Str}{params:eR}{body:aV}{scope:Scope}{p1 p2 pos kpos lpos:Pos}
theorem VE(F:First X q p params body scope)(hr:Room (k+3) X.A)(L:Lam X.base X.mg c P)(hc:X.env.code=.ref c)(hq:X.env.qual ++ "<lambda>"=q)(hcl:gB scope X.env=pure [])(hdf:defaultsOf params X.env=([],[]))
  (hg:Gl X "sorted") (hm:X.mg "sorted"=aj) (ha:PE X (.Name x p2) (tVar i)) (hs:au [.Name x p2] X.env=[(ag,eval (.Name x p2) X.env)]:=by rfl) :
  PE X (.Call (.Name "sorted" p1) [.Name x p2] [⟨aa "key",.Lambda params body scope lpos,kpos⟩] pos) (VD X.K P ps q i):=by
 intro π s σ H Q I ⟨l,ts,ka,kn,e0,hl,pr,hP,z⟩;have hA:PA X [.Name x p2] (D4 (tVar i) tNil):=m9 ha A4;refine bU (V4 I hg hm (by decide +kernel:bF "sorted"=aa (.builtin "sorted")) ?_);refine gZ (thn (hA pos π s σ H (λvs H1=>vs=[.ref l]/\H1=H) I ⟨_,e0,rfl,rfl⟩) λus s1 hZ=>?_) (by rw[hs];rfl) (by rw[hs];rfl) rfl rfl;obtain⟨vs,H1,I1,rv,ev,eH⟩:=hZ;subst ev eH;obtain⟨ua,rfl,rua⟩:=rv.one;obtain rfl:ua=ak l:=rua;have hkw:PK X [⟨aa "key",.Lambda params body scope lpos,kpos⟩] (D4 (λσ H Q=>H P=aa (.tbl ps q)/\∀f H',Same H H'->EM q params body scope H' f->Q (.ref f) H') tNil):=Kg (λπ s σ H Q I⟨hP,h⟩=>VA I L hc hq hP hcl hdf λf H' s' I' sm il=>⟨.ref f,H',I',rfl,h f H' sm il⟩) NK;refine thn (hkw pos π s1 σ H1 (λzs H2=>∃f,zs=[.ref f]/\Same H1 H2/\EM q params body scope H2 f) I1 ⟨hP,λf H' sm il=>⟨f,rfl,sm,il⟩⟩) ?_;rintro kvs s2 ⟨zs,H2,I2,rz,f,ez,sm,il⟩;subst ez;obtain⟨uk,rfl,ruk⟩:=rz.one;cases ruk;exact Os F il hr I2 (sm _ _ hl) (pr.mono sm) λD ys hn ly=>z D ys H2 sm hn ly
end
end L2
end
section
namespace L2
abbrev L(ns:aH):Dt:=.lst (ns.map .int)
abbrev T(ns:aH):Dt:=.tup (ns.map .int)
theorem o6{α β:Type}{a:α}{f:α->Option β}:(aa a).bind f=f a:=rfl
theorem Sn{α:Type}{xs:List α}{i:Int}(h0:0<=i):atI xs i=xs[i.toNat]?:=by
 unfold atI ixN;rw[ap h0];by_cases h:i<xs.length
 .rw[ap h];rfl
 .rw[ax h,wU ()];rfl
theorem atI_c0{α:Type}{x:α}{xs:List α}:atI (x::xs) 0=aa x:=CC (j:=0) rfl
theorem atI_c1{α:Type}{x y:α}{xs:List α}:atI (x::y::xs) 1=aa y:=CC (j:=1) rfl
theorem atI_c2{α:Type}{x y z:α}{xs:List α}:atI (x::y::z::xs) 2=aa z:=CC (j:=2) rfl
theorem T0:∀ns:aH,G0 (ns.map Dt.int)=ae
 |[]=>rfl
 |n::ns=>by rw[wj,G0,T0 ns];rfl
theorem D1:∀(k:Nat)(ns:aH),oksN k (ns.map Dt.int)=ae
 |k,[]=>by cases k<;>rfl
 |k,n::ns=>by rw[wj,oksN,D1 k ns];cases k<;>rfl
theorem P0:∀ns:aH,pys (ns.map Dt.int)=ns.map fK
 |[]=>rfl
 |n::ns=>by rw[wj,pys,P0 ns];rfl
theorem P2:∀ns ms:aH,ft (ns.map fK) (ms.map fK)=decide (ns=ms)
 |[],[]=>by simp[ft]
 |[],m::ms=>by simp[ft]
 |n::ns,[]=>by simp[ft]
 |n::ns,m::ms=>by
  rw[wj,wj,ft,P2 ns ms,eA,w0Z];simp
theorem Bl(ns ms:aH):opEq (L ns) (L ms)=aa (.nw,.bl (decide (ns=ms))):=by
 unfold opEq L;rw[Dt.okN,Dt.okN,D1,D1];unfold eqD;rw[Dt.py,Dt.py,P0,P0,eA,P2];rfl
theorem Tu(ns ms:aH):opNe (L ns) (L ms)=aa (.nw,.bl (!decide (ns=ms))):=by
 unfold opNe L;rw[Dt.okN,Dt.okN,D1,D1];unfold eqD;rw[Dt.py,Dt.py,P0,P0,eA,P2];rfl
theorem Za(ns:aH):(Dt.scr ns).okN 8=ae:=by simp[Dt.okN]
theorem Mh(ns ms:aH):opEq (.scr ns) (L ms)=aa (.nw,.bl (decide (ns=ms))):=by
 unfold opEq;rw[Za];unfold L;rw[Dt.okN,D1];unfold eqD;rw[Dt.py,Dt.py,P0,eA,P2];rfl
theorem u7(i j:Int):opEq (.int i) (.int j)=aa (.nw,.bl (decide (i=j))):=by
 unfold opEq eqD;rw[Dt.py,Dt.py,eA,w0o];rfl
theorem E7(i j:Int):opNe (.int i) (.int j)=aa (.nw,.bl (!decide (i=j))):=by
 unfold opNe eqD;rw[Dt.py,Dt.py,eA,w0o];rfl
theorem EN{i j:Int}(h:j.natAbs<2^64):D9 i j=ae:=by unfold D9;rw[aI h];simp
theorem L1{i j:Int}(h:i.natAbs<2^64):D9 i j=ae:=by unfold D9;rw[aI h];simp
section
variable (i j:Int)
end
def j8(ns:aH)(k:Int):Int:=if k<ns.length then ns.getD k.toNat 0 else if ns=[] then 0 else ns.getD (k.fmod ns.length).toNat 0*31+k
end L2
end
section
namespace L2
section
variable {α β γ:Type}{g:Tg}{Fc:FT}{Fe:FE}{ρ0:Rho}
theorem IV(e:α->Dt)(h:α->Dv):∀(xs:List α),(∀x∈xs,(g.put (e x) ρ0).bind Fe=aa (h x))->S7 g fYes Fe ρ0 (xs.map e)=aa (xs.map h)
 |[],_=>rfl
 | x::xs,q=>by
  have q1:=q x wd;have ih:=IV e h xs λy hy=>q y (wb _ hy);rw[wj,S7];cases p:g.put (e x) ρ0 with
  |none=>rw[p]at q1;cases q1
  |some ρ1=>
   rw[p]at q1;have q1:Fe ρ1=aa (h x):=q1;simp[fYes,q1,ih]
theorem Q2(e:α->Dt)(h:α->Dv)(p:α->Bool):∀(xs:List α),(∀x∈xs,(g.put (e x) ρ0).bind Fc=aa (p x))->(∀x∈xs,p x=ae->(g.put (e x) ρ0).bind Fe=aa (h x))->S7 g Fc Fe ρ0 (xs.map e)=aa ((xs.filter p).map h)
 |[],_,_=>rfl
 | x::xs,q,q'=>by
  have q1:=q x wd;have q2:=q' x wd;have ih:=Q2 e h p xs (λy hy=>q y (wb _ hy)) (λy hy=>q' y (wb _ hy));rw[wj,S7];cases z:g.put (e x) ρ0 with
  |none=>rw[z]at q1;cases q1
  | some ρ1 =>
   rw[z]at q1 q2;have q1:Fc ρ1=aa (p x):=q1;cases w:p x with
   |true=>
    have q2:Fe ρ1=aa (h x):=q2 w;simp[q1,w,q2,ih]
   |false=>simp[q1,w,ih]
theorem GR(h:α->Dv):∀xs:List α,sndL (xs.map h)=xs.map λx=>(h x).2
 |[]=>rfl
 |x::xs=>by rw[wj,sndL,GR h xs];rfl
theorem DN{h:α->Dv}:∀{xs:List α},(∀x∈xs,(h x).1.isFr=ae)->P9 (xs.map h)=ae
 |[],_=>rfl
 |x::xs,q=>by rw[wj,P9,q x wd,DN λy hy=>q y (wb _ hy)];rfl
theorem o9{nt:Nat}{js:ii}{Fi:FI}{ρ:Rho}{e:α->Dt}{h:α->Dt}{xs:List α}(hi:Fi ρ=aa (xs.map e))(q:∀x∈xs,(g.put (e x) (sigD nt js ρ)).bind Fe=aa (.nw,h x)):k7 nt js Fi g fYes Fe ρ=aa (.nw,.lst (xs.map h)):=by
 unfold k7;rw[hi,o6,IV e (λx=>(.nw,h x)) xs q,o6,DN (λx _=>rfl),GR];rfl
theorem KL{nt:Nat}{js:ii}{Fi:FI}{ρ:Rho}{e:α->Dt}{h:α->Dt}{p:α->Bool}{xs:List α}(hi:Fi ρ=aa (xs.map e))(q:∀x∈xs,(g.put (e x) (sigD nt js ρ)).bind Fc=aa (p x))(q':∀x∈xs,p x=ae->(g.put (e x) (sigD nt js ρ)).bind Fe=aa (.nw,h x)):
  k7 nt js Fi g Fc Fe ρ=aa (.nw,.lst ((xs.filter p).map h)):=by
 unfold k7;rw[hi,o6,Q2 e (λx=>(.nw,h x)) p xs q q',o6,DN (λx _=>rfl),GR];rfl
variable {F:FS}
def nextO(G:FS):Oc->Option Oc
 |.nx ρ=>G ρ
 |.ct ρ=>G ρ
 |.bk ρ=>aa (.nx ρ)
 |.rt f d=>aa (.rt f d)
 |.ex C=>aa (.ex C)
theorem VF{ρ:Rho}:forF g F [] ρ=aa (.nx ρ):=rfl
theorem M4{x:Dt}{xs:iC}{ρ:Rho}:forF g F (x::xs) ρ=((g.put x ρ).bind F).bind (nextO (forF g F xs)):=by
 rw[forF];cases g.put x ρ with
 |none=>rfl
 |some ρ1=>
  show(F ρ1).bind _=(F ρ1).bind _;congr 1
  first|done|(funext oc;cases oc<;>rfl)
theorem W8(e:α->Dt)(R:β->γ->Rho)(step:β->α->β):∀(xs:List α)(b:β)(j:γ),(∀b x j,x∈xs->∃j',(g.put (e x) (R b j)).bind F=aa (.nx (R (step b x) j')))->∃j',forF g F (xs.map e) (R b j)=aa (.nx (R (xs.foldl step b) j'))
 |[],b,j,_=>⟨j,rfl⟩
 |x::xs,b,j,h=>by
  obtain⟨j1,h1⟩:=h b x j wd;obtain⟨j2,h2⟩:=W8 e R step xs (step b x) j1 λb y j hy=>h b y j (wb _ hy);refine⟨j2,?_⟩;rw[wj,M4,h1];exact h2
end
abbrev LL(rows:aA):Dt:=.lst (rows.map L)
abbrev TTu(rows:aA):Dt:=.tup (rows.map T)
abbrev k9(k:Int)(bills:aA):Dt:=.tup [.int k,TTu bills]
theorem VG(ns:aH):(T ns).flat=ae:=by show G0 _=ae;exact T0 ns
theorem M5:∀rows:aA,G0 (rows.map T)=ae
 |[]=>rfl
 |r::rows=>by rw[wj,G0,VG,M5 rows];rfl
theorem Zb(f:Fl)(i:Int):nrm f (.int i)=(.nw,.int i):=rfl
theorem nrm_T(f:Fl)(ns:aH):nrm f (T ns)=(.nw,T ns):=by unfold nrm;rw[VG];rfl
theorem VH(ns:aH):lfl (ns.map .int)=.nw:=by unfold lfl;rw[T0];rfl
theorem IW(ns:aH):newL (ns.map .int)=(.nw,L ns):=by unfold newL;rw[VH]
theorem DO{α:Type}(h:α->Bool):∀xs:List α,EG (xs.map λx=>.bl (h x))=aa (xs.map h)
 |[]=>rfl
 |x::xs=>by rw[wj,EG,DO h xs];rfl
theorem GS{α β:Type}(e:α->Dt)(f:β->Dt):∀(xs:List α)(ys:List β),zipD (xs.map e) (ys.map f)=(xs.zip ys).map λp=>.tup [e p.1,f p.2]
 |[],ys=>by simp[zipD]
 |x::xs,[]=>by simp[zipD]
 |x::xs,y::ys=>by rw[wj,wj,zipD,GS e f xs ys];rfl
theorem J8(lo:Int)(n:Nat):V6 lo n=(aT n).map λ(k:Nat)=>.int (lo+(k:Int)):=rfl
theorem A7(c:Int){m:Int}(h:0<m):0<=c.fmod m/\c.fmod m<m:=⟨vx c h,vH c h⟩
def IX(c m:Int):Int:=
 if m=2 then(if((c.fdiv (10^30)).fmod 2)=1 then -(c.fmod (10^30)) else c.fmod (10^30))
 else
  let wide:Int:=if m=0 then 9 else 61
  let n:=c.fmod wide
  if wide.fdiv 2<n then n-wide else n
theorem VI(c m:Int):(IX c m).natAbs<10^30:=by
 unfold IX;have a1:=vx c (show(0:Int)<10^30 by decide);have a2:=vH c (show(0:Int)<10^30 by decide);dsimp only;split
 .split<;>rfl'
 .have hw:(if m=0 then(9:Int) else 61)=9\/(if m=0 then(9:Int) else 61)=61:=by split<;>simp
  generalize (if m=0 then(9:Int) else 61)=wide at *;have b1:=vx c (show(0:Int)<wide by rfl');have b2:=vH c (show(0:Int)<wide by rfl');split<;>rfl'
def Ay(ns:aH)(at_:Int)(n:Nat)(m:Int):aH:=(aT n).map λ(k:Nat)=>IX (j8 ns (at_+(k:Int))) m
theorem IY(ns:aH)(a:Int)(n:Nat)(m:Int):(Ay ns a n m).length=n:=by unfold Ay;simp
def B1(ns:aH):Int:=if(j8 ns 3).fmod 7=6 then 0 else if(j8 ns 2).fmod 5<3 then 0 else if(j8 ns 2).fmod 5=3 then 1 else 2
def Cc(ns:aH):Int:=if(j8 ns 3).fmod 7=6 then 6 else 1+(j8 ns 0).fmod 4
def GT(ns:aH):Int:=if(j8 ns 3).fmod 7=6 then 8 else(j8 ns 1).fmod 5
def C8(ns:aH):Nat:=(if B1 ns=2 then 1+(Cc ns).fmod 2 else Cc ns).toNat
def V8(ns:aH):Nat:=(if B1 ns=2 then(GT ns).fmod 4 else GT ns).toNat
def L3(ns:aH):aA:=(aT (V8 ns)).map λ(k:Nat)=>Ay ns (8+(C8 ns:Int)*(k:Int)) (C8 ns) (B1 ns)
theorem Cd(ns:aH):1<=C8 ns/\C8 ns<=6:=by
 have h1:=A7 (j8 ns 0) (show(0:Int)<4 by decide);have h2:=A7 (Cc ns) (show(0:Int)<2 by decide);unfold C8;split
 .rfl'
 .unfold Cc;split<;>rfl'
theorem IZ(ns:aH):V8 ns<=8:=by
 have h1:=A7 (j8 ns 1) (show(0:Int)<5 by decide);have h2:=A7 (GT ns) (show(0:Int)<4 by decide);unfold V8;split
 .rfl'
 .unfold GT;split<;>rfl'
theorem KM(ns:aH):B1 ns=0\/B1 ns=1\/B1 ns=2:=by
 unfold B1;split
 .simp
 .split
  .simp
  .split<;>simp
end L2
end
section
local macro_rules|`(tactic|rfl')=>`(tactic|first|lia|omega +splitDisjunctions)
namespace L2
def addR(a b:aH):aH:=dg (·+·) a b
def subR(a b:aH):aH:=dg (· - ·) a b
def sclR(k:Int)(a:aH):aH:=a.map (k*·)
def E8(n:Nat):aH:=br n 0
def isWh:Dt->Bool
 |.int _=>ae
 |_=>ag
theorem T1{a b:aH}(h:a.length=b.length):(addR a b).length=a.length:=by unfold addR;rw[ul];rfl'
theorem W9{k:Int}{a:aH}:(sclR k a).length=a.length:=by unfold sclR;simp
theorem Bm{n:Nat}:(E8 n).length=n:=by unfold E8;simp
theorem Ot{i j:Int}{p q:Nat}(h1:i.natAbs<2^p)(h2:j.natAbs<2^q)(h:p+q<=134217728):D9 i j=ae:=by
 unfold D9;have a:=Km h1;have b:=Km h2;rw[aI (show bP i+bP j<=134217728 by rfl')];rfl
theorem VJ(a b:aH):(a.zip b).map (λp=>Dt.int (p.1+p.2))=(addR a b).map .int:=by
 unfold addR;rw[List.zip,]
 induction a generalizing b with
 |nil=>rfl
 |cons x a ih=>cases b with
  |nil=>rfl
  |cons y b=>have:=ih b;simp[dg]
theorem Tv(a b:aH):(a.zip b).map (λp=>Dt.int (p.1-p.2))=(subR a b).map .int:=by
 unfold subR;rw[List.zip,]
 induction a generalizing b with
 |nil=>rfl
 |cons x a ih=>cases b with
  |nil=>rfl
  |cons y b=>have:=ih b;simp[dg]
theorem CV{α β:Type}(g:α->β)(xs:List α)(i:Int):atI (xs.map g) i=(atI xs i).map g:=by
 unfold atI;rw[we];cases ixN xs.length i with
 |none=>rfl
 |some j=>show(xs.map g)[j]?=_;rw[wx];rfl
theorem KN{α:Type}{xs:List α}{i:Nat}(h:i<xs.length):atI xs (i:Int)=aa xs[i]:=CC (wa h)
def Wide(n:Nat)(rows:aA):Prop:=∀r∈rows,r.length=n
theorem Tw(a b:aH)(h:a.length=b.length)(f:Int->Int->Int):(aT a.length).map (λk=>f (a.getD k 0) (b.getD k 0))=dg f a b:=by
 apply ue
 .simp;rfl'
 .intro i h1 h2;simp at h1;simp[bA,wa h1,wa (show i<b.length by rfl')]
theorem VL(d:Dt):nrm .nw d=(.nw,d):=by unfold nrm;split<;>rfl
theorem run{F G:FS}{ρ ρ':Rho}{r:Option Oc}(h:F ρ=aa (.nx ρ'))(k:G ρ'=r):sSeq F G ρ=r:=by
 unfold sSeq;rw[h];exact k
theorem Q3{np n:Nat}{fr:Bool}{F:FS}{ds:iC}{f:Fl}{d:Dt}(hl:ds.length=np)(h:F (rho0 n ds)=aa (.rt f d))(hf:(f.isFr||d.flat)=ae):cOf np n fr F ds=aa d:=by
 unfold cOf;rw[ap hl,h];show(if(fr&&!(f.isFr||d.flat))=ae then aj else aa d)=aa d;rw[hf];cases fr<;>rfl
theorem Ou{n:Nat}(h:n<=1000000):K9 (n:Int)=ae:=by
 unfold K9;rw[aI (show -1000000<=(n:Int) by rfl'),aI (show(n:Int)<=1000000 by rfl')];rfl
theorem addscl(a b:aH)(k:Int)(h:a.length=b.length):(aT a.length).map (λi=>a.getD i 0+k*b.getD i 0)=addR a (sclR k b):=by
 unfold addR sclR;rw[uC];exact Tw a b h λx y=>x+k*y
theorem L_map(f:Nat->Int)(n:Nat):(aT n).map (λk=>Dt.int (f k))=((aT n).map f).map .int:=by rw[wK];rfl
theorem VM{α:Type}{xs:List α}{i:Nat}(d:α)(h:i<xs.length):xs.getD i d∈xs:=by
 simp[bA,wa h]
theorem CW{α:Type}{xs:List α}{i:Nat}(d:α)(h:i<xs.length):atI xs (i:Int)=aa (xs.getD i d):=by
 rw[KN h];simp[bA,wa h]
theorem Mi(ns:aH)(a:Int)(n:Nat)(m:Int):∀x∈Ay ns a n m,x.natAbs<10^30:=λx hx=>by
 unfold Ay at hx;obtain⟨k,_,rfl⟩:=wl.mp hx;exact VI _ _
theorem KO(ns:aH):Wide (C8 ns) (L3 ns):=λr hr=>by
 unfold L3 at hr;obtain⟨k,_,rfl⟩:=wl.mp hr;exact IY _ _ _ _
theorem Ov(ns:aH):∀r∈L3 ns,∀x∈r,x.natAbs<10^30:=λr hr=>by
 unfold L3 at hr;obtain⟨k,_,rfl⟩:=wl.mp hr;exact Mi _ _ _ _
theorem Mj(ns:aH):(L3 ns).length=V8 ns:=by unfold L3;simp
end L2
end
section
namespace L2
@[simp] def x0:=@rho0.eq_1
@[simp] def x1:=@sSeq.eq_1
@[simp] def x2:=@seqO.eq_1
@[simp] def x3:=@seqO.eq_2
@[simp] def x4:=@sIf.eq_1
@[simp] def x5:=@j9.eq_1
@[simp] def x6:=@fOp.eq_1
@[simp] def x7:=@fN.eq_1
@[simp] def x8:=@LO.eq_1
@[simp] def x10:=@Cell.val.eq_3
@[simp] def x11:=@Cell.val.eq_4
@[simp] def x12:=@flOf.eq_1
@[simp] def x13:=@fBlt.eq_1
@[simp] def x14:=@b8.eq_1
@[simp] def x15:=@fNil.eq_1
@[simp] def x16:=@sndL.eq_1
@[simp] def x17:=@sndL.eq_2
@[simp] def x18:=@bLen.eq_1
@[simp] def x20:=@bLen.eq_3
@[simp] def x22:=@blD.eq_1
@[simp] def x25:=@truD.eq_2
@[simp] def x30:=@sRet.eq_1
@[simp] def x31:=@t9.eq_1
@[simp] def x32:=@fAt.eq_1
@[simp] def x33:=@opAt.eq_1
@[simp] def x34:=@fLst.eq_1
@[simp] def x35:=@fTup.eq_1
@[simp] def x37:=@Fl.item.eq_2
@[simp] def x38:=@fC.eq_1
@[simp] def x39:=@fTru.eq_1
@[simp] def x40:=@fNot.eq_1
@[simp] def x41:=@fAnd.eq_1
@[simp] def x42:=@fOr.eq_1
@[simp] def x43:=@vAnd.eq_1
@[simp] def x45:=@vNot.eq_1
@[simp] def x46:=@fNeg.eq_1
@[simp] def x47:=@fIf.eq_1
@[simp] def x48:=@fIsi.eq_1
@[simp] def x49:=@LQ.eq_1
@[simp] def x50:=@tyN.eq_1
@[simp] def x51:=@tyN.eq_2
@[simp] def x52:=@tyN.eq_3
@[simp] def x53:=@tyN.eq_4
@[simp] def x54:=@tyN.eq_5
@[simp] def x55:=@tyN.eq_6
@[simp] def x56:=@tyN.eq_7
@[simp] def x57:=@sSet.eq_1
@[simp] def x58:=@relS.eq_1
@[simp] def x60:=@O7.eq_1
@[simp] def x61:=@O7.eq_2
@[simp] def x62:=@CP.eq_1
@[simp] def x63:=@CP.eq_2
@[simp] def x64:=@f9.eq_1
@[simp] def x65:=@Fl.isFr.eq_1
@[simp] def x66:=@Fl.isFr.eq_2
@[simp] def x68:=@Fl.isNw.eq_1
@[simp] def x69:=@Fl.isNw.eq_2
@[simp] def x70:=@BN.eq_1
@[simp] def x71:=@BN.eq_2
@[simp] def x72:=@P9.eq_1
@[simp] def x73:=@P9.eq_2
@[simp] def x74:=@Ax.eq_1
@[simp] def x75:=@sFor.eq_1
@[simp] def x76:=@iSeq.eq_1
@[simp] def x77:=@seqD.eq_1
@[simp] def x78:=@seqD.eq_2
@[simp] def x80:=@U4.eq_1
@[simp] def x81:=@sOwn.eq_1
@[simp] def x83:=@sWr.eq_1
@[simp] def x84:=@sWrA.eq_1
@[simp] def x85:=@sPut.eq_1
@[simp] def x86:=@IQ.eq_1
@[simp] def x87:=@CT.eq_1
@[simp] def x88:=@iRev.eq_1
@[simp] def x89:=@lstD.eq_1
@[simp] def x92:=@u9.eq_1
@[simp] def x93:=@intD.eq_1
@[simp] def x95:=@wApp.eq_1
@[simp] def x96:=@GH.eq_1
@[simp] def x97:=@setD.eq_1
@[simp] def x98:=@bLst.eq_1
@[simp] def x99:=@bLst.eq_2
@[simp] def x101:=@bTup.eq_1
@[simp] def x104:=@Tg.put.eq_1
@[simp] def x105:=@Tg.put.eq_2
@[simp] def x107:=@V7.eq_1
@[simp] def x108:=@V7.eq_2
@[simp] def x110:=@GA.eq_3
@[simp] def x112:=@sigD.eq_1
@[simp] def x114:=@Ca.eq_1
@[simp] theorem x115:∀(i j:Int),opLt (Dt.int i) (Dt.int j)=aa (Fl.nw,Dt.bl (decide (i<j))):=by intros;rfl
@[simp] theorem x116:∀(i j:Int),opLe (Dt.int i) (Dt.int j)=aa (Fl.nw,Dt.bl (decide (i<=j))):=by intros;rfl
@[simp] theorem x117:∀(i j:Int),opGt (Dt.int i) (Dt.int j)=aa (Fl.nw,Dt.bl (decide (j<i))):=by intros;rfl
@[simp] theorem x118:∀(i j:Int),opGe (Dt.int i) (Dt.int j)=aa (Fl.nw,Dt.bl (decide (j<=i))):=by intros;rfl
@[simp] theorem x119:∀(i j:Int),K7 (Dt.int i) (Dt.int j)=aa (Fl.nw,Dt.int (i-j)):=by intros;rfl
@[simp] theorem x120:∀(i j:Int),G4 (Dt.int i) (Dt.int j)=if S4 i j=ae then aa (Fl.nw,Dt.int (Int.fmod i j)) else aj:=by intros;rfl
@[simp] theorem x121:∀(i j:Int),G1 (Dt.int i) (Dt.int j)=if D9 i j=ae then aa (Fl.nw,Dt.int (i*j)) else aj:=by intros;rfl
@[simp] theorem x122:∀(i j:Int),Ah (Dt.int i) (Dt.int j)=if L9 i j=ae then aa (Fl.nw,Dt.int (Int.fdiv i j)) else aj:=by intros;rfl
@[simp] theorem x123:∀(i j:Int),IJ (Dt.int i) (Dt.int j)=if Gk i j=ae then aa (Fl.nw,Dt.int (i^Int.toNat j)) else aj:=by intros;rfl
@[simp] theorem x124:∀(i j:Int),u6 (Dt.int i) (Dt.int j)=aa (Fl.nw,Dt.int (i+j)):=by intros;rfl
@[simp] theorem x125:∀(f:Fl)(i:Int),nrm f (Dt.int i)=(Fl.nw,Dt.int i):=by intros;rfl
@[simp] theorem x126:∀(f:Fl)(i:Bool),nrm f (Dt.bl i)=(Fl.nw,Dt.bl i):=by intros;rfl
@[simp] theorem x127:∀(f:Fl),nrm f Dt.non=(Fl.nw,Dt.non):=by intros;rfl
@[simp] theorem x128:∀(f:Fl)(ns:aH),nrm f (Dt.scr ns)=(f,Dt.scr ns):=by intros;rfl
@[simp] theorem x129:∀(f:Fl)(ns:aH),nrm f (L ns)=(f,L ns):=by intros;rfl
@[simp] theorem x130:∀(f:Fl)(ns:aA),nrm f (LL ns)=(f,LL ns):=by intros;rfl
@[simp] theorem x134:∀{α β:Type}{a:α}{f:α->Option β},Option.bind (aa a) f=f a:=by intros;rfl
@[simp] theorem x135:∀{α β:Type}{f:α->Option β},Option.bind aj f=aj:=by intros;rfl
@[simp] def x136:=@atI_c0
@[simp] def x137:=@atI_c1
@[simp] def x138:=@atI_c2
@[simp] theorem y1(ns:aH):newL (eT Dt.int ns)=(Fl.nw,Dt.lst (eT Dt.int ns)):=IW ns
@[simp] theorem y2:newL []=(Fl.nw,Dt.lst []):=rfl
@[simp] theorem y3(ns:aH):G0 (eT Dt.int ns)=ae:=T0 ns
@[simp] theorem y4(d:Dt):nrm Fl.nw d=(Fl.nw,d):=VL d
@[simp] theorem y5(i:Int):Dt.flat (Dt.int i)=ae:=rfl
@[simp] theorem y6(i:Bool):Dt.flat (Dt.bl i)=ae:=rfl
@[simp] theorem y7(f:Fl)(ds:iC):nrm f (Dt.lst ds)=(f,Dt.lst ds):=rfl
@[simp] theorem y8:G0 []=ae:=rfl
@[simp] theorem y9(d:Dt)(ds:iC):G0 (d::ds)=(d.flat&&G0 ds):=by rw[G0]
@[simp] theorem y10(ds:iC):Dt.flat (Dt.lst ds)=ag:=by rw[Dt.flat]
@[simp] theorem y11(ds:iC):Dt.flat (Dt.tup ds)=G0 ds:=by rw[Dt.flat]
@[simp] theorem y12(f:Fl)(ds:iC):nrm f (Dt.tup ds)=(if G0 ds=ae then Fl.nw else f,Dt.tup ds):=rfl
@[simp] theorem xd1:tyN Dt.dic ="dict":=rfl
end L2
end
section
local macro_rules|`(tactic|rfl')=>`(tactic|first|lia|omega +splitDisjunctions)
namespace L2
@[simp] theorem y13(n:Nat)(h:n<=1000000):K9 (n:Int)=ae:=Ou h
@[simp] theorem y14(F:FE)(A B:FP)(ρ:Rho):fSl F A B ρ=(F ρ).bind λx=>(A ρ).bind λlo=>(B ρ).bind λhi=>match x.2 with|.lst ds=>aa (newL (cutD ds lo hi))|_=>aj:=rfl
@[simp] theorem y15(F:FE)(ρ:Rho):RX F ρ=(F ρ).bind λx=>(intD x.2).map aa:=rfl
@[simp] theorem y16(ρ:Rho):FJ ρ=aa aj:=rfl
end L2
end
section
local macro_rules|`(tactic|rfl')=>`(tactic|first|lia|omega +splitDisjunctions)
namespace Lat
abbrev Vec:=Nat->Int
def Span:List Vec->Vec->Prop
 |[],v=>∀k,v k=0
 |r::rs,v=>∃c:Int,Span rs (λk=>v k-c*r k)
theorem Span.congr{rs:List Vec}{v w:Vec}(h:∀k,v k=w k)(s:Span rs v):Span rs w:=by
 have:v=w:=funext h;rw[<-this];exact s
theorem Span.zero:∀{rs:List Vec},Span rs (λ_=>0)
 |[]=>λ_=>rfl
 |r::rs=>⟨0,Span.congr (λk=>by simp) (Span.zero (rs:=rs))⟩
theorem Span.add:∀{rs:List Vec}{v w:Vec},Span rs v->Span rs w->Span rs (λk=>v k+w k)
 |[],v,w,h1,h2=>λk=>by show v k+w k=0;rw[h1 k,h2 k];rfl
 |r::rs,v,w,⟨c,h1⟩,⟨d,h2⟩=>⟨c+d,Span.congr (λk=>by show _=(v k+w k)-(c+d)*r k;rw[Int.add_mul];rfl') (h1.add h2)⟩
theorem Span.smul:∀{rs:List Vec}{v:Vec}(a:Int),Span rs v->Span rs (λk=>a*v k)
 |[],v,a,h=>λk=>by show a*v k=0;rw[h k,Int.mul_zero]
 |r::rs,v,a,⟨c,h⟩=>⟨a*c,Span.congr (λk=>by rw[w0X,w02]) (h.smul a)⟩
theorem Span.neg{rs:List Vec}{v:Vec}(h:Span rs v):Span rs (λk=>-v k):=Span.congr (λk=>()) (h.smul (-1))
theorem Span.sub{rs:List Vec}{v w:Vec}(h1:Span rs v)(h2:Span rs w):Span rs (λk=>v k-w k):=Span.congr (λk=>()) (h1.add h2.neg)
theorem Span.head{r:Vec}{rs:List Vec}:Span (r::rs) r:=⟨1,Span.congr (λk=>()) Span.zero⟩
theorem Span.cons{r:Vec}{rs:List Vec}{v:Vec}(h:Span rs v):Span (r::rs) v:=⟨0,Span.congr (λk=>()) h⟩
theorem Span.mem:∀{rs:List Vec}{r:Vec},r∈rs->Span rs r
 |_::_,_,.head _=>Span.head
 |_::_,_,.tail _ h=>(Span.mem h).cons
theorem Span.least{P:Vec->Prop}(z:P (λ_=>0))(a:∀v w,P v->P w->P (λk=>v k+w k))(m:∀(c:Int)v,P v->P (λk=>c*v k)):
  ∀{rs:List Vec}{v:Vec},(∀r∈rs,P r)->Span rs v->P v
 |[],v,_,h=>by have:v=λ_=>0:=funext h;rw[this];exact z
 |r::rs,v,hr,⟨c,h⟩=>by
  have h1:=Span.least z a m (λx hx=>hr x (wb _ hx)) h;have h2:=a _ _ h1 (m c r (hr r wd));have:v=λk=>(v k-c*r k)+c*r k:=funext λk=>()
  rw[this];exact h2
theorem Span.trans{rs ss:List Vec}{v:Vec}(h:∀r∈rs,Span ss r)(s:Span rs v):Span ss v:=
 Span.least (P:=Span ss) Span.zero (λ_ _=>Span.add) (λc _=>Span.smul c) h s
def SameSpan(rs ss:List Vec):Prop:=(∀r∈rs,Span ss r)/\∀s∈ss,Span rs s
theorem SameSpan.iff{rs ss:List Vec}(h:SameSpan rs ss){v:Vec}:Span rs v↔Span ss v:=⟨Span.trans h.1,Span.trans h.2⟩
theorem SameSpan.refl{rs:List Vec}:SameSpan rs rs:=⟨λ_=>Span.mem,λ_=>Span.mem⟩
theorem SameSpan.symm{rs ss:List Vec}(h:SameSpan rs ss):SameSpan ss rs:=⟨h.2,h.1⟩
theorem SameSpan.trans{rs ss ts:List Vec}(h:SameSpan rs ss)(g:SameSpan ss ts):SameSpan rs ts:=⟨λr hr=>(h.1 r hr).trans g.1,λt ht=>(g.2 t ht).trans h.2⟩
def Form:Nat->List (Nat×Vec)->Prop
 |_,[]=>True
 |f,(h,r)::rs=>f<=h/\(∀k,k<h->r k=0)/\0<r h/\(∀p∈rs,0<=r p.1/\r p.1<p.2 p.1)/\Form (h+1) rs
abbrev V9(S:List (Nat×Vec)):List Vec:=S.map (·.2)
theorem Form.low:∀{f:Nat}{S:List (Nat×Vec)}{v:Vec},Form f S->Span (V9 S) v->∀k,k<f->v k=0
 |_,[],v,_,s,k,_=>s k
 |f,(h,r)::S,v,⟨h1,h2,h3,h4,h5⟩,⟨c,s⟩,k,hk=>by
  have:=Form.low h5 s k ();have e:r k=0:=h2 k ();have this:v k-c*r k=0:=this;rw[e]at this;simpa using this
theorem Form.coef{f h:Nat}{r v:Vec}{S:List (Nat×Vec)}{c:Int}(F:Form f ((h,r)::S))(s:Span (V9 S) (λk=>v k-c*r k)):v h=c*r h:=by
 have:v h-c*r h=0:=F.2.2.2.2.low s h ();rfl'
theorem BP{c r v:Int}(e:v=c*r)(hr:0<r)(h1 : -r<v)(h2:v<r):c=0:=by
 rcases w0N c 0 with h|h|h
 .exfalso;have:c*r <= -1*r:=uK () ();rfl'
 .exact h
 .exfalso;have:1*r<=c*r:=uK () ();rfl'
theorem Form.tail{f h:Nat}{r v:Vec}{S:List (Nat×Vec)}(F:Form f ((h,r)::S))(s:Span (V9 ((h,r)::S)) v)(z:v h=0):Span (V9 S) v:=by
 obtain⟨c,s⟩:=s;have e:=F.coef s;have hr:=F.2.2.1;rw[z]at e;have c0:c=0:=by
  rcases vT.mp e.symm with h|h
  .exact h
  .rfl'
 subst c0;exact Span.congr (λk=>()) s
end Lat
end
section
namespace Lat
theorem G5{α β:Type}[DecidableEq β]:∀{l:List α}{m:List β}(f:α->β),l.Nodup->(∀x∈l,∀y∈l,f x=f y->x=y)->(∀x∈l,f x∈m)->l.length<=m.length
 |[],m,f,_,_,_=>wy _
 | x::l,m,f,hn,hi,hm=>by
  have hx:=hm x wd;have hn':=vf.mp hn;have h1:l.length<=(m.erase (f x)).length:=by
   refine G5 f hn'.2 (λa ha b hb=>hi a (wb _ ha) b (wb _ hb)) (λa ha=>?_);have hne:f a≠f x:=λe=>by
    have:=hi a (wb _ ha) x wd e;subst this;exact hn'.1 ha
   exact(List.mem_erase_of_ne hne).mpr (hm a (wb _ ha))
  have h2:(m.erase (f x)).length=m.length-1:=List.length_erase_of_mem hx;have h3:0<m.length:=List.length_pos_of_mem hx;simp only[wp];rfl'
def box:ii->aA
 |[]=>[[]]
 |n::ns=>(aT n).flatMap λ(i:Nat)=>(box ns).map λt=>(i:Int)::t
def prod:ii->Nat
 |[]=>1
 |n::ns=>n*prod ns
theorem Mk{α:Type}(g:Nat->List α)(k:Nat):∀(l:ii),(∀i∈l,(g i).length=k)->(l.flatMap g).length=l.length*k
 |[],_=>by simp
 |i::l,h=>by
  rw[uZ,wz,Mk g k l (λj hj=>h j (wb _ hj)),h i wd,wp,uD,w0M]
theorem T2:∀ns:ii,(box ns).length=prod ns
 |[]=>rfl
 |n::ns=>by
  show((aT n).flatMap λ(i:Nat)=>(box ns).map λt=>(i:Int)::t).length=n*prod ns;rw[Mk _ (prod ns) _ (λi _=>by rw[we,T2 ns]),vW]
def G6:ii->aH->Prop
 |[],[]=>True
 |n::ns,x::xs=>0<=x/\x<n/\G6 ns xs
 |_,_=>False
theorem U6:∀{ns:ii}{t:aH},t∈box ns↔G6 ns t
 |[],[]=>by simp[box,G6]
 |[],x::t=>by simp[box,G6]
 |n::ns,[]=>by simp[box,G6]
 |n::ns,x::t=>by
  simp only[box,G6,uL,wQ,wl,gF];constructor
  .rintro⟨i,hi,u,hu,rfl,rfl⟩;exact⟨(),(),U6.mp hu⟩
  .rintro⟨h0,h1,h2⟩;exact⟨x.toNat,(),t,U6.mpr h2,(),rfl⟩
theorem DP:∀ns:ii,(box ns).Nodup
 |[]=>by simp[box]
 | n::ns=>by
  have ih:=DP ns;have key:∀m,((aT m).flatMap λ(i:Nat)=>(box ns).map λt=>(i:Int)::t).Nodup:=by
   intro m
   induction m with
   |zero=>simp
   |succ m hm=>
    rw[List.range_succ,w0z,uE];refine⟨hm,?_,?_⟩
    .rw[uZ,List.flatMap_nil,vd];refine List.Pairwise.map _ (λa b hab e=>hab ?_) ih;exact(List.cons.inj e).2
    .intro a ha b hb e;subst e;simp only[uL,wQ,wl,wv]at ha hb;obtain⟨i,hi,u,hu,rfl⟩:=ha;obtain⟨j,hj,w,hw,e⟩:=hb;have:=(List.cons.inj e).1;rfl'
  exact key n
theorem Zc{ns ms:ii}(f:aH->aH)(hi:∀s t,G6 ns s->G6 ns t->f s=f t->s=t)(hm:∀s,G6 ns s->G6 ms (f s)):prod ns<=prod ms:=by
 rw[<-T2 ns,<-T2 ms];exact G5 f (DP ns) (λx hx y hy=>hi x y (U6.mp hx) (U6.mp hy)) (λx hx=>U6.mpr (hm x (U6.mp hx)))
end Lat
end
section
local macro_rules|`(tactic|rfl')=>`(tactic|first|lia|omega +splitDisjunctions)
namespace Br
structure BI(a b u0 u1 u2 l0 l1 l2:Int):Prop where
 up:a*u1+b*u2=u0
 lo:a*l1+b*l2=l0
 gcd:uM u0 l0=uM a b
 p1:u0.natAbs*l1.natAbs+l0.natAbs*u1.natAbs<=a.natAbs+2*b.natAbs
 p2:u0.natAbs*l2.natAbs+l0.natAbs*u2.natAbs<=a.natAbs+2*b.natAbs
 ph:(u0=a/\u1=1/\u2=0/\l0=b/\l1=0/\l2=1)\/(0<=u0*l0/\u0≠0)
 b1:u1.natAbs<=a.natAbs+2*b.natAbs+1
 b2:u2.natAbs<=a.natAbs+2*b.natAbs+1
 b3:l1.natAbs<=a.natAbs+2*b.natAbs+1
 b4:l2.natAbs<=a.natAbs+2*b.natAbs+1
 c1:u0.natAbs<=a.natAbs+b.natAbs
 c2:l0.natAbs<=b.natAbs
theorem BI.start(a b:Int):BI a b a 1 0 b 0 1 where
 up:=by simp
 lo:=by simp
 gcd:=rfl
 p1:=by simp;rfl'
 p2:=by simp
 ph:=.inl ⟨rfl,rfl,rfl,rfl,rfl,rfl⟩
 b1:=by simp
 b2:=by simp
 b3:=by simp
 b4:=by simp
 c1:=()
 c2:=()
theorem pot(L A R Qa u1 l1 f1 E:Nat)(hA:Qa*L+R<=A+E)(hf:f1<=u1+Qa*l1):L*f1+R*l1<=A*l1+L*u1+E*l1:=by
 have h1:L*f1<=L*(u1+Qa*l1):=wS L hf;have h2:L*(u1+Qa*l1)=L*u1+Qa*L*l1:=by
  rw[w00,<-vG,uf L Qa]
 have h3:(Qa*L+R)*l1<=(A+E)*l1:=wB l1 hA;rw[uO,uO]at h3;rfl'
theorem Ml(u l:Int)(h:0<l):(u-u.fdiv l*l).natAbs<l.natAbs/\0<=l*(u-u.fdiv l*l)/\(0<=u*l->(u.fdiv l).natAbs*l.natAbs+(u-u.fdiv l*l).natAbs=u.natAbs) /\
  (u.fdiv l).natAbs*l.natAbs<=u.natAbs+(u-u.fdiv l*l).natAbs:=by
 have hs:u.fdiv l*l=u-u.fmod l:=Int.fdiv_mul_self u l;have hq:(u.fdiv l).natAbs*l.natAbs=(u.fdiv l*l).natAbs:=(wX _ _).symm;have e:u-u.fdiv l*l=u.fmod l:=()
 rw[e,hq,hs];have h1:0<=u.fmod l:=vx u h;have h2:u.fmod l<l:=vH u h;refine⟨(),w0r () h1,λhu=>?_,()⟩;have hu0:0<=u:=by
  by_cases hu':0<=u
  .exact hu'
  .have:=Int.mul_neg_of_neg_of_pos (show u<0 by rfl') h;rfl'
 have:u.fmod l<=u:=by
  have q1:0<=u.fdiv l:=Int.fdiv_nonneg hu0 ();have q2:0<=u.fdiv l*l:=w0r q1 ();rfl'
 rfl'
theorem So(u l:Int)(hl:l≠0):(u-u.fdiv l*l).natAbs<l.natAbs/\0<=l*(u-u.fdiv l*l)/\(0<=u*l->(u.fdiv l).natAbs*l.natAbs+(u-u.fdiv l*l).natAbs=u.natAbs) /\
   (u.fdiv l).natAbs*l.natAbs<=u.natAbs+(u-u.fdiv l*l).natAbs:=by
 rcases Int.lt_or_gt_of_ne hl with h|h
 .have q:=Ml (-u) (-l) ();rw[Int.neg_fdiv_neg]at q;have e : -u-u.fdiv l * -l = -(u-u.fdiv l*l):=by rw[w0Y];rfl'
  rw[e,w0s,w0s,w0s,w16,w16]at q;exact q
 .exact Ml u l h
theorem GU{a b c:Nat}(h:a*b<=c)(ha:a≠0):b<=c:=wu (Nat.le_mul_of_pos_left b (Nat.pos_of_ne_zero ha)) h
theorem Sq(u q l:Int):(u-q*l).natAbs<=u.natAbs+q.natAbs*l.natAbs:=by
 have:=wX q l;rfl'
theorem BI.turn{a b u0 u1 u2 l0 l1 l2:Int}(h:BI a b u0 u1 u2 l0 l1 l2)(hl:l0≠0):
   BI a b l0 l1 l2 (u0-u0.fdiv l0*l0) (u1-u0.fdiv l0*l1) (u2-u0.fdiv l0*l2):=by
 obtain⟨r1,r2,r3,r4⟩:=So u0 l0 hl;have hL:l0.natAbs≠0:=λe=>hl (w0D.mp e);have hup:=h.up;have hlo:=h.lo;generalize eq:u0.fdiv l0=q at *;have lin:∀(x y:Int),a*(x-q*l1)+b*(y-q*l2)=(a*x+b*y)-q*(a*l1+b*l2):=λx y=>by
   rw[w0X,w0X,Int.mul_add,uF a q l1,uF b q l2];rfl'
 have f1:(u1-q*l1).natAbs<=u1.natAbs+q.natAbs*l1.natAbs:=Sq u1 q l1;have f2:(u2-q*l2).natAbs<=u2.natAbs+q.natAbs*l2.natAbs:=Sq u2 q l2;have key:∀(x y f:Nat),f<=x+q.natAbs*y->u0.natAbs*y+l0.natAbs*x<=a.natAbs+2*b.natAbs->((0<=u0*l0)\/(y=0)\/(y=1/\x=0/\u0=a/\l0=b)) ->
     l0.natAbs*f+(u0-q*l0).natAbs*y<=a.natAbs+2*b.natAbs:=λx y f hf hp hc=>by
   rcases hc with hc|hc|⟨hc,hx,ha,hb⟩
   .have:=pot l0.natAbs u0.natAbs (u0-q*l0).natAbs q.natAbs x y f 0 (by have:=r3 hc;rfl') hf;rfl'
   .subst hc;have:l0.natAbs*f<=l0.natAbs*x:=wS _ ();rfl'
   .subst hc;subst hx;have:=pot l0.natAbs u0.natAbs (u0-q*l0).natAbs q.natAbs 0 1 f (2*(u0-q*l0).natAbs) () hf;have hab:u0.natAbs=a.natAbs:=by rw[ha]
    have hbb:l0.natAbs=b.natAbs:=by rw[hb]
    generalize (u0-q*l0).natAbs=R at *;generalize l0.natAbs*f=Z at *;rfl'
 have ph1:0<=u0*l0\/l1.natAbs=0\/(l1.natAbs=1/\u1.natAbs=0/\u0=a/\l0=b):=by
   rcases h.ph with⟨_,_,_,_,e,_⟩|⟨e,_⟩
   .exact .inr (.inl (by rw[e];rfl))
   .exact .inl e
 have ph2:0<=u0*l0\/l2.natAbs=0\/(l2.natAbs=1/\u2.natAbs=0/\u0=a/\l0=b):=by
   rcases h.ph with⟨e1,_,e2,e3,_,e4⟩|⟨e,_⟩
   .exact .inr (.inr ⟨by rw[e4];rfl,by rw[e2];rfl,e1,e3⟩)
   .exact .inl e
 have k1:=key _ _ _ f1 h.p1 ph1;have k2:=key _ _ _ f2 h.p2 ph2;have c2:=h.c2;refine⟨hlo,?_,?_,k1' k1,k1' k2,.inr ⟨r2,hl⟩,h.b3,h.b4,?_,?_,(),()⟩
 .rw[lin,hup,hlo]
 .rw[Int.gcd_sub_mul_right_right,Int.gcd_comm,h.gcd]
 .exact vV (GU (wu (w0a _ _) k1) hL)
 .exact vV (GU (wu (w0a _ _) k2) hL)
where k1' {x y:Nat} (h:x<=y):x<=y:=h
theorem BI.fin{a b u0 u1 u2 l1 l2:Int}(h:BI a b u0 u1 u2 0 l1 l2):(u0.natAbs:Int)=uM a b:=by
 have:=h.gcd;rw[Int.gcd_zero_right]at this;rw[this]
end Br
end
section
namespace St
abbrev Row:=aH
def at0(r:Row)(k:Nat):Int:=r.getD k 0
def b7:Row->Nat
 |[]=>0
 |x::r=>if x=0 then b7 r+1 else 0
theorem Bn:∀r:Row,b7 r<=r.length
 |[]=>wf _
 |x::r=>by
  unfold b7;split
  .exact w0S (Bn r)
  .exact wy _
theorem x9:∀(r:Row)(k:Nat),k<b7 r->at0 r k=0
 |[],k,h=>by simp[b7]at h
 |x::r,k,h=>by
  unfold b7 at h;split at h
  .rename_i hx;cases k with
   |zero=>simp[at0,hx]
   |succ k=>exact x9 r k ()
  .rfl'
theorem CY:∀(r:Row),b7 r<r.length->at0 r (b7 r)≠0
 |[],h=>by simp[b7]at h
 |x::r,h=>by
  unfold b7 at h|-;split at h
  .rename_i hx;rw[ap hx];exact CY r (by simpa using h)
  .rename_i hx;rw[ax hx];exact hx
theorem M6:∀(r:Row)(h:Nat),(∀k,k<h->at0 r k=0)->at0 r h≠0->b7 r=h
 |[],h,_,q=>by simp[at0]at q
 |x::r,0,_,q=>by
  unfold b7;rw[ax (by simpa[at0]using q)]
 |x::r,h+1,z,q=>by
  have hx:x=0:=by simpa[at0]using z 0 ()
  unfold b7;rw[ap hx,M6 r h (λk hk=>by simpa[at0]using z (k+1) ()) (by simpa[at0]using q)]
theorem Tx(r:Row)(h:Nat)(z:∀k,k<h->at0 r k=0)(hl:h<=r.length):h<=b7 r:=by
 apply uI;intro hlt;exact CY r () (z _ hlt)
theorem Z1{r:Row}{k:Nat}(h:r.length<=k):at0 r k=0:=by simp[at0,bA,wU h]
theorem ext0{a b:Row}(h:a.length=b.length)(q:∀k,at0 a k=at0 b k):a=b:=by
 apply ue h;intro i h1 h2;have:=q i;simpa[at0,bA,wa h1,wa h2]using this
def sub(a:Row)(q:Int)(b:Row):Row:=dg (λx y=>x-q*y) a b
theorem O3{a b:Row}{q:Int}(h:a.length=b.length):(sub a q b).length=a.length:=by unfold sub;rw[ul];rfl'
theorem Z2{a b:Row}{q:Int}(h:a.length=b.length)(k:Nat):at0 (sub a q b) k=at0 a k-q*at0 b k:=by
 by_cases hk:k<a.length
 .unfold at0 sub;simp[bA,w0p,wa hk,wa (show k<b.length by rfl')]
 .rw[Z1 (by rw[O3 h];rfl'),Z1 (),Z1 (show b.length<=k by rfl')];simp
def lin(x:Int)(a:Row)(y:Int)(b:Row):Row:=dg (λp q=>x*p+y*q) a b
theorem FQ{a b:Row}{x y:Int}(h:a.length=b.length):(lin x a y b).length=a.length:=by unfold lin;rw[ul];rfl'
theorem FU{a b:Row}{x y:Int}(h:a.length=b.length)(k:Nat):at0 (lin x a y b) k=x*at0 a k+y*at0 b k:=by
 by_cases hk:k<a.length
 .unfold at0 lin;simp[bA,w0p,wa hk,wa (show k<b.length by rfl')]
 .rw[Z1 (by rw[FQ h];rfl'),Z1 (),Z1 (show b.length<=k by rfl')];simp
def hd(r:Row):Int:=at0 r (b7 r)
def o7(left rung:Row):Int:=(at0 left (b7 rung)).fdiv (hd rung)
def i4:Row->aA->Row
 |left,[]=>left
 |left,r::rs=>i4 (sub left (o7 left r) r) rs
def GV:Row->aA->aH
 |_,[]=>[]
 |left,r::rs=>o7 left r::GV (sub left (o7 left r) r) rs
def Asc(n:Nat):Nat->aA->Prop
 |_,[]=>True
 |f,r::rs=>r.length=n/\f<=b7 r/\b7 r<n/\0<hd r/\Asc n (b7 r+1) rs
theorem Asc.weak{n:Nat}:∀{f g:Nat}{S:aA},Asc n f S->g<=f->Asc n g S
 |_,_,[],_,_=>trivial
 |_,_,r::rs,⟨h1,h2,h3,h4,h5⟩,h=>⟨h1,wu h h2,h3,h4,h5⟩
theorem Asc.mem{n:Nat}:∀{f:Nat}{S:aA}{r:Row},Asc n f S->r∈S->r.length=n/\f<=b7 r/\b7 r<n/\0<hd r
 |_,_::_,_,⟨h1,h2,h3,h4,h5⟩,.head _=>⟨h1,h2,h3,h4⟩
 |_,_::_,_,⟨h1,h2,h3,h4,h5⟩,.tail _ q=>by obtain⟨a,b,c,d⟩:=h5.mem q;exact⟨a,(),c,d⟩
theorem D6{n:Nat}:∀{f:Nat}{S:aA}{left:Row},Asc n f S->left.length=n->(i4 left S).length=n
 |_,[],left,_,h=>h
 |_,r::rs,left,⟨h1,h2,h3,h4,h5⟩,h=>by rw[i4];exact D6 h5 (by rw[O3 ()];exact h)
theorem Z3{n:Nat}:∀{f:Nat}{S:aA}{left:Row},Asc n f S->left.length=n->∀k,k<f->at0 (i4 left S) k=at0 left k
 |_,[],left,_,h,k,_=>rfl
 |f,r::rs,left,⟨h1,h2,h3,h4,h5⟩,h,k,hk=>by
  rw[i4,Z3 h5 (by rw[O3 ()];exact h) k (),Z2 (),x9 r k ()];simp
theorem Ja(a:Int){b:Int}(h:0<b):0<=a-a.fdiv b*b/\a-a.fdiv b*b<b:=by
 have h1:=vx a h;have h2:=vH a h;have h3:=Int.mul_fdiv_add_fmod a b;rw[uW]at h3;rfl'
theorem B6{n:Nat}:∀{f:Nat}{S:aA}{left:Row},Asc n f S->left.length=n->∀r∈S,0<=at0 (i4 left S) (b7 r)/\at0 (i4 left S) (b7 r)<hd r
 | f,r::rs,left,⟨h1,h2,h3,h4,h5⟩,h,x,hx=>by
  have hl:(sub left (o7 left r) r).length=n:=by rw[O3 ()];exact h
  rw[i4];cases hx with
  |head=>
   rw[Z3 h5 hl _ (wW _),Z2 ()];exact Ja _ h4
  |tail _ hx=>exact B6 h5 hl x hx
def Lt(m:Nat)(r:Row):Prop:=∀k,(at0 r k).natAbs<m
theorem Lt.mono{m m':Nat}{r:Row}(h:Lt m r)(q:m<=m'):Lt m' r:=λk=>wt (h k) q
theorem CZ(a:Int){b:Int}(h:0<b):(a.fdiv b).natAbs<=a.natAbs:=by
 have h1:=Ja a h;generalize a.fdiv b=q at *;rcases w0N q 0 with hq|hq|hq
 .have e:(q+1)*b=q*b+b:=by rw[Int.add_mul];rfl'
  have:(q+1)*b<=(q+1)*1:=Int.mul_le_mul_of_nonpos_left () ();rfl'
 .subst hq;simp
 .have:q*1<=q*b:=Int.mul_le_mul_of_nonneg_left () ();rfl'
theorem sub_lt{a b:Row}{q:Int}{s t u:Nat}(hl:a.length=b.length)(ha:Lt s a)(hb:Lt t b)(hq:q.natAbs<=u)(hs:0<s)(ht:0<t):Lt (s+u*t) (sub a q b):=λk=>by
 rw[Z2 hl];have h1:=ha k;have h2:=hb k;have h3:(q*at0 b k).natAbs<=u*(t-1):=by rw[wX];exact vE hq ()
 have h4:u*(t-1)<=u*t:=wS _ ();rfl'
theorem VN{left r:Row}{s t:Nat}(hl:left.length=r.length)(hr:0<hd r)(ha:Lt s left)(hb:Lt t r):Lt (s*(t+1)) (sub left (o7 left r) r):=by
 have hs:0<s:=vS (wy _) (ha 0);have ht:0<t:=vS (wy _) (hb 0);have:=sub_lt (q:=o7 left r) (u:=s) hl ha hb (wu (CZ (at0 left (b7 r)) hr) (wN (ha (b7 r)))) hs ht;rw[w00,Nat.mul_one,w0M];exact this
end St
end
section
local macro_rules|`(tactic|rfl')=>`(tactic|first|lia|omega +splitDisjunctions)
namespace St
open Lat
abbrev vec(r:Row):Vec:=λk=>at0 r k
abbrev vecs(S:aA):List Vec:=S.map vec
theorem GW{S:aA}{r:Row}(h:r∈S):vec r∈vecs S:=wl.mpr ⟨r,h,rfl⟩
theorem A5{n:Nat}:∀{f:Nat}{S:aA}{left:Row},Asc n f S->left.length=n->Span (vecs S) (λk=>at0 left k-at0 (i4 left S) k)
 |_,[],left,_,h=>λk=>by show at0 left k-at0 left k=0;rfl'
 |f,r::rs,left,⟨h1,h2,h3,h4,h5⟩,h=>by
  have hl:(sub left (o7 left r) r).length=n:=by rw[O3 ()];exact h
  have ih:=A5 h5 hl;refine⟨o7 left r,Span.congr (λk=>?_) ih⟩;rw[i4];show at0 (sub left (o7 left r) r) k-at0 (i4 (sub left (o7 left r) r) rs) k=at0 left k-at0 (i4 (sub left (o7 left r) r) rs) k-o7 left r*at0 r k;rw[Z2 ()];rfl'
def mix:aA->aH->Vec
 |r::rs,c::cs=>λk=>c*at0 r k+mix rs cs k
 |_,_=>λ_=>0
theorem Asc.low{n:Nat}:∀{f:Nat}{S:aA}{v:Vec},Asc n f S->Span (vecs S) v->∀k,k<f->v k=0
 |_,[],v,_,s,k,_=>s k
 |f,r::S,v,⟨h1,h2,h3,h4,h5⟩,⟨c,s⟩,k,hk=>by
  have e:=Asc.low h5 s k ();have e2:at0 r k=0:=x9 r k ();have e:v k-c*at0 r k=0:=e;rw[e2]at e;simpa using e
theorem Asc.coef{n f:Nat}{r:Row}{v:Vec}{S:aA}{c:Int}(A:Asc n f (r::S))(s:Span (vecs S) (λk=>v k-c*at0 r k)):v (b7 r)=c*hd r:=by
 have:v (b7 r)-c*at0 r (b7 r)=0:=A.2.2.2.2.low s _ (wW _);unfold hd;rfl'
theorem Asc.first{n:Nat}:∀{f:Nat}{S:aA}{v:Vec}{h:Nat},Asc n f S->Span (vecs S) v->(∀k,k<h->v k=0)->v h≠0->∃r∈S,b7 r=h
 |_,[],v,h,_,s,_,q=>aW (s h) q
 |f,r::S,v,h,A,⟨c,s⟩,z,q=>by
  have e:=A.coef s;by_cases hc:c=0
  .subst hc;have s':Span (vecs S) v:=Span.congr (λk=>by simp) s;obtain⟨x,hx,e⟩:=A.2.2.2.2.first s' z q;exact⟨x,wb _ hx,e⟩
  .have hn:v (b7 r)≠0:=by
     rw[e];intro z;rcases vT.mp z with z|z
     .exact hc z
     .have:=A.2.2.2.1;rfl'
   have h1:¬b7 r<h:=λz'=>hn (z _ z');by_cases h2:h<b7 r
   .exfalso;have e2:v h-c*at0 r h=0:=A.2.2.2.2.low s h ();rw[x9 r h h2]at e2;exact q (by simpa using e2)
   .exact⟨r,wd,()⟩
def even:aA->aA
 |[]=>[]
 |r::rs=>i4 r (even rs)::even rs
theorem R5{n:Nat}:∀{f:Nat}{S:aA},Asc n f S->Asc n f (even S)/\(even S).map b7=S.map b7/\(even S).map hd=S.map hd
 |_,[],_=>⟨trivial,rfl,rfl⟩
 |f,r::rs,⟨h1,h2,h3,h4,h5⟩=>by
  obtain⟨i1,i2,i3⟩:=R5 h5;have low:=Z3 i1 h1;have e1:at0 (i4 r (even rs)) (b7 r)=hd r:=low _ (wW _);have e2:b7 (i4 r (even rs))=b7 r:=M6 _ _ (λk hk=>by rw[low k ()];exact x9 r k hk) (by rw[e1];rfl');have e3:hd (i4 r (even rs))=hd r:=by unfold hd;rw[e2];exact e1
  refine⟨⟨D6 i1 h1,by rw[e2];exact h2,by rw[e2];exact h3,by rw[e3];exact h4,by rw[e2];exact i1⟩,?_,?_⟩
  .rw[even,wj,wj,e2,i2]
  .rw[even,wj,wj,e3,i3]
def P7(S:aA):List (Nat×Vec):=S.map λr=>(b7 r,vec r)
theorem Jb{n:Nat}:∀{f:Nat}{S:aA},Asc n f S->Form f (P7 (even S))
 |_,[],_=>trivial
 |f,r::rs,A=>by
  obtain⟨j1,_,_⟩:=R5 A;obtain⟨h1,h2,h3,h4,h5⟩:=A;obtain⟨i1,i2,i3⟩:=R5 h5;obtain⟨k1,k2,k3,k4,k5⟩:=j1;have low:=Z3 i1 h1;have e1:at0 (i4 r (even rs)) (b7 r)=hd r:=low _ (wW _);have e2:b7 (i4 r (even rs))=b7 r:=M6 _ _ (λk hk=>by rw[low k ()];exact x9 r k hk) (by rw[e1];rfl');refine⟨k2,λk hk=>x9 _ k hk,k4,λp hp=>?_,by rw[e2];exact Jb h5⟩;obtain⟨x,hx,rfl⟩:=wl.mp hp;exact B6 i1 h1 x hx
theorem Jc{n:Nat}:∀{f:Nat}{S:aA},Asc n f S->SameSpan (vecs (even S)) (vecs S)
 |_,[],_=>SameSpan.refl
 |f,r::rs,A=>by
  obtain⟨h1,h2,h3,h4,h5⟩:=A;obtain⟨i1,i2,i3⟩:=R5 h5;have ih:=Jc h5;have sp:=A5 i1 h1;constructor
  .intro v hv;obtain⟨x,hx,rfl⟩:=wl.mp hv;rcases wg.mp hx with rfl|hx
   .refine⟨1,Span.congr (λk=>?_) ((ih.iff.mp sp).neg)⟩;show -(at0 r k-at0 (i4 r (even rs)) k)=at0 (i4 r (even rs)) k-1*at0 r k;rfl'
   .exact(ih.1 _ (GW hx)).cons
  .intro v hv;obtain⟨x,hx,rfl⟩:=wl.mp hv;rcases wg.mp hx with rfl|hx
   .refine⟨1,Span.congr (λk=>?_) sp⟩;show at0 x k-at0 (i4 x (even rs)) k=at0 x k-1*at0 (i4 x (even rs)) k;rfl'
   .exact(ih.2 _ (GW hx)).cons
end St
end
section
local macro_rules|`(tactic|rfl')=>`(tactic|first|lia|omega +splitDisjunctions)
namespace St
open Lat
theorem Asc.iff{n:Nat}:∀{f:Nat}{S:aA},Asc n f S↔(∀r∈S,r.length=n/\f<=b7 r/\b7 r<n/\0<hd r)/\(S.map b7).Pairwise (·<·)
 |f,[]=>by simp[Asc]
 |f,r::rs=>by
  constructor
  .intro A;refine⟨λx hx=>A.mem hx,?_⟩;rw[wj,vc];refine⟨λh hh=>?_,(Asc.iff.mp A.2.2.2.2).2⟩;obtain⟨x,hx,rfl⟩:=wl.mp hh;exact(A.2.2.2.2.mem hx).2.1
  .rintro⟨h1,h2⟩;rw[wj,vc]at h2;have q:=h1 r wd;refine⟨q.1,q.2.1,q.2.2.1,q.2.2.2,Asc.iff.mpr ⟨λx hx=>?_,h2.2⟩⟩;have q2:=h1 x (wb _ hx);exact⟨q2.1,h2.1 _ (wl.mpr ⟨x,hx,rfl⟩),q2.2.2.1,q2.2.2.2⟩
theorem Mm{a b:Row}(h:a.length=b.length):sub a 0 b=a:=ext0 (O3 h) λk=>by rw[Z2 h];simp
theorem EO{n:Nat}{t:Nat}:∀{S:aA}{left:Row},(∀r∈S,r.length=n)->left.length=n->(∀k,k<t->at0 left k=0)->(∀k,k<t->at0 (i4 left S) k=0)/\(i4 left S).length=n
 |[],left,_,hl,z=>⟨z,hl⟩
 |r::rs,left,hw,hl,z=>by
  have h1:=hw r wd;rw[i4];refine EO (λx hx=>hw x (wb _ hx)) (by rw[O3 ()];exact hl) λk hk=>?_;rw[Z2 (),z k hk];by_cases hh:b7 r<t
  .have:o7 left r=0:=by unfold o7;rw[z _ hh];simp
   rw[this];simp
  .rw[x9 r k ()];simp
def LowB(m:Nat):Row->aA->Prop
 |_,[]=>True
 |left,r::rs=>(o7 left r=0\/((o7 left r).natAbs<2^m/\Lt (2^m) r))/\LowB m (sub left (o7 left r) r) rs
theorem K1{n t s e m:Nat}:∀{S:aA}{left:Row},(∀r∈S,r.length=n/\0<hd r)->left.length=n->(∀k,k<t->at0 left k=0)->(∀r∈S,t<=b7 r->Lt (2^e) r)->Lt (2^s) left->s+S.length*(e+1)<=m->e<=m ->
  Lt (2^(s+S.length*(e+1))) (i4 left S)/\LowB m left S
 |[],left,_,hl,z,_,hs,_,_=>⟨by simpa[i4]using hs,trivial⟩
 |r::rs,left,hw,hl,z,hb,hs,hm,hem=>by
  have h1:=hw r wd;have lenE:(r::rs).length*(e+1)=rs.length*(e+1)+(e+1):=by rw[wp,uD]
  have e2:∀q,(sub left q r).length=n:=λq=>by rw[O3 ()];exact hl
  by_cases hh:b7 r<t
  .have o:o7 left r=0:=by unfold o7;rw[z _ hh];simp
   have es:sub left (o7 left r) r=left:=by rw[o];exact Mm ()
   obtain⟨i1,i2⟩:=K1 (t:=t) (s:=s) (e:=e) (m:=m) (S:=rs) (left:=left) (λx hx=>hw x (wb _ hx)) hl z (λx hx=>hb x (wb _ hx)) hs () hem;rw[i4,LowB,es];exact⟨i1.mono (ww (by decide) ()),.inl o,i2⟩
  .have hr:Lt (2^e) r:=hb r wd ();have st:=VN (s:=2^s) (t:=2^e) () h1.2 hs hr;have st':Lt (2^(s+(e+1))) (sub left (o7 left r) r):=by
    refine st.mono ?_;rw[vZ];refine wS _ ?_;have:0<2^e:=uS e;rw[ug];rfl'
   obtain⟨i1,i2⟩:=K1 (t:=t) (s:=s+(e+1)) (e:=e) (m:=m) (S:=rs) (left:=sub left (o7 left r) r) (λx hx=>hw x (wb _ hx)) (e2 _)
    (λk hk=>by rw[Z2 (),z k hk,x9 r k ()];simp) (λx hx=>hb x (wb _ hx)) st' () hem
   rw[i4,LowB];refine⟨i1.mono (ww (by decide) ()),.inr ⟨?_,hr.mono (ww (by decide) hem)⟩,i2⟩;refine vS (CZ (at0 left (b7 r)) h1.2) (wt (hs _) (ww (by decide) ()))
def v9(r left:Row)(x y:Int):Row:=lin x r y left
def C7(r left:Row)(g:Int):Row:=lin ((at0 r (b7 r)).fdiv g) left (-((at0 left (b7 r)).fdiv g)) r
structure Wi(n e eh m0 kk:Nat)(S0:aA)(v:Row)(S:aA)(left:Row):Prop where
 asc:Asc n 0 S
 len:left.length=n
 heads:S.map b7=S0.map b7
 span:SameSpan (vecs (left::S)) (vecs (v::S0))
 low:∀r∈S,0<=at0 left (b7 r)/\at0 left (b7 r)<hd r
 right:∀r∈S,b7 left<=b7 r->Lt (2^e) r
 hds:∀r∈S,hd r<2^eh
 size:Lt (2^(m0+b7 left*kk)) left
 all:∀r∈S,Lt (2^(e+3+(m0+b7 left*kk))) r
theorem VO{a b:Row}{x y:Int}{p q s:Nat}(h:a.length=b.length)(hx:x.natAbs<2^p)(hy:y.natAbs<2^p)(ha:Lt (2^q) a)(hb:Lt (2^q) b)(hs:p+q+1<=s):Lt (2^s) (lin x a y b):=λk=>by
 rw[FU h];have h1:(x*at0 a k).natAbs<2^(p+q):=by
  rw[wX,vZ];exact w0b hx (ha k)
 have h2:(y*at0 b k).natAbs<2^(p+q):=by
  rw[wX,vZ];exact w0b hy (hb k)
 have h3:2^(p+q+1)<=2^s:=ww (by decide) hs;rw[ug]at h3;omega +splitDisjunctions
theorem n8{S:aA}{r:Row}(h:r∈S):Span (vecs S) (λk=>at0 r k):=Span.mem (GW h)
theorem Da{T:List Vec}{u v:Vec}(x y:Int)(hu:Span T u)(hv:Span T v):Span T (λk=>x*u k+y*v k):=(hu.smul x).add (hv.smul y)
theorem Db{A B:aA}(h1:∀r∈A,Span (vecs B) (λk=>at0 r k))(h2:∀r∈B,Span (vecs A) (λk=>at0 r k)):SameSpan (vecs A) (vecs B):=by
 constructor
 .intro v hv;obtain⟨r,hr,rfl⟩:=wl.mp hv;exact h1 r hr
 .intro v hv;obtain⟨r,hr,rfl⟩:=wl.mp hv;exact h2 r hr
theorem Wi.step{n e eh m0 kk:Nat}{S0:aA}{v:Row}{S1 S2:aA}{r left:Row}{g x y:Int}(I:Wi n e eh m0 kk S0 v (S1++r::S2) left)(hh:b7 r=b7 left)(hn:b7 left<n)
   (hg:0<g) (ga:g∣hd r) (gb:g∣at0 left (b7 r)) (hxy:hd r*x+at0 left (b7 r)*y=g) (hx:x.natAbs<2^(e+2)) (hy:y.natAbs<2^(e+2)) (he:e<=m0)
   (hk:2*e+3+(S1.length+S2.length+1)*(e+1)<=kk) :
   Wi n e eh m0 kk S0 v (S1++v9 r left x y::S2) (i4 (C7 r left g) (S1++v9 r left x y::S2))/\b7 left<b7 (i4 (C7 r left g) (S1++v9 r left x y::S2)) /\
     LowB (m0+n*kk) (C7 r left g) (S1++v9 r left x y::S2)/\(∀q∈S1++v9 r left x y::S2,hd q<2^eh):=by
 have hrm:r∈S1++r::S2:=wn.mpr (.inr wd);have q:=I.asc.mem hrm;have hl:r.length=left.length:=by rw[q.1,I.len]
 have hlow:=I.low r hrm;have hu:∀k,at0 (v9 r left x y) k=x*at0 r k+y*at0 left k:=λk=>FU hl k;have hlo:∀k,at0 (C7 r left g) k=((at0 r (b7 r)).fdiv g)*at0 left k+(-((at0 left (b7 r)).fdiv g))*at0 r k:=λk=>FU hl.symm k;have lu:(v9 r left x y).length=n:=by unfold v9;rw[FQ hl];exact q.1
 have llo:(C7 r left g).length=n:=by unfold C7;rw[FQ hl.symm];exact I.len
 obtain⟨a',ea⟩:=ga;obtain⟨b',eb⟩:=gb;have da:(hd r).fdiv g=a':=by rw[ea];exact w03 _ ()
 have db:(at0 left (b7 r)).fdiv g=b':=by rw[eb];exact w03 _ ()
 have hlo:∀k,at0 (C7 r left g) k=a'*at0 left k+(-b')*at0 r k:=λk=>by
   have:=hlo k;rw[db,show at0 r (b7 r)=hd r from rfl,da]at this;exact this
 have det:a'*x+b'*y=1:=by
   have:g*(a'*x+b'*y)=g*1:=by rw[Int.mul_add,<-w02,<-w02,<-ea,<-eb];rfl'
   exact Int.eq_of_mul_eq_mul_left () this
 have zb:∀k,k<b7 left->at0 r k=0/\at0 left k=0:=λk hk=>⟨x9 r k (),x9 left k hk⟩;have us:at0 (v9 r left x y) (b7 r)=g:=by rw[hu,<-hxy];show x*hd r+y*_=_;rw[uW x,uW y]
 have uh:b7 (v9 r left x y)=b7 r:=M6 _ _ (λk hk=>by rw[hu,(zb k ()).1,(zb k ()).2];simp) (by rw[us];rfl');have uhd:hd (v9 r left x y)=g:=by unfold hd;rw[uh];exact us
 have gle:g<=hd r:=Int.le_of_dvd q.2.2.2 ⟨a',ea⟩;have lz:∀k,k<b7 left+1->at0 (C7 r left g) k=0:=λk hk=>by
   rw[hlo];by_cases h:k<b7 left
   .rw[(zb k h).1,(zb k h).2];simp
   .have:k=b7 r:=()
    subst this;rw[eb,show at0 r (b7 r)=hd r from rfl,ea,uF a' g b',w0t,uF b' g a',uW a' b'];rfl'
 have asc':Asc n 0 (S1++v9 r left x y::S2):=by
   have A:=Asc.iff.mp I.asc;refine Asc.iff.mpr ⟨λz hz=>?_,?_⟩
   .rcases wn.mp hz with h|h
    .exact A.1 z (wn.mpr (.inl h))
    .rcases wg.mp h with rfl|h
     .exact⟨lu,wy _,by rw[uh];exact q.2.2.1,by rw[uhd];exact hg⟩
     .exact A.1 z (wn.mpr (.inr (wb _ h)))
   .have e1:(S1++v9 r left x y::S2).map b7=(S1++r::S2).map b7:=by simp[uh]
    rw[e1];exact A.2
 have hw':∀z∈S1++v9 r left x y::S2,z.length=n:=λz hz=>(asc'.mem hz).1;obtain⟨nz,nl⟩:=EO (t:=b7 left+1) hw' llo lz;have hhead:b7 left+1<=b7 (i4 (C7 r left g) (S1++v9 r left x y::S2)):=Tx _ _ nz (by rw[nl];rfl');have mm:∀z∈S1++v9 r left x y::S2,z=v9 r left x y\/z∈S1++r::S2:=λz hz=>by
   rcases wn.mp hz with h|h
   .exact .inr (wn.mpr (.inl h))
   .rcases wg.mp h with rfl|h
    .exact .inl rfl
    .exact .inr (wn.mpr (.inr (wb _ h)))
 have right':∀z∈S1++v9 r left x y::S2,b7 left+1<=b7 z->Lt (2^e) z:=λz hz hk=>by
   rcases mm z hz with rfl|h
   .rw[uh]at hk;rfl'
   .exact I.right z h ()
 have rlt:Lt (2^e) r:=I.right r hrm ();have hds':∀z∈S1++v9 r left x y::S2,hd z<2^eh:=λz hz=>by
   rcases mm z hz with rfl|h
   .rw[uhd];have:=I.hds r hrm;rfl'
   .exact I.hds z h
 have aS:(a').natAbs<2^e:=by
   have h1:(hd r).natAbs<2^e:=rlt (b7 r);rw[ea,wX]at h1;have:1*a'.natAbs<=g.natAbs*a'.natAbs:=wB _ ();rfl'
 have bS:(-b').natAbs<2^e:=by
   have h1:(hd r).natAbs<2^e:=rlt (b7 r);have h2:(at0 left (b7 r)).natAbs<2^e:=()
   rw[eb,wX]at h2;have:1*b'.natAbs<=g.natAbs*b'.natAbs:=wB _ ();rfl'
 have m1:e<=m0+b7 left*kk:=()
 have sl:Lt (2^(e+(m0+b7 left*kk)+1)) (C7 r left g):=by
   unfold C7;rw[show at0 r (b7 r)=hd r from rfl,da,db];exact VO hl.symm aS bS I.size (rlt.mono (ww (by decide) m1)) (wf _)
 have hk1:(b7 left+1)*kk=b7 left*kk+kk:=by rw[uD]
 have hkn:(b7 left+1)*kk<=n*kk:=wB _ ();have hkh:(b7 left+1)*kk<=b7 (i4 (C7 r left g) (S1++v9 r left x y::S2))*kk:=wB _ hhead;have lenS:(S1++v9 r left x y::S2).length=S1.length+S2.length+1:=by simp;rfl'
 obtain⟨z1,z2⟩:=K1 (n:=n) (t:=b7 left+1) (s:=e+(m0+b7 left*kk)+1) (e:=e) (m:=m0+n*kk) (S:=S1++v9 r left x y::S2) (left:=C7 r left g)
   (λz hz=>⟨hw' z hz,(asc'.mem hz).2.2.2⟩) llo lz right' sl (by rw[lenS];rfl') ()
 have low':=B6 asc' llo;refine⟨⟨asc',nl,?_,?_,low',λz hz hk=>right' z hz (),hds',z1.mono (ww (by decide) (by rw[lenS];rfl')),λz hz=>?_⟩,hhead,z2,hds'⟩
 .rw[<-I.heads];simp[uh]
 .refine SameSpan.trans (Db (B:=left::(S1++r::S2)) ?_ ?_) I.span
  ·
    have oldr:Span (vecs (left::(S1++r::S2))) (λk=>at0 r k):=n8 (wb _ hrm);have oldl:Span (vecs (left::(S1++r::S2))) (λk=>at0 left k):=n8 wd;have nu:Span (vecs (left::(S1++r::S2))) (λk=>at0 (v9 r left x y) k):=Span.congr (λk=>(hu k).symm) (Da x y oldr oldl);have nlo:Span (vecs (left::(S1++r::S2))) (λk=>at0 (C7 r left g) k):=Span.congr (λk=>(hlo k).symm) (Da a' (-b') oldl oldr);have all:∀z∈S1++v9 r left x y::S2,Span (vecs (left::(S1++r::S2))) (λk=>at0 z k):=λz hz=>by
      rcases mm z hz with rfl|h
      .exact nu
      .exact n8 (wb _ h)
    intro z hz;rcases wg.mp hz with rfl|hz
    .have d:=A5 asc' llo;have d':Span (vecs (left::(S1++r::S2))) (λk=>at0 (C7 r left g) k-at0 (i4 (C7 r left g) (S1++v9 r left x y::S2)) k):=
       d.trans λw hw=>by obtain⟨z,hz,rfl⟩:=wl.mp hw;exact all z hz
     exact Span.congr (λk=>()) (nlo.sub d')
    .exact all z hz
  .have um:v9 r left x y∈S1++v9 r left x y::S2:=wn.mpr (.inr wd);have nu:Span (vecs (i4 (C7 r left g) (S1++v9 r left x y::S2)::(S1++v9 r left x y::S2))) (λk=>at0 (v9 r left x y) k):=n8 (wb _ um);have nlo:Span (vecs (i4 (C7 r left g) (S1++v9 r left x y::S2)::(S1++v9 r left x y::S2))) (λk=>at0 (C7 r left g) k):=by
     have d:=A5 asc' llo;have t:Span (vecs (i4 (C7 r left g) (S1++v9 r left x y::S2)::(S1++v9 r left x y::S2))) (λk=>at0 (i4 (C7 r left g) (S1++v9 r left x y::S2)) k):=n8 wd;exact Span.congr (λk=>()) (t.add d.cons)
   have nr:∀k,at0 r k=a'*at0 (v9 r left x y) k+(-y)*at0 (C7 r left g) k:=λk=>by
     rw[hu,hlo];have:at0 r k=(a'*x+b'*y)*at0 r k:=by rw[det];rfl'
     rw[this]
     grind
   have nle:∀k,at0 left k=b'*at0 (v9 r left x y) k+x*at0 (C7 r left g) k:=λk=>by
     rw[hu,hlo];have:at0 left k=(a'*x+b'*y)*at0 left k:=by rw[det];rfl'
     rw[this]
     grind
   intro z hz;rcases wg.mp hz with rfl|hz
   .exact Span.congr (λk=>(nle k).symm) (Da _ _ nu nlo)
   .rcases wn.mp hz with h|h
    .exact n8 (wb _ (wn.mpr (.inl h)))
    .rcases wg.mp h with rfl|h
     .exact Span.congr (λk=>(nr k).symm) (Da _ _ nu nlo)
     .exact n8 (wb _ (wn.mpr (.inr (wb _ h))))
 .rcases mm z hz with rfl|h
  .exact VO (q:=m0+b7 left*kk) hl hx hy (rlt.mono (ww (by decide) m1)) I.size ()
  .exact(I.all z h).mono (ww (by decide) ())
end St
end
section
namespace St
open Lat
def Ind(R:aA):Prop:=∀cs:aH,cs.length=R.length->(∀k,mix R cs k=0)->∀c∈cs,c=0
theorem GX{T:List Vec}:∀{R:aA}{cs:aH},(∀r∈R,Span T (λk=>at0 r k))->Span T (mix R cs)
 |[],cs,_=>by unfold mix;exact Span.zero
 |r::R,[],_=>by unfold mix;exact Span.zero
 |r::R,c::cs,h=>by
  unfold mix;exact((h r wd).smul c).add (GX λx hx=>h x (wb _ hx))
def dif(a b:aH):aH:=dg (λx y=>x-y) a b
theorem Sr{a b:aH}(h:a.length=b.length):(dif a b).length=a.length:=by unfold dif;rw[ul];rfl'
theorem Ss:∀{R:aA}{a b:aH},a.length=b.length->∀k,mix R (dif a b) k=mix R a k-mix R b k
 |[],a,b,h,k=>by simp[mix]
 |r::R,[],[],h,k=>by simp[mix,dif]
 |r::R,x::a,y::b,h,k=>by
  have ih:=Ss (R:=R) (a:=a) (b:=b) (by simpa using h) k;show(x-y)*at0 r k+mix R (dif a b) k=(x*at0 r k+mix R a k)-(y*at0 r k+mix R b k);rw[ih,Int.sub_mul];rfl'
theorem Mn:∀{a b:aH},a.length=b.length->(∀c∈dif a b,c=0)->a=b
 |[],[],_,_=>rfl
 |x::a,y::b,h,z=>by
  have h1:x-y=0:=z _ (wd);rw[Mn (a:=a) (b:=b) (by simpa using h) λc hc=>z c (wb _ hc),show x=y by rfl']
theorem Jd{N:Nat}:∀{a b:aH},(∀c∈a,0<=c/\c<=N)->(∀c∈b,0<=c/\c<=N)->∀c∈dif a b,c.natAbs<=N
 |[],_,_,_,c,hc=>by simp[dif]at hc
 |x::a,[],_,_,c,hc=>by simp[dif]at hc
 |x::a,y::b,ha,hb,c,hc=>by
  have hc:c∈(x-y)::dif a b:=hc;rcases wg.mp hc with rfl|hc
  .have:=ha x wd;have:=hb y wd;rfl'
  .exact Jd (λc h=>ha c (wb _ h)) (λc h=>hb c (wb _ h)) c hc
theorem KP{N B:Nat}:∀{R:aA}{cs:aH},(∀r∈R,Lt B r)->(∀c∈cs,c.natAbs<=N)->∀k,(mix R cs k).natAbs<=R.length*(N*B)
 |[],cs,_,_,k=>by simp[mix]
 |r::R,[],_,_,k=>by simp[mix]
 | r::R,c::cs,hr,hc,k=>by
  have ih:=KP (R:=R) (cs:=cs) (λx hx=>hr x (wb _ hx)) (λx hx=>hc x (wb _ hx)) k;show(c*at0 r k+mix R cs k).natAbs<=_;have h1:(c*at0 r k).natAbs<=N*B:=by
   rw[wX];exact vE (hc c wd) (wN (hr r wd k))
  rw[wp,uD];rfl'
theorem DQ{N:Nat}:∀{r:Nat}{t:aH},G6 (br r (N+1)) t↔t.length=r/\∀c∈t,0<=c/\c<=N
 |0,[]=>by simp[G6]
 |0,x::t=>by simp[G6]
 |r+1,[]=>by simp[G6,br]
 |r+1,x::t=>by
  rw[uV,G6,DQ,wp];constructor
  .rintro⟨h1,h2,h3,h4⟩;refine⟨(),λc hc=>?_⟩;rcases wg.mp hc with rfl|hc
   .rfl'
   .exact h4 c hc
  .rintro⟨h1,h2⟩;have:=h2 x wd;exact⟨(),(),(),λc hc=>h2 c (wb _ hc)⟩
theorem GY(N:Nat):∀r,prod (br r N)=N^r
 |0=>rfl
 |r+1=>by rw[uV,prod,GY,ug,uf]
theorem siegel{R:aA}{B:Nat}(hR:Ind R)(hb:∀r∈R,Lt B r)(hp:0<B)(hs:ii)(hl:hs.length+1=R.length):
   ∃cs:aH,cs.length=R.length/\(∀h∈hs,mix R cs h=0)/\(∃k,mix R cs k≠0)/\∀k,(mix R cs k).natAbs<=(2*R.length*B)^R.length:=by
 let r:=R.length;let N:=(2*R.length*B) ^ hs.length;let W:=R.length*(N*B);let f:aH->aH:=λcs=>hs.map λh=>mix R cs h+(W:Int);have main:∃ a b:aH,G6 (List.replicate r (N+1)) a/\G6 (List.replicate r (N+1)) b/\f a=f b/\a≠b:=by
   apply vn;intro no;have inj:∀s t,G6 (br r (N+1)) s->G6 (br r (N+1)) t->f s=f t->s=t:=λs t h1 h2 h3=>vn λhne=>no ⟨s,t,h1,h2,h3,hne⟩;have h1:=Zc (ns:=br r (N+1)) (ms:=br hs.length (2*W+1)) f inj λs hsr=>by
    rw[DQ]at hsr|-;refine⟨by simp[f],λc hc=>?_⟩;obtain⟨h,_,rfl⟩:=wl.mp hc;have:=KP (N:=N) hb (cs:=s) (λc hc=>by have:=hsr.2 c hc;rfl') h;have:(mix R s h).natAbs<=W:=this;rfl'
   rw[GY,GY]at h1;have hr1:1<=R.length:=()
   have h2:2*W+1<=(2*R.length*B)*(N+1):=by
    have e:(2*R.length*B)*(N+1)=2*W+2*R.length*B:=by
     show _=2*(R.length*(N*B))+_;rw[w00,Nat.mul_one];congr 1;rw[uf N B,vG,vG]
    have:1<=2*R.length*B:=w0u () hp;rfl'
   have h3:(2*W+1)^hs.length<=((2*R.length*B)*(N+1))^hs.length:=w0A h2 _;rw[Nat.mul_pow]at h3;have h4:(N+1)^r=(N+1)*(N+1)^hs.length:=by rw[show r=hs.length+1 from hl.symm,ug,uf]
   rw[h4]at h1;have h5:(N+1)*(N+1)^hs.length<=N*(N+1)^hs.length:=wu h1 h3;have h6:0<(N+1)^hs.length:=Nat.pow_pos ();rw[uD]at h5;rfl'
 obtain⟨a,b,ha,hb',hf,hne⟩:=main;rw[DQ]at ha hb';have hab:a.length=b.length:=by rw[ha.1,hb'.1]
 refine⟨dif a b,by rw[Sr hab];exact ha.1,λh hh=>?_,?_,λk=>?_⟩
 .rw[Ss hab];have:mix R a h+(W:Int)=mix R b h+(W:Int):=List.map_inj_left.mp hf h hh;rfl'
 .apply vn;intro no;have z:∀k,mix R (dif a b) k=0:=λk=>vn λh=>no ⟨k,h⟩;exact hne (Mn hab (hR (dif a b) (by rw[Sr hab];exact ha.1) z))
 .have:=KP (N:=N) hb (cs:=dif a b) (Jd ha.2 hb'.2) k;refine wu this ?_;rw[<-hl,ug,hl,uf];show(N*B)*R.length<=N*(2*R.length*B);rw[vG,uf B];refine wS _ ?_;rw[vG];rfl'
theorem Mo(v:Vec):∀m,v m≠0->∃h,(∀k,k<h->v k=0)/\v h≠0:=by
 intro m
 induction m using uT with
 |_ m ih=>
  intro hm;by_cases q:∃k,k<m/\v k≠0
  .obtain⟨k,h1,h2⟩:=q;exact ih k h1 h2
  .exact⟨m,λk hk=>vn λh=>q ⟨k,hk,h⟩,hm⟩
theorem Mp{E:Nat}:∀{T:aA}{n f Q:Nat}{u:Vec},Asc n f T->Form f (P7 T)->(∀r∈T,Lt E r)->Span (vecs T) u->(∀r∈T,(u (b7 r)).natAbs<=Q*(hd r).natAbs)->∀k,(u k).natAbs<=Q*((2^T.length-1)*E)
 |[],n,f,Q,u,_,_,_,s,_,k=>by rw[s k];simp
 | r::T,n,f,Q,u,A,F,hE,⟨c,s⟩,hu,k=>by
  have hp:=A.2.2.2.1;have ec:=A.coef s;have hc:c.natAbs<=Q:=by
   have:=hu r wd;rw[ec,wX]at this;exact Nat.le_of_mul_le_mul_right this ()
  have ih:=Mp (T:=T) (Q:=2*Q) A.2.2.2.2 F.2.2.2.2 (λx hx=>hE x (wb _ hx)) s (λx hx=>by
   have h1:=hu x (wb _ hx);have h2:=F.2.2.2.1 (b7 x,vec x) (wl.mpr ⟨x,hx,rfl⟩);have h2:0<=at0 r (b7 x)/\at0 r (b7 x)<hd x:=h2;show(u (b7 x)-c*at0 r (b7 x)).natAbs<=_;have h3:(c*at0 r (b7 x)).natAbs<=Q*(hd x).natAbs:=by rw[wX];exact vE hc ()
   rw[vG];rfl') k
  have ih:(u k-c*at0 r k).natAbs<=2*Q*((2^T.length-1)*E):=ih;have h4:(c*at0 r k).natAbs<=Q*E:=by rw[wX];exact vE hc (wN (hE r wd k))
  have h5:Q*((2^(r::T).length-1)*E)=2*Q*((2^T.length-1)*E)+Q*E:=by
   have p:0<2^T.length:=uS _;rw[wp,ug,show 2^T.length*2-1=2*(2^T.length-1)+1 by rfl',uO,Nat.one_mul,w00,vG 2,Nat.mul_left_comm Q 2,vG 2]
  rfl'
theorem VP{W E n f:Nat}{r:Row}{T:aA}{w:Vec}(A:Asc n f (r::T))(F:Form f (P7 (r::T)))(hE:∀x∈T,Lt E x)(s:Span (vecs (r::T)) w)(h0:w (b7 r)≠0)(hz:∀x∈T,w (b7 x)=0)(hw:∀k,(w k).natAbs<=W):
  ∀k,(at0 r k).natAbs<=W+(2^T.length-1)*E:=by
 obtain⟨c,s⟩:=s;have ec:=A.coef s;have c0:c≠0:=by intro z;rw[z]at ec;simp at ec;exact h0 ec
 intro k;have q:=Mp (E:=E) (Q:=c.natAbs) A.2.2.2.2 F.2.2.2.2 hE s (λx hx=>by
  have h2:=F.2.2.2.1 (b7 x,vec x) (wl.mpr ⟨x,hx,rfl⟩);have h2:0<=at0 r (b7 x)/\at0 r (b7 x)<hd x:=h2;show(w (b7 x)-c*at0 r (b7 x)).natAbs<=_;rw[hz x hx];have h3:(c*at0 r (b7 x)).natAbs<=c.natAbs*(hd x).natAbs:=by rw[wX];exact wS _ ()
  rfl') k
 have q:(w k-c*at0 r k).natAbs<=c.natAbs*((2^T.length-1)*E):=q;have hwk:=hw k;have e1:(c*at0 r k).natAbs=c.natAbs*(at0 r k).natAbs:=wX _ _;apply uI;intro hlt;generalize (2^T.length-1)*E=X at *;have h6:c.natAbs*(W+X+1)<=c.natAbs*(at0 r k).natAbs:=wS _ hlt;have h7:c.natAbs*(W+X+1)=c.natAbs*X+c.natAbs*(W+1):=by rw[<-w00];congr 1;rfl'
 have h8:1*(W+1)<=c.natAbs*(W+1):=wB _ ();rfl'
def bnd(r B:Nat):Nat:=(2*r*B)^r*2^(r*r)
theorem Je{W n:Nat}:∀{T:aA}{f:Nat},Asc n f T->Form f (P7 T)->(∀r∈T,∃w:Vec,Span (vecs T) w/\w (b7 r)≠0/\(∀k,k<b7 r->w k=0)/\(∀x∈T,x≠r->w (b7 x)=0)/\∀k,(w k).natAbs<=W)->∀r∈T,Lt (W*2^(T.length*T.length)+1) r
 |r::T,f,A,F,h,x,hx=>by
  have nd:∀y∈T,b7 r<b7 y:=λy hy=>(A.2.2.2.2.mem hy).2.1;have ih:=Je (T:=T) A.2.2.2.2 F.2.2.2.2 (λy hy=>by
    obtain⟨w,w1,w2,w3,w4,w5⟩:=h y (wb _ hy);refine⟨w,?_,w2,w3,λz hz hne=>w4 z (wb _ hz) hne,w5⟩;exact Form.tail F (show Span (V9 (P7 (r::T))) w by
     have:V9 (P7 (r::T))=vecs (r::T):=by simp[P7,V9]
     rw[this];exact w1) (w3 _ (nd y hy)) |> λs=>by
      have:V9 (P7 T)=vecs T:=by simp[P7,V9]
      have s:Span (V9 (P7 T)) w:=s;rw[this]at s;exact s)
  have hW:W*2^(T.length*T.length)+1<=W*2^((r::T).length*(r::T).length)+1:=by
    refine w0S (wS _ (ww (by decide) ?_));exact vE (by simp) (by simp)
  rcases wg.mp hx with rfl|hx
  .obtain⟨w,w1,w2,w3,w4,w5⟩:=h x wd;intro k;have q:=VP (E:=W*2^(T.length*T.length)+1) A F ih w1 w2 (λy hy=>w4 y (wb _ hy) λe=>by have:=nd y hy;rw[e]at this;rfl') w5 k;refine Nat.lt_succ_of_le (wu q ?_);have hW1:1<=W:=by have:=w5 (b7 x);rfl'
   have e2:(x::T).length*(x::T).length=T.length*T.length+T.length+T.length+1:=by rw[wp];grind
   rw[e2,ug,vZ];generalize hP:2^(T.length*T.length+T.length)=P;have p1:2^(T.length*T.length)*2^T.length=P:=by rw[<-hP,vZ]
   have p2:1<=2^T.length:=uS _;have p3:1<=2^(T.length*T.length):=uS _;generalize 2^T.length=a at *;generalize 2^(T.length*T.length)=b at *;have h1:(a-1)*(W*b+1)<=a*(2*(W*b)):=vE () (by have:1<=W*b:=w0u hW1 p3;rfl');have h1':(a-1)*(W*b+1)+(W*b+1)=a*(W*b+1):=by
    have:a=(a-1)+1:=()
    rw[show a*(W*b+1)=((a-1)+1)*(W*b+1) by rw[<-this],uD]
   have h2:W<=W*b:=w0c _ p3;have h3:a*(W*b+1)<=a*(2*(W*b)):=wS _ (by have:1<=W*b:=w0u hW1 p3;rfl');have h4:a*(2*(W*b))=W*(b*a)*2:=by grind
   have h5:W*(b*a)*2<=W*(P*a*2):=by
    rw[p1,vG];refine wS _ (wB _ (w0c _ p2))
   rfl'
  .exact(ih x hx).mono hW
theorem Ow{n B:Nat}{S R:aA}(A:Asc n 0 S)(F:Form 0 (P7 S))(hR:Ind R)(hl:R.length=S.length)(hs:∀r∈R,Span (vecs S) (λk=>at0 r k))(hb:∀r∈R,Lt B r)(hp:0<B):
  ∀r∈S,Lt (bnd S.length B+1) r:=by
 refine Je A F λr hr=>?_;have hpw:=(Asc.iff.mp A).2;obtain⟨S1,S2,rfl⟩:=w0G hr;obtain⟨cs,c1,c2,⟨m,c3⟩,c4⟩:=siegel hR hb hp ((S1++S2).map b7) (by rw[hl];simp;rfl');have sp:Span (vecs (S1++r::S2)) (mix R cs):=GX hs;obtain⟨h,z,q⟩:=Mo _ m c3;obtain⟨x,hx,ex⟩:=A.first sp z q;have oth:∀y∈S1++r::S2,y≠r->y∈S1++S2:=λy hy hne=>by
  rcases wn.mp hy with h|h
  .exact wn.mpr (.inl h)
  .rcases wg.mp h with rfl|h
   .exact aW rfl hne
   .exact wn.mpr (.inr h)
 have zo:∀y∈S1++r::S2,y≠r->mix R cs (b7 y)=0:=λy hy hne=>c2 _ (wl.mpr ⟨y,oth y hy hne,rfl⟩);have er:x=r:=vn λhne=>q (by rw[<-ex];exact zo x hx hne);subst er;rw[hl]at c4;exact⟨mix R cs,sp,by rw[ex];exact q,λk hk=>z k (),zo,c4⟩
end St
end
section
local macro_rules|`(tactic|rfl')=>`(tactic|first|lia|omega +splitDisjunctions)
namespace St
open Lat
structure Post(n u:Nat)(S0:aA)(v:Row)(S:aA):Prop where
 asc:Asc n 0 S
 span:SameSpan (vecs S) (vecs (v::S0))
 size:∀r∈S,Lt (2^u) r
 more:S.map b7=S0.map b7\/(S.length=S0.length+1/\∃r∈S,∀x∈S0,b7 x≠b7 r)
theorem Wi.start{n e eh s m0 kk:Nat}{S0:aA}{v:Row}(A:Asc n 0 S0)(hv:v.length=n)(h0:∀r∈S0,Lt (2^e) r)(hh:∀r∈S0,hd r<2^eh)(hs:Lt (2^s) v)(hm:s+S0.length*(e+1)<=m0)(he:e<=m0):
   Wi n e eh m0 kk S0 v S0 (i4 v S0)/\LowB m0 v S0:=by
 obtain⟨z1,z2⟩:=K1 (n:=n) (t:=0) (s:=s) (e:=e) (m:=m0) (S:=S0) (left:=v) (λr hr=>⟨(A.mem hr).1,(A.mem hr).2.2.2⟩) hv (λk hk=>()) (λr hr _=>h0 r hr) hs hm he;have sp:=A5 A hv;refine⟨⟨A,D6 A hv,rfl,?_,B6 A hv,λr hr _=>h0 r hr,λr hr=>?_,z1.mono (ww (by decide) ()),λr hr=>(h0 r hr).mono (ww (by decide) ())⟩,z2⟩
 .refine Db (λr hr=>?_) λr hr=>?_
  .rcases wg.mp hr with rfl|hr
   .have t:Span (vecs (v::S0)) (λk=>at0 v k):=n8 wd;exact Span.congr (λk=>()) (t.sub sp.cons)
   .exact n8 (wb _ hr)
  .rcases wg.mp hr with rfl|hr
   .have t:Span (vecs (i4 r S0::S0)) (λk=>at0 (i4 r S0) k):=n8 wd;exact Span.congr (λk=>()) (t.add sp.cons)
   .exact n8 (wb _ hr)
 .exact hh r hr
theorem Wi.done{n e eh m0 kk:Nat}{S0:aA}{v:Row}{S:aA}{left:Row}(I:Wi n e eh m0 kk S0 v S left)(h:¬b7 left<n):Post n (e+3+(m0+n*kk)) S0 v S:=by
 have hl:=Bn left;rw[I.len]at hl;have e:b7 left=n:=()
 refine⟨I.asc,SameSpan.trans (Db (λr hr=>n8 (wb _ hr)) λr hr=>?_) I.span,λr hr=>by have:=I.all r hr;rw[e]at this;exact this,.inl I.heads⟩;rcases wg.mp hr with rfl|hr
 .refine Span.congr (λk=>?_) Span.zero;by_cases hk:k<n
  .exact(x9 r k ()).symm
  .exact(Z1 (by rw[I.len];rfl')).symm
 .exact n8 hr
theorem Wi.new{n e eh m0 kk:Nat}{S0:aA}{v:Row}{S S':aA}{left t:Row}(I:Wi n e eh m0 kk S0 v S left)(h:b7 left<n)(hn:∀r∈S,b7 r≠b7 left)
   (ht:t.length=n) (c:Int) (hc:c=1\/c = -1) (et:∀k,at0 t k=c*at0 left k) (hp:0<at0 t (b7 left)) (pm:S'.Perm (t::S)) (pw:(S'.map b7).Pairwise (·<·)):Post n (e+3+(m0+n*kk)) S0 v S':=by
 have hh:b7 t=b7 left:=M6 _ _ (λk hk=>by rw[et,x9 left k hk];simp) ();have mem:∀r∈S',r=t\/r∈S:=λr hr=>wg.mp (pm.mem_iff.mp hr);have tm:t∈S':=pm.mem_iff.mpr wd;have sm:∀r∈S,r∈S':=λr hr=>pm.mem_iff.mpr (wb _ hr);have hk:m0+b7 left*kk<=m0+n*kk:=by have:=wB kk (wN h);rfl'
 refine⟨Asc.iff.mpr ⟨λr hr=>?_,pw⟩,SameSpan.trans (Db (λr hr=>?_) λr hr=>?_) I.span,λr hr=>?_,.inr ⟨?_,t,tm,λx hx e=>?_⟩⟩
 .rcases mem r hr with rfl|hr
  .exact⟨ht,wy _,by rw[hh];exact h,by unfold hd;rw[hh];exact hp⟩
  .exact I.asc.mem hr
 .rcases mem r hr with rfl|hr
  .exact Span.congr (λk=>(et k).symm) ((n8 wd:Span (vecs (left::S)) (λk=>at0 left k)).smul c)
  .exact n8 (wb _ hr)
 .rcases wg.mp hr with rfl|hr
  .refine Span.congr (λk=>?_) ((n8 tm:Span (vecs S') (λk=>at0 t k)).smul c);show c*at0 t k=at0 r k;rw[et];rcases hc with rfl|rfl<;>rfl'
  .exact n8 (sm r hr)
 .rcases mem r hr with rfl|hr
  .intro k;rw[et];have h1:=I.size k;have h2:2^(m0+b7 left*kk)<=2^(e+3+(m0+n*kk)):=ww (by decide) ();rcases hc with rfl|rfl<;>rfl'
  .exact(I.all r hr).mono (ww (by decide) ())
 .have h1:=pm.length_eq;have h2:=bV eO I.heads;simp at h1 h2;rfl'
 .have:b7 x∈S.map b7:=by rw[I.heads];exact wl.mpr ⟨x,hx,rfl⟩
  obtain⟨y,hy,ey⟩:=wl.mp this;exact hn y hy ()
structure Good(n B:Nat)(rows:aA)(S:aA):Prop where
 asc:Asc n 0 S
 form:Form 0 (P7 S)
 span:SameSpan (vecs S) (vecs rows)
 ind:∃R:aA,Ind R/\R.length=S.length/\(∀r∈R,r∈rows)
 len:S.length<=rows.length
 full:Ind rows->S.length=rows.length
theorem Good.nil{n B:Nat}:Good n B [] []:=⟨trivial,trivial,SameSpan.refl,⟨[],(λcs h _ c hc=>by have h:cs=[]:=w0d.mp h;subst h;cases hc),rfl,λr hr=>by cases hr⟩,wf _,λ_=>rfl⟩
theorem Good.small{n B:Nat}{rows S:aA}(G:Good n B rows S)(hb:∀r∈rows,Lt B r)(hp:0<B):∀r∈S,Lt (bnd S.length B+1) r:=by
 obtain⟨R,h1,h2,h3⟩:=G.ind;exact Ow G.asc G.form h1 h2 (λr hr=>G.span.iff.mpr (n8 (h3 r hr))) (λr hr=>hb r (h3 r hr)) hp
theorem EQ:∀{R:aA}{v:Vec},Span (vecs R) v->∃c:aH,c.length=R.length/\∀k,v k=mix R c k
 |[],v,s=>⟨[],rfl,s⟩
 |r::R,v,⟨c,s⟩=>by
  obtain⟨cs,h1,h2⟩:=EQ s;refine⟨c::cs,by simp[h1],λk=>?_⟩;have:=h2 k;have this:v k-c*at0 r k=mix R cs k:=this;show v k=c*at0 r k+mix R cs k;rfl'
theorem GZ{v:Row}{d:Int}:∀{R:aA}{c:aH},c.length=R.length->∀k,mix (R++[v]) (c++[d]) k=mix R c k+d*at0 v k
 |[],[],_,k=>by simp[mix]
 |r::R,x::c,h,k=>by
  show x*at0 r k+mix (R++[v]) (c++[d]) k=x*at0 r k+mix R c k+d*at0 v k;rw[GZ (R:=R) (c:=c) (by simpa using h)];rfl'
theorem Ind.left{R:aA}{v:Row}(h:Ind (R++[v])):Ind R:=λc hl hz x hx=>by
 exact h (c++[0]) (by simp[hl]) (λk=>by rw[GZ hl,hz k];simp) x (wn.mpr (.inl hx))
theorem Jf{n:Nat}:∀{f:Nat}{S T:aA}{u:Vec},Asc n f S->Asc n f T->T.map b7=S.map b7->(∀r∈T,Span (vecs S) (λk=>at0 r k))->Span (vecs S) u->∃D:Int,D≠0/\Span (vecs T) (λk=>D*u k)
 |f,[],[],u,_,_,_,_,s=>⟨1,by decide,λk=>by have:=s k;show 1*u k=0;rfl'⟩
 |f,r::S,t::T,u,A,A',hh,hT,s=>by
  have hh':b7 t=b7 r/\T.map b7=S.map b7:=by simpa using hh
  have tz:∀{w:Vec},Span (vecs (r::S)) w->w (b7 r)=0->Span (vecs S) w:=λ{w}hw z=>by
    obtain⟨c,q⟩:=hw;have e:=A.coef q;have c0:c=0:=by
      rw[z]at e;rcases vT.mp e.symm with h|h
      .exact h
      .have:=A.2.2.2.1;rfl'
    subst c0;exact Span.congr (λk=>by simp) q
  have ht:Span (vecs (r::S)) (λk=>at0 t k):=hT t wd;have w1:Span (vecs (r::S)) (λk=>hd t*u k-u (b7 r)*at0 t k):=(s.smul (hd t)).sub (ht.smul (u (b7 r)));have w2:=tz w1 (by show hd t*u (b7 r)-u (b7 r)*at0 t (b7 r)=0;rw[<-hh'.1];show hd t*_-_*hd t=0;rw[uW];rfl');obtain⟨D,hD,q⟩:=Jf A.2.2.2.2 (by rw[<-hh'.1];exact A'.2.2.2.2) hh'.2 (λx hx=>tz (hT x (wb _ hx)) (x9 x _ (by have:=(A'.2.2.2.2.mem hx).2.1;rfl'))) w2;refine⟨D*hd t,λz=>?_,D*u (b7 r),Span.congr (λk=>?_) q⟩
  .rcases vT.mp z with z|z
   .exact hD z
   .have:=A'.2.2.2.1;rfl'
  .show D*(hd t*u k-u (b7 r)*at0 t k)=D*hd t*u k-D*u (b7 r)*at0 t k
   grind
 |f,[],t::T,u,_,_,hh,_,_=>by simp at hh
 |f,r::S,[],u,_,_,hh,_,_=>by simp at hh
theorem T3:∀S:aA,(even S).length=S.length
 |[]=>rfl
 |r::rs=>by rw[even,wp,wp,T3 rs]
theorem Good.step{n u B:Nat}{rows S0 S:List Row}{v:Row}(G:Good n B rows S0)(P:Post n u S0 v S):Good n B (rows++[v]) (even S):=by
  have es:=Jc P.asc;have sp:SameSpan (vecs (v::S0)) (vecs (rows++[v])):=Db (λr hr=>by
      rcases wg.mp hr with rfl|hr
      .exact n8 (wn.mpr (.inr wd))
      .exact(G.span.iff.mp (n8 hr)).trans λw hw=>by
         obtain⟨z,hz,rfl⟩:=wl.mp hw;exact n8 (wn.mpr (.inl hz))) λr hr=>by
      rcases wn.mp hr with hr|hr
      .exact(G.span.iff.mpr (n8 hr)).trans λw hw=>by
         obtain⟨z,hz,rfl⟩:=wl.mp hw;exact n8 (wb _ hz)
      .rcases wv.mp hr with rfl
       exact n8 wd
  obtain⟨R,h1,h2,h3⟩:=G.ind;have hlen:(even S).length<=(rows++[v]).length:=by
    rw[T3,wz];have:=G.len;rcases P.more with h|⟨h,_⟩
    .have h:=bV eO h;simp at h|-;rfl'
    .simp;rfl'
  refine⟨(R5 P.asc).1,Jb P.asc,SameSpan.trans es (P.span.trans sp),?_,hlen,λhI=>?_⟩
  rotate_left
  .have hI0:=hI.left;have hl0:=G.full hI0;rcases P.more with h|⟨h,_⟩
   .exfalso;have hv:Span (vecs S) (λk=>at0 v k):=P.span.iff.mpr (n8 wd);obtain⟨D,hD,q⟩:=Jf P.asc G.asc h.symm (λr hr=>P.span.iff.mpr (n8 (wb _ hr))) hv;obtain⟨c,hc,ec⟩:=EQ (G.span.iff.mp q);have:=hI (c++[-D]) (by simp[hc]) (λk=>by rw[GZ hc];have:=ec k;rw[<-this,w0t];show D*at0 v k+_=0;rfl') (-D) (by simp);rfl'
   .rw[T3,h,hl0];simp
  rcases P.more with h|⟨h,r,hr,hne⟩
  .exact⟨R,h1,by have h:=bV eO h;simp at h;rw[T3,h,h2],λr hr=>wn.mpr (.inl (h3 r hr))⟩
  .refine⟨ v::R,?_,by rw[T3,h,List.length_cons,h2],fun r hr=>?_⟩
   .intro cs hl hz
    cases cs with
    |nil=>intro c hc;cases hc
    | cons c cs =>
      have hl':cs.length=R.length:=by simpa using hl
      have hz:∀k,c*at0 v k+mix R cs k=0:=hz;by_cases c0:c=0
      .subst c0;have z:=h1 cs hl' (λk=>by have:=hz k;rfl');intro d hd;rcases wg.mp hd with rfl|hd
       .rfl
       .exact z d hd
      .exfalso;have cv:Span (vecs S0) (λk=>c*at0 v k):=by
         have:Span (vecs S0) (mix R cs):=GX λr hr=>G.span.iff.mpr (n8 (h3 r hr));exact Span.congr (λk=>by have:=hz k;rfl') this.neg
       have all:∀w:Vec,Span (vecs (v::S0)) w->Span (vecs S0) (λk=>c*w k):=λw hw=>by
         obtain⟨d,s⟩:=hw;have s2:=(cv.smul d).add (s.smul c);refine Span.congr (λk=>?_) s2;show d*(c*at0 v k)+c*(w k-d*at0 v k)=c*w k
         grind
       have rs:Span (vecs (v::S0)) (λk=>at0 r k):=P.span.iff.mp (n8 hr);have q:=P.asc.mem hr;obtain⟨x,hx,e⟩:=G.asc.first (h:=b7 r) (all _ rs) (λk hk=>by show c*at0 r k=0;rw[x9 r k hk];simp) (by
         show c*hd r≠0;intro z;rcases vT.mp z with z|z
         .exact c0 z
         .rfl')
       exact hne x hx e
   .rcases wg.mp hr with rfl|hr
    .exact wn.mpr (.inr wd)
    .exact wn.mpr (.inl (h3 r hr))
theorem VQ{r s B:Nat}(h:r<=s)(hB:0<B)(hs:0<s):bnd r B<=bnd s B:=by
 unfold bnd;refine vE ?_ (ww (by decide) (vE h h));have h1:2*r*B<=2*s*B:=wB _ (wS _ h);have h2:0<2*s*B:=w0u () hB;exact wu (w0A h1 r) (ww h2 h)
theorem KQ{n:Nat}:∀{f:Nat}{S:aA},Asc n f S->f<=n->S.length<=n-f
 |f,[],_,_=>wy _
 |f,r::rs,⟨h1,h2,h3,h4,h5⟩,h=>by
  have:=KQ h5 ();rw[wp];rfl'
end St
end
section
set_option exponentiation.threshold 3000
namespace St
open Lat
theorem bnd30(k:Nat)(h:k<=8):bnd k (10^30)+1<=2^900:=by
 have:=VQ (B:=10^30) h (by decide) (by decide);have e:bnd 8 (10^30)+1<=2^900:=by unfold bnd;decide
 rfl'
theorem Ty{r:Row}{B:Nat}(hB:0<B)(h:∀x∈r,x.natAbs<B):Lt B r:=λk=>by
 unfold at0 bA;by_cases hk:k<r.length
 .rw[wa hk];exact h _ (w04 _)
 .rw[wU ()];exact hB
end St
end
section
local macro_rules|`(tactic|rfl')=>`(tactic|first|lia|omega +splitDisjunctions)
namespace St
open Lat
theorem Asc.tz{n f:Nat}{r:Row}{S:aA}{w:Vec}(A:Asc n f (r::S))(hw:Span (vecs (r::S)) w)(z:w (b7 r)=0):Span (vecs S) w:=by
 obtain⟨c,q⟩:=hw;have e:=A.coef q;have c0:c=0:=by
  rw[z]at e;rcases vT.mp e.symm with h|h
  .exact h
  .have:=A.2.2.2.1;rfl'
 subst c0;exact Span.congr (λk=>by simp) q
theorem Asc.small0{n:Nat}:∀{f:Nat}{S:aA}{u:Vec},Asc n f S->Span (vecs S) u->(∀r∈S,0<=u (b7 r)/\u (b7 r)<hd r)->∀k,u k=0
 |f,[],u,_,s,_=>s
 | f,r::S,u,A,s,h=>by
  have hr:=h r wd;have z:u (b7 r)=0:=by
   obtain⟨c,q⟩:=s;have e:=A.coef q;have c0:c=0:=BP e A.2.2.2.1 () hr.2;rw[e,c0];simp
  exact A.2.2.2.2.small0 (A.tz s z) λx hx=>h x (wb _ hx)
def Ha(n:Nat):Row:=br n 0
theorem Bo(n k:Nat):at0 (Ha n) k=0:=by
 unfold at0 Ha bA;rw[wV];split<;>rfl
theorem VR{n:Nat}{r:Row}(hl:r.length=n)(h:∀k,at0 r k=0):r=Ha n:=ext0 (by unfold Ha;simp[hl]) λk=>by rw[h,Bo]
theorem Im{n:Nat}{S:aA}{v:Row}(A:Asc n 0 S)(hv:v.length=n):i4 v S=Ha n↔Span (vecs S) (λk=>at0 v k):=by
 have sp:=A5 A hv;constructor
 .intro e;rw[e]at sp;exact Span.congr (λk=>by rw[Bo];rfl') sp
 .intro s;refine VR (D6 A hv) (A.small0 (u:=λk=>at0 (i4 v S) k) ?_ (B6 A hv));exact Span.congr (λk=>()) (s.sub sp)
def G7(m j:Nat):Row:=(aT m).map λk=>if k=j then 1 else 0
theorem Jg(m j:Nat):(G7 m j).length=m:=by unfold G7;simp
theorem VS(m j k:Nat):at0 (G7 m j) k=if k=j/\k<m then 1 else 0:=by
 unfold at0 G7 bA;rw[wx];by_cases hk:k<m
 .rw[w0x hk];simp[hk]
 .rw[wU (by simpa using hk)];simp[hk]
section
variable {n N:Nat}{S:aA}
end
end St
end
section
local macro_rules|`(tactic|rfl')=>`(tactic|first|lia|omega +splitDisjunctions)
namespace St
open Lat
end St
namespace St
open Lat
theorem Asc.small{n:Nat}:∀{f:Nat}{S:aA}{u:Vec},Asc n f S->Span (vecs S) u->(∀r∈S,-(hd r)<u (b7 r)/\u (b7 r)<hd r)->∀k,u k=0
 |f,[],u,_,s,_=>s
 | f,r::S,u,A,s,h=>by
  have hr:=h r wd;have z:u (b7 r)=0:=by
   obtain⟨c,q⟩:=s;have e:=A.coef q;have c0:c=0:=BP e A.2.2.2.1 hr.1 hr.2;rw[e,c0];simp
  exact A.2.2.2.2.small (A.tz s z) λx hx=>h x (wb _ hx)
theorem Jh{n:Nat}{S:aA}{u v:Row}(A:Asc n 0 S)(hu:u.length=n)(hv:v.length=n)(s:Span (vecs S) (λk=>at0 u k-at0 v k))(h1:∀r∈S,0<=at0 u (b7 r)/\at0 u (b7 r)<hd r)(h2:∀r∈S,0<=at0 v (b7 r)/\at0 v (b7 r)<hd r):u=v:=by
 refine ext0 () λk=>?_;have:=A.small s (λr hr=>by have:=h1 r hr;have:=h2 r hr;rfl') k;rfl'
theorem Mq{n:Nat}{S:aA}{u v:Row}(A:Asc n 0 S)(hu:u.length=n)(hv:v.length=n)(s:Span (vecs S) (λk=>at0 u k-at0 v k)):i4 u S=i4 v S:=by
 refine Jh A (D6 A hu) (D6 A hv) ?_ (B6 A hu) (B6 A hv);have s1:=A5 A hu;have s2:=A5 A hv;exact Span.congr (λk=>()) ((s.sub s1).add s2)
end St
end
section
local macro_rules|`(tactic|rfl')=>`(tactic|first|lia|omega +splitDisjunctions)
namespace L2
theorem FV{a b:aH}(h:a.length=b.length)(k:Nat):St.at0 (addR a b) k=St.at0 a k+St.at0 b k:=by
 have e:addR a b=St.lin 1 a 1 b:=by unfold addR St.lin;congr 1;funext x y;rfl'
 rw[e,St.FU h];rfl'
theorem Zd(q:Int)(a:aH)(k:Nat):St.at0 (sclR q a) k=q*St.at0 a k:=by
 simp only[St.at0,sclR,bA,wx];cases a[k]?<;>simp
theorem Az(n:Nat):E8 n=St.Ha n:=by unfold E8 St.Ha;simp
theorem Ji(n k:Nat):St.at0 (E8 n) k=0:=by rw[Az];exact St.Bo n k
theorem zero_add{n:Nat}{v:aH}(hv:v.length=n):addR (E8 n) v=v:=St.ext0 (by rw[T1 (by rw[Bm,hv]),Bm,hv]) λk=>by rw[FV (by rw[Bm,hv]),Ji];rfl'
theorem Su(v:aH):sclR 1 v=v:=by unfold sclR;simp
theorem VT{r:aH}{x:Int}(h:x∈r):∃k,St.at0 r k=x:=by
 obtain⟨k,hk,e⟩:=w0v.mp h;exact⟨k,by simp[St.at0,bA,wa hk,e]⟩
theorem Tz{i j:Int}(h:0<j):S4 i j=ae:=by unfold S4;rw[aI (show j≠0 by rfl')]
theorem us0{P:aG->Prop}(h:P []):∀us:aG,us.length=0->P us:=λus hl=>(w0d.mp hl).symm ▸ h
theorem usS{P:aG->Prop}{n:Nat}(h:∀a us,us.length=n->P (a::us)):∀us:aG,us.length=n+1->P us:=λus hl=>by
 cases us with
 |nil=>cases hl
 |cons a us=>exact h a us (Nat.succ.inj hl)
theorem us1{P:aG->Prop}(h:∀a,P [a]):∀us:aG,us.length=1->P us:=usS λa=>us0 (h a)
theorem us2{P:aG->Prop}(h:∀a b,P [a,b]):∀us:aG,us.length=2->P us:=usS λa=>(usS λb=>us0 (h a b))
theorem us3{P:aG->Prop}(h:∀a b c,P [a,b,c]):∀us:aG,us.length=3->P us:=usS λa=>(usS λb=>(usS λc=>us0 (h a b c)))
theorem us4{P:aG->Prop}(h:∀a b c d,P [a,b,c,d]):∀us:aG,us.length=4->P us:=usS λa=>(usS λb=>(usS λc=>(usS λd=>us0 (h a b c d))))
end L2
end
section
namespace L2
theorem Dh.ex{K:aE}{x:Str}{st:aZ}{f:Addr}(d:Dh K x st f):∃(fd:az)(oc kV doc pm cdv ct:Value)(od an:iB)(osl:Array (iA)),fd=bO x x (J1 st) (A3 st) (d7 st) .none kV doc pm an cdv ct/\aY K aO x=aa (aa (.ref f))/\K.lookup f=aa ⟨oc,od,.func fd,osl⟩/\cX K cdv x=ae/\cD K (.ref f)=ae:=by
 obtain⟨_,_,_,_,_,_,_,_,_,e,l,c,k⟩:=d;exact⟨_,_,_,_,_,_,_,_,_,_,rfl,e,l,c,k⟩
noncomputable def Dh.fd{K:aE}{x:Str}{st:aZ}{f:Addr}(d:Dh K x st f):az:=uJ d.ex
theorem Dh.b{K:aE}{x:Str}{st:aZ}{f:Addr}{ps:ie}(d:Dh K x st f)
  (hb:∀(kV doc pm:Value)(an:iB)(cdv ct:Value)(us:aG),us.length=ps.length->fA (bO x x (J1 st) (A3 st) (d7 st) .none kV doc pm an cdv ct) ⟨us,[]⟩=pure (ps.zip us)) (us:aG) (h:us.length=ps.length):fA d.fd ⟨us,[]⟩=pure (ps.zip us):=by
 obtain⟨_,_,_,_,_,_,_,_,_,z,_⟩:=vp d.ex;rw[show d.fd=_ from z];exact hb _ _ _ _ _ _ us h
theorem Dh.q{K:aE}{h:aX}{mg:aF}(X:K.In h)(G:h.Ns aO mg){x:Str}{st:aZ}{f:Addr}{ps:ie}(d:Dh K x st f)
  (hb:∀(kV doc pm:Value) (an:Option Addr) (cdv ct:Value) (us:List Value),us.length=ps.length→bindArgs (PySem.W.fnOf x x (J1 st) (A3 st) (d7 st) .none kV doc pm an cdv ct) ⟨us,[]⟩=pure (ps.zip us):=by
   intro _ _ _ _ _ _
   first|exact us1 λ_=>rfl|exact us2 λ_ _=>rfl|exact us3 λ_ _ _=>rfl|exact us4 λ_ _ _ _=>rfl|exact us0 rfl|exact us5 λ_ _ _ _ _=>rfl|exact us6 λ_ _ _ _ _ _=>rfl):Df K mg x st ps f d.fd:=by
 obtain⟨_,_,_,_,_,_,_,_,_,z,e,l,c,k⟩:=vp d.ex;have w:d.fd=_:=z;rw[z]at l;rw[w];exact df_mk X G e l c k hb
abbrev FK(P:aN)(w:aP)(K:aE)(mg:aF)(base:aX)(k:Nat)(f:Addr)(fd:az)(ps:ie)(r:Bool)(c:FC):Prop:=FnOk P w K mg base CX0 k f fd ps (spc K r c)
end L2
end
section
namespace L2
def nx1(low:aH->aH)(st:aA×List (aH×aH))(b:aH):aA×List (aH×aH):=
 if low b∈st.1 then st else(st.1++[low b],st.2++[(low b,b)])
def z9(low:aH->aH)(st:aA×List (aH×aH))(bs:aA):aA×List (aH×aH):=bs.foldl (nx1 low) st
def B3(add:aH->aH->aH)(level:List (aH×aH))(steps:aA):aA:=level.flatMap λp=>steps.map (add p.2)
theorem Ze{low:aH->aH}{st:aA×List (aH×aH)}{b:aH}:(nx1 low st b).1.length<=st.1.length+1/\(nx1 low st b).2.length<=st.2.length+1:=by
 unfold nx1;split<;>simp
theorem DR{low:aH->aH}:∀(bs:aA){st:aA×List (aH×aH)},(z9 low st bs).1.length<=st.1.length+bs.length/\(z9 low st bs).2.length<=st.2.length+bs.length
 |[],st=>⟨wf _,wf _⟩
 |b::bs,st=>by
  have h1:=Ze (low:=low) (st:=st) (b:=b);have h2:=DR (low:=low) bs (st:=nx1 low st b);show(z9 low (nx1 low st b) bs).1.length<=_/\(z9 low (nx1 low st b) bs).2.length<=_;rw[wp];rfl'
def kvT(seen:aA):List (List Key×V):=seen.map λt=>(kI t,V.bl ae)
theorem kI_inj{a b:aH}(h:kI a=kI b):a=b:=by
 induction a generalizing b with
 |nil=>cases b with
  |nil=>rfl
  |cons _ _=>simp[kI]at h
 | cons x xs ih=>cases b with
  |nil=>simp[kI]at h
  |cons y ys=>
   simp only[kI,wj,gF,Sum.inl.injEq]at h;rw[h.1,ih h.2]
theorem Hb(r:aH):∀seen:aA,(valV (kvT seen) (kI r)).isSome=decide (r∈seen)
 |[]=>rfl
 |t::ts=>by
  show(valV ((kI t,V.bl ae)::kvT ts) (kI r)).isSome=_;by_cases e:t=r
  .subst e;rw[GM rfl];simp
  .rw[GN (λz=>e (kI_inj z)),Hb r ts];simp[bQ e]
theorem VU{r:aH}{seen:aA}(h:r∉seen):putK (kvT seen) (kI r) (V.bl ae)=kvT (seen++[r]):=by
 rw[Vl]
 .unfold kvT;simp
 .have:=Hb r seen;rw[aK h]at this;exact Option.isNone_iff_eq_none.mp (by rw[<-Option.not_isSome,this];rfl)
abbrev rTup(K:aE):iD->Hp->VK->Prop:=λxs H Q=>∃p ys,xs=[.ref p]/\((SqL K H p ys/\∀l,H l=aj->Q (.ref l) (upd H l (.tup ys)))\/(SqT K H p ys/\Q (.ref p) H))
noncomputable def tNxB(K:aE)(sa sl:Sp):TS:=
  tSeq (tAsg (EC sa [] E0 (D4 (tOp (rIxT K) (tVar 5) (tC (.int 1))) (D4 (tVar 6) tNil))) (G2 7))
  (tSeq (tAsg (EC sl [] E0 (D4 (tVar 7) (D4 (tVar 2) tNil))) (G2 8))
   (tIfS (tB (tDIn not (tCB (rTup K) (D4 (tVar 8) tNil)) (tVar 3)))
      (tSeq (sDPut (tVar 3) (tCB (rTup K) (D4 (tVar 8) tNil)) (tC (.bl true)))
            (RI (tBM K "list" RP (tVar 4) (D4 (tTup (D4 (tVar 8) (D4 (tVar 7) tNil))) tNil))))
      tNext))
noncomputable def tNx(K:aE)(sa sl:Sp)(P:Addr)(ps:iu)(q:Str):TS:=
 tSeq (tAsg (tLst tNil) (G2 4)) (tSeq (tFor (Uk K (tVar 0)) (G2 5) (tFor (Uk K (tVar 1)) (G2 6) (tNxB K sa sl))) (tRet (VD K P ps q 4)))
def PairsAt(H H':Hp)(D:Addr)(found:List (aH×aH))(fs:ig):Prop:=fs.length=found.length /\
 ∀(j:Nat)(p:aH×aH)(f:Addr),found[j]?=aa p->fs[j]?=aa f->∃x y,H' f=aa (.tup [.ref x,.ref y])/\H' x=aa (.lst (p.1.map V.int))/\H' y=aa (.lst (p.2.map V.int))/\H x=aj/\H y=aj/\x≠D/\y≠D
structure NxAt(H:Hp)(a D:Addr)(st:aA×List (aH×aH))(H':Hp):Prop where
 keep:∀b o,b≠a->H b=aa o->H' b=aa o
 dict:H' a=aa (.dT (kvT st.1))
 fD:H D=aj
 list:∃fs:ig,H' D=aa (.lst (fs.map V.ref))/\PairsAt H H' D st.2 fs
theorem U7{a b:Addr}{H:Hp}{o:HO}(hA:∀o,H a=aa o->∃kvs,o=.dT kvs)(h:H b=aa o)(n:∀kvs,o ≠ .dT kvs):hidL [a] H b=aa o:=by
 rw[i8]
 .exact h
 .intro z;have z:=wv.mp z;subst z;obtain⟨kvs,e⟩:=hA o h;exact n kvs e
mutual
theorem Rp.skip{K:aE}{B:Hp}{a:Addr}:∀(d:Dt){H:Hp}{v:V},(∀o,H a=aa o->∃kvs,o=.dT kvs)->Rp K B d H v->Rp K B d (hidL [a] H) v
 |.non,_,v,_,h=>by unfold Rp at h|-;exact h
 |.bl b,_,v,_,h=>by unfold Rp at h|-;exact h
 |.int i,_,v,_,h=>by unfold Rp at h|-;exact h
 |.str x,_,v,_,h=>by unfold Rp at h|-;exact h
 |.dic,H,v,hA,h=>by unfold Rp at h|-;obtain⟨b,q,r⟩:=h;exact⟨b,q,U7 hA r (by rintro _ ⟨⟩)⟩
 |.lst ds,H,v,hA,h=>by
  unfold Rp at h|-;obtain⟨b,vs,rfl,h0,h1,h2⟩:=h;refine⟨b,vs,rfl,h0,U7 hA h1 (by rintro _ ⟨⟩),?_⟩;rw[W6];exact Rps.skip ds (λo e=>hA o (B2 e).2) h2
 |.tup ds,H,v,hA,h=>by
  unfold Rp at h|-;obtain⟨b,vs,rfl,h1,h2⟩:=h;refine⟨b,vs,rfl,?_,Rps.skip ds hA h2⟩;rcases h1 with(h1|⟨o,h1⟩)|h1
  .exact .inl (.inl (U7 hA h1 (by rintro _ ⟨⟩)))
  .exact .inl (.inr ⟨o,U7 hA h1 (by rintro _ ⟨⟩)⟩)
  .exact .inr h1
 |.scr ns,H,v,hA,h=>by
  unfold Rp at h|-;obtain⟨b,rfl,h0,h1⟩:=h;refine⟨b,rfl,h0,?_⟩;rcases h1 with⟨q,h1⟩|h1
  .exact .inl ⟨q,U7 hA h1 (by rintro _ ⟨⟩)⟩
  .exact .inr h1
 |.obj C k b es,H,v,hA,h=>by
  unfold Rp at h|-;obtain⟨c,dx,vk,vb,l,vs,rfl,h0,h1,h2,h3,h4,h5,h6,h7,h8⟩:=h;refine⟨c,dx,vk,vb,l,vs,rfl,h0,U7 hA h1 (by rintro _ ⟨⟩),U7 hA h2 (by rintro _ ⟨⟩),h3,U7 hA h4 (by rintro _ ⟨⟩),h5,?_⟩;rw[W6];exact⟨Rp.skip k (λo e=>hA o (B2 e).2) h6,Rp.skip b (λo e=>hA o (B2 e).2) h7,Rps.skip es (λo e=>hA o (B2 e).2) h8⟩
theorem Rps.skip{K:aE}{B:Hp}{a:Addr}:∀(ds:iC){H:Hp}{vs:iD},(∀o,H a=aa o->∃kvs,o=.dT kvs)->Rps K B ds H vs->Rps K B ds (hidL [a] H) vs
 |[],_,vs,_,h=>by unfold Rps at h|-;exact h
 |d::ds,_,vs,hA,h=>by
  unfold Rps at h|-;obtain⟨v,r,rfl,h1,h2⟩:=h;exact⟨v,r,rfl,Rp.skip d hA h1,Rps.skip ds hA h2⟩
end
section
variable {K:aE}{H H' H'':Hp}{a D:Addr}{st:aA×List (aH×aH)}
theorem Rp.past{B:Hp}{d:Dt}{v:V}{kvs:List (List Key×V)}(ha:H a=aa (.dT kvs))(k:∀b o,b≠a->H b=aa o->H' b=aa o)(h:Rp K B d H v):Rp K B d H' v:=by
 refine Rp.mono d (λb o e=>?_) (Rp.skip (a:=a) d (λo e=>by rw[ha]at e;cases e;exact⟨_,rfl⟩) h);obtain⟨n,e⟩:=B2 e;exact k b o (by simpa using n) e
theorem PairsAt.mono{found:List (aH×aH)}{fs:ig}{xs:iD}(h:PairsAt H H' D found fs)(hD:H' D=aa (.lst xs))(k:∀b o,(∃xs,o=.tup xs\/o=.lst xs)->b≠D->H' b=aa o->H'' b=aa o):PairsAt H H'' D found fs:=by
 refine⟨h.1,λj p f e1 e2=>?_⟩;obtain⟨x,y,h1,h2,h3,h4,h5,h6,h7⟩:=h.2 j p f e1 e2;exact⟨x,y,k _ _ ⟨_,.inl rfl⟩ (An h1 hD (λz=>nomatch z)) h1,k _ _ ⟨_,.inr rfl⟩ h6 h2,k _ _ ⟨_,.inr rfl⟩ h7 h3,h4,h5,h6,h7⟩
theorem NxAt.mono(h:NxAt H a D st H')(s:Same H' H''):NxAt H a D st H'':=by
 obtain⟨fs,h1,h2⟩:=h.list;exact⟨λb o n e=>s _ _ (h.keep b o n e),s _ _ h.dict,h.fD,fs,s _ _ h1,h2.mono h1 λb o _ _ e=>s _ _ e⟩
theorem NxAt.put(h:NxAt H a D st H'){kvs:List (List Key×V)}{seen:aA}(e:kvs=kvT seen):NxAt H a D (seen,st.2) (upd H' a (.dT kvs)):=by
 subst e;obtain⟨fs,h1,h2⟩:=h.list;have nD:D≠a:=An h1 h.dict (λz=>nomatch z);refine⟨λb o n e=>by rw[i7 n];exact h.keep b o n e,j6,h.fD,fs,by rw[i7 nD];exact h1,h2.mono h1 λb o ho _ e=>?_⟩;rw[i7 (An e h.dict (λz=>by obtain⟨xs,z'|z'⟩:=ho<;>rw[z']at z<;>cases z))];exact e
theorem NxAt.app(h:NxAt H a D st H'){f x y:Addr}{p:aH×aH}{fs:ig}(hD:H' D=aa (.lst (fs.map V.ref)))(hp:PairsAt H H' D st.2 fs)(hf:H' f=aa (.tup [.ref x,.ref y]))(hx:H' x=aa (.lst (p.1.map V.int)))(hy:H' y=aa (.lst (p.2.map V.int)))(nx:H x=aj)(ny:H y=aj)(xD:x≠D)(yD:y≠D):
   NxAt H a D (st.1,st.2++[p]) (upd H' D (.lst (fs.map V.ref++[.ref f]))):=by
 have nD:a≠D:=An h.dict hD (λz=>nomatch z);refine⟨λb o n e=>?_,by rw[i7 nD];exact h.dict,h.fD,fs++[f],by rw[j6,vz];rfl,?_⟩
 .have:b≠D:=λz=>by rw[z,h.fD]at e;cases e
  rw[i7 this];exact h.keep b o n e
 .have m:=hp.mono (H'':=upd H' D (.lst (fs.map V.ref++[.ref f]))) hD λb o _ n e=>by rw[i7 n];exact e
  refine⟨by rw[wz,wz,m.1];rfl,λj r g e1 e2=>?_⟩;by_cases c:j<fs.length
  .rw[wJ (by rw[<-m.1];exact c)]at e1;rw[wJ c]at e2;exact m.2 j r g e1 e2
  .have hj:j=fs.length:=by
    have:=(wr.mp e2).1;rw[wz,w0k]at this;rfl'
   subst hj;rw[wE (wf _),w0g]at e2;rw[m.1,wE (wf _),w0g]at e1;cases e1;cases e2;exact⟨x,y,by rw[i7 (An hf hD (λz=>nomatch z))];exact hf,by rw[i7 xD];exact hx,by rw[i7 yD];exact hy,nx,ny,xD,yD⟩
end
abbrev levD(level:List (aH×aH)):Dt:=.lst (level.map λp=>.tup [L p.1,L p.2])
theorem rd_nxB{K:aE}{ca cl:FC}{H H':Hp}{a D:Addr}{st:aA×List (aH×aH)}{vl vst vr x5 x6:V}{x7 x8:Option V}{b t bb r:aH}{y0:aH}{G:aA}{E:Ends}{N:St->Hp->Prop}{low:aH->aH}
   (n:NxAt H a D st H') (h5:Rp K emp (.tup [L y0,L b]) H' x5) (h6:Rp K emp (L t) H' x6) (hG:Rp K emp (LL G) H' vr) (ea:ca [L b,L t]=aa (L bb)) (el:cl [L bb,LL G]=aa (L r)) (hr:low bb=r) (sz:st.1.length<100000) (sz2:st.2.length<100000) (nD:E.nx=N)
   (fin:∀H'' q7 q8,NxAt H a D (nx1 low st bb) H''->N [aa vl,aa vst,aa vr,aa (.ref a),aa (.ref D),aa x5,aa x6,q7,q8] H'') :
   tNxB K (spc K ae ca) (spc K ae cl) E [aa vl,aa vst,aa vr,aa (.ref a),aa (.ref D),aa x5,aa x6,x7,x8] H':=by
 subst hr;obtain⟨f5,vs5,rfl,s5,r5⟩:=Rp.tup_.mp h5;obtain⟨w0,t1,rfl,r50,r5⟩:=Rps.cons_.mp r5;obtain⟨w1,t2,rfl,r51,r5⟩:=Rps.cons_.mp r5;have e:=Rps.nil_.mp r5;subst e;refine⟨.ref f5,rfl,f5,_,1,w1,rfl,rfl,s5,rfl,x6,rfl,[L b,L t],_,Rps.cons_.mpr ⟨_,_,rfl,r51,Rps.one h6⟩,ea,λv7 H1 s1 r7=>?_⟩;have r7:Rp K H' (L bb) H1 v7:=r7;have n1:=n.mono s1;refine⟨v7,rfl,vr,rfl,[L bb,LL G],_,Rps.cons_.mpr ⟨_,_,rfl,Rp.anti Same.emp _ r7,Rps.one (Rp.mono _ s1 hG)⟩,el,λv8 H2 s2 r8=>?_⟩;have r8:Rp K H1 (L (low bb)) H2 v8:=r8;have n2:=n1.mono s2;obtain⟨y,ys,rfl,ny,hy,ry⟩:=Rp.lst_.mp r7;have ry:=Rps.ints.mp ry;subst ry;obtain⟨x,xs,rfl,nx,hx,rx⟩:=Rp.lst_.mp r8;have rx:=Rps.ints.mp rx;subst rx;have hy2:=s2 _ _ hy;obtain⟨fs,hD,hp⟩:=n2.list;obtain⟨fs0,hD0,_⟩:=n.list;have yD:y≠D:=λz=>by rw[z,hD0]at ny;cases ny
 have xD:x≠D:=λz=>by rw[z,s1 _ _ hD0]at nx;cases nx
 have hkeep:∀z,H' z=aj->H z=aj:=λz e=>by
   cases q:H z with
   |none=>rfl
   | some o =>
     by_cases c:z=a
     .rw[c,n.dict]at e;cases e
     .rw[n.keep z o c q]at e;cases e
 have nyH:H y=aj:=hkeep y ny;have nxH:H x=aj:=hkeep x (s1.free nx);refine⟨.ref x,rfl,x,_,rfl,.inl ⟨SqL.of hx,λl hl=>?_⟩⟩;have n3:=n2.mono (m6 (o:=.tup ((low bb).map V.int)) hl);refine⟨.ref a,rfl,a,l,_,kI (low bb),rfl,rfl,n3.dict,by rw[NZ];exact j6,_,rfl,?_⟩;rw[Hb];have s3:=m6 (o:=HO.tup ((low bb).map V.int)) hl;by_cases c:low bb∈st.1
 .rw[aI c];show if(!true)=ae then _ else _
  rw[ax (by decide)];show E.nx _ _;rw[nD];refine fin _ _ _ ?_;unfold nx1;rw[ap c];exact n3
 .rw[aK c];show if(!false)=ae then _ else _
  rw[ap (by decide)];have hx3:=s3 _ _ hx;refine⟨.ref a,rfl,.ref x,rfl,x,_,rfl,.inl ⟨SqL.of hx3,λl2 hl2=>?_⟩⟩;have s4:=m6 (o:=HO.tup ((low bb).map V.int)) hl2;have n4:=n3.mono s4;refine⟨a,l2,_,kI (low bb),rfl,rfl,n4.dict,by rw[NZ];exact j6,?_,?_⟩
  .unfold kvT;rw[we,bv];rfl'
  rw[VU c];have n5:=n4.put (seen:=st.1++[low bb]) rfl;generalize hg:upd (upd (upd H2 l (.tup ((low bb).map V.int))) l2 (.tup ((low bb).map V.int))) a (.dT (kvT (st.1++[low bb])))=H5 at n5|-;have lst5:∀b xs,H2 b=aa (.lst xs)->H5 b=aa (.lst xs):=λb xs e=>by
    rw[<-hg,i7 (An e n2.dict (λz=>nomatch z))];exact s4 _ _ (s3 _ _ e)
  obtain⟨fs5,hD5,hp5⟩:=n5.list;refine⟨.ref D,rfl,.inl ⟨rfl,_,SqL.of hD5⟩,.ref x,rfl,.ref y,rfl,by show 2<=sizeLine;decide,λf hf=>?_⟩;have s6:=m6 (o:=HO.tup [.ref x,.ref y]) hf;have n6:=n5.mono s6;refine⟨D,_,_,rfl,rfl,s6 _ _ hD5,by rw[we,bv,hp5.1];show st.2.length<_;rfl',?_⟩;show E.nx _ _;rw[nD];refine fin _ _ _ ?_;unfold nx1;rw[ax c];exact n6.app (p:=(low bb,bb)) (s6 _ _ hD5) (hp5.mono hD5 λb o _ _ e=>s6 _ _ e) j6 (s6 _ _ (lst5 _ _ hx)) (s6 _ _ (lst5 _ _ hy2)) nxH nyH xD yD
end L2
end
section
namespace L2
theorem VV{low:aH->aH}{st:aA×List (aH×aH)}{b:aH}(h1:∀p∈st.2,p.1∈st.1)(h2:(st.2.map (·.1)).Nodup):(∀p∈(nx1 low st b).2,p.1∈(nx1 low st b).1)/\((nx1 low st b).2.map (·.1)).Nodup:=by
 unfold nx1;split
 .exact⟨h1,h2⟩
 .rename_i c;refine⟨λp hp=>?_,?_⟩
  .rcases wn.mp hp with hp|hp
   .exact wO _ (h1 p hp)
   .rw[wv.mp hp];exact wA _ wd
  .show((st.2++[(low b,b)]).map (·.1)).Nodup;rw[vz,uE];refine⟨h2,by simp,λx hx y hy=>?_⟩;obtain⟨p,hp,rfl⟩:=wl.mp hx;have:y=low b:=by simpa using hy
   rw[this];exact λz=>c (z ▸ h1 p hp)
theorem Ce{low:aH->aH}:∀(bs:aA){st:aA×List (aH×aH)},(∀p∈st.2,p.1∈st.1)->(st.2.map (·.1)).Nodup->(∀p∈(z9 low st bs).2,p.1∈(z9 low st bs).1)/\((z9 low st bs).2.map (·.1)).Nodup
 |[],st,h1,h2=>⟨h1,h2⟩
 |b::bs,st,h1,h2=>by
  have:=VV (low:=low) (b:=b) h1 h2;exact Ce (low:=low) bs (st:=nx1 low st b) this.1 this.2
def LexP(found lv:List (aH×aH)):Prop:=lv.Perm found/\lv.Pairwise λp q=>HT.lexLt q.1 p.1=ag
theorem Hc{K:aE}{H H':Hp}:∀{ys:ig}{lv:List (aH×aH)},ys.length=lv.length->(∀(j:Nat)(p:aH×aH)(f:Addr),lv[j]?=aa p->ys[j]?=aa f->∃x y,H' f=aa (.tup [.ref x,.ref y])/\H' x=aa (.lst (p.1.map V.int))/\H' y=aa (.lst (p.2.map V.int))/\H x=aj/\H y=aj)->Rps K H (lv.map λp=>.tup [L p.1,L p.2]) H' (ys.map V.ref)
 |[],[],_,_=>Rps.nil_.mpr rfl
 |[],_::_,h,_=>by cases h
 |_::_,[],h,_=>by cases h
 |f::ys,p::lv,h,q=>by
  obtain⟨x,y,h1,h2,h3,h4,h5⟩:=q 0 p f rfl rfl;refine Rps.cons_.mpr ⟨_,_,rfl,Rp.tup_.mpr ⟨f,_,rfl,SqT.of h1,Rps.cons_.mpr ⟨_,_,rfl,Rp.lst_.mpr ⟨x,_,rfl,h4,h2,Rps.ints.mpr rfl⟩,Rps.one (Rp.lst_.mpr ⟨y,_,rfl,h5,h3,Rps.ints.mpr rfl⟩)⟩⟩,Hc (by simpa using h) λj p' f' e1 e2=>q (j+1) p' f' (by simpa using e1) (by simpa using e2)⟩
theorem VW{α β:Type}{f:α->β}:∀{bs:List β}{as:List α},bs.Perm (as.map f)->∃zs:List α,zs.Perm as/\bs=zs.map f:=by
 intro bs as h;generalize e:as.map f=cs at h
 induction h generalizing as with
 |nil=>exact⟨[],by rw[List.map_eq_nil_iff.mp e],rfl⟩
 |cons x p ih=>
  obtain⟨a,as',rfl,rfl,e'⟩:=uP.mp e;obtain⟨zs,g1,g2⟩:=ih e';exact⟨a::zs,g1.cons a,by rw[g2];rfl⟩
 |swap x y l=>
  obtain⟨a,as',rfl,rfl,e'⟩:=uP.mp e;obtain⟨b,as'',rfl,rfl,rfl⟩:=uP.mp e';exact⟨b::a::as'',List.Perm.swap a b as'',rfl⟩
 |trans p1 p2 ih1 ih2=>
  obtain⟨zs,g1,rfl⟩:=ih2 e;obtain⟨ws,g3,g4⟩:=ih1 rfl;exact⟨ws,g3.trans g1,g4⟩
theorem TB{H H':Hp}{D:Addr}{found:List (aH×aH)}{fs ys:ig}(hp:PairsAt H H' D found fs)(h:LexV (found.map (·.1)) fs ys):∃lv,LexP found lv/\ys.length=lv.length/\∀(j:Nat)(p:aH×aH)(f:Addr),lv[j]?=aa p->ys[j]?=aa f->∃x y,H' f=aa (.tup [.ref x,.ref y])/\H' x=aa (.lst (p.1.map V.int))/\H' y=aa (.lst (p.2.map V.int))/\H x=aj/\H y=aj:=by
 obtain⟨ps,h1,h2,h3⟩:=h;have e:(found.map (·.1)).zip fs=(found.zip fs).map λz=>(z.1.1,z.2):=by rw[List.zip_map_left];exact vL λz _=>rfl
 rw[e]at h1;obtain⟨zs,pz,ez⟩:∃zs:List ((aH×aH)×Addr),zs.Perm (found.zip fs)/\ps=zs.map λz=>(z.1.1,z.2):=VW h1;refine⟨zs.map (·.1),⟨?_,?_⟩,?_,λj p f e1 e2=>?_⟩
 .have:=pz.map (·.1);rw[w07 (by rw[hp.1];exact wf _)]at this;exact this
 .rw[ez,vi]at h3;exact vi.mpr h3
 .rw[h2,ez];simp
 .rw[h2,ez,wK,wx]at e2;rw[wx]at e1;obtain⟨z,g1,g2⟩:=vF.mp e1;obtain⟨z',g3,g4⟩:=vF.mp e2;rw[g1]at g3;cases g3;subst g2 g4;have m:=pz.mem_iff.mp (vj g1);obtain⟨i,hi,ei⟩:=wI m;rw[vy]at hi;rw[vt]at ei;have i1:i<found.length:=()
  have i2:i<fs.length:=()
  obtain⟨x,y,k1,k2,k3,k4,k5,_⟩:=hp.2 i found[i] fs[i] (wa i1) (wa i2);rw[<-ei];exact⟨x,y,k1,k2,k3,k4,k5⟩
section
variable {K:aE}{ca cl:FC}{H:Hp}{a P:Addr}{ps:iu}{q:Str}{level:List (aH×aH)}{steps G seen:aA}{add:aH->aH->aH}{low:aH->aH}
theorem Ox{i:Nat}{p:aH×aH}(e:level[i]?=aa p):B3 add (level.take (i+1)) steps=B3 add (level.take i) steps++steps.map (add p.2):=by
 unfold B3;rw[uA,e,w0z];simp
theorem Jj:∀level:List (aH×aH),(B3 add level steps).length=level.length*steps.length
 |[]=>by simp[B3]
 |p::l=>by
  have:=Jj l;unfold B3 at this|-;rw[uZ,wz,this,we,wp,uO];rfl'
structure NxOk(ca cl:FC)(level:List (aH×aH))(steps G seen:aA)(add:aH->aH->aH)(low:aH->aH):Prop where
 fn:∀p∈level,∀t∈steps,ca [L p.2,L t]=aa (L (add p.2 t))/\cl [L (add p.2 t),LL G]=aa (L (low (add p.2 t)))
 sz:seen.length+level.length*steps.length<50000
 few:(z9 low (seen,[]) (B3 add level steps)).2.length<4096
def spNx(K:aE)(ca cl:FC)(P:Addr)(ps:iu)(q:Str):Sp:=λvs H Q _=>∃vl vst vr a level steps G seen add low,vs=[vl,vst,vr,.ref a]/\Rp K emp (levD level) H vl/\Rp K emp (LL steps) H vst/\Rp K emp (LL G) H vr/\H a=aa (.dT (kvT seen))/\H P=aa (.tbl ps q) /\
 NxOk ca cl level steps G seen add low/\∀H' v lv,(∀b o,b≠a->H b=aa o->H' b=aa o)->H' a=aa (.dT (kvT (z9 low (seen,[]) (B3 add level steps)).1))->LexP (z9 low (seen,[]) (B3 add level steps)).2 lv->Rp K H (levD lv) H' v->Q v H'
theorem rd_nx{vs:List V}{Q:VK}{E:XK}{N:List Str}(hN:N.length=9)(h:spNx K ca cl P ps q vs H Q E):tNx K (spc K true ca) (spc K true cl) P ps q { nx:=fun _ H'=>Q .non H',rt:=Q } (start N vs) H:=by
 obtain⟨vl,vst,vr,a,level,steps,G,seen,add,low,rfl,hl,hst,hG,ha,hP,ok,fin⟩:=h;have hstt:start N [vl,vst,vr,V.ref a]=[aa vl,aa vst,aa vr,aa (.ref a),aj,aj,aj,aj,aj]:=by unfold start;rw[hN];rfl
 rw[hstt];have okS:=ok.sz;refine⟨wy _,λD hD=>?_⟩;show tSeq _ _ _ [aa vl,aa vst,aa vr,aa (.ref a),aa (.ref D),aj,aj,aj,aj] (upd H D (.lst []));have n0:NxAt H a D (seen,[]) (upd H D (.lst [])):=by
  have nD:a≠D:=A0 ha hD;refine⟨λb o _ e=>by rw[i7 (A0 e hD)];exact e,by rw[i7 nD];exact ha,hD,[],j6,rfl,λj p f e1 e2=>by simp at e1⟩
 obtain⟨l0,vs0,rfl,_,h0,r0⟩:=Rp.lst_.mp hl;have n0l:=r0.length;rw[we]at n0l;have ent:∀{H'}{st:aA×List (aH×aH)},NxAt H a D st H'->Rp K emp (levD level) H' (.ref l0)/\Rp K emp (LL steps) H' vst/\Rp K emp (LL G) H' vr/\SqL K H' l0 vs0:=λn=>⟨Rp.past ha n.keep hl,Rp.past ha n.keep hst,Rp.past ha n.keep hG,SqL.of (n.keep _ _ (An h0 ha (λz=>nomatch z)) h0)⟩;refine⟨.ref l0,rfl,l0,rfl,⟨_,(ent n0).2.2.2⟩,?_⟩;refine LH (xs:=vs0) (λi σ H'=>∃x5 x6 x7 x8,σ=[aa (.ref l0),aa vst,aa vr,aa (.ref a),aa (.ref D),x5,x6,x7,x8]/\NxAt H a D (z9 low (seen,[]) (B3 add (level.take i) steps)) H')
  ⟨aj,aj,aj,aj,rfl,n0⟩ (λi σ H' _⟨_,_,_,_,_,n⟩=>(ent n).2.2.2) ?step ?done
 case step=>
  rintro i x σ H' hx ⟨x5,x6,x7,x8,rfl,n⟩;have hi:i<level.length:=by rw[<-n0l];exact(wr.mp hx).1
  obtain⟨p,hp⟩:∃p,level[i]?=aa p:=⟨_,wa hi⟩;have hpm:=vj hp;have tk:level.take i=level.take i:=rfl;have pr:∀{H''}{st:aA×List (aH×aH)},NxAt H a D st H''->Rp K emp (.tup [L p.1,L p.2]) H'' x:=λn'=>by
   obtain⟨v,e1,e2⟩:=r0.get (i:=i) (d:=.tup [L p.1,L p.2]) (by rw[wx,hp];rfl);rw[hx]at e1;cases e1;exact Rp.past ha n'.keep (Rp.mono _ l9 e2)
  show tFor _ _ _ _ [aa (.ref l0),aa vst,aa vr,aa (.ref a),aa (.ref D),aa x,x6,x7,x8] H';obtain⟨l1,vs1,rfl,_,h1,r1⟩:=Rp.lst_.mp hst;have n1l:=r1.length;rw[we]at n1l;have sq1:∀{H''}{st:aA×List (aH×aH)},NxAt H a D st H''->SqL K H'' l1 vs1:=λn'=>SqL.of (n'.keep _ _ (An h1 ha (λz=>nomatch z)) h1);refine⟨.ref l1,rfl,l1,rfl,⟨_,sq1 n⟩,?_⟩;refine LH (xs:=vs1) (λj σ H''=>∃x6 x7 x8,σ=[aa (.ref l0),aa (.ref l1),aa vr,aa (.ref a),aa (.ref D),aa x,x6,x7,x8]/\NxAt H a D (z9 low (z9 low (seen,[]) (B3 add (level.take i) steps)) ((steps.take j).map (add p.2))) H'')
   ⟨x6,x7,x8,rfl,n⟩ (λj σ H'' _⟨_,_,_,_,n'⟩=>sq1 n') ?st2 ?dn2
  case dn2=>
   rintro σ H'' ⟨x6,x7,x8,rfl,n'⟩;refine⟨aa x,x6,x7,x8,rfl,?_⟩;rw[Ox hp];unfold z9 at n'|-;rw[w0O];rw[n1l,vm (wf _)]at n';exact n'
  case st2=>
   rintro j y σ H'' hy ⟨x6,x7,x8,rfl,n'⟩;have hj:j<steps.length:=by rw[<-n1l];exact(wr.mp hy).1
   obtain⟨t,ht⟩:∃t,steps[j]?=aa t:=⟨_,wa hj⟩;have htm:=vj ht;obtain⟨e1,e2⟩:=ok.fn p hpm t htm;have ry:Rp K emp (L t) H'' y:=by
     obtain⟨v,g1,g2⟩:=r1.get (i:=j) (d:=L t) (by rw[wx,ht];rfl);rw[hy]at g1;cases g1;exact Rp.past ha n'.keep (Rp.mono _ l9 g2)
   show tNxB K (spc K ae ca) (spc K ae cl) _ [aa (.ref l0),aa (.ref l1),aa vr,aa (.ref a),aa (.ref D),aa x,aa y,x7,x8] H'';have ln1:=DR (low:=low) (B3 add (level.take i) steps) (st:=(seen,[]));have ln2:=DR (low:=low) ((steps.take j).map (add p.2)) (st:=z9 low (seen,[]) (B3 add (level.take i) steps));rw[Jj,vg,w17 ()]at ln1;rw[we,vg,w17 ()]at ln2;have mi:i*steps.length+j<=level.length*steps.length:=by
     have:(i+1)*steps.length<=level.length*steps.length:=wB _ hi;rw[uO]at this;rfl'
   have z0:([]:List (aH×aH)).length=0:=rfl;simp only[w14]at ln1;refine rd_nxB (low:=low) n' (pr n') ry (ent n').2.2.1 e1 e2 rfl () () rfl λH3 q7 q8 n3=>?_;refine⟨_,_,_,rfl,?_⟩;rw[uA,ht,vz];unfold z9 at n3|-;rw[w0O];exact n3
 case done=>
  rintro σ H' ⟨x5,x6,x7,x8,rfl,n⟩;rw[n0l,vm (wf _)]at n;obtain⟨fs,hD',hp⟩:=n.list;have nk:=Ce (low:=low) (B3 add level steps) (st:=(seen,[])) (λ_ h=>nomatch h) uw;generalize hst:z9 low (seen,[]) (B3 add level steps)=st at n hp nk fin;have few:=ok.few;rw[hst]at few
  have hka:∃ ka:List Addr,ka.length=fs.length∧∀(j:Nat) (x:Addr),ka[j]?=some x→∀(p:List Int×List Int) (f:Addr),st.2[j]?=some p→fs[j]?=some f→H' x=some (.lst (p.1.map V.int))∧∃ y,H' f=some (.tup [.ref x,.ref y]):=by
   have key:∀(found:List (List Int×List Int)) (fs:List Addr),PairsAt H H' D found fs→∃ ka:List Addr,ka.length=fs.length∧∀(j:Nat) (x:Addr),ka[j]?=some x→∀(p:List Int×List Int) (f:Addr),found[j]?=some p→fs[j]?=some f→H' x=some (.lst (p.1.map V.int))∧∃ y,H' f=some (.tup [.ref x,.ref y]):=by
     intro found
     induction found with
     |nil=>intro fs h;exact⟨[],by rw[h.1];rfl,λj x e=>by simp at e⟩
     | cons p found ih =>
       intro fs h;cases fs with
       |nil=>have:=h.1;simp at this
       |cons f fs=>
        obtain⟨ka,g1,g2⟩:=ih fs ⟨by have:=h.1;simpa using this,λj p' f' e1 e2=>h.2 (j+1) p' f' (by simpa using e1) (by simpa using e2)⟩;obtain⟨x,y,k1,k2,_⟩:=h.2 0 p f rfl rfl;refine⟨x::ka,by rw[wp,wp,g1],λj z e p' f' e1 e2=>?_⟩;cases j with
        |zero=>simp at e e1 e2;subst e e1 e2;exact⟨k2,y,k1⟩
        |succ j=>exact g2 j z (by simpa using e) p' f' (by simpa using e1) (by simpa using e2)
   exact key st.2 fs hp
  obtain⟨ka,la,hka⟩:=hka;have pr:Pairs K H' fs ka (st.2.map (·.1)):=by
   refine⟨la,by rw[we,hp.1],λj t x e1 e2=>?_,λj x ns e1 e2=>?_,by rw[hp.1];exact few,nk.2⟩
   .have hj:j<st.2.length:=by rw[<-hp.1];exact(wr.mp e1).1
    obtain⟨_,y,g⟩:=hka j x e2 st.2[j] t (wa hj) e1;exact⟨_,SqT.of g⟩
   .rw[wx]at e2;obtain⟨p,g1,g2⟩:=vF.mp e2;subst g2;have hj:j<fs.length:=by rw[hp.1];exact(wr.mp g1).1
    exact(hka j x e1 p fs[j] g1 (wa hj)).1
  refine⟨D,fs,ka,_,rfl,hD',pr,n.keep _ _ (An hP ha (λz=>nomatch z)) hP,λD2 ys H2 s2 hD2 ly=>?_⟩;obtain⟨lv,lp,ll,at_⟩:=TB hp ly;have s3:=s2.trans (m6 (o:=HO.lst (ys.map V.ref)) hD2);have fr:H D2=aj:=by
   have e:=s2.free hD2;cases g:H D2 with
   |none=>rfl
   | some o =>
     by_cases c:D2=a
     .rw[c,n.dict]at e;cases e
     .rw[n.keep _ _ c g]at e;cases e
  refine fin _ _ lv (λb o nb e=>s3 _ _ (n.keep b o nb e)) (s3 _ _ n.dict) lp (Rp.lst_.mpr ⟨D2,_,rfl,fr,j6,?_⟩);rw[ED hD2];refine Rps.mono _ s2 (Hc ll at_)
end
end L2
end
section
namespace L2
theorem VX{found lv lv':List (aH×aH)}(nd:(found.map (·.1)).Nodup)(h:LexP found lv)(h':LexP found lv'):lv=lv':=by
 refine hJ (λp q hp hq h1 h2=>?_) h.2 h'.2 (h.1.trans h'.1.symm);have e:=Bj _ _ h2 h1;have mp:=h.1.mem_iff.mp hp;have mq:=h'.1.mem_iff.mp hq;obtain⟨i,hi,ei⟩:=wI mp;obtain⟨j,hj,ej⟩:=wI mq;have:i=j:=by
  refine(uc (xs:=found.map (·.1)) (h₀:=by simpa using hi) (h₁:=by simpa using hj) nd).mp ?_;rw[wM,wM,ei,ej,e]
 subst this;rw[<-ei,<-ej]
abbrev Ent:=aH×Int×aH
abbrev entD(e:Ent):Dt:=.tup [L e.1,.int e.2.1,L e.2.2]
abbrev tolD(told:List Ent):Dt:=.lst (told.map entD)
def Run(ca cl:FC)(steps G:aA)(add:aH->aH->aH)(low:aH->aH):Nat->List (aH×aH)->Nat->aA->List Ent->List Ent->Prop
 |0,_,_,_,_,_=>False
 |k+1,level,m,seen,told,fin=>(level=[]/\fin=told)\/(level≠[]/\NxOk ca cl level steps G seen add low/\(∀p∈level,p.1≠[]/\p.2≠[])/\told.length+level.length<=50000 /\
  ∃lv,LexP (z9 low (seen,[]) (B3 add level steps)).2 lv/\Run ca cl steps G add low k lv (m+1) (z9 low (seen,[]) (B3 add level steps)).1 (told++level.map λp=>(p.1,(m:Int),p.2)) fin)
def Mr(cf cs ct cn ca cl:FC)(ds:iC)(d:Dt):Prop:=∃(n:Int)(hr:iC)(df:Dt)(G steps:aA)(z:aH)(k:Nat)(told:List Ent),
 ds=[.tup (.int n::hr)]/\cf ds=aa df/\cs ds=aa (LL G)/\ct [.int n]=aa (LL steps)/\cn ds=aa (L z)/\Run ca cl steps G addR (λb=>St.i4 b G) k [(z,z)] 0 [z] [] told/\d=tolD told
noncomputable abbrev fLev:FE:=k7 2 [6] (iSeq (fN 4)) (Tg.many [0,1]) fYes (fTup (b8 (fN 0) (b8 (fN 2) (b8 (fN 1) fNil))))
noncomputable abbrev Ms:FT:=j9 (fOp opGt (fBlt bLen (b8 (fN 4) fNil)) (fC (.int 0)))
noncomputable def Sv(X:Cx)(ca cl:FC)(P:Addr)(ps:iu)(q:Str):TS:=
 tSeq (RI (tBM X.K "list" RQ (tVar 5) (D4 (upF X fLev) tNil)))
 (tSeq (tAsg (EC (spNx X.K ca cl P ps q) [] E0 (D4 (tVar 4) (D4 (tVar 2) (D4 (tVar 1) (D4 (tVar 3) tNil))))) (G2 4))
  (tAsg (upF X (fOp u6 (fN 6) (fC (.int 1)))) (G2 6)))
noncomputable abbrev tNo(X:Cx)(cn:FC):TE:=EC (spc X.K ae cn) [] E0 (D4 (tVar 0) tNil)
noncomputable def tCls(X:Cx)(cf cs ct cn ca cl:FC)(P:Addr)(ps:iu)(q:Str):TS:=
 tSeq (RI (EC (spc X.K ae cf) [] E0 (D4 (tVar 0) tNil)))
 (tSeq (tAsg (EC (spc X.K ae cs) [] E0 (D4 (tVar 0) tNil)) (G2 1))
 (tSeq (tAsg (EC (spc X.K ag ct) [] E0 (D4 (tOp (rIxT X.K) (tVar 0) (tC (.int 0))) tNil)) (G2 2))
 (tSeq (tAsg (tDOne (tCB (rTup X.K) (D4 (tNo X cn) tNil)) (tC (.bl ae))) (G2 3))
 (tSeq (tAsg (tLst (D4 (tTup (D4 (tNo X cn) (D4 (tNo X cn) tNil))) tNil)) (G2 4))
 (tSeq (tAsg (tLst tNil) (G2 5))
 (tSeq (tAsg (tC (.int 0)) (G2 6))
 (tSeq (Kd (upB X Ms) (Sv X ca cl P ps q))
  (tRet (tVar 5)))))))))
section
variable {X:Cx}{K:aE}{H H' Hs:Hp}{a D:Addr}
theorem FY{vs:iD}{r:aH}{v:V}(hD:H D=aa (.lst vs))(ar:∀v∈vs,∃t,v=V.ref t)(hr:r≠[])(h:Rp K emp (L r) H v):Rp K emp (L r) (hidL [D] H) v:=by
 obtain⟨x,xs,rfl,h0,h1,h2⟩:=Rp.lst_.mp h;have e:=Rps.ints.mp h2;subst e;have n:x≠D:=λz=>by
  rw[z,hD]at h1;injection h1 with h1
  injection h1 with h1
  cases r with
  |nil=>exact hr rfl
  |cons i r=>
   obtain⟨t,e⟩:=ar (.int i) (by rw[h1];exact wd);cases e
 exact Rp.lst_.mpr ⟨x,_,rfl,h0,by rw[i8 (by simpa using n)];exact h1,Rps.ints.mpr rfl⟩
theorem Sw{vs:iD}{f:Addr}{ys:iD}(hD:H D=aa (.lst vs))(h:SqT K H f ys):SqT K (hidL [D] H) f ys:=SqT.hid (λb hb o e=>by rw[wv.mp hb,hD]at e;cases e;exact⟨_,rfl⟩) h
theorem VY{vs:iD}{p:aH×aH}{v:V}(hD:H D=aa (.lst vs))(ar:∀v∈vs,∃t,v=V.ref t)(h1:p.1≠[])(h2:p.2≠[])(h:Rp K emp (.tup [L p.1,L p.2]) H v):Rp K emp (.tup [L p.1,L p.2]) (hidL [D] H) v:=by
 obtain⟨f,ws,rfl,s,r⟩:=Rp.tup_.mp h;obtain⟨w0,t1,rfl,r0,r⟩:=Rps.cons_.mp r;obtain⟨w1,t2,rfl,r1,r⟩:=Rps.cons_.mp r;exact Rp.tup_.mpr ⟨f,_,rfl,Sw hD s,Rps.cons_.mpr ⟨_,_,rfl,FY hD ar h1 r0,Rps.cons_.mpr ⟨_,_,rfl,FY hD ar h2 r1,Rps.nil_.mpr (Rps.nil_.mp r)⟩⟩⟩
theorem Zf{vs:iD}{e:Ent}{v:V}(hD:H D=aa (.lst vs))(ar:∀v∈vs,∃t,v=V.ref t)(h1:e.1≠[])(h2:e.2.2≠[])(h:Rp K emp (entD e) H v):Rp K emp (entD e) (hidL [D] H) v:=by
 obtain⟨f,ws,rfl,s,r⟩:=Rp.tup_.mp h;obtain⟨w0,t1,rfl,r0,r⟩:=Rps.cons_.mp r;obtain⟨w1,t2,rfl,r1,r⟩:=Rps.cons_.mp r;obtain⟨w2,t3,rfl,r2,r⟩:=Rps.cons_.mp r;exact Rp.tup_.mpr ⟨f,_,rfl,Sw hD s,Rps.cons_.mpr ⟨_,_,rfl,FY hD ar h1 r0,Rps.cons_.mpr ⟨_,_,rfl,Rp.int_.mpr (Rp.int_.mp r1),Rps.cons_.mpr ⟨_,_,rfl,FY hD ar h2 r2,Rps.nil_.mpr (Rps.nil_.mp r)⟩⟩⟩⟩
theorem Rps.off{B:Hp}{vs:iD}{ds:iC}(h:Rps K emp ds H vs)(k:∀d∈ds,∀v,Rp K emp d H v->Rp K emp d B v):Rps K emp ds B vs:=by
 induction ds generalizing vs with
 |nil=>exact Rps.nil_.mpr (Rps.nil_.mp h)
 |cons d ds ih=>
  obtain⟨v,r,rfl,h1,h2⟩:=Rps.cons_.mp h;exact Rps.cons_.mpr ⟨v,r,rfl,k d wd v h1,ih h2 λd' hd'=>k d' (wb _ hd')⟩
theorem Rps.refs{ds:iC}{vs:iD}(h:Rps K emp ds H vs)(k:∀d∈ds,∃xs,d=.tup xs):∀v∈vs,∃t,v=V.ref t:=by
 induction ds generalizing vs with
 |nil=>rw[Rps.nil_.mp h];exact λ_ z=>nomatch z
 |cons d ds ih=>
  obtain⟨v,r,rfl,h1,h2⟩:=Rps.cons_.mp h;intro u hu;rcases wg.mp hu with rfl|hu
  .obtain⟨xs,rfl⟩:=k d wd;obtain⟨f,_,e,_⟩:=Rp.tup_.mp h1;exact⟨f,e⟩
  .exact ih h2 (λd' hd'=>k d' (wb _ hd')) u hu
theorem Rps.past{ds:iC}{vs:iD}{kvs:List (List Key×V)}(ha:H a=aa (.dT kvs))(k:∀b o,b≠a->H b=aa o->H' b=aa o)(h:Rps K emp ds H vs):Rps K emp ds H' vs:=h.off λd _ v=>Rp.past ha k
structure ClsAt(K:aE)(Hs:Hp)(a D:Addr)(level:List (aH×aH))(seen:aA)(told:List Ent)(vl:V)(H':Hp):Prop where
 same:Same Hs H'
 na:Hs a=aj
 nD:Hs D=aj
 dict:H' a=aa (.dT (kvT seen))
 lev:Rp K emp (levD level) H' vl
 far:∀l,vl=.ref l->l≠D
 told:∃vs,H' D=aa (.lst vs)/\Rps K emp (told.map entD) (hidL [D] H') vs
theorem ClsAt.mono{level:List (aH×aH)}{seen:aA}{told:List Ent}{vl:V}{H'':Hp}(h:ClsAt K Hs a D level seen told vl H')(s:Same H' H''):ClsAt K Hs a D level seen told vl H'':=by
 obtain⟨vs,h1,h2⟩:=h.told;exact⟨h.same.trans s,h.na,h.nD,s _ _ h.dict,Rp.mono _ s h.lev,h.far,vs,s _ _ h1,Rps.mono _ (A6 s) h2⟩
theorem Zg{c0 c1 c2 c3 c5:Cell}{m:Int}(level:List (aH×aH)):∃fl,fLev [c0,c1,c2,c3,.sh ag (levD level),c5,.sh ag (.int m)]=aa (fl,.lst (level.map λp=>entD (p.1,m,p.2))):=by
 have key:∀level:List (aH×aH),∃vs,S7 (Tg.many [0,1]) fYes (fTup (b8 (fN 0) (b8 (fN 2) (b8 (fN 1) fNil)))) (sigD 2 [6] [c0,c1,c2,c3,.sh ag (levD level),c5,.sh ag (.int m)]) (level.map λp=>.tup [L p.1,L p.2])=aa vs/\sndL vs=level.map λp=>entD (p.1,m,p.2):=by
  have e0:∀lv,sigD 2 [6] [c0,c1,c2,c3,.sh ag (levD lv),c5,.sh ag (.int m)]=[.no,.no,.sh ag (.int m)]:=λlv=>rfl;intro level;rw[e0]
  induction level with
  |nil=>exact⟨[],rfl,rfl⟩
  |cons p level ih=>
   obtain⟨vs,g1,g2⟩:=ih;have e1:∃fl,fTup (b8 (fN 0) (b8 (fN 2) (b8 (fN 1) fNil))) [.sh ag (L p.1),.sh ag (L p.2),.sh ag (.int m)]=aa (fl,entD (p.1,m,p.2)):=⟨_,rfl⟩;obtain⟨fl,e1⟩:=e1;refine⟨(fl,entD (p.1,m,p.2))::vs,?_,?_⟩
   .rw[wj];unfold S7;simp only[show Tg.put (Tg.many [0,1]) (.tup [L p.1,L p.2]) [.no,.no,.sh ag (.int m)]=aa [.sh ag (L p.1),.sh ag (L p.2),.sh ag (.int m)]from rfl,w0T,fYes,↓reduceIte,e1,g1]
   .rw[wj,<-g2];rfl
 obtain⟨vs,g1,g2⟩:=key level;refine⟨if P9 vs then .nw else .tn,?_⟩;unfold fLev k7;rw[show iSeq (fN 4) [c0,c1,c2,c3,.sh ag (levD level),c5,.sh ag (.int m)]=aa (level.map λp=>Dt.tup [L p.1,L p.2])from rfl];simp only[w0T,g1,g2]
theorem VZ{c0 c1 c2 c3 c5 c6:Cell}(level:List (aH×aH)):Ms [c0,c1,c2,c3,.sh ag (levD level),c5,c6]=aa (decide (0<level.length)):=by
 have:Ms [c0,c1,c2,c3,.sh ag (levD level),c5,c6]=aa (decide ((0:Int)<((level.map λp=>Dt.tup [L p.1,L p.2]).length:Nat))):=rfl;rw[this,we];congr 1;by_cases h:0<level.length
 .rw[aI h,aI ()]
 .rw[aK h,aK ()]
theorem KR{v0 v1 v2 v3 v4 v5:V}{level:List (aH×aH)}{m:Int}(b:Same X.H₀ H)(h:Rp X.K emp (levD level) H v4):RepS X.ky H [.no,.no,.no,.no,.sh ag (levD level),.no,.sh ag (.int m)] [aa v0,aa v1,aa v2,aa v3,aa v4,aa v5,aa (.int m)]:=
 ⟨rfl,b,fun i c e=>by
  match i,e with
  |0,e=>cases e;exact⟨_,rfl,trivial⟩
  |1,e=>cases e;exact⟨_,rfl,trivial⟩
  |2,e=>cases e;exact⟨_,rfl,trivial⟩
  |3,e=>cases e;exact⟨_,rfl,trivial⟩
  |4,e=>cases e;exact⟨_,rfl,_,rfl,h⟩
  |5,e=>cases e;exact⟨_,rfl,trivial⟩
  |6,e=>cases e;exact⟨_,rfl,_,rfl,Rp.int_.mpr rfl⟩⟩
theorem Zh{ca cl:FC}{P:Addr}{ps:iu}{q:Str}{steps G:aA}{add:aH->aH->aH}{low:aH->aH}{vh vr vs vl:V}{m:Nat}{level:List (aH×aH)}{seen:aA}{told:List Ent}{E:Ends}{N:St->Hp->Prop}
  (h0:Same X.H₀ Hs) (hs:Rp X.K emp (LL steps) Hs vs) (hG:Rp X.K emp (LL G) Hs vr) (hP:Hs P=aa (.tbl ps q)) (st:ClsAt X.K Hs a D level seen told vl H)
  (ok:NxOk ca cl level steps G seen add low) (ne:∀p∈level,p.1≠[]/\p.2≠[]) (sz:told.length+level.length<=50000) {lv:List (aH×aH)} (hlv:LexP (z9 low (seen,[]) (B3 add level steps)).2 lv) (nE:E.nx=N)
  (fin:∀v H',ClsAt X.K Hs a D lv (z9 low (seen,[]) (B3 add level steps)).1 (told++level.map λp=>(p.1,(m:Int),p.2)) v H'->N [aa vh,aa vr,aa vs,aa (.ref a),aa v,aa (.ref D),aa (.int ((m:Int)+1))] H') :
  Sv X ca cl P ps q E [aa vh,aa vr,aa vs,aa (.ref a),aa vl,aa (.ref D),aa (.int m)] H:=by
 obtain⟨ws,hD,rw_⟩:=st.told;have lt:=rw_.length;rw[we]at lt;obtain⟨fl,ef⟩:=Zg (c0:=.no) (c1:=.no) (c2:=.no) (c3:=.no) (c5:=.no) (m:=(m:Int)) level;refine⟨.ref D,rfl,.inl ⟨rfl,_,SqL.of hD⟩,_,fl,_,KR (h0.trans st.same) st.lev,ef,λv H1 s1 r1=>?_⟩;have st1:=st.mono s1;obtain⟨b,zs,rfl,_,hb,rb⟩:=Rp.lst_.mp r1.sh;have lb:=rb.length;rw[we]at lb;have hD1:=s1 _ _ hD;refine⟨D,b,ws,zs,rfl,rfl,hD1,hb,by rw[bv];rfl',?_⟩;have ar:∀v∈ws,∃t,v=V.ref t:=rw_.refs λd hd=>by obtain⟨e,_,rfl⟩:=wl.mp hd;exact⟨_,rfl⟩
 have aD:a≠D:=An st.dict hD (λz=>nomatch z);have Dup:hidL [D] (upd H1 D (.lst (ws++zs)))=hidL [D] H1:=funext λc=>by
  by_cases z:c=D
  .rw[z,J2 (by simp),J2 (by simp)]
  .rw[i8 (by simpa using z),i8 (by simpa using z),i7 z]
 generalize h2:upd H1 D (.lst (ws++zs))=H2 at Dup|-;have hD2:H2 D=aa (.lst (ws++zs)):=by rw[<-h2,j6]
 have dict2:H2 a=aa (.dT (kvT seen)):=by rw[<-h2,i7 aD];exact st1.dict
 have same2:Same Hs H2:=λc o e=>by rw[<-h2,i7 (A0 e st.nD)];exact st1.same _ _ e
 have h12:∀c o,c≠D->H1 c=aa o->H2 c=aa o:=λc o n e=>by rw[<-h2,i7 n];exact e
 have lev2:Rp X.K emp (levD level) H2 vl:=by
  obtain⟨l,xs,rfl,_,hl,rl⟩:=Rp.lst_.mp st1.lev;have nl:=st.far l rfl;refine Rp.lst_.mpr ⟨l,xs,rfl,rfl,h12 _ _ nl hl,rl.off λd hd v r=>?_⟩;obtain⟨p,hp,rfl⟩:=wl.mp hd;have q1:=VY (D:=D) (H:=hidL [l] H1) (by rw[i8 (by simpa using bQ nl)];exact hD1) ar (ne p hp).1 (ne p hp).2 r;refine Rp.mono _ (λc o e=>?_) q1;obtain⟨n1,e⟩:=B2 e;obtain⟨n2,e⟩:=B2 e;rw[i8 n2];exact h12 c o (by simpa using n1) e
 have told2:Rps X.K emp ((told++level.map λp=>(p.1,(m:Int),p.2)).map entD) (hidL [D] H2) (ws++zs):=by
  rw[vz,Dup];refine Rps.append (Rps.mono _ (A6 s1) rw_) ?_;rw[wK];refine rb.off λd hd v r=>?_;obtain⟨p,hp,rfl⟩:=wl.mp hd;exact Zf hD1 ar (ne p hp).1 (ne p hp).2 (Rp.mono _ l9 r)
 show tSeq _ _ _ [aa vh,aa vr,aa vs,aa (.ref a),aa vl,aa (.ref D),aa (.int m)] H2;refine⟨vl,rfl,vs,rfl,vr,rfl,.ref a,rfl,vl,vs,vr,a,level,steps,G,seen,add,low,rfl,lev2,Rp.mono _ same2 hs,Rp.mono _ same2 hG,dict2,same2 _ _ hP,ok,λH3 v lv' keep dict3 lp r3=>?_⟩;have el:=VX (Ce (low:=low) (B3 add level steps) (st:=(seen,[])) (λ_ h=>nomatch h) uw).2 lp hlv;subst el;have same3:Same Hs H3:=λc o e=>keep c o (A0 e st.na) (same2 _ _ e);have st3:ClsAt X.K Hs a D lv' (z9 low (seen,[]) (B3 add level steps)).1 (told++level.map λp=>(p.1,(m:Int),p.2)) v H3:=by
  refine⟨same3,st.na,st.nD,dict3,Rp.anti Same.emp _ r3,λl e z=>?_,_,keep D _ (bQ aD) hD2,Rps.past (a:=a) (H:=hidL [D] H2) (by rw[i8 (by simpa using aD)];exact dict2) (λc o n e=>?_) told2⟩
  .obtain⟨l',_,e',n',_⟩:=Rp.lst_.mp r3;rw[e]at e';cases e';rw[z,hD2]at n';cases n'
  .obtain⟨n1,e⟩:=B2 e;rw[i8 n1];exact keep c o n e
 show tAsg (upF X (fOp u6 (fN 6) (fC (.int 1)))) (G2 6) E [aa vh,aa vr,aa vs,aa (.ref a),aa v,aa (.ref D),aa (.int m)] H3;refine⟨_,.nw,.int ((m:Int)+1),KR (h0.trans same3) st3.lev,rfl,λw H4 s4 r4=>?_⟩;have ew:=Rp.int_.mp r4.sh;subst ew;show E.nx _ _;rw[nE];exact fin v H4 (st3.mono s4)
theorem Wa{ca cl:FC}{P:Addr}{ps:iu}{q:Str}{steps G:aA}{add:aH->aH->aH}{low:aH->aH}{vh vr vs vl:V}{k m:Nat}{level:List (aH×aH)}{seen:aA}{told fin:List Ent}{E:Ends}
  (h0:Same X.H₀ Hs) (hs:Rp X.K emp (LL steps) Hs vs) (hG:Rp X.K emp (LL G) Hs vr) (hP:Hs P=aa (.tbl ps q)) (st:ClsAt X.K Hs a D level seen told vl H) (run:Run ca cl steps G add low k level m seen told fin)
  (done:∀v H' m seen,ClsAt X.K Hs a D [] seen fin v H'->E.nx [aa vh,aa vr,aa vs,aa (.ref a),aa v,aa (.ref D),aa (.int m)] H') :
  Kd (upB X Ms) (Sv X ca cl P ps q) E [aa vh,aa vr,aa vs,aa (.ref a),aa vl,aa (.ref D),aa (.int m)] H:=by
 refine⟨λk σ H'=>∃(level:List (aH×aH))(m:Nat)(seen:aA)(told:List Ent)(vl:V),σ=[aa vh,aa vr,aa vs,aa (.ref a),aa vl,aa (.ref D),aa (.int m)]/\ClsAt X.K Hs a D level seen told vl H'/\Run ca cl steps G add low k level m seen told fin,⟨k,level,m,seen,told,vl,rfl,st,run⟩,?_⟩;rintro k σ H' ⟨level,m,seen,told,vl,rfl,st,run⟩;refine⟨_,_,KR (h0.trans st.same) st.lev,VZ level,λH1 s1=>?_⟩;have st1:=st.mono s1;show if decide (0<level.length)=ae then _ else _
 cases k with
 |zero=>exact run.elim
 |succ k=>
  rcases run with⟨rfl,rfl⟩|⟨nel,ok,ne,sz,lv,hlv,run⟩
  .rw[ax (by simp)];exact done _ _ _ _ st1
  .have:0<level.length:=vM.mpr nel;rw[aI this,ap rfl];refine⟨λσ' H''=>∃v,σ'=[aa vh,aa vr,aa vs,aa (.ref a),aa v,aa (.ref D),aa (.int ((m+1:Nat):Int))]/\ClsAt X.K Hs a D lv (z9 low (seen,[]) (B3 add level steps)).1 (told++level.map λp=>(p.1,(m:Int),p.2)) v H'',λσ' H''⟨v,e,s2⟩=>⟨k,wW k,lv,m+1,_,_,v,e,s2,run⟩,?_⟩;exact Zh (m:=m) h0 hs hG hP st1 ok ne sz hlv rfl λv H2 s2=>⟨v,rfl,s2⟩
end
end L2
end
section
namespace L2
def spcT(K:aE)(P:Addr)(ps:iu)(q:Str)(fr:Bool)(c:FC):Sp:=λvs H Q E=>H P=aa (.tbl ps q)/\spc K fr c vs H Q E
theorem rd_cls{X:Cx}{cf cs ct cn ca cl:FC}{P:Addr}{ps:iu}{q:Str}{ds:iC}{d:Dt}{vs:iD}{H:Hp}{Q:VK}{N:ie}(hN:N.length=7)(h0:X.H₀=H)(hP:H P=aa (.tbl ps q))(r:Rps X.K emp ds H vs)(ok:Mr cf cs ct cn ca cl ds d)
   (fin:∀v H',Same H H'->Rp X.K emp d H' v->Q v H'):tCls X cf cs ct cn ca cl P ps q { nx:=λ_ H'=>Q .non H',rt:=Q } (start N vs) H:=by
 obtain⟨n,hr,df,G,steps,z,k,told,rfl,e1,e2,e3,e4,run,rfl⟩:=ok;obtain⟨vh,r1,rfl,rh,rn⟩:=Rps.cons_.mp r;have rn:=Rps.nil_.mp rn;subst rn;have hst:start N [vh]=[aa vh,aj,aj,aj,aj,aj,aj]:=by unfold start;rw[hN];rfl
 rw[hst];have b0:Same X.H₀ H:=by rw[h0];exact Same.refl H
 refine⟨vh,rfl,[.tup (.int n::hr)],df,Rps.one rh,e1,λ_ H1 s1 _=>?_⟩;show tSeq _ _ _ [aa vh,aj,aj,aj,aj,aj,aj] H1;refine⟨vh,rfl,[.tup (.int n::hr)],_,Rps.one (Rp.mono _ s1 rh),e2,λvr H2 s2 r2=>?_⟩;have r2:Rp X.K H1 (LL G) H2 vr:=r2;have s12:=s1.trans s2;show tSeq _ _ _ [aa vh,aa vr,aj,aj,aj,aj,aj] H2;obtain⟨f,ws,rfl,sq,rw_⟩:=Rp.tup_.mp (Rp.mono _ s12 rh);obtain⟨w0,t1,rfl,rw0,rw_⟩:=Rps.cons_.mp rw_;have ew:=Rp.int_.mp rw0;subst ew;refine⟨.ref f,rfl,f,_,0,.int n,rfl,rfl,sq,by unfold atI ixN;simp,[.int n],_,Rps.one (Rp.int_.mpr rfl),e3,λvst H3 s3 r3=>?_⟩;have r3:Rp X.K emp (LL steps) H3 vst:=r3;have s13:=s12.trans s3;show tSeq _ _ _ [aa (.ref f),aa vr,aa vst,aj,aj,aj,aj] H3;intro a ha;have sa:=m6 (o:=HO.dT []) ha;refine⟨.ref f,rfl,[.tup (.int n::hr)],_,Rps.one (Rp.mono _ (s13.trans sa) rh),e4,λv4 H4 s4 r4=>?_⟩;have r4:Rp X.K (upd H3 a (.dT [])) (L z) H4 v4:=r4;obtain⟨x4,xs4,rfl,n4,hx4,rx4⟩:=Rp.lst_.mp r4;have rx4:=Rps.ints.mp rx4;subst rx4;refine⟨x4,_,rfl,.inl ⟨SqL.of hx4,λl hl=>?_⟩⟩;have sl:=m6 (o:=HO.tup (z.map V.int)) hl;have da:upd H4 l (.tup (z.map V.int)) a=aa (.dT []):=sl _ _ (s4 _ _ j6);refine⟨l,kI z,rfl,by rw[NZ];exact j6,da,?_⟩;have s35:Same H3 (upd (upd H4 l (.tup (z.map V.int))) a (.dT [(kI z,V.bl ae)])):=λb o e=>by
   rw[i7 (A0 e ha)];exact sl _ _ (s4 _ _ (sa _ _ e))
 have d5:upd (upd H4 l (.tup (z.map V.int))) a (.dT [(kI z,V.bl ae)]) a=aa (.dT (kvT [z])):=j6;generalize upd (upd H4 l (.tup (z.map V.int))) a (.dT [(kI z,V.bl ae)])=H5 at s35 d5|-;show tSeq _ _ _ [aa (.ref f),aa vr,aa vst,aa (.ref a),aj,aj,aj] H5;refine⟨.ref f,rfl,[.tup (.int n::hr)],_,Rps.one (Rp.mono _ (s13.trans s35) rh),e4,λv6 H6 s6 r6=>?_⟩;have r6:Rp X.K H5 (L z) H6 v6:=r6;refine⟨.ref f,rfl,[.tup (.int n::hr)],_,Rps.one (Rp.mono _ (s13.trans (s35.trans s6)) rh),e4,λv7 H7 s7 r7=>?_⟩;have r7:Rp X.K H6 (L z) H7 v7:=r7;refine⟨by show 2<=sizeLine;decide,λg hg=>?_⟩;have sg:=m6 (o:=HO.tup [v6,v7]) hg;refine⟨by show 1<=sizeLine;decide,λl0 hl0=>?_⟩;have s0:=m6 (o:=HO.lst [.ref g]) hl0;have lev:Rp X.K emp (levD [(z,z)]) (upd (upd H7 g (.tup [v6,v7])) l0 (.lst [.ref g])) (.ref l0):=by
   refine Rp.new hl0 rfl (Rps.one (Rp.tup_.mpr ⟨g,_,rfl,SqT.of j6,Rps.cons_.mpr ⟨_,_,rfl,?_,Rps.one ?_⟩⟩))
   .exact Rp.anti Same.emp _ (Rp.mono _ (s7.trans sg) r6)
   .exact Rp.anti Same.emp _ (Rp.mono _ sg r7)
 have s58:Same H5 (upd (upd H7 g (.tup [v6,v7])) l0 (.lst [.ref g])):=s6.trans (s7.trans (sg.trans s0));generalize upd (upd H7 g (.tup [v6,v7])) l0 (.lst [.ref g])=H8 at lev s58|-;show tSeq _ _ _ [aa (.ref f),aa vr,aa vst,aa (.ref a),aa (.ref l0),aj,aj] H8;refine⟨wy _,λD hD=>?_⟩;have sD:=m6 (o:=HO.lst []) hD;show tSeq (Kd (upB X Ms) (Sv X ca cl P ps q)) (tRet (tVar 5)) { nx:=λ_ H'=>Q .non H',rt:=Q } [aa (.ref f),aa vr,aa vst,aa (.ref a),aa (.ref l0),aa (.ref D),aa (.int 0)] (upd H8 D (.lst []));have s38:=s35.trans s58;refine Wa (Hs:=H3) (m:=0) (by rw[h0];exact s13) r3 (Rp.anti Same.emp _ (Rp.mono _ s3 r2)) (s13 _ _ hP) (k:=k) (level:=[(z,z)]) (seen:=[z]) (told:=[]) (fin:=told) ?_ run λv H' m seen st=>?_
 .obtain⟨_,_,e0,_,h00,_⟩:=Rp.lst_.mp lev;cases e0;refine⟨s38.trans sD,ha,s38.free hD,sD _ _ (s58 _ _ d5),Rp.mono _ sD lev,λl e z=>?_,[],j6,Rps.nil_.mpr rfl⟩;cases e;rw[z,hD]at h00;cases h00
 .obtain⟨ws,hw,rw1⟩:=st.told;exact⟨.ref D,rfl,fin _ _ (s13.trans st.same) (Rp.lst_.mpr ⟨D,ws,rfl,rfl,hw,rw1⟩)⟩
end L2
end
section
namespace L2
theorem Wb{X:Cx}{e:aV}{es:ik}{pos p:Pos}{Fs:FA}{x:Str}{fr:Bool}{k k':Nat}{f:Addr}{fd:az}{pr:ie}{ct:FC}{st:aZ}{P:Addr}{ps:iu}{q:Str}(F:FnOk X.prog X.w X.K X.mg X.base CX0 k f fd pr (spcT X.K P ps q fr ct))(D:Df X.K X.mg x st pr f fd)(hr:Room k' X.A)(hT:X.H₀ P=aa (.tbl ps q))
  (ha:PFA X (e::es) Fs) (hg:Gl X x:=by rfl) (hle:k<=k':=by decide) (hdb:(x==("__debug__":Str))=ag:=by decide) (hst:au (e::es) X.env=(ag,eval e X.env)::au es X.env:=by rfl) (hpl:(bZ pos (au es X.env)).any (·.1)=ag:=by rfl):PF X (.Call (.Name x p) (e::es) [] pos) (f9 fr ct Fs):=
 (E6 (E:=E0) (dvs:=[]) F (hr.mono hle) hg D.mg D.fn.kp D.bd .nil Aq ha hdb hst hpl).imp fun σ H Q hZ=>by
  obtain⟨ρ,f,d,rs,e0,k⟩:=hZ;obtain⟨xs,e1,e2⟩:=bind_some e0;cases q:ct (sndL xs) with
  |none=>rw[q]at e2;cases e2
  |some d0=>
   rw[q]at e2;have e2:nrm (if fr then .nw else .sh) d0=(f,d):=aM e2;have e3:d0=d:=bV gO e2;subst e3;refine⟨ρ,xs,rs,e1,λvs H1 s1 r1=>?_⟩;dsimp only;rw[vd];refine⟨(rs.base.trans s1) _ _ hT,_,d0,r1.sh,q,λv H' s' r'=>k v H' (s1.trans s') ?_⟩;have:=LP (X:=X.ky) s1 r';rw[e2]at this;exact this
section
variable {P:aN}{w:aP}{K:aE}{mg:aF}{base:aX}
theorem Df.dT{x:Str}{st:aZ}{f:Addr}{fd:az}{N pr:ie}{np nn:Nat}{fr:Bool}{tb:Addr}{ps:iu}{q:Str}(D:Df K mg x st pr f fd)(k:Nat)(F:FS)(S:FnScope N pr (d7 st))
  (body:∀{cdv:Value} {A:Around} {outer:List Env} {s:Shared} {H:Hp} {E:XK},Room k (A.deeper (envOfC x (d7 st) s.heap.objs.size f cdv))→(A.deeper (envOfC x (d7 st) s.heap.objs.size f cdv)).units+64<cLine→H tb=some (.tbl ps q) →
   PFSs (cxOf CX0 P w K mg base N x (d7 st) f cdv A outer s H E).nox (A3 st) F) (hp:np=pr.length:=by rfl) (hn:nn=N.length:=by rfl):FnOk P w K mg base CX0 (k+1) f fd pr (spcT K tb ps q fr (cOf np nn fr F)):=by
 subst hp hn;exact D.fn.dataP (Pre:=λH=>H tb=aa (.tbl ps q)) S λcdv A outer s H E hr hT=>body hr hr.units hT
theorem Zi{k:Nat}{x:Str}{st:aZ}{f:Addr}{fd:az}{N pr:ie}{ca cl:FC}{tb c:Addr}{ps:iu}{q:Str}(D:Df K mg x st pr f fd)(S:FnScope N pr (d7 st))(hp:pr.length=4)(hN:N.length=9)(hcode:fd.code=.ref c)
  (body:∀(A:aU)(outer:iq)(s:Shared)(H:Hp)(E:XK),Room k (A.deeper (cz x (d7 st) s.heap.objs.size f (.ref c)))->PSs (cxOf CX0 P w K mg base N x (d7 st) f (.ref c) A outer s H E).nox (A3 st) (tNx K (spc K ae ca) (spc K ae cl) tb ps q)):FnOk P w K mg base CX0 (k+1) f fd pr (spNx K ca cl tb ps q):=by
 obtain⟨oc,od,kV,doc,pm,an,cdv,ct,osl,rfl,lk,hcd⟩:=D.fn.ex;have hcode:cdv=.ref c:=hcode;subst hcode;refine RL lk hcd S (λvs H Q E h=>?_) λA outer s H vs Q E hr h=>⟨_,(body A outer s H E hr).nox,rd_nx (E:=E) hN h⟩;obtain⟨vl,vst,vr,a,_,_,_,_,_,_,rfl,_⟩:=h;rw[hp];rfl
theorem Oy{k:Nat}{x:Str}{st:aZ}{f:Addr}{fd:az}{N pr:ie}{cf cs ct cn ca cl c:FC}{tb:Addr}{ps:iu}{q:Str}(D:Df K mg x st pr f fd)(S:FnScope N pr (d7 st))(hp:pr.length=1)(hN:N.length=7)(inv:∀ds d,c ds=aa d->Mr cf cs ct cn ca cl ds d)
   (body:∀(cdv:Value)(A:aU)(outer:iq)(s:Shared)(H:Hp)(E:XK),Room k (A.deeper (cz x (d7 st) s.heap.objs.size f cdv))->PSs (cxOf CX0 P w K mg base N x (d7 st) f cdv A outer s H E).nox (A3 st) (tCls (cxOf CX0 P w K mg base N x (d7 st) f cdv A outer s H E).nox cf cs ct cn ca cl tb ps q)):FnOk P w K mg base CX0 (k+1) f fd pr (spcT K tb ps q ag c):=by
 obtain⟨oc,od,kV,doc,pm,an,cdv,ct,osl,rfl,lk,hcd⟩:=D.fn.ex;refine RL lk hcd S (λvs H Q E h=>?_) λA outer s H vs Q E hr h=>?_
 .obtain⟨_,ds,d,r,e,_⟩:=h;obtain⟨n,hr,_,_,_,_,_,_,rfl,_⟩:=inv ds d e;rw[hp,r.length];rfl
 .obtain⟨hT,ds,d,r,e,fin⟩:=h;exact⟨_,(body cdv A outer s H E hr).nox,rd_cls hN rfl hT r (inv ds d e) fin⟩
end
end L2
end
section
namespace L2
def Wc(K:aE)(c P:Addr):Prop:=∃o vs file tf flags tg inF text tt,K.lookup c=aa o/\o.cls=.type "code" /\ o.data=.fields vs/\vs[11]?=aa (.ref P)/\vs.getD 11 .none=.ref P/\vs.getD 18 .none=.str file tf /\
 vs.getD 7 .none=.int flags tg/\vs.getD 9 .none=.bool inF/\vs.getD 10 .none=.int text tt
theorem TC{P:Program}{w:World}{K:PySem.W.Frag}{mg mb:Str→Option Value}{k:Nat}{fa a tb cA:Addr}{fd:FuncData}{x q:Str}{fr:Bool}{cf:FC}{s₁:Shared}{vs:List Value}{ns:List Int}
  (KX:K.In s₁.heap) (hns:s₁.heap.Ns aO mg) (hb:s₁.heap.Ns dq mb) (hbb:∀x:Str,x ≠ "__name__" -> mb x=bF x) (hlim:s₁.heap.NoLimit) (hg:s₁.gens=#[])
  (hbm:∃bm o,mg "__builtins__"=aa (.ref bm)/\bm≠dq/\s₁.heap.get? bm=aa o/\o.cls=.type "module" /\ o.dict=aa dq/\o.data=.plain)
  (ht:s₁.heap.get? tb=aa { cls:=.none,data:=.fields #[] }) (hKt:K.lookup tb=aj) (hcd:Wc K cA tb)
  (ha:s₁.heap.get? a=aa { cls:=.type "list",data:=.seq vs.toArray }) (hi:cR vs ns) (hl:ns.length<=sizeLine) (hr:Room k gI)
  (F:∀base:aX,K.In base->base.Ns aO mg->Lam base mg cA tb->FnOk P w K mg base CX0 k fa fd [x] (spcT K tb #[] q fr cf)) (hbind:∀(s:Shared)(u:Value),BindsTo s fd ⟨[u],[]⟩ [(x,u)])
  (hc:cf [.scr ns]=aa (.bl ae)) :
  gj (model P w) gI (.call (.ref fa) ⟨[.ref a],[]⟩) (λr s'=>r=.ok (.ret (.bool ae))/\OldK s₁.heap s'.heap/\s'.os=s₁.os/\fV s'.gens) s₁:=by
 have rv:=IG hi;have lenV:=hi.length;have ta:tb≠a:=λz=>by rw[z,ha]at ht;cases ht
 have core:∀ H:Hp,SqF K H a (ns.map V.int)→H tb=some (.tbl #[] q)→HOk P w H s₁.heap→(∀ b,H b≠none→b=tb∨(b=a∧∃ o xs,H b=some (.frz o (.lst xs))))→(H a≠none→K.lookup a=none) →
    gj (model P w) gI (.call (.ref fa) ⟨[.ref a],[]⟩) (λr s'=>r=.ok (.ret (.bool ae))/\OldK s₁.heap s'.heap/\s'.os=s₁.os/\fV s'.gens) s₁:=by
  intro H hS hT hok hA hK;have base_of:∀{b:Addr}{o:Obj},s₁.heap.get? b=aa o->H b=aj->(hidT s₁.heap H).get? b=aa o:=λe n=>Uh e n;have noA:∀{b:Addr}{o:Obj},s₁.heap.get? b=aa o->(∀xs n,o.data ≠ .seq xs n)->(∀xs,o.data ≠ .fields xs)->H b=aj:=λ{b o}e d1 d2=>by
    cases q:H b with
    |none=>rfl
    | some u =>
      rcases hA b (by rw[q];simp)with z|⟨z,_⟩
      .subst z;rw[ht]at e;cases e;exact aW rfl (d2 _)
      .subst z;rw[ha]at e;cases e;exact aW rfl (d1 _ _)
  have nsK:∀{b:Addr}{m:aF},s₁.heap.Ns b m->(hidT s₁.heap H).Ns b m:=λ{b m}⟨o,es,ep,e,d,r⟩=>⟨o,es,ep,base_of e (noA e (λ_ _ z=>by rw[d]at z;cases z) (λ_ z=>by rw[d]at z;cases z)),d,r⟩;have noK:∀{b:Addr}{o:Obj},K.lookup b=aa o->H b=aj:=λ{b o}e=>by
    cases q:H b with
    |none=>rfl
    | some u =>
      rcases hA b (by rw[q];simp)with z|⟨z,_⟩
      .subst z;rw[hKt]at e;cases e
      .subst z;rw[hK (by rw[q];simp)]at e;cases e
  have hKb:K.In (hidT s₁.heap H):=λb o e=>base_of (KX b o e) (noK e);have hM:Mod K mg (hidT s₁.heap H):=⟨hKb,nsK hns,⟨mb,nsK hb,hbb⟩,let ⟨mc,h1,h2⟩:=hlim;⟨mc,nsK h1,h2⟩⟩;have e0:Env0 P w K mg (hidT s₁.heap H) gI [] s₁ H:=⟨rfl,hM,λb o e=>Yd e,w0J (SR _ _),trivial,λb hb=>aW (show b∈([]:ig)from hb) (by simp),hok,.of_eq hg⟩;have hL:Lam (hidT s₁.heap H) mg cA tb:=by
    obtain⟨o,vs',file,tf,flags,tg,inF,text,tt,c1,c2⟩:=hcd;obtain⟨bm,ob,b1,b2,b3,b4,b5,b6⟩:=hbm;exact⟨⟨o,vs',file,tf,flags,tg,inF,text,tt,hKb _ _ c1,c2⟩,bm,ob,b1,b2,base_of b3 (noA b3 (λ_ _ z=>by rw[b6]at z;cases z) (λ_ z=>by rw[b6]at z;cases z)),b4,b5,b6⟩
  refine dE ((F _ hKb (nsK hns) hL).run gI [] s₁ H ⟨[.ref a],[]⟩ [.ref a] [.ref a] (λv _=>v=.bl ae) E0 hr e0 (hbind s₁ (.ref a)) (.cons rfl .nil) ⟨hT,[.scr ns],_,Rps.one (Rp.scr_.mpr ⟨a,rfl,rfl,hS⟩),hc,λv H' _ r=>by cases fr<;>exact Rp.bl_.mp r⟩) λr s' h=>?_;cases r with
  |error e=>exact h.elim
  | ok fl =>
    cases fl with
    |next=>exact cG h
    |brk=>exact cG h
    |cont=>exact cG h
    | ret u =>
      obtain⟨v,H',os,bare,un,hok',r',q'⟩:=h;have q':v=.bl ae:=q';subst q';obtain rfl:u=fJ ae:=r'
      have all:∀b o,s₁.heap.get? b=aa o→asItWas s₁.heap s'.heap b o:=fun b o e=>by
        cases g:H b with
        |none=>exact .inl (un.keep b o e g (by intro z;exact aW (show b∈([]:ig)from z) (by simp)) (by simp))
        |some u=>
         rcases hA b (by rw[g];simp)with z|⟨_,ob,xs,z⟩
         .subst z;obtain⟨more,e1,_⟩:=(show ObjOk P w H' s'.heap b (.tbl #[] q)from hok' b _ (un.tbls b _ _ hT));obtain⟨oc,vs',file,tf,flags,tg,inF,text,tt,c1,c2,c3,c4,_⟩:=hcd;rw[ht]at e;cases e;exact .inr (.inl ⟨Heap.TableAt.isCodeTable (ps:=#[]) ⟨⟨oc,vs',KX _ _ c1,c2,c3,c4⟩,ht⟩,rfl,#[],more,rfl,e1⟩)
         .obtain⟨e1,_⟩:=hok b _ z;obtain⟨e2,_⟩:=hok' b _ (un.frzs b ob _ z);rw[e]at e1;cases e1;exact .inl e2
      refine⟨rfl,⟨all,λb o e=>?_⟩,os,bare⟩;exact un.there b o e (by simp)
 have tOk:∀H,H tb=aa (.tbl #[] q)->ObjOk P w H s₁.heap tb (.tbl #[] q):=λH e=>⟨#[],by simpa using ht,by simp[gX],λpos cv e=>by simp[eQ]at e⟩;cases hk:K.lookup a with
 |some o=>
  have e:=KX a o hk;rw[ha]at e;cases e;refine core (λb=>if b=tb then aa (.tbl #[] q) else aj) (.inr ⟨_,vs.toArray,_,hk,rfl,rfl,rfl,by rw[wq,lenV];exact hl,by simpa using rv⟩) (ap rfl) (λb u z=>?_) (λb z=>?_) λz=>aW (ax (bQ ta)) z
  .by_cases c:b=tb
   .subst c;have z':=(ap rfl).symm.trans z;cases z';exact tOk _ (ap rfl)
   .have z':=(ax c).symm.trans z;cases z'
  .by_cases c:b=tb
   .exact .inl c
   .exact aW (ax c) z
 |none=>
  have h1:∀b,b=a->(λb=>if b=a then aa (HO.frz { cls:=.type "list",data:=.seq vs.toArray } (.lst (ns.map V.int))) else if b=tb then aa (HO.tbl #[] q) else aj) b=aa (HO.frz { cls:=.type "list",data:=.seq vs.toArray } (.lst (ns.map V.int))):=λb e=>ap e;have h2:(λb=>if b=a then aa (HO.frz { cls:=.type "list",data:=.seq vs.toArray } (.lst (ns.map V.int))) else if b=tb then aa (HO.tbl #[] q) else aj) tb=aa (HO.tbl #[] q):=by
    show(if tb=a then _ else if tb=tb then _ else _)=_;rw[ax ta,ap rfl]
  have h3:∀b,b≠a->b≠tb->(λb=>if b=a then aa (HO.frz { cls:=.type "list",data:=.seq vs.toArray } (.lst (ns.map V.int))) else if b=tb then aa (HO.tbl #[] q) else aj) b=aj:=λb e1 e2=>by
    show(if b=a then _ else if b=tb then _ else _)=_;rw[ax e1,ax e2]
  generalize (λb=>if b=a then aa (HO.frz { cls:=.type "list",data:=.seq vs.toArray } (.lst (ns.map V.int))) else if b=tb then aa (HO.tbl #[] q) else aj)=H at h1 h2 h3;refine core H (.inl ⟨{ cls:=.type "list",data:=.seq vs.toArray },h1 a rfl⟩) h2 (λb u z=>?_) (λb z=>?_) λ_=>hk
  .by_cases c:b=a
   .rw[h1 b c]at z;cases z;subst c;exact⟨ha,by rw[we];exact hl,vs,_,rv,ha⟩
   .by_cases c2:b=tb
    .subst c2;rw[h2]at z;cases z;exact tOk _ h2
    .rw[h3 b c c2]at z;cases z
  .by_cases c:b=a
   .exact .inr ⟨c,_,_,h1 b c⟩
   .by_cases c2:b=tb
    .exact .inl c2
    .exact aW (h3 b c c2) z
theorem Zj{K:aE}{t:Addr}{x:Obj}{h:aX}(n:K.lookup t=aj)(k:PySem.W.Frag.In ((t,x)::K) h):K.In h/\h.get? t=aa x:=by
 refine⟨λb o e=>k b o ?_,k t x (by simp)⟩;have:b≠t:=λz=>by rw[z,n]at e;cases e
 rw[wL,beq_eq_false_iff_ne.mpr this];exact e
theorem Zk{K:aE}{mg:aF}{x:Str}{st:aZ}{ps:ie}{f f0:Addr}{fd fd0:az}{oc:Value}{od:iB}{sl:Array (iA)}{c:Value}(D:Df K mg x st ps f fd)(m:mg x=aa (.ref f0))(l:K.lookup f0=aa ⟨oc,od,.func fd0,sl⟩)(e:fd0.code=c):fd.code=c:=by
 have:=D.mg;rw[m]at this;cases this;obtain⟨oc',od',kV,doc,pm,an,cdv,ct,osl,e1,lk,hcd⟩:=D.fn.ex;rw[l]at lk;injection lk with lk
 injection lk with _ _ lk _
 injection lk with lk
 rw[<-lk];exact e
theorem Oz{l:gu}{q:aN}{loose:ie}{XP:(aF)->aX->Prop}{YP:aP->aX->Prop}{d:DefRec}{K:bo->aE}{x qn:Str}{k:Nat}{fr:Bool}{c:FC}{tb cA:Addr}(hn:l.most=aa 63)(hdf:d.params.defaults=[])
  (hY:∀(w:aP)(h:aX),YP w h->(K w.params).In h/\h.get? tb=aa { cls:=.none,data:=.fields #[] })
  (hK:∀w:aP,(K w.params).lookup tb=aj/\Wc (K w.params) cA tb)
  (F:∀(w:World) (mg:Str→Option Value) (fa:Addr) (h:Heap),(K w.params).In h→h.Ns mainGlobals mg→mg d.name=some (.ref fa) →
   ∃fd:az,(∀(s:Shared)(u:Value),BindsTo s fd ⟨[u],[]⟩ [(x,u)])/\∀base:aX,(K w.params).In base->base.Ns aO mg->Lam base mg cA tb->FnOk l.prog w (K w.params) mg base CX0 k fa fd [x] (spcT (K w.params) tb #[] qn fr c))
  (hc:∀ns:aH,ns.length<=63->c [.scr ns]=aa (.bl ae))
  (hr:Room k gI):PySem.W.WalkO q loose XP YP l.row.toRowW d [] (λf vs=>PySem.call f vs):=by
 refine Att.attach_call hn hdf λw s₀ s₁ mg mb fa o pm cd doc a vs ns G Y ho hd hcd hmg hobj hints hlen hg=>?_;obtain⟨KX,ht⟩:=hY w _ Y;obtain⟨fd,hb,hF⟩:=F w mg fa _ KX G.T.g hmg;exact TC KX G.T.g G.T.b G.T.builtins G.T.nolimit hg G.T.bmain ht (hK w).1 (hK w).2 hobj hints (wu hlen (by decide)) hr hF hb (hc ns hlen)
end L2
end
section
local macro_rules|`(tactic|rfl')=>`(tactic|first|lia|omega +splitDisjunctions)
namespace L2
def sz:aH->Nat
 |[]=>0
 |x::r=>x.natAbs+sz r
structure Geo(n:Nat)(low:aH->aH)(steps:aA)(M:Nat):Prop where
 n1:1<=n
 len:∀t∈steps,t.length=n
 lowLen:∀b,b.length=n->(low b).length=n
 congr:∀b b' t,b.length=n->b'.length=n->t∈steps->low b=low b'->low (addR b t)=low (addR b' t)
 near:∀b t,b.length=n->t∈steps->sz (addR b t)=sz b+1\/sz (addR b t)+1=sz b
 back:∀b,b.length=n->0<sz b->∃b' t,b'.length=n/\t∈steps/\b=addR b' t/\sz b=sz b'+1
 count:∀l:aA,l.Nodup->(∀t∈l,∃b,b.length=n/\t=low b)->l.length<=M
section
variable {n M:Nat}{low:aH->aH}{steps:aA}
theorem Hd{seen:aA}(nd:seen.Nodup):∀(bs done:aA)(st:aA×List (aH×aH)),st.1=seen++st.2.map (·.1)->st.1.Nodup->(∀p∈st.2,p.2∈done/\p.1=low p.2/\p.1∉seen)->(∀b∈done,low b∈st.1) ->
  (z9 low st bs).1=seen++(z9 low st bs).2.map (·.1)/\(z9 low st bs).1.Nodup/\(∀p∈(z9 low st bs).2,p.2∈done++bs/\p.1=low p.2/\p.1∉seen)/\∀b∈done++bs,low b∈(z9 low st bs).1
 |[],done,st,h1,h2,h3,h4=>by rw[vd];exact⟨h1,h2,h3,h4⟩
 | b::bs,done,st,h1,h2,h3,h4=>by
  have e:done++b::bs=(done++[b])++bs:=by simp
  rw[e];show(z9 low (nx1 low st b) bs).1=_/\(z9 low (nx1 low st b) bs).1.Nodup/\(∀p∈(z9 low (nx1 low st b) bs).2,_)/\∀b'∈_,low b'∈(z9 low (nx1 low st b) bs).1
  have key:(nx1 low st b).1=seen++(nx1 low st b).2.map (·.1)∧(nx1 low st b).1.Nodup∧(∀ p∈(nx1 low st b).2,p.2∈done++[b]∧p.1=low p.2∧p.1 ∉ seen)∧∀ b'∈done++[b],low b'∈(nx1 low st b).1:=by
   unfold nx1;by_cases c:low b∈st.1
   .rw[ap c];refine⟨h1,h2,λp hp=>⟨wO _ (h3 p hp).1,(h3 p hp).2⟩,λb' hb'=>?_⟩;rcases wn.mp hb' with hb'|hb'
    .exact h4 b' hb'
    .rw[wv.mp hb'];exact c
   .rw[ax c];refine⟨by show st.1++[low b]=_;rw[h1];simp,?_,λp hp=>?_,λb' hb'=>?_⟩
    .show(st.1++[low b]).Nodup;rw[uE];exact⟨h2,by simp,λx hx y hy z=>c (by rw[wv.mp hy]at z;rw[<-z];exact hx)⟩
    .rcases wn.mp hp with hp|hp
     .exact⟨wO _ (h3 p hp).1,(h3 p hp).2⟩
     .rw[wv.mp hp];exact⟨wA _ wd,rfl,λz=>c (by rw[h1];exact wO _ z)⟩
    .rcases wn.mp hb' with hb'|hb'
     .exact wO _ (h4 b' hb')
     .rw[wv.mp hb'];exact wA _ wd
  exact Hd nd bs (done++[b]) (nx1 low st b) key.1 key.2.1 key.2.2.1 key.2.2.2
def EntLe(e e':Ent):Prop:=e.2.1<e'.2.1\/(e.2.1=e'.2.1/\HT.lexLt e'.1 e.1=ag)
structure Bf(n:Nat)(low:aH->aH)(m:Nat)(level:List (aH×aH))(seen:aA)(told:List Ent):Prop where
 lev:∀p∈level,p.2.length=n/\p.1=low p.2/\sz p.2=m
 all:∀b,b.length=n->sz b<=m->low b∈seen
 old:∀e∈told,e.2.2.length=n/\e.1=low e.2.2/\e.2.1=(sz e.2.2:Int)/\sz e.2.2<m
 keys:(told.map (·.1)++level.map (·.1)).Perm seen
 nd:seen.Nodup
 least:∀e∈told,∀b,b.length=n->low b=e.1->sz e.2.2<=sz b
 leastL:∀p∈level,∀b,b.length=n->low b=p.1->m<=sz b
 cnt:level≠[]->m<seen.length
 srt:told.Pairwise EntLe
 srtL:level.Pairwise λp q=>HT.lexLt q.1 p.1=ag
theorem Bf.step(g:Geo n low steps M){m:Nat}{level lv:List (aH×aH)}{seen:aA}{told:List Ent}(h:Bf n low m level seen told)(hl:LexP (z9 low (seen,[]) (B3 addR level steps)).2 lv):
   Bf n low (m+1) lv (z9 low (seen,[]) (B3 addR level steps)).1 (told++level.map λp=>(p.1,(m:Int),p.2)):=by
 obtain⟨q1,q2,q3,q4⟩:=Hd (low:=low) h.nd (B3 addR level steps) [] (seen,[]) (by simp) h.nd (λ_ z=>nomatch z) (λ_ z=>nomatch z);rw[w0j]at q3 q4;generalize hst:z9 low (seen,[]) (B3 addR level steps)=st at *;have cnd:∀c∈B3 addR level steps,∃p∈level,∃t∈steps,c=addR p.2 t:=λc hc=>by
   obtain⟨p,hp,hc⟩:=uL.mp hc;obtain⟨t,ht,rfl⟩:=wl.mp hc;exact⟨p,hp,t,ht,rfl⟩
 have cin:∀p∈level,∀t∈steps,addR p.2 t∈B3 addR level steps:=λp hp t ht=>uL.mpr ⟨p,hp,uo ht⟩;have alen:∀b t,b.length=n->t∈steps->(addR b t).length=n:=λb t hb ht=>by rw[T1 (by rw[hb,g.len t ht]),hb]
 have mem:∀p∈lv,p∈st.2:=λp hp=>hl.1.mem_iff.mp hp;have sub:∀t∈seen,t∈st.1:=λt ht=>by rw[q1];exact wO _ ht
 have levN:∀p∈lv,p.2.length=n/\p.1=low p.2/\sz p.2=m+1:=λp hp=>by
   obtain⟨h1,h2,h3⟩:=q3 p (mem p hp);obtain⟨e,he,t,ht,ec⟩:=cnd _ h1;obtain⟨e1,e2,e3⟩:=h.lev e he;have ln:p.2.length=n:=by rw[ec];exact alen _ _ e1 ht
   refine⟨ln,h2,?_⟩;have nr:=g.near e.2 t e1 ht;rw[<-ec,e3]at nr;rcases nr with nr|nr
   .exact nr
   .exact aW (h.all p.2 ln ()) (by rw[<-h2];exact h3)
 have allN:∀b,b.length=n->sz b<=m+1->low b∈st.1:=λb hb hs=>by
   by_cases c:sz b<=m
   .exact sub _ (h.all b hb c)
   .obtain⟨b',t,hb',ht,eb,es⟩:=g.back b hb ();have inS:=h.all b' hb' ();have:=h.keys.mem_iff.mpr inS;rcases wn.mp this with z|z
    .obtain⟨e,he,ee⟩:=wl.mp z;obtain⟨o1,o2,o3,o4⟩:=h.old e he;have lw:low b'=low e.2.2:=by rw[<-ee,o2]
     rw[eb,g.congr b' e.2.2 t hb' o1 ht lw];refine sub _ (h.all _ (alen _ _ o1 ht) ?_);have:=g.near e.2.2 t o1 ht;rfl'
    .obtain⟨p,hp,ee⟩:=wl.mp z;obtain⟨o1,o2,o3⟩:=h.lev p hp;have lw:low b'=low p.2:=by rw[<-ee,o2]
     rw[eb,g.congr b' p.2 t hb' o1 ht lw];exact q4 _ (cin p hp t ht)
 refine⟨levN,allN,λe he=>?_,?_,q2,λe he=>?_,λp hp b hb e=>?_,λne=>?_,?_,hl.2⟩
 .rcases wn.mp he with he|he
  .obtain⟨o1,o2,o3,o4⟩:=h.old e he;exact⟨o1,o2,o3,()⟩
  .obtain⟨p,hp,rfl⟩:=wl.mp he;obtain⟨o1,o2,o3⟩:=h.lev p hp;exact⟨o1,o2,by show(m:Int)=_;rw[o3],by show sz p.2<_;rfl'⟩
 .rw[q1,vz,wK];have e1:level.map ((λx:Ent=>x.1)∘λp:aH×aH=>(p.1,(m:Int),p.2))=level.map (·.1):=vL λ_ _=>rfl;rw[e1];exact List.Perm.append h.keys (hl.1.map _)
 .rcases wn.mp he with he|he
  .exact h.least e he
  .obtain⟨p,hp,rfl⟩:=wl.mp he;obtain⟨o1,o2,o3⟩:=h.lev p hp;intro b hb e;show sz p.2<=_;rw[o3];exact h.leastL p hp b hb e
 .apply uI;intro lt;have:=h.all b hb ();rw[e]at this;exact(q3 p (mem p hp)).2.2 this
 .have nf:st.2≠[]:=λz=>ne (by rw[z]at hl;exact List.Perm.eq_nil hl.1);have nl:level≠[]:=λz=>by
    subst z;have:st.2=[]:=by rw[<-hst];rfl
    exact nf this
  have c:=h.cnt nl;have:=vM.mpr nf;rw[q1,wz,we];rfl'
 .rw[uN];refine⟨h.srt,vi.mpr (h.srtL.imp λ{p q}z=>.inr ⟨rfl,z⟩),λe he e' he'=>?_⟩;obtain⟨o1,o2,o3,o4⟩:=h.old e he;obtain⟨p,hp,rfl⟩:=wl.mp he';refine .inl ?_;show e.2.1<(m:Int);rw[o3];rfl'
theorem Bf.empty(g:Geo n low steps M){m:Nat}{seen:aA}{told:List Ent}(h:Bf n low m [] seen told):∀j,Bf n low (m+j) [] seen told
 |0=>h
 |j+1=>by
  have:=(Bf.empty g h j).step g (lv:=[]) ⟨cF _,cT⟩;rw[<-w0B];simpa[z9,B3]using this
structure Fin(n:Nat)(low:aH->aH)(told:List Ent):Prop where
 ent:∀e∈told,e.2.2.length=n/\e.1=low e.2.2/\e.2.1=(sz e.2.2:Int)
 all:∀b,b.length=n->∃e∈told,e.1=low b/\sz e.2.2<=sz b
 nd:(told.map (·.1)).Nodup
 srt:told.Pairwise EntLe
theorem Bf.fin(g:Geo n low steps M){m:Nat}{seen:aA}{told:List Ent}(h:Bf n low m [] seen told):Fin n low told:=by
 have kp:(told.map (·.1)).Perm seen:=by simpa using h.keys
 refine⟨λe he=>let ⟨a,b,c,_⟩:=h.old e he;⟨a,b,c⟩,λb hb=>?_,kp.nodup_iff.mpr h.nd,h.srt⟩;have:=(h.empty g (sz b)).all b hb ();obtain⟨e,he,ee⟩:=wl.mp (kp.mem_iff.mpr this);exact⟨e,he,ee,h.least e he b hb ee.symm⟩
theorem Bf.seen_le(g:Geo n low steps M){m:Nat}{level:List (aH×aH)}{seen:aA}{told:List Ent}(h:Bf n low m level seen told):seen.length<=M:=by
 refine g.count seen h.nd λt ht=>?_;rcases wn.mp (h.keys.mem_iff.mpr ht)with z|z
 .obtain⟨e,he,rfl⟩:=wl.mp z;exact⟨_,(h.old e he).1,(h.old e he).2.1⟩
 .obtain⟨p,hp,rfl⟩:=wl.mp z;exact⟨_,(h.lev p hp).1,(h.lev p hp).2.1⟩
theorem Zl(found:List (aH×aH)):∃lv,LexP found lv:=by
 refine⟨found.mergeSort (λp q=>!HT.lexLt q.1 p.1),List.mergeSort_perm _ _,?_⟩;have:=List.pairwise_mergeSort (le:=λ(p q:aH×aH)=>!HT.lexLt q.1 p.1) (λa b c h1 h2=>?_) (λa b=>?_) found
 .exact this.imp λh=>by simpa using h
 .simp only[vX]at h1 h2|-;cases e:HT.lexLt c.1 a.1 with
  |false=>rfl
  |true=>
   rcases KI _ b.1 _ e with z|z
   .rw[z]at h2;cases h2
   .rw[z]at h1;cases h1
 .simp only[vJ,vX];cases e:HT.lexLt b.1 a.1 with
  |false=>exact .inl rfl
  |true=>
   right;cases e2:HT.lexLt a.1 b.1 with
   |false=>rfl
   |true=>have:=Bi _ _ _ e e2;rw[M3]at this;cases this
theorem run_fin(g:Geo n low steps M){ca cl:FC}{G:aA}:∀(k m:Nat)(level:List (aH×aH))(seen:aA)(told fin:List Ent),Run ca cl steps G addR low k level m seen told fin->Bf n low m level seen told->Fin n low fin/\∃more,fin=told++(level.map λp=>(p.1,(m:Int),p.2))++more
 |0,_,_,_,_,_,r,_=>r.elim
 |k+1,m,level,seen,told,fin,r,h=>by
  rcases r with⟨rfl,rfl⟩|⟨_,_,_,_,lv,hlv,r⟩
  .exact⟨h.fin g,[],by simp⟩
  .obtain⟨f,more,e⟩:=run_fin g k (m+1) lv _ _ fin r (h.step g hlv);exact⟨f,(lv.map λp=>(p.1,((m+1:Nat):Int),p.2))++more,by rw[e,wP]⟩
theorem run_ex(g:Geo n low steps M){ca cl:FC}{G:aA}(hM:M<=200)(hs:steps.length<=12)(fn:∀b t,b.length=n->sz b<=M->t∈steps->ca [L b,L t]=aa (L (addR b t))/\cl [L (addR b t),LL G]=aa (L (low (addR b t)))):
  ∀(k m:Nat)(level:List (aH×aH))(seen:aA)(told:List Ent),Bf n low m level seen told->1<=k->(level≠[]->M+2<=k+seen.length)->∃fin,Run ca cl steps G addR low k level m seen told fin/\Fin n low fin/\∃more,fin=told++(level.map λp=>(p.1,(m:Int),p.2))++more:=by
 intro k
 induction k with
 |zero=>intro m level seen told _ h;rfl'
 |succ k ih=>
  intro m level seen told h _ hk;by_cases c:level=[]
  .subst c;exact⟨told,.inl ⟨rfl,rfl⟩,h.fin g,[],by simp⟩
  .have hk:=hk c;have sl:=h.seen_le g;have kl:=h.keys.length_eq;rw[wz,we,we]at kl;obtain⟨lv,hlv⟩:=Zl (z9 low (seen,[]) (B3 addR level steps)).2;have h':=h.step g hlv;have sl':=h'.seen_le g;have kl':=h'.keys.length_eq;rw[wz,we,we,wz,we]at kl';have cn:=h.cnt c;have hll:=hlv.1.length_eq;have l0:=vM.mpr c;have mul:level.length*steps.length<=200*12:=vE () hs;obtain⟨fin,r,f,more,em⟩:=ih (m+1) lv _ _ h' () (λne=>by have:=vM.mpr ne;rfl');refine⟨fin,.inr ⟨c,⟨λp hp t ht=>?_,(),()⟩,λp hp=>?_,(),lv,hlv,r⟩,f,(lv.map λp=>(p.1,((m+1:Nat):Int),p.2))++more,by rw[em,wP]⟩
   .obtain⟨o1,o2,o3⟩:=h.lev p hp;exact fn p.2 t o1 () ht
   .obtain⟨o1,o2,o3⟩:=h.lev p hp;have n1:=g.n1;have:=g.lowLen p.2 o1;refine⟨λz=>?_,λz=>?_⟩
    .rw[<-o2,z]at this;simp at this;rfl'
    .rw[z]at o1;simp at o1;rfl'
end
end L2
end
section
local macro_rules|`(tactic|rfl')=>`(tactic|first|lia|omega +splitDisjunctions)
namespace L2
theorem KS:∀(b:aH)(j:Nat)(x:Int),j<b.length->sz (b.set j x)+(St.at0 b j).natAbs=sz b+x.natAbs
 |[],j,x,h=>by simp at h
 |y::b,0,x,h=>by
  show x.natAbs+sz b+y.natAbs=y.natAbs+sz b+x.natAbs;rfl'
 |y::b,j+1,x,h=>by
  have:=KS b j x (by simpa using h);show y.natAbs+sz (b.set j x)+(St.at0 b j).natAbs=y.natAbs+sz b+x.natAbs;rfl'
theorem Dc{b:aH}{j:Nat}{x:Int}(h:j<b.length)(k:Nat):St.at0 (b.set j x) k=if k=j then x else St.at0 b k:=by
 unfold St.at0;simp only[bA,wY];by_cases e:j=k
 .subst e;simp[h]
 .rw[ax e,ax (bQ e)]
theorem Mt{b:aH}{j:Nat}:(St.at0 b j).natAbs<=sz b:=by
 induction b generalizing j with
 |nil=>simp[St.at0,sz]
 |cons y b ih=>
  cases j with
  |zero=>show y.natAbs<=y.natAbs+sz b;rfl'
  |succ j=>have:=ih (j:=j);show(St.at0 b j).natAbs<=y.natAbs+sz b;rfl'
theorem Wd:∀{b:aH},0<sz b->∃j,j<b.length/\St.at0 b j≠0
 |[],h=>by simp[sz]at h
 |y::b,h=>by
  by_cases e:y=0
  .subst e;have h:0<0+sz b:=h;obtain⟨j,h1,h2⟩:=Wd (b:=b) ();exact⟨j+1,by simpa using h1,h2⟩
  .exact⟨0,by simp,e⟩
def L4(n:Nat):aA:=(aT n).map (St.G7 n)++(aT n).map λj=>sclR (-1) (St.G7 n j)
theorem He{n j:Nat}{b:aH}(hb:b.length=n)(hj:j<n)(q:Int):addR b (sclR q (St.G7 n j))=b.set j (St.at0 b j+q):=by
 have lu:(sclR q (St.G7 n j)).length=n:=by unfold sclR;rw[we,St.Jg]
 refine St.ext0 (by rw[T1 (by rw[hb,lu]),wG]) λk=>?_;rw[FV (by rw[hb,lu]),Zd,St.VS,Dc ()];by_cases e:k=j
 .subst e;rw[ap ⟨rfl,hj⟩,ap rfl];rfl'
 .rw[ax (λz=>e z.1),ax e];rfl'
theorem Jk{n:Nat}{t:aH}(h:t∈L4 n):∃j,j<n/\∃q:Int,(q=1\/q = -1)/\t=sclR q (St.G7 n j):=by
 rcases wn.mp h with h|h
 .obtain⟨j,hj,rfl⟩:=wl.mp h;exact⟨j,wQ.mp hj,1,.inl rfl,(Su _).symm⟩
 .obtain⟨j,hj,rfl⟩:=wl.mp h;exact⟨j,wQ.mp hj,-1,.inr rfl,rfl⟩
theorem Jl{n j:Nat}{q:Int}(hj:j<n)(hq:q=1\/q = -1):sclR q (St.G7 n j)∈L4 n:=by
 rcases hq with rfl|rfl
 .rw[Su];exact wO _ (uo (wQ.mpr hj))
 .exact wA _ (wl.mpr ⟨j,wQ.mpr hj,rfl⟩)
theorem Cf{n:Nat}:∀{f:Nat}{S:List St.Row},St.Asc n f S->f+S.length=n->∀(i:Nat)(r:St.Row),S[i]?=aa r->St.b7 r=f+i
 |f,[],_,_,i,r,e=>by simp at e
 | f,s::S,⟨h1,h2,h3,h4,h5⟩,hl,i,r,e=>by
  have hl:f+(S.length+1)=n:=by simpa using hl
  have ha:=St.KQ h5 ();have eh:St.b7 s=f:=()
  rw[eh]at h5;cases i with
  |zero=>simp at e;rw[<-e,eh];rfl
  |succ i=>
   have:=Cf h5 () i r (by simpa using e);rfl'
def E9(S:List St.Row):ii:=S.map λr=>(St.hd r).toNat
theorem Mu:∀{ns:ii}{t:aH},t.length=ns.length->(∀(i:Nat)(m:Nat),ns[i]?=aa m->0<=St.at0 t i/\St.at0 t i<m)->Lat.G6 ns t
 |[],[],_,_=>trivial
 |[],_::_,h,_=>by simp at h
 |_::_,[],h,_=>by simp at h
 |m::ns,x::t,h,q=>by
  have q0:=q 0 m rfl;exact⟨q0.1,q0.2,Mu (by simpa using h) λi m' e=>q (i+1) m' (by simpa using e)⟩
theorem Hf{n:Nat}{S:List St.Row}(n1:1<=n)(A:St.Asc n 0 S)(hl:S.length=n):Geo n (λb=>St.i4 b S) (L4 n) (Lat.prod (E9 S)):=by
 have slen:∀t∈L4 n,t.length=n:=λt ht=>by
   obtain⟨j,_,q,_,rfl⟩:=Jk ht;unfold sclR;rw[we,St.Jg]
 refine⟨n1,slen,λb hb=>St.D6 A hb,λb b' t hb hb' ht e=>?_,λb t hb ht=>?_,λb hb hs=>?_,λl nd hm=>?_⟩
 .have lt:=slen t ht;refine St.Mq A (by rw[T1 (by rw[hb,lt]),hb]) (by rw[T1 (by rw[hb',lt]),hb']) ?_;have s1:=St.A5 A hb;have s2:=St.A5 A hb';refine Lat.Span.congr (λk=>?_) (s1.sub s2);have e:St.i4 b S=St.i4 b' S:=e;rw[FV (by rw[hb,lt]),FV (by rw[hb',lt]),e];rfl'
 .obtain⟨j,hj,q,hq,rfl⟩:=Jk ht;rw[He hb hj];have:=KS b j (St.at0 b j+q) ();rfl'
 .obtain⟨j,hj,nz⟩:=Wd hs;by_cases c:0<St.at0 b j
  .refine⟨b.set j (St.at0 b j-1),_,by rw[wG,hb],Jl (j:=j) (q:=1) () (.inl rfl),?_,?_⟩
   .rw[He (by rw[wG,hb]) (),Dc hj,ap rfl,List.set_set];refine St.ext0 (by rw[wG]) λk=>?_;rw[Dc hj];by_cases e:k=j
    .subst e;rw[ap rfl];rfl'
    .rw[ax e]
   .have:=KS b j (St.at0 b j-1) hj;rfl'
  .refine⟨b.set j (St.at0 b j+1),_,by rw[wG,hb],Jl (j:=j) (q := -1) () (.inr rfl),?_,?_⟩
   .rw[He (by rw[wG,hb]) (),Dc hj,ap rfl,List.set_set];refine St.ext0 (by rw[wG]) λk=>?_;rw[Dc hj];by_cases e:k=j
    .subst e;rw[ap rfl];rfl'
    .rw[ax e]
   .have:=KS b j (St.at0 b j+1) hj;rfl'
 .rw[<-Lat.T2];refine Lat.G5 id nd (λ_ _ _ _ e=>e) λt ht=>Lat.U6.mpr ?_;obtain⟨b,hb,rfl⟩:=hm t ht;refine Mu (by show(St.i4 b S).length=_;rw[St.D6 A hb];unfold E9;rw[we,hl]) λi m e=>?_;unfold E9 at e;rw[wx]at e;obtain⟨r,er,rfl⟩:=vF.mp e;have hr:=vj er;have q:=St.B6 A hb r hr;have hh:=Cf A () i r er;have pos:=(A.mem hr).2.2.2;rw[hh,vR]at q;show 0<=St.at0 (St.i4 b S) i/\St.at0 (St.i4 b S) i<_;rfl'
theorem We{n:Nat}{S:List St.Row}(A:St.Asc n 0 S):Bf n (λb=>St.i4 b S) 0 [(E8 n,E8 n)] [E8 n] []:=by
 have lz:(E8 n).length=n:=Bm;have ez:St.i4 (E8 n) S=E8 n:=by
   rw[Az];exact(St.Im A (by rw[<-Az];exact lz)).mpr (Lat.Span.congr (λk=>by rw[St.Bo]) Lat.Span.zero)
 have s0:∀m,sz (E8 m)=0:=λm=>by
   unfold E8
   induction m with
   |zero=>rfl
   |succ m ih=>rw[uV];show 0+sz _=0;rfl'
 have un:∀b:aH,b.length=n->sz b<=0->b=E8 n:=λb hb h=>by
   refine St.ext0 (by rw[hb,lz]) λk=>?_;have:=Mt (b:=b) (j:=k);rw[Ji];rfl'
 refine⟨λp hp=>?_,λb hb h=>?_,λ_ z=>(nomatch z),cF _,by simp,λ_ z=>(nomatch z),λ_ _ _ _ _=>wy _,λ_=>Nat.zero_lt_one,cT,by simp⟩
 .rw[wv.mp hp];exact⟨lz,ez.symm,s0 n⟩
 .rw[un b hb h];show St.i4 (E8 n) S∈_;rw[ez];simp
end L2
end
section
namespace L2
open St Lat
end L2
end
section
namespace L2
section
variable {P:aN}{w:aP}{K:aE}{mg:aF}{base:aX}
end
end L2
end
section
namespace L2
section
open PySem.SeqAt
open PySem.AutoSeq1 (wpAny_loadPart')
open PySem.MeetsSeq PySem.MeetsSeq2 PySem.MeetsSeq3
end
end L2
end
section
namespace L2
section
open PySem.SeqAt
open PySem.AutoSeq1 (wpAny_loadPart')
open PySem.MeetsSeq PySem.MeetsSeq2 PySem.MeetsSeq3
end
end L2
end
section
namespace L2
section
variable {Y:Ky}{H H':Hp}{ρ:Rho}{σ:St}
theorem RepS.put(h:RepS Y H ρ σ)(i:Nat){d:Dt}{v:V}(r:Rp Y.K emp d H v):RepS Y H (ρ.set i (.sh ag d)) (σ.set i (aa v)):=by
 refine⟨by rw[wG,wG,h.len],h.base,λj c e=>?_⟩;have hl:=h.len;rw[wY]at e|-;by_cases q:i=j
 .subst q;rw[ap rfl]at e|-;split at e
  .cases e;rw[ap ()];exact⟨_,rfl,v,rfl,r⟩
  .cases e
 .rw[ax q]at e|-;exact h.at_ j c e
end
section
variable {X:Cx}{H:Hp}{ρ:Rho}{σ:St}{E:Ends}
end
end L2
end
section
namespace L2
theorem Mv:∀{ns:ii}{t:aH},Lat.G6 ns t->t.length=ns.length/\∀(i:Nat)(m:Nat),ns[i]?=aa m->0<=St.at0 t i/\St.at0 t i<m
 |[],[],_=>⟨rfl,λi m e=>by simp at e⟩
 |[],_::_,h=>h.elim
 |_::_,[],h=>h.elim
 |m::ns,x::t,⟨h1,h2,h3⟩=>by
  obtain⟨l,q⟩:=Mv h3;refine⟨by simp[l],λi m' e=>?_⟩;cases i with
  |zero=>simp at e;rw[<-e];exact⟨h1,h2⟩
  |succ i=>exact q i m' (by simpa using e)
theorem TD{n:Nat}{S:List St.Row}{t:aH}(A:St.Asc n 0 S)(ht:t.length=n)(h:∀r∈S,0<=St.at0 t (St.b7 r)/\St.at0 t (St.b7 r)<St.hd r):St.i4 t S=t:=
 St.Jh A (St.D6 A ht) ht (Lat.Span.congr (λk=>()) (St.A5 A ht).neg) (St.B6 A ht) h
theorem Bp{n:Nat}{S:List St.Row}{told:List Ent}(n1:1<=n)(A:St.Asc n 0 S)(hl:S.length=n)(f:Fin n (λb=>St.i4 b S) told):told.length=Lat.prod (E9 S):=by
 have up:=(Hf n1 A hl).count (told.map (·.1)) f.nd λt ht=>by
  obtain⟨e,he,rfl⟩:=wl.mp ht;obtain⟨a,b,_⟩:=f.ent e he;exact⟨_,a,b⟩
 have dn:=Lat.G5 (l:=Lat.box (E9 S)) (m:=told.map (·.1)) id (Lat.DP _) (λ_ _ _ _ e=>e) λt ht=>by
  obtain⟨l,q⟩:=Mv (Lat.U6.mp ht);have lt:t.length=n:=by rw[l];unfold E9;rw[we,hl]
  obtain⟨e,he,e1,_⟩:=f.all t lt;refine wl.mpr ⟨e,he,?_⟩;rw[e1];refine TD A lt λr hr=>?_;obtain⟨i,hi,ei⟩:=wI hr;have er:S[i]?=aa r:=by rw[wa hi,ei]
  have hh:=Cf A () i r er;have p:=(A.mem hr).2.2.2;have:=q i (St.hd r).toNat (by unfold E9;rw[wx,er];rfl);rw[hh,vR];rfl'
 rw[Lat.T2]at dn;rw[we]at up dn;rfl'
theorem Sx{n:Nat}{low:aH->aH}{told:List Ent}(f:Fin n low told){e e':Ent}(h:e∈told)(h':e'∈told)(q:e.1=e'.1):e=e':=by
 obtain⟨i,hi,ei⟩:=wI h;obtain⟨j,hj,ej⟩:=wI h';have:i=j:=by
  refine(uc (xs:=told.map (·.1)) (h₀:=by simpa using hi) (h₁:=by simpa using hj) f.nd).mp ?_;rw[wM,wM,ei,ej,q]
 subst this;rw[<-ei,<-ej]
theorem fin_up{n:Nat}{low:aH->aH}{told:List Ent}(f:Fin n low told){i j:Nat}(ij:i<j){e e':Ent}(h:told[i]?=aa e)(h':told[j]?=aa e'):e.2.1<e'.2.1\/(e.2.1=e'.2.1/\HT.lexLt e.1 e'.1=ae):=by
 obtain⟨hi,ei⟩:=wr.mp h;obtain⟨hj,ej⟩:=wr.mp h';have s:=wC.mp f.srt i j hi hj ij;rw[ei,ej]at s;rcases s with s|⟨s1,s2⟩
 .exact .inl s
 .refine .inr ⟨s1,?_⟩;cases q:HT.lexLt e.1 e'.1 with
  |true=>rfl
  | false =>
   have eq:=Bj _ _ q s2;have:i=j:=by
    refine(uc (xs:=told.map (·.1)) (h₀:=by simpa using hi) (h₁:=by simpa using hj) f.nd).mp ?_;rw[wM,wM,ei,ej,eq]
   rfl'
end L2
end
section
namespace L2
theorem TF{A:aU}{s:Shared}{l b:Addr}{items items2:iu}{ns ms:aH}{prog:aN}{w:aP}{E:aC}{Q:aC}(hi:cR items.toList ns)(hj:cR items2.toList ms)(hl:LiAt s.heap l items)(hb:LiAt s.heap b items2)(hu:A.units<dk)(h:Q (.bool (HT.lexLt ns ms)) s):
  ay (model prog w) A (richCompare .Lt (.ref l) (.ref b)) Q E s:=by
 obtain⟨o1,n1,hl1,hl2,hl3⟩:=id hl;obtain⟨o2,n2,hb1,hb2,hb3⟩:=id hb;exact richCompare_meets_room (op := .Lt) ⟨_,hl1,hl2⟩ ⟨_,hb1,hb2⟩ fG PySem.F.entry_list_lt (PySem.F.args_list_lt_2 _ _) (CU l b items items2 ns ms hi hj)
  ⟨hl,hb,show fJ (HT.lexLt ns ms)≠Value.notImplemented/\Q (.bool (HT.lexLt ns ms)) s from⟨(λx=>nomatch x),h⟩⟩ hu
theorem Mw{prog:aN}{w:aP}{A:aU}{E:aC}{s:Shared}{Q:Bool->Shared->Prop}(l b:Addr)(items items2:iu)(ns ms:aH)(hi:cR items.toList ns)(hj:cR items2.toList ms)(hl:LiAt s.heap l items)(hb:LiAt s.heap b items2)
  (hu:A.units<dk) (h:Q (HT.lexLt ns ms) s):ay (model prog w) A (oneLt' ag (.ref l) (.ref b)) Q E s:=by
 rw[oneLt'_eq];refine ah (TF hi hj hl hb hu ?_);exact bW h
def T4(p q:Int×aH):Bool:=if p.1=q.1 then HT.lexLt p.2 q.2 else decide (p.1<q.1)
section
variable {X:Cx}{π:aB}{σ:St}{H:Hp}{s:Shared}
theorem OA(I:Inv X π σ H s){A:aU}{E:aC}{Q:Bool->Shared->Prop}{t u x y:Addr}{p q:Int×aH}(hu:A.units+8<dk)(st:SqT X.K H t [.int p.1,.ref x])(su:SqT X.K H u [.int q.1,.ref y])(hx:H x=aa (.lst (p.2.map V.int)))(hy:H y=aa (.lst (q.2.map V.int)))
  (h:Q (T4 p q) s):ay (model X.prog X.w) A (keyLt' (tuples' ae) (.ref t) (.ref u)) Q E s:=by
 obtain⟨its,rv,⟨⟨cls,dd,dat,sl⟩,e1,c1,n1,d1⟩,_⟩:=I.tuple st;obtain⟨its2,rv2,⟨⟨cls2,dd2,dat2,sl2⟩,e2,c2,n2,d2⟩,_⟩:=I.tuple su;simp only at c1 d1 c2 d2;subst c1 d1 c2 d2;obtain⟨w0,w1,rfl,⟨t1,rfl⟩,rw1⟩:=rv.two;obtain⟨w2,w3,rfl,⟨t2,rfl⟩,rw3⟩:=rv2.two;obtain rfl:w1=ak x:=rw1;obtain rfl:w3=ak y:=rw3;obtain⟨i1,j1,l1⟩:=Mg I hx;obtain⟨i2,j2,l2⟩:=Mg I hy;refine ah (bE e1 rfl ?_);refine ah (bE e2 rfl ?_);obtain⟨e,he,hiff⟩:=HT.eqAt_int A s p.1 t1 q.1 t2;rw[show(#[cO p.1 t1,ak x].toList.zip #[cO q.1 t2,ak y].toList).zipIdx=[((cO p.1 t1,cO q.1 t2),0),((ak x,ak y),1)]from rfl,vI];unfold T4 at h;refine ah (ah (ah (he _ _ _ _ ?_)));cases e with
 |false=>
  have ne:¬p.1=q.1:=λz=>aW (hiff.mpr z) wH;rw[ax ne]at h;exact ah (oneLt_int (ao (ao (ao h))))
 |true=>
  rw[ap (hiff.mp rfl)]at h;refine ao ?_;show ay _ _ (forIn [((ak x,ak y),1)] _ _) _ _ _;rw[vI];have eq:SeqAt.EqAt A s (.ref x) (.ref y) (eqD (L p.2) (L q.2)):=by
    obtain⟨as,ra⟩:=S5 I 8 (L p.2) (by rw[Dt.okN,D1]) (Rp.lst_.mpr ⟨x,_,rfl,rfl,hx,Rps.ints.mpr rfl⟩) rfl;obtain⟨bs,rb⟩:=S5 I 8 (L q.2) (by rw[Dt.okN,D1]) (Rp.lst_.mpr ⟨y,_,rfl,rfl,hy,Rps.ints.mpr rfl⟩) rfl;obtain⟨k1,k2⟩:=CL 8 (L p.2) (by rw[Dt.okN,D1]);obtain⟨k3,k4⟩:=CL 8 (L q.2) (by rw[Dt.okN,D1]);exact SeqAt.eqAt_reads _ _ _ _ _ _ _ _ ra rb k1 k3 (by show A.units+min _ _<dk;rfl')
  refine ah (ah (eq _ _ _ _ ?_));have e0:eqD (L p.2) (L q.2)=decide (p.2=q.2):=by
    unfold eqD;rw[Dt.py,Dt.py,P0,P0,eA,P2]
  rw[e0];by_cases z:p.2=q.2
  .rw[z,M3]at h;rw[aI z];refine ao ?_;show ay _ _ (forIn [] _ _) _ _ _;rw[vN];exact ao (ao h)
  .rw[aK z];exact ah (Mw x y i1.toArray i2.toArray p.2 q.2 (by simpa using j1) (by simpa using j2) l1 l2 () (ao (ao (ao h))))
structure PrAt(K:aE)(H:Hp)(ts:ig)(ps:List (Int×aH)):Prop where
 len:ps.length=ts.length
 at_:∀(j:Nat)(t:Addr)(p:Int×aH),ts[j]?=aa t->ps[j]?=aa p->∃x,SqT K H t [.int p.1,.ref x]/\H x=aa (.lst (p.2.map V.int))
 up:ps.Pairwise λp q=>T4 p q=ae
 few:ts.length<4096
theorem BQ(p:Int×aH):T4 p p=ag:=by unfold T4;rw[ap rfl];exact M3 _
theorem KU{p q:Int×aH}(h:T4 p q=ae):T4 q p=ag:=by
 unfold T4 at h|-;by_cases e:p.1=q.1
 .rw[ap e]at h;rw[ap e.symm];cases z:HT.lexLt q.2 p.2 with
  |false=>rfl
  |true=>have:=Bi _ _ _ h z;rw[M3]at this;cases this
 .rw[ax e]at h;rw[ax (bQ e)];have:p.1<q.1:=ba h;exact aK ()
theorem PrAt.lt{K:aE}{ts:ig}{ps:List (Int×aH)}(pr:PrAt K H ts ps){i j:Nat}{p q:Int×aH}(h1:ps[i]?=aa p)(h2:ps[j]?=aa q):T4 p q=decide (i<j):=by
 obtain⟨hi,rfl⟩:=wr.mp h1;obtain⟨hj,rfl⟩:=wr.mp h2;rcases Nat.lt_trichotomy i j with c|c|c
 .rw[aI c];exact wC.mp pr.up i j hi hj c
 .subst c;rw[aK (wR _)];exact BQ _
 .rw[aK ()];exact KU (wC.mp pr.up j i hj hi c)
end
end L2
end
section
namespace L2
def Wf:Option Obj->iA
 |some o=>match o.data with
  |.seq items _=>items[0]?
  |_=>aj
 |none=>aj
def Bq(s:Shared):Value->iA
 |.ref a=>Wf (s.heap.get? a)
 |_=>aj
theorem OB{M:Model}{A:aU}{E:aC}{s:Shared}{vs:aG}{Q:eX->Shared->Prop}(h:∀v∈vs,∃a dd sl n i t w,v=.ref a/\s.heap.get? a=aa { cls:=.type "tuple",dict:=dd,data:=.seq #[.int i t,w] n,slots:=sl })(h0:0<vs.length)(q:Q (tuples' ae) s):ay M A (keyKind' vs.toArray) Q E s:=by
 rw[keyKind'_eq];refine ah (FN (g:=Bq s) vs (λv hv Q' q'=>?_) ?_)
 .obtain⟨a,dd,sl,n,i,t,w,rfl,e⟩:=h v hv;show ay M A (typeOf (.ref a) >>= λr=>_) _ _ _;refine ah (gH ⟨_,e,rfl⟩ ?_);show ay M A (fO (.ref a) >>= λr=>_) _ _ _;refine ah (bE e rfl (ao ?_));have:Bq s (.ref a)=aa (.int i t):=by show Wf (s.heap.get? a)=_;rw[e];rfl
  rw[this]at q';exact q'
 .have hh:∀v∈vs,∃i t,Bq s v=aa (.int i t):=λv hv=>by
    obtain⟨a,dd,sl,n,i,t,w,rfl,e⟩:=h v hv;exact⟨i,t,by show Wf (s.heap.get? a)=_;rw[e];rfl⟩
  rw[ap (by
    rw[List.all_toArray,ud];intro x hx;obtain⟨v,hv,rfl⟩:=wl.mp hx;obtain⟨i,t,e⟩:=hh v hv;rw[e];rfl)]
  refine ah (cB ?_);have fm:((vs.map (Bq s)).toArray.filterMap id)=(vs.map λv=>(Bq s v).getD .none).toArray:=by
    rw[List.filterMap_toArray];congr 1;rw[List.filterMap_map];clear h0
    induction vs with
    |nil=>rfl
    |cons v vs ih=>
     obtain⟨i,t,e⟩:=hh v wd;rw[uj,wj];simp only[Function.comp,id,e];rw[ih (λu hu=>h u (wb _ hu)) λu hu=>hh u (wb _ hu)];rfl
  rw[fm,oneTypeOnly'_eq];refine ah (ah (FN (g:=λ_=>dY "int") _ (λu hu Q' q'=>?_) ?_))
  .obtain⟨v,hv,rfl⟩:=wl.mp hu;obtain⟨i,t,e⟩:=hh v hv;rw[e];exact gH (show s.TypeIs (.int i t) "int" from rfl) q'
  .cases vs with
   |nil=>exact aW h0 (wR _)
   |cons v vs=>
    have e:((eT (λ_=>dY "int") (eT (λv=>(Bq s v).getD .none) (v::vs))).toArray)[0]?=aa (dY "int"):=by simp
    rw[e];refine ao ?_;rw[ap (by simp)];exact ao q
section
variable {X:Cx}{π:aB}{σ:St}{H:Hp}{s:Shared}{ts:ig}{ps:List (Int×aH)}
theorem PrAt.obj(I:Inv X π σ H s)(pr:PrAt X.K H ts ps){j:Nat}{t:Addr}(h:ts[j]?=aa t):∃p x dd sl n tk,ps[j]?=aa p/\SqT X.K H t [.int p.1,.ref x]/\H x=aa (.lst (p.2.map V.int))/\s.heap.get? t=aa { cls:=.type "tuple",dict:=dd,data:=.seq #[.int p.1 tk,.ref x] n,slots:=sl }:=by
 have hj:j<ps.length:=by rw[pr.len];exact(wr.mp h).1
 have hp:ps[j]?=aa ps[j]:=wa hj;obtain⟨x,sq,hx⟩:=pr.at_ j t _ h hp;obtain⟨its,rv,⟨⟨cls,dd,dat,sl⟩,e1,c1,n1,d1⟩,_⟩:=I.tuple sq;simp only at c1 d1;subst c1 d1;obtain⟨w0,w1,rfl,⟨t1,rfl⟩,rw1⟩:=rv.two;obtain rfl:w1=ak x:=rw1;exact⟨_,x,dd,sl,n1,t1,hp,sq,hx,e1⟩
theorem PrAt.nd(I:Inv X π σ H s)(pr:PrAt X.K H ts ps):ts.Nodup:=by
 rw[vY,wC];intro i j hi hj ij z;obtain⟨p,x,dd,sl,n,tk,h1,h2,h3,h4⟩:=pr.obj I (wa hi);obtain⟨q,y,dd',sl',n',tk',g1,g2,g3,g4⟩:=pr.obj I (wa hj);rw[<-z,h4]at g4;injection g4 with g4
 injection g4 with _ _ g4 _
 injection g4 with g4 _
 have g4:[cO p.1 tk,ak x]=[cO q.1 tk',ak y]:=by simpa using bV gh g4
 injection g4 with a1 a2
 injection a2 with a2 _
 injection a2 with a2
 injection a1 with a1 _
 rw[<-a2,h3]at g3;injection g3 with g3
 injection g3 with g3
 have:p=q:=Prod.ext a1 (by
  have:=bV (eT vint) g3
  rwa [GQ,GQ]at this)
 have lt:=pr.lt h1 g1;rw[this,BQ,aI ij]at lt;cases lt
def rkP(ts:ig)(x:aQ):Nat:=match x.1 with
 |.ref t=>ts.idxOf t
 |_=>0
theorem OC(I:Inv X π σ H s)(pr:PrAt X.K H ts ps){A:aU}{E:aC}{Q:Unit->bi->Prop}(hu:A.units+8<dk)
   (q:∀st',aw st'=fw (ts.map ak)->ci st'=aj->Q .unit st'):wpS (model X.prog X.w) A E s sortRuns' Q (SortSt.mk' (tuples' ae) (fw (ts.map ak)) #[] 7 aj):=by
 have nd:=pr.nd I;have mem:∀x∈(fw (ts.map ak)).toList,∃j,∃h:j<ts.length,x=(.ref ts[j],.ref ts[j]):=λx hx=>by
   rw[gQ]at hx;obtain⟨j,hj,e⟩:=wI hx;rw[vy,we,w0h]at hj;refine⟨j,hj,?_⟩;rw[<-e,vt,wM]
 have rk_:∀(j:Nat)(h:j<ts.length),rkP ts (.ref ts[j],.ref ts[j])=j:=λj h=>by
   show ts.idxOf ts[j]=j;exact List.Nodup.idxOf_getElem nd j h
 have srt:(fw (ts.map ak)).toList.Pairwise λx y=>rkP ts x<=rkP ts y:=by
   rw[gQ,wC];intro i j hi hj ij;rw[vy,we,w0h]at hi hj;rw[vt,vt,wM,wM,rk_ i hi,rk_ j hj];rfl'
 refine Sk (P:=λx=>x∈(fw (ts.map ak)).toList) (r:=rkP ts) (k0:=tuples' ae) (λx y E Q st hx hy hk0 h=>?_) rfl rfl rfl (λx hx=>hx) ?_ λst' p' f' s'=>q st' ?_ f'
 .obtain⟨i,hi,rfl⟩:=mem x hx;obtain⟨j,hj,rfl⟩:=mem y hy;rw[rk_ i hi,rk_ j hj]at h;obtain⟨p,x,dd,sl,n,tk,h1,h2,h3,h4⟩:=pr.obj I (wa hi);obtain⟨q,y,dd',sl',n',tk',g1,g2,g3,g4⟩:=pr.obj I (wa hj);rw[lt'_eq];refine am (eJ ?_);refine am (gm (cH ?_));rw[hk0];refine OA I hu h2 g2 h3 g3 ⟨rfl,aJ ?_⟩;rw[pr.lt h1 g1];exact h
 .rw[vY,vi,gQ,wC];intro i j hi hj ij;rw[vy,we,w0h]at hi hj;rw[vt,vt,wM,wM,rk_ i hi,rk_ j hj];rfl'
 .have p':(aw st').toList.Perm (fw (ts.map ak)).toList:=p';refine Array.toList_inj.mp (hJ (λx y hx hy h1 h2=>?_) ((Vu (r:=rkP ts)).mp ?_) srt p')
  .obtain⟨i,hi,rfl⟩:=mem x (p'.mem_iff.mp hx);obtain⟨j,hj,rfl⟩:=mem y hy;rw[rk_ i hi,rk_ j hj]at h1 h2;obtain rfl:i=j:=()
   rfl
  .intro i j x y ij e1 e2;have e1:(aw st')[i]?=aa x:=by simpa using e1
   have e2:(aw st')[j]?=aa y:=by simpa using e2
   have sz:=p'.length_eq;rw[aq,aq]at sz;exact s' i j x y (wy _) ij (by have:=(Array.getElem?_eq_some_iff.mp e2).1;show j<(fw (ts.map ak)).size;rfl') e1 e2
end
end L2
end
section
namespace L2
section
variable {X:Cx}{π:aB}{σ:St}{H:Hp}{s:Shared}{ts:ig}{ps:List (Int×aH)}
theorem OD{A:aU}{D:Addr}{n0:Nat}{P:PySem.Fin->Shared->Prop}{E:aC}(I:Inv X π σ H s)(pr:PrAt X.K H ts ps)(hu:A.units+8<dk)
   (hD:s.heap.get? D=aa (bh "list" (ts.map ak).toArray n0)) (fD:FpOk X π H D)
   (z:∀s2 c,Inv X π σ H s2->s2.heap.get? D=aa (bh "list" (ts.map ak).toArray c)->P (.done (.ret .none)) s2) :
   ay (model X.prog X.w) A (Builtin.«list.sort» ⟨[.ref D],[]⟩) P E s:=by
 have h64:=pr.few;have hlt:D<s.heap.objs.size:=wm hD;have sz:(ts.map ak).length<=sizeLine:=by rw[we,bv];rfl'
 rw[list_sort_plain];refine ah (bE hD rfl ?_);have sb:=bL s.heap D (bj λ_=>(#[]:iu));have o1:=dC hD λ_=>(#[]:iu);refine ah (cS hD rfl ?_ (by rw[wq];exact sz) (wy _));have I1:Inv X π σ H { s with heap:=s.heap.update D (bj λ_=>(#[]:iu)) }:=I.turnedL (t':=s.toks) (ch:=[D]) (λb o hb e=>(sb.2 b (by simpa using hb)).trans e) (λb hb=>by rw[wv.mp hb];exact fD);refine ah (fU o1 rfl ?_);refine ah (fX ?_ (by show(ts.map ak).length<=_;exact sz));refine ah (eB ?_ (wy _));refine cj ?_;generalize hg:s.heap.update D (bj λ_=>(#[]:iu))=g at *;have zg:g.objs.size=s.heap.objs.size:=sb.1;have I2:Inv X π σ H { s with heap:=(g.push (bh "tuple" (ts.map ak).toArray 0)).push (bh "list" #[] 0) }:=I1.kept (t':=s.toks) λb o e=>wc _ (wc _ e);generalize (if(#[].size==(eT ak ts).toArray.size)=ae then n0 else n0+1)=e1 at o1|-;have o2:((g.push (bh "tuple" (ts.map ak).toArray 0)).push (bh "list" #[] 0)).get? D=aa (bh "list" #[] e1):=wc _ (wc _ o1);show ay (model X.prog X.w) A _ P E { s with heap:=(g.push (bh "tuple" (ts.map ak).toArray 0)).push (bh "list" #[] 0) };generalize (g.push (bh "tuple" (ts.map ak).toArray 0)).push (bh "list" #[] 0)=h2 at I2 o2|-;have ez:eU (λx:aQ=>x.2) (fw (ts.map ak))=(ts.map ak).toArray:=by
   rw[<-Array.toList_inj,Array.toList_map,gQ];exact List.map_snd_zip (wf _)
 have sb2:=bL h2 D (bj λ_=>(ts.map ak).toArray);have oo:=dC o2 λ_=>(ts.map ak).toArray;have I3:Inv X π σ H { s with heap:=h2.update D (bj λ_=>(ts.map ak).toArray) }:=I2.turnedL (s:={ s with heap:=h2 }) (t':=s.toks) (ch:=[D]) (λb o hb e=>(sb2.2 b (by simpa using hb)).trans e) (λb hb=>by rw[wv.mp hb];exact fD);by_cases c:(ts.map ak).toArray.size<2
 .rw[ap c];refine ah (ao ?_);rw[ap c];refine ah (ao ?_);refine ah (fU o2 rfl ?_);show ay _ _ (Builtin.List.listUpdate (.ref D) (λ_=>eU (λx:aQ=>x.2) (fw (ts.map ak))) >>= λ_=>_) _ _ _;rw[ez];refine ah (cS o2 rfl ?_ (wy _) (by rw[wq];exact vV sz));show ay _ _ (if(e1 != e1)=ae then _ else _) _ _ _;rw[ax (by simp)];exact ao (z _ _ I3 oo)
 .rw[ax c];refine ah (OB (λv hv=>?_) (by rw[wq]at c;rfl') ?_)
  .obtain⟨t,ht,rfl⟩:=wl.mp hv;obtain⟨j,hj,rfl⟩:=wI ht;obtain⟨p,x,dd,sl,n,tk,h1,h2,h3,h4⟩:=pr.obj I2 (wa hj);exact⟨_,dd,sl,n,p.1,tk,.ref x,rfl,h4⟩
  .rw[ax c];have rn:=OC (E:=E) (A:=A) I2 pr hu (Q:=λ_ st=>aw st=fw (ts.map ak)/\ci st=aj) λst' a b=>⟨a,b⟩;refine ah (bt rn ?_ λ_ _ z=>z);rintro⟨u,st⟩ s' ⟨rfl,h1,h2⟩;have h1:aw st=fw (ts.map ak):=h1;have h2:ci st=aj:=h2;refine ah (fU o2 rfl ?_);show ay _ _ (Builtin.List.listUpdate (.ref D) (λ_=>eU (λx:aQ=>x.2) (aw st)) >>= λ_=>_) _ _ _;rw[h1,ez];refine ah (cS o2 rfl ?_ (wy _) (by rw[wq];exact vV sz));rw[h2];show ay _ _ (if(e1 != e1)=ae then _ else _) _ _ _;rw[ax (by simp)];exact ao (z _ _ I3 oo)
theorem OE{l:Addr}{Q:VK}(I:Inv X π σ H s)(hl:H l=aa (.lst (ts.map V.ref)))(pr:PrAt X.K H ts ps)(hu:X.A.units+64<dk)
  (z:∀D,H D=aj->Q (.ref D) (upd H D (.lst (ts.map V.ref)))) :
  ay (model X.prog X.w) X.A (call (.builtin "sorted") [.ref l]) (EP X π σ Q) X.xe s:=by
 obtain⟨its,rv,pl,hz⟩:=I.list (SqL.of (K:=X.K) hl);have ei:=DL rv;subst ei;have h64:=pr.few;have sz:(ts.map ak).length<=sizeLine:=by rw[we,bv];rfl'
 refine Calls.call_function_entry kind_sorted plain_sorted entry_sorted (args_sorted1 _) ?_;unfold Builtin.«sorted»;refine ah (m:=checkCount "sorted" 1 1 _) (ao ?_);refine ah (collect_list pl.isList ?_ (by simpa using sz));refine ah (eB ?_ (by simpa using sz));generalize hg:(s.heap.push (bh "list" #[] 0)).update s.heap.objs.size (bj (·++(ts.map ak).toArray))=g;have zg:g.objs.size=s.heap.objs.size+1:=by rw[<-hg,w06,size_push']
 have kg:∀b o,s.heap.get? b=aa o->g.get? b=aa o:=λb o e=>by
  have hlt:=wm e;rw[<-hg,uU _ _ _ _ (wD hlt),uz _ _ _ (wD hlt)];exact e
 have I1:Inv X π σ H { s with heap:=g.push (bh "list" (ts.map ak).toArray 0) }:=I.kept (t':=s.toks) λb o e=>wc _ (kg b o e);have oD:(g.push (bh "list" (ts.map ak).toArray 0)).get? g.objs.size=aa (bh "list" (ts.map ak).toArray 0):=wo _ rfl;have ge:s.heap.objs.size<=g.objs.size:=()
 have hn:H g.objs.size=aj:=I.hok.fresh ge;refine ah (cj (dD slot_list_sort ⟨_,oD,rfl⟩ entry_list_sort (OD (s:={ s with heap:=g.push (bh "list" (ts.map ak).toArray 0) }) I1 pr (by show X.A.units+1+1+8<dk;rfl') oD (I.fpOk ge hn) λs2 c I2 o2=>⟨_,rfl,?_⟩) (args_list_sort _)));exact ao ⟨_,rfl,⟨.ref g.objs.size,_,I2.track hn ⟨hn,(I.fpOk ge hn).2⟩ (wu I.sz ge) (by simpa using o2) (DM ts) (by rw[we,bv];rfl'),rfl,z _ hn⟩⟩
end
def KW(ds:iC):Prop:=∃ps:List (Int×aH),ds=ps.map (λp=>.tup [.int p.1,L p.2])/\(ps.Pairwise λp q=>T4 p q=ae)/\ps.length<4096
noncomputable def Hg(F:FE):FE:=λρ=>(F ρ).bind λx=>match x.2 with
 |.lst ds=>@ite _ (KW ds) (vP _) (aa (.sh,.lst ds)) aj
 |_=>aj
theorem TH{F:FE}{ρ:Rho}{f:Fl}{ps:List (Int×aH)}(e:F ρ=aa (f,.lst (ps.map λp=>.tup [.int p.1,L p.2])))(up:ps.Pairwise λp q=>T4 p q=ae)(few:ps.length<4096):Hg F ρ=aa (.sh,.lst (ps.map λp=>.tup [.int p.1,L p.2])):=by
 unfold Hg;rw[e];show @ite _ _ (vP _) _ _=_;rw[ap ⟨ps,rfl,up,few⟩]
theorem Zm{X:Cx}(hu:X.A.units+64<dk):Ao X (.builtin "sorted") (λxs H Q=>∃l ts ps,xs=[.ref l]/\H l=aa (.lst (ts.map V.ref))/\PrAt X.K H ts ps/\∀D,H D=aj->Q (.ref D) (upd H D (.lst (ts.map V.ref)))):=by
 rintro π s σ H vs us Q I rv ⟨l,ts,ps,rfl,hl,pr,z⟩;obtain⟨u,rfl,ru⟩:=rv.one;obtain rfl:u=ak l:=ru;exact OE I hl pr hu z
theorem Sy:∀{vs:iD},(∀v∈vs,∃t,v=V.ref t)->∃ts:ig,vs=ts.map V.ref
 |[],_=>⟨[],rfl⟩
 |v::vs,h=>by
  obtain⟨t,rfl⟩:=h v wd;obtain⟨ts,rfl⟩:=Sy λu hu=>h u (wb _ hu);exact⟨t::ts,rfl⟩
theorem Zn{X:Cx}{e:aV}{p pos:Pos}{F:FE}(hu:X.A.units+64<dk)(hm:X.mg "sorted"=aj)(he:PF X e F)(hg:Gl X "sorted":=by rfl)(hst:au [e] X.env=(ag,eval e X.env)::au [] X.env:=by rfl)(hpl:(bZ pos (au [] X.env)).any (·.1)=ag:=by rfl):PF X (.Call (.Name "sorted" p) [e] [] pos) (Hg F):=
 (CB (Zm hu) hg hm (by decide +kernel) (m9 he A4 hst) (by decide) (by decide) hst hpl).imp fun σ H Q hZ=>by
  obtain⟨ρ,f,d,rs,e0,k⟩:=hZ;obtain⟨⟨f0,d0⟩,e1,e2⟩:=bind_some e0;dsimp only at e2;cases d0 with
  |lst ds=>
   have e2:@ite _ (KW ds) (vP _) (aa (Fl.sh,Dt.lst ds)) aj=aa (f,d):=e2;by_cases c:KW ds
   .rw[ap c]at e2;obtain⟨rfl,rfl⟩:=fH (aM e2);refine⟨ρ,f0,_,rs,e1,λv H1 s1 r1=>?_⟩;obtain⟨l,vs,rfl,_,hl,rv⟩:=Rp.lst_.mp r1.sh;obtain⟨ps,rfl,up,few⟩:=c;obtain⟨ts,rfl⟩:=Sy (rv.refs λd hd=>by obtain⟨p,_,rfl⟩:=wl.mp hd;exact⟨_,rfl⟩);have ln:=rv.length;rw[we,we]at ln;have rv1:=Rps.mono _ l9 rv;refine⟨l,ts,ps,rfl,hl,⟨ln.symm,λj t p h1 h2=>?_,up,()⟩,λD hD=>k _ _ (s1.trans (m6 hD)) ?_⟩
    .obtain⟨v,g1,g2⟩:=rv1.get (i:=j) (d:=.tup [.int p.1,L p.2]) (by rw[wx,h2];rfl);rw[wx,h1]at g1;obtain rfl:=aM g1;obtain⟨f,ws,ef,sq,rs⟩:=Rp.tup_.mp g2;injection ef with ef
     subst ef;obtain⟨w0,t1,rfl,r0,rs⟩:=Rps.cons_.mp rs;obtain⟨w1,t2,rfl,r1,rs⟩:=Rps.cons_.mp rs;have en:=Rps.nil_.mp rs;have ew:=Rp.int_.mp r0;subst en ew;obtain⟨x,xs,rfl,_,hx,rx⟩:=Rp.lst_.mp r1;have rx:=Rps.ints.mp rx;subst rx;exact⟨x,sq,hx⟩
    .refine Rp.lst_.mpr ⟨D,_,rfl,rfl,j6,Rps.mono _ (λb o eb=>?_) rv⟩;obtain⟨n1,eb⟩:=B2 eb;have:b≠D:=A0 eb hD;rw[i8 (by simpa using this),i7 this];exact eb
   .rw[ax c]at e2;cases e2
  |_=>cases e2
end L2
end
section
namespace L2
theorem Mx{n M:Nat}{low:aH->aH}{steps:aA}{told:List Ent}(g:Geo n low steps M)(f:Fin n low told):∀(m:Nat)(e:Ent),e∈told->sz e.2.2=m->∀k,k<=m->∃e'∈told,sz e'.2.2=k
 |0,e,he,hm,k,hk=>⟨e,he,()⟩
 |m+1,e,he,hm,k,hk=>by
  by_cases c:k=m+1
  .exact⟨e,he,()⟩
  obtain⟨b1,b2,b3⟩:=f.ent e he;obtain⟨b',t,hb',ht,eb,es⟩:=g.back e.2.2 b1 ();obtain⟨e',he',d1,d2⟩:=f.all b' hb';obtain⟨f1,f2,f3⟩:=f.ent e' he';have ln:(addR e'.2.2 t).length=n:=by rw[T1 (by rw[f1,g.len t ht]),f1]
  have cg:low (addR e'.2.2 t)=low (addR b' t):=g.congr _ _ _ f1 hb' ht (by rw[<-f2,d1]);obtain⟨e2,he2,h1,h2⟩:=f.all _ ln;have:e2=e:=Sx f he2 he (by rw[h1,cg,<-eb,<-b2]);subst this;have nr:=g.near e'.2.2 t f1 ht;exact Mx g f m e' he' () k ()
theorem DS{n M:Nat}{low:aH->aH}{steps:aA}{told:List Ent}(g:Geo n low steps M)(f:Fin n low told){e:Ent}(he:e∈told):sz e.2.2<told.length:=by
 have:=Lat.G5 (l:=aT (sz e.2.2+1)) (m:=told.map λe=>sz e.2.2) id List.nodup_range (λ_ _ _ _ e=>e) λk hk=>by
  obtain⟨e',he',z⟩:=Mx g f _ e he rfl k (by have:=wQ.mp hk;rfl');exact wl.mpr ⟨e',he',z⟩
 rw[vW,we]at this;rfl'
theorem Zo{n:Nat}{low:aH->aH}{told:List Ent}(f:Fin n low told):(told.map λe=>(e.2.1,e.1)).Pairwise λp q=>(if p.1=q.1 then HT.lexLt p.2 q.2 else decide (p.1<q.1))=ae:=by
 rw[vi,wC];intro i j hi hj ij;have h:=fin_up f ij (wa hi) (wa hj);rcases h with h|⟨h1,h2⟩
 .rw[ax ()];exact aI h
 .rw[ap h1];exact h2
end L2
end
end
section
set_option maxHeartbeats 1000000
namespace K29
open St
open PySem L2
noncomputable section
abbrev g0a:ie:=["_law_script","_law_drawn","_law_hall_here","_law_basket","_law_many","_law_entries","_law_names","_law_one","_law_found","_law_rows"]
abbrev g0b:ie:=["_law_script","_law_at","_law_size","_law_mode"]
abbrev g0c:ie:=["_law_one","_law_other","_law_times"]
abbrev g0d:ie:=["_law_script"]
abbrev g0e:ie:=["hall"]
abbrev g0f:ie:=["one","other"]
abbrev g0g:ie:=["hall","basket"]
abbrev g0h:ie:=["a","b","upper","lower","often","left"]
abbrev g0i:ie:=["_law_rows","_law_kinds","_law_entry"]
abbrev g0j:ie:=["hall","rungs","steps","seen","level","told","many"]
abbrev g0k:ie:=["row","rungs"]
abbrev g0l:ie:=["_law_script","_law_mode","_law_kinds","_law_many"]
abbrev g0m:ie:=["level","steps","rungs","seen"]
abbrev g0n:ie:=["_law_script","_law_k"]
abbrev g0o:ie:=["_law_hall_here","_law_basket"]
abbrev g0p:ie:=["length","one_at"]
abbrev g0q:ie:=["rungs","row","found","left","places","pair"]
abbrev g0r:ie:=["value","length"]
abbrev g0s:ie:=["_law_rows","_law_row_here"]
abbrev g0t:ie:=["value","kinds"]
abbrev g0u:ie:=["hall","basket","told","sought","found"]
abbrev g0v:ie:=["a","b"]
abbrev g0w:ie:=["reached","basket","many"]
abbrev g0x:ie:=["kinds","rows"]
abbrev g0y:ie:=["_law_found","_law_size"]
abbrev g0z:ie:=["row","often"]
abbrev g1a:ie:=["_law_cell","_law_mode"]
abbrev g1b:ie:=["value"]
abbrev g1c:ie:=["kinds","basket"]
abbrev g1d:ie:=["rungs"]
abbrev g1e:ie:=["place","rung","left"]
abbrev g1f:ie:=["_law_row_here"]
abbrev g1g:ie:=["_law_rows"]
abbrev g1h:ie:=["bill","kinds"]
abbrev g1i:ie:=["kinds"]
abbrev g1j:ie:=["row"]
abbrev g1k:ie:=["_law_found"]
abbrev g1l:ie:=["kinds","bills"]
abbrev g1m:ie:=["length"]
abbrev g1n:ie:=["rungs","row"]
abbrev g1o:ie:=["rung","row"]
def h_HallError:Nat->Bool:=(λn=>n==6)
def h_TooMany:Nat->Bool:=(λn=>n==6)
def Cg:FS:=(sRet (vAnd (fIsi "int" (fN 0)) (vNot (fIsi "bool" (fN 0)))))
def M7:FC:=cOf 1 1 ae Cg
def Hi:FS:=(sSeq (sIf (fOr (fNot (fTru (fIsi "list" (fN 0)))) (j9 (fOp opNe (fBlt bLen (b8 (fN 0) fNil)) (fN 1)))) (sRet (fC (.bl ag))) t9)
 (sRet (fBlt bAll (b8 (k7 1 [] (iSeq (fN 0)) (Tg.one 0) fYes (f9 ae M7 (b8 (fN 0) fNil))) fNil))))
def AA:FC:=cOf 2 2 ae Hi
def DT:FS:=(sRet (k7 1 [] (u9 (fN 0)) (Tg.one 0) fYes (fC (.int 0))))
def Bs:FC:=cOf 1 1 ae DT
def Ch:FS:=(sRet (k7 1 [1] (u9 (fN 0)) (Tg.one 0) fYes (fIf (j9 (fOp opEq (fN 0) (fN 1))) (fC (.int 1)) (fC (.int 0)))))
def T5:FC:=cOf 2 2 ae Ch
def KY:FS:=(sRet (k7 2 [] (iZip (fN 0) (fN 1)) (Tg.many [0,1]) fYes (fOp u6 (fN 0) (fN 1))))
def Q4:FC:=cOf 2 2 ae KY
def KZ:FS:=(sRet (k7 2 [] (iZip (fN 0) (fN 1)) (Tg.many [0,1]) fYes (fOp K7 (fN 0) (fN 1))))
def Bt:FC:=cOf 2 2 ae KZ
def Hj:FS:=(sRet (k7 1 [1] (iSeq (fN 0)) (Tg.one 0) fYes (fOp G1 (fN 1) (fN 0))))
def E3:FC:=cOf 2 2 ae Hj
def DU:FS:=(sSeq (sFor [] (CT (fN 0)) (Tg.many [1,2])
 (sIf (j9 (fOp opNe (fN 2) (fC (.int 0)))) (sRet (fN 1)) t9))
 (sRet (fBlt bLen (b8 (fN 0) fNil))))
def j7:FC:=cOf 1 3 ae DU
def AB:FS:=(sRet (vAnd (f9 ae M7 (b8 (fN 0) fNil)) (Kp opLe opLe (fC (.int 1)) (fN 0) (fC (.int 6)))))
def U8:FC:=cOf 1 1 ae AB
def DV:FS:=(sRet (vAnd (f9 ae AA (b8 (fN 0) (b8 (fN 1) fNil))) (fBlt bAll (b8 (k7 1 [] (iSeq (fN 0)) (Tg.one 0) fYes (fOp opLt (fBlt bAbs (b8 (fN 0) fNil)) (fOp IJ (fC (.int 10)) (fC (.int 30))))) fNil))))
def Bu:FC:=cOf 2 2 ae DV
def Z4:FS:=(sIf (fNot (fTru (f9 ae U8 (b8 (fN 0) fNil)))) Y9 t9)
def Q5:FC:=cOf 1 1 ae Z4
def AC:FS:=(sIf (fNot (fTru (f9 ae Bu (b8 (fN 0) (b8 (fN 1) fNil))))) Y9 t9)
def K2:FC:=cOf 2 2 ae AC
def DW:FS:=(sRet (fTup (b8 (fN 0) (b8 (fBlt bTup (b8 (k7 1 [] (iSeq (fN 1)) (Tg.one 0) fYes (fBlt bTup (b8 (fN 0) fNil))) fNil)) fNil))))
def Bv:FC:=cOf 2 2 ae DW
def DX:FS:=(sSeq (Ax (f9 ae Q5 (b8 (fN 0) fNil)))
 (sSeq (sIf (fOr (fNot (fTru (fIsi "list" (fN 1)))) (j9 (fOp opGt (fBlt bLen (b8 (fN 1) fNil)) (fC (.int 8))))) Y9 t9)
 (sSeq (sFor [] (iSeq (fN 1)) (Tg.one 2)
 (Ax (f9 ae K2 (b8 (fN 2) (b8 (fN 0) fNil)))))
 (sRet (f9 ae Bv (b8 (fN 0) (b8 (fN 1) fNil)))))))
def X0:FC:=cOf 2 3 ae DX
def M8:FS:=(sIf (fNot (fTru (f9 ae AA (b8 (fN 1) (b8 (fN 0) fNil))))) Y9 t9)
def F6:FC:=cOf 2 2 ae M8
def W0:FS:=(Ax (f9 ae F6 (b8 (fAt (fN 0) (fC (.int 0))) (b8 (fN 1) fNil))))
def G8:FC:=cOf 2 2 ae W0
def Hk:FS:=(sRet (f9 ae Bs (b8 (fAt (fN 0) (fC (.int 0))) fNil)))
def X1:FC:=cOf 1 1 ae Hk
def Hl:FS:=(sSeq (sSet [] 2 (fLst (b8 (fN 0) (b8 (fC (.int 1)) (b8 (fC (.int 0)) fNil)))))
 (sSeq (sSet [] 3 (fLst (b8 (fN 1) (b8 (fC (.int 0)) (b8 (fC (.int 1)) fNil)))))
 (sSeq (S8 (j9 (fOp opNe (fAt (fN 3) (fC (.int 0))) (fC (.int 0)))) (sSeq (sSet [] 4 (fOp Ah (fAt (fN 2) (fC (.int 0))) (fAt (fN 3) (fC (.int 0)))))
 (sSeq (sSet [] 5 (k7 1 [2,4,3] (u9 (fC (.int 3))) (Tg.one 0) fYes (fOp K7 (fAt (fN 1) (fN 0)) (fOp G1 (fN 2) (fAt (fN 3) (fN 0))))))
 (sSeq (sSet [] 2 (fN 3))
 (sSet [] 3 (fN 5))))))
 (sSeq (sIf (j9 (fOp opLt (fAt (fN 2) (fC (.int 0))) (fC (.int 0)))) (sSet [] 2 (k7 1 [] (iSeq (fN 2)) (Tg.one 0) fYes (fNeg (fN 0)))) t9)
 (sRet (fBlt bTup (b8 (fN 2) fNil)))))))
def Hm:FC:=cOf 2 6 ae Hl
def DY:FS:=(sSeq (sSet [] 1 (fC (.int 1)))
 (sSeq (sFor [] (iSeq (fN 0)) (Tg.one 2)
 (sSet [] 1 (fOp G1 (fN 1) (fN 2))))
 (sRet (fN 1))))
def Bw:FC:=cOf 1 3 ae DY
def Ci:FS:=(sSeq (sSet [] 2 (fBlt bLst (b8 (fN 0) fNil)))
 (sSeq (sOwn 3 (fLst fNil))
 (sSeq (sFor [] (iSeq (fN 1)) (Tg.one 4)
 (sSeq (sSet [] 5 (f9 ae j7 (b8 (fN 4) fNil)))
 (sSeq (sSet [] 6 (fOp Ah (fAt (fN 2) (fN 5)) (fAt (fN 4) (fN 5))))
 (sSeq (sIf (j9 (fOp opNe (fN 6) (fC (.int 0)))) (sSet [] 2 (f9 ae Bt (b8 (fN 2) (b8 (f9 ae E3 (b8 (fN 4) (b8 (fN 6) fNil))) fNil)))) t9)
 (sWr wApp 3 (fN 6))))))
 (sRet (fTup (b8 (fN 3) (b8 (fN 2) fNil)))))))
def Z5:FC:=cOf 2 7 ae Ci
def DZ:FS:=(sRet (fAt (f9 ae Z5 (b8 (fN 0) (b8 (fN 1) fNil))) (fC (.int 1))))
def o0:FC:=cOf 2 2 ae DZ
def Ea:FS:=(sSeq (sSet [] 2 (f9 ae j7 (b8 (fN 0) fNil)))
 (sSeq (sSet [] 3 (f9 ae Hm (b8 (fAt (fN 0) (fN 2)) (b8 (fAt (fN 1) (fN 2)) fNil))))
 (sSeq (sSet [] 4 (f9 ae Q4 (b8 (f9 ae E3 (b8 (fN 0) (b8 (fAt (fN 3) (fC (.int 1))) fNil))) (b8 (f9 ae E3 (b8 (fN 1) (b8 (fAt (fN 3) (fC (.int 2))) fNil))) fNil))))
 (sSeq (sSet [] 5 (f9 ae Bt (b8 (f9 ae E3 (b8 (fN 1) (b8 (fOp Ah (fAt (fN 0) (fN 2)) (fAt (fN 3) (fC (.int 0)))) fNil))) (b8 (f9 ae E3 (b8 (fN 0) (b8 (fOp Ah (fAt (fN 1) (fN 2)) (fAt (fN 3) (fC (.int 0)))) fNil))) fNil))))
 (sRet (fTup (b8 (fN 4) (b8 (fN 5) fNil))))))))
def R6:FC:=cOf 2 6 ae Ea
def AD:FS:=(sRet (fIf (j9 (fOp opLt (fAt (fN 0) (f9 ae j7 (b8 (fN 0) fNil))) (fC (.int 0)))) (f9 ae E3 (b8 (fN 0) (b8 (fNeg (fC (.int 1))) fNil))) (fBlt bLst (b8 (fN 0) fNil))))
def B7:FC:=cOf 1 1 ae AD
def T6:FS:=(sSeq (sOwn 2 (fBlt bLst (b8 (fN 0) fNil)))
 (sSeq (U4 3 (f9 ae o0 (b8 (fN 1) (b8 (fN 2) fNil))))
 (sSeq (S8 (j9 (fOp opLt (f9 ae j7 (b8 (fN 3) fNil)) (fBlt bLen (b8 (fN 3) fNil)))) (sSeq (U4 4 (k7 2 [3] (CT (fN 2)) (Tg.many [0,1]) (j9 (fOp opEq (f9 ae j7 (b8 (fN 1) fNil)) (f9 ae j7 (b8 (fN 2) fNil)))) (fN 0)))
 (sSeq (sIf (j9 (fOp opEq (fBlt bLen (b8 (fN 4) fNil)) (fC (.int 0)))) (sRet (Ca j7 (fOp u6 (fN 2) (fLst (b8 (f9 ae B7 (b8 (fN 3) fNil)) fNil))))) t9)
 (sSeq (U4 5 (f9 ae R6 (b8 (fAt (fN 2) (fAt (fN 4) (fC (.int 0)))) (b8 (fN 3) fNil))))
 (sSeq (sPut 2 (fAt (fN 4) (fC (.int 0))) (fAt (fN 5) (fC (.int 0))))
 (U4 3 (f9 ae o0 (b8 (fAt (fN 5) (fC (.int 1))) (b8 (fN 2) fNil)))))))))
 (sRet (fN 2)))))
def M9:FC:=cOf 2 6 ag T6
def Hn:FS:=(sSeq (sOwn 1 (fLst fNil))
 (sSeq (sFor [] (iRev (fN 0)) (Tg.one 2)
 (sWrA GH 1 (f9 ae o0 (b8 (fN 2) (b8 (fN 1) fNil)))))
 (sRet (fN 1))))
def AF:FC:=cOf 1 3 ae Hn
def Eb:FS:=(sSeq (sSet [] 1 (fLst fNil))
 (sSeq (sFor [] (iSeq (fN 0)) (Tg.one 2)
 (sSet [] 1 (f9 ae AF (b8 (f9 ag M9 (b8 (fN 1) (b8 (fN 2) fNil))) fNil))))
 (sRet (fN 1))))
def X2:FC:=cOf 1 3 ae Eb
def P8:FS:=(sRet (f9 ae Bw (b8 (k7 1 [] (iSeq (fN 0)) (Tg.one 0) fYes (fAt (fN 0) (f9 ae j7 (b8 (fN 0) fNil)))) fNil)))
def J3:FC:=cOf 1 1 ae P8
def La:FS:=(sRet (f9 ae X2 (b8 (fAt (fN 0) (fC (.int 1))) fNil)))
def D7:FC:=cOf 1 1 ae La
def Cj:FS:=(sSeq (sSet [] 1 (f9 ae D7 (b8 (fN 0) fNil)))
 (sSeq (sIf (j9 (fOp opLt (fBlt bLen (b8 (fN 1) fNil)) (fAt (fN 0) (fC (.int 0))))) (sRet (fC .non)) t9)
 (sRet (f9 ae J3 (b8 (fN 1) fNil)))))
def F0:FC:=cOf 1 2 ae Cj
def Ck:FS:=(sSeq (sSet [] 1 (f9 ae F0 (b8 (fN 0) fNil)))
 (sIf (fOr (j9 (fOp Au (fN 1) (fC .non))) (j9 (fOp opGt (fN 1) (fC (.int 200))))) (Vg 6) t9))
def N2:FX:=xOf 1 2 ae Ck
def Cl:FS:=(sSeq (sSet [] 1 (f9 ae F0 (b8 (fN 0) fNil)))
 (sIf (fOr (j9 (fOp Au (fN 1) (fC .non))) (j9 (fOp opGt (fN 1) (fC (.int 200))))) Y9 t9))
def N3:FC:=cOf 1 2 ae Cl
def T7:FS:=(sSeq (sSet [] 1 (k7 1 [0] (u9 (fN 0)) (Tg.one 0) fYes (f9 ae T5 (b8 (fN 1) (b8 (fN 0) fNil)))))
 (sRet (fOp u6 (fN 1) (k7 1 [] (iSeq (fN 1)) (Tg.one 0) fYes (f9 ae E3 (b8 (fN 0) (b8 (fNeg (fC (.int 1))) fNil)))))))
def D3:FC:=cOf 1 2 ag T7
def Ec:FS:=(sSeq (Kx N2 (b8 (fN 0) fNil))
 Y9)
def X3:FX:=xOf 1 7 ag Ec
def K3:FC:=λds=>@dite _ (∃d,Mr N3 D7 D3 X1 Q4 o0 ds d) (vP _) (λh=>aa (uJ h)) λ_=>aj
def Ed:FS:=(sSeq (Ax (f9 ae G8 (b8 (fN 0) (b8 (fN 1) fNil))))
 (sSeq (sEx (Sg X3 (b8 (fN 0) fNil)))
 Y9))
def Ee:FX:=xOf 2 5 ag Ed
def Ef:FS:=(sSeq (Ax (f9 ae G8 (b8 (fN 0) (b8 (fN 1) fNil))))
 (sSeq (sSet [] 2 (f9 ag K3 (b8 (fN 0) fNil)))
 (sSeq (sSet [] 3 (f9 ae o0 (b8 (fN 1) (b8 (f9 ae D7 (b8 (fN 0) fNil)) fNil))))
 (sSeq (sSet [] 4 (k7 1 [3] (iSeq (fN 2)) (Tg.one 0) (j9 (fOp opEq (fAt (fN 0) (fC (.int 0))) (fN 1))) (fAt (fN 0) (fC (.int 2)))))
 (sRet (fAt (fN 4) (fC (.int 0))))))))
def Bx:FC:=cOf 2 5 ag Ef
def AG:FS:=(sSeq (sIf (j9 (fOp opLt (fN 1) (fBlt bLen (b8 (fN 0) fNil)))) (sRet (fAt (fN 0) (fN 1))) t9)
 (sSeq (sIf (j9 (fOp opEq (fN 0) (fLst fNil))) (sRet (fC (.int 0))) t9)
 (sRet (fOp u6 (fOp G1 (fAt (fN 0) (fOp G4 (fN 1) (fBlt bLen (b8 (fN 0) fNil)))) (fC (.int 31))) (fN 1)))))
def k6:FC:=cOf 2 2 ae AG
def Eg:FS:=(sRet (vAnd (fIsi "int" (fN 0)) (vNot (fIsi "bool" (fN 0)))))
def R7:FC:=cOf 1 1 ae Eg
def Cm:FS:=(sSeq (sIf (fOr (fNot (fTru (fIsi "list" (fN 0)))) (j9 (fOp opNe (fBlt bLen (b8 (fN 0) fNil)) (fN 1)))) (sRet (fC (.bl ag))) t9)
 (sSeq (sFor [] (iSeq (fN 0)) (Tg.one 2)
 (sIf (fNot (fTru (f9 ae R7 (b8 (fN 2) fNil)))) (sRet (fC (.bl ag))) t9))
 (sRet (fC (.bl ae)))))
def Z6:FC:=cOf 2 3 ae Cm
def T8:FS:=(sSeq (sIf (j9 (fOp opEq (fN 1) (fC (.int 2)))) (sSeq (sSet [] 2 (fOp G4 (fN 0) (fOp IJ (fC (.int 10)) (fC (.int 30)))))
 (sSeq (sIf (j9 (fOp opEq (fOp G4 (fOp Ah (fN 0) (fOp IJ (fC (.int 10)) (fC (.int 30)))) (fC (.int 2))) (fC (.int 1)))) (sRet (fNeg (fN 2))) t9)
 (sRet (fN 2)))) t9)
 (sSeq (sSet [] 3 (fAt (fLst (b8 (fC (.int 9)) (b8 (fC (.int 61)) fNil))) (fN 1)))
 (sSeq (sSet [] 2 (fOp G4 (fN 0) (fN 3)))
 (sSeq (sIf (j9 (fOp opGt (fN 2) (fOp Ah (fN 3) (fC (.int 2))))) (sRet (fOp K7 (fN 2) (fN 3))) t9)
 (sRet (fN 2))))))
def N4:FC:=cOf 2 4 ae T8
def Lb:FS:=(sRet (k7 1 [0,1,3] (u9 (fN 2)) (Tg.one 0) fYes (f9 ae N4 (b8 (f9 ae k6 (b8 (fN 1) (b8 (fOp u6 (fN 2) (fN 0)) fNil))) (b8 (fN 3) fNil)))))
def U9:FC:=cOf 4 4 ae Lb
def Jm:FS:=(sSeq (sSet [] 1 (fAt (fLst (b8 (fC (.int 0)) (b8 (fC (.int 0)) (b8 (fC (.int 0)) (b8 (fC (.int 1)) (b8 (fC (.int 2)) fNil)))))) (fOp G4 (f9 ae k6 (b8 (fN 0) (b8 (fC (.int 2)) fNil))) (fC (.int 5)))))
 (sSeq (sSet [] 2 (fOp u6 (fC (.int 1)) (fOp G4 (f9 ae k6 (b8 (fN 0) (b8 (fC (.int 0)) fNil))) (fC (.int 4)))))
 (sSeq (sSet [] 3 (fOp G4 (f9 ae k6 (b8 (fN 0) (b8 (fC (.int 1)) fNil))) (fC (.int 5))))
 (sSeq (sIf (j9 (fOp opEq (fOp G4 (f9 ae k6 (b8 (fN 0) (b8 (fC (.int 3)) fNil))) (fC (.int 7))) (fC (.int 6)))) (sSeq (sSet [] 2 (fC (.int 6)))
 (sSeq (sSet [] 3 (fC (.int 8)))
 (sSet [] 1 (fC (.int 0))))) t9)
 (sSeq (sIf (j9 (fOp opEq (fN 1) (fC (.int 2)))) (sSeq (sSet [] 2 (fOp u6 (fC (.int 1)) (fOp G4 (fN 2) (fC (.int 2)))))
 (sSet [] 3 (fOp G4 (fN 3) (fC (.int 4))))) t9)
 (sRet (fTup (b8 (fN 2) (b8 (k7 1 [0,2,1] (u9 (fN 3)) (Tg.one 0) fYes (f9 ae U9 (b8 (fN 1) (b8 (fOp u6 (fC (.int 8)) (fOp G1 (fN 2) (fN 0))) (b8 (fN 2) (b8 (fN 3) fNil)))))) fNil)))))))))
def Eh:FC:=cOf 1 4 ae Jm
def Ho:FS:=(sRet (k7 1 [0,2,1] (u9 (fBlt bLen (b8 (fN 0) fNil))) (Tg.one 0) fYes (fOp u6 (fAt (fN 1) (fN 0)) (fOp G1 (fN 2) (fAt (fN 3) (fN 0))))))
def AH:FC:=cOf 3 3 ae Ho
def Hq:FS:=(sSeq (sSet [] 1 (fC (.int 0)))
 (sSeq (S8 (fAnd (j9 (fOp opLt (fN 1) (fBlt bLen (b8 (fN 0) fNil)))) (j9 (fOp opEq (fAt (fN 0) (fN 1)) (fC (.int 0))))) (sSet [] 1 (fOp u6 (fN 1) (fC (.int 1)))))
 (sRet (fN 1))))
def AI:FC:=cOf 1 2 ae Hq
def Hr:FS:=(sSeq (sSet [] 2 (fBlt bLst (b8 (fN 1) fNil)))
 (sSeq (sFor [] (iSeq (fN 0)) (Tg.one 3)
 (sSeq (sSet [] 4 (f9 ae AI (b8 (fN 3) fNil)))
 (sSet [] 2 (f9 ae AH (b8 (fN 2) (b8 (fN 3) (b8 (fNeg (fOp Ah (fAt (fN 2) (fN 4)) (fAt (fN 3) (fN 4)))) fNil)))))))
 (sRet (fN 2))))
def L5:FC:=cOf 2 5 ae Hr
def Cn:FS:=(sRet (k7 1 [] (iSeq (fN 0)) (Tg.one 0) fYes (fBlt bLst (b8 (fN 0) fNil))))
def Z7:FC:=cOf 1 1 ae Cn
def AJ:FS:=(sSeq (sSet [] 2 (fC (.int 0)))
 (sSeq (sTry X3 (b8 (fN 0) fNil) h_TooMany (sSet [] 2 (fOp u6 (fN 2) (fC (.int 1)))))
 (sSeq (sTry Ee (b8 (fN 0) (b8 (fN 1) fNil)) h_TooMany (sSet [] 2 (fOp u6 (fN 2) (fC (.int 1)))))
 (sSeq (Kz X3 (b8 (fN 0) fNil) h_HallError 3 (sSet [] 2 (fOp u6 (fN 2) (fBlt bInt (b8 (fIsx 3) fNil)))))
 (sRet (fN 2))))))
def V0:FC:=cOf 2 4 ae AJ
def X4:FS:=(sSeq (sSet [] 1 (fOp G4 (f9 ae k6 (b8 (fN 0) (b8 (fC (.int 4)) fNil))) (fC (.int 5))))
 (sSeq (sIf (j9 (fOp opEq (fN 1) (fC (.int 4)))) (sRet (fTup (b8 (fC (.int 2)) (b8 (fLst (b8 (fLst (b8 (fC (.int 1)) (b8 (fOp K7 (fNeg (fC (.int 2))) (fOp G4 (f9 ae k6 (b8 (fN 0) (b8 (fC (.int 5)) fNil))) (fC (.int 40)))) fNil))) (b8 (fLst (b8 (fC (.int 0)) (b8 (fOp u6 (fC (.int 20)) (fOp G4 (f9 ae k6 (b8 (fN 0) (b8 (fC (.int 6)) fNil))) (fC (.int 180)))) fNil))) fNil))) fNil)))) t9)
 (sSeq (sIf (j9 (fOp opEq (fN 1) (fC (.int 0)))) (sRet (fTup (b8 (fC (.int 1)) (b8 (fLst (b8 (fLst (b8 (fOp u6 (fC (.int 190)) (fOp G4 (f9 ae k6 (b8 (fN 0) (b8 (fC (.int 5)) fNil))) (fC (.int 21)))) fNil)) fNil)) fNil)))) t9)
 (sSeq (sIf (j9 (fOp opEq (fN 1) (fC (.int 1)))) (sRet (fTup (b8 (fC (.int 2)) (b8 (fLst (b8 (fLst (b8 (fOp u6 (fC (.int 10)) (fOp G4 (f9 ae k6 (b8 (fN 0) (b8 (fC (.int 5)) fNil))) (fC (.int 11)))) (b8 (fC (.int 3)) fNil))) (b8 (fLst (b8 (fC (.int 0)) (b8 (fOp u6 (fC (.int 10)) (fOp G4 (f9 ae k6 (b8 (fN 0) (b8 (fC (.int 6)) fNil))) (fC (.int 11)))) fNil))) fNil))) fNil)))) t9)
 (sRet (f9 ae Eh (b8 (fN 0) fNil)))))))
def T9:FC:=cOf 1 2 ae X4
def Z8:FS:=(sSeq (sSet [] 3 (fBlt bSum (b8 (k7 1 [] (iSeq (fAt (fN 2) (fC (.int 2)))) (Tg.one 0) fYes (fBlt bAbs (b8 (fN 0) fNil))) fNil)))
 (sSeq (sIf (fOr (j9 (fOp opNe (fN 3) (fAt (fN 2) (fC (.int 1))))) (j9 (fOp opNe (f9 ae L5 (b8 (fN 0) (b8 (fAt (fN 2) (fC (.int 2))) fNil))) (fAt (fN 2) (fC (.int 0)))))) (sRet (fC (.bl ag))) t9)
 (sSeq (sFor [] (Y7 (fOp K7 (fC (.int 1)) (fN 3)) (fN 3)) (Tg.one 4)
 (sSeq (sSet [] 5 (fOp K7 (fOp K7 (fN 3) (fC (.int 1))) (fBlt bAbs (b8 (fN 4) fNil))))
 (sFor [] (Y7 (fOp G1 (fNeg (fN 5)) (fOp K7 (fN 1) (fC (.int 1)))) (fOp u6 (fOp G1 (fN 5) (fOp K7 (fN 1) (fC (.int 1)))) (fC (.int 1)))) (Tg.one 6)
 (sIf (j9 (fOp opEq (f9 ae L5 (b8 (fN 0) (b8 (fSl (fLst (b8 (fN 4) (b8 (fN 6) fNil))) FJ (RX (fN 1))) fNil))) (fAt (fN 2) (fC (.int 0))))) (sRet (fC (.bl ag))) t9))))
 (sRet (fC (.bl ae))))))
def Q6:FC:=cOf 3 7 ae Z8
def SA:FS:=(sSeq (sSet [] 1 (f9 ae T9 (b8 (fN 0) fNil)))
 (sSeq (sSet [] 2 (f9 ae X0 (b8 (fAt (fN 1) (fC (.int 0))) (b8 (f9 ae Z7 (b8 (fAt (fN 1) (fC (.int 1))) fNil)) fNil))))
 (sSeq (sSet [] 3 (f9 ae U9 (b8 (fN 0) (b8 (fC (.int 40)) (b8 (fAt (fN 1) (fC (.int 0))) (b8 (fC (.int 1)) fNil))))))
 (sSeq (sSet [] 4 (f9 ae F0 (b8 (fN 2) fNil)))
 (sSeq (sIf (fOr (j9 (fOp Au (fN 4) (fC .non))) (j9 (fOp opGt (fN 4) (fC (.int 200))))) (sRet (fOp opEq (f9 ae V0 (b8 (fN 2) (b8 (fBlt bLst (b8 (fN 3) fNil)) fNil))) (fC (.int 3)))) t9)
 (sSeq (sSet [] 5 (f9 ag K3 (b8 (fN 2) fNil)))
 (sSeq (sIf (j9 (fOp opNe (fBlt bLen (b8 (fN 5) fNil)) (fN 4))) (sRet (fC (.bl ag))) t9)
 (sSeq (sSet [] 6 (k7 1 [] (iSeq (fN 5)) (Tg.one 0) fYes (fTup (b8 (fAt (fN 0) (fC (.int 1))) (b8 (fAt (fN 0) (fC (.int 0))) fNil)))))
 (sSeq (sIf (j9 (fOp opNe (fN 6) (Hg (fN 6)))) (sRet (fC (.bl ag))) t9)
 (sSeq (sSet [] 7 (fAt (fN 5) (fOp G4 (f9 ae k6 (b8 (fN 0) (b8 (fC (.int 7)) fNil))) (fN 4))))
 (sSeq (sIf (fAnd (j9 (fOp opLt (fAt (fN 1) (fC (.int 0))) (fC (.int 3)))) (fNot (fTru (f9 ae Q6 (b8 (f9 ae D7 (b8 (fN 2) fNil)) (b8 (fAt (fN 1) (fC (.int 0))) (b8 (fN 7) fNil))))))) (sRet (fC (.bl ag))) t9)
 (sSeq (sSet [] 8 (f9 ag Bx (b8 (fN 2) (b8 (fBlt bLst (b8 (fN 3) fNil)) fNil))))
 (sSeq (sIf (fNot (fTru (f9 ae Z6 (b8 (fN 8) (b8 (fAt (fN 1) (fC (.int 0))) fNil))))) (sRet (fC (.bl ag))) t9)
 (sSeq (sSet [] 9 (f9 ae D7 (b8 (fN 2) fNil)))
 (sRet (fOp opEq (f9 ae L5 (b8 (fN 9) (b8 (fN 8) fNil))) (f9 ae L5 (b8 (fN 9) (b8 (fN 3) fNil)))))))))))))))))))
def Ht:FC:=cOf 1 10 ae SA
theorem A9(ns:aH)(k:Int)(h0:0<=k):k6 [.scr ns,.int k]=aa (.int (j8 ns k)):=by
 unfold k6 AG j8;by_cases h:k<ns.length
 .have e:atI ns k=aa (ns.getD k.toNat 0):=by
    rw[Sn h0,wa ()];simp[bA,wa (show k.toNat<ns.length by rfl')]
  simp[cOf,h,e]
 .by_cases h2:ns=[]
  .subst h2;simp[cOf,h,Mh [] [],show ¬k<0 by rfl'];rfl
  .have hp:0<ns.length:=vM.mpr h2;obtain⟨f1,f2⟩:=A7 k (show(0:Int)<ns.length by rfl');have e:atI ns (k.fmod ns.length)=aa (ns.getD (k.fmod ns.length).toNat 0):=by
    rw[Sn f1,wa ()];simp[bA,wa (show(k.fmod ns.length).toNat<ns.length by rfl')]
   have e2:opEq (.scr ns) (.lst [])=aa (.nw,.bl ag):=by have:=Mh ns [];rw[aK h2]at this;exact this
   simp[cOf,h,h2,e,e2,EN,S4,show ¬((ns.length:Int)=0) by rfl']
theorem My(c m:Int)(h0:0<=m)(h3:m<3):N4 [.int c,.int m]=aa (.int (IX c m)):=by
 unfold N4 IX;have hm:m=0\/m=1\/m=2:=()
 have d30:L9 c 1000000000000000000000000000000=ae:=by unfold L9;decide
 have d9:L9 9 2=ae:=by unfold L9;decide
 have d61:L9 61 2=ae:=by unfold L9;decide
 have p30:Gk 10 30=ae:=by unfold Gk;decide
 have two:∀(m w v:Int),m≠2->atI [Dt.int 9,Dt.int 61] m=aa (.int w)->0<w->L9 w 2=ae->w.fdiv 2=v->cOf 2 4 ae T8 [.int c,.int m]=aa (.int (if v<c.fmod w then c.fmod w-w else c.fmod w)):=λm w v hm2 ha hw hd hv=>by
   refine Q3 (f:=.nw) rfl (run (ρ':=[.sh ag (.int c),.sh ag (.int m),.no,.no]) (by simp[cOf,u7,hm2]) (run (ρ':=[.sh ag (.int c),.sh ag (.int m),.no,.sh ae (.int w)]) (by simp[cOf,ha]) (run (ρ':=[.sh ag (.int c),.sh ag (.int m),.sh ae (.int (c.fmod w)),.sh ae (.int w)]) (by simp[cOf,S4,show ¬w=0 by rfl']) ?_))) rfl;by_cases h:v<c.fmod w
   .simp[cOf,hd,hv,h]
   .simp[cOf,hd,hv,h]
 rcases hm with rfl|rfl|rfl
 .exact(two 0 9 4 (by decide) rfl (by decide) d9 rfl).trans (by simp)
 .exact(two 1 61 30 (by decide) rfl (by decide) d61 rfl).trans (by simp)
 .by_cases h:(c.fdiv 1000000000000000000000000000000).fmod 2=1
  .simp[cOf,T8,u7,S4,p30,d30,h]
  .simp[cOf,T8,u7,S4,p30,d30,h]
theorem Mz(ns:aH)(a:Int)(n:Nat)(m:Int)(ha:0<=a)(hn:n<=1000)(h0:0<=m)(h3:m<3):U9 [.scr ns,.int a,.int n,.int m]=aa (L (Ay ns a n m)):=by
 unfold U9 Lb;have q:k7 1 [0,1,3] (u9 (fN 2)) (Tg.one 0) fYes (f9 ae N4 (b8 (f9 ae k6 (b8 (fN 1) (b8 (fOp u6 (fN 2) (fN 0)) fNil))) (b8 (fN 3) fNil))) (rho0 4 [.scr ns,.int a,.int n,.int m])=aa (.nw,L (Ay ns a n m)):=by
  have:=o9 (nt:=1) (js:=[0,1,3]) (Fi:=u9 (fN 2)) (g:=Tg.one 0) (Fe:=f9 ae N4 (b8 (f9 ae k6 (b8 (fN 1) (b8 (fOp u6 (fN 2) (fN 0)) fNil))) (b8 (fN 3) fNil))) (ρ:=rho0 4 [.scr ns,.int a,.int n,.int m]) (e:=λ(k:Nat)=>.int (0+(k:Int))) (h:=λ(k:Nat)=>.int (IX (j8 ns (a+(k:Int))) m)) (xs:=aT n)
   (by simp[cOf,u9,intD,K9,J8,show(n:Int)<=1000000 by rfl',show -1000000<=(n:Int) by rfl'])
   (λk hk=>by simp[cOf,Tg.put,sigD,GA,A9 ns (a+(k:Int)) (),My _ m h0 h3])
  rw[this];simp[L,Ay]
 exact Q3 rfl (f:=.nw) (by unfold sRet;rw[q];rfl) rfl
theorem Lc(ns:aH)(m:Int)(k n:Nat)(f1 f2 f3:Bool)(h0:0<=m)(h3:m<3)(hk:k<=100)(hn:n<=100):
    (k7 1 [0,2,1] (u9 (fN 3)) (Tg.one 0) fYes (f9 ae U9 (b8 (fN 1) (b8 (fOp u6 (fC (.int 8)) (fOp G1 (fN 2) (fN 0))) (b8 (fN 2) (b8 (fN 3) fNil)))))) [.sh ag (.scr ns),.sh f1 (.int m),.sh f2 (.int k),.sh f3 (.int n)] =
      aa (.nw,LL ((aT n).map λ(j:Nat)=>Ay ns (8+(k:Int)*(j:Int)) k m)):=by
  have:=o9 (nt:=1) (js:=[0,2,1]) (Fi:=u9 (fN 3)) (g:=Tg.one 0) (Fe:=f9 ae U9 (b8 (fN 1) (b8 (fOp u6 (fC (.int 8)) (fOp G1 (fN 2) (fN 0))) (b8 (fN 2) (b8 (fN 3) fNil))))) (ρ:=[.sh ag (.scr ns),.sh f1 (.int m),.sh f2 (.int k),.sh f3 (.int n)]) (e:=λ(j:Nat)=>.int (0+(j:Int))) (h:=λ(j:Nat)=>L (Ay ns (8+(k:Int)*(j:Int)) k m)) (xs:=aT n)
    (by simp[cOf,u9,intD,K9,J8,show(n:Int)<=1000000 by rfl',show -1000000<=(n:Int) by rfl'])
    (λj hj=>by
      have hj:=wQ.mp hj
      have hm:D9 (k:Int) (j:Int)=true:=EN (by                       have:(j:Int).natAbs=j:=by omega
                                                                    rfl')
      have hp:(0:Int)<=8+(k:Int)*(j:Int):=by have:=w0r (show(0:Int)<=k by rfl') (show(0:Int)<=j by rfl');rfl'
      have e:=Mz ns (8+(k:Int)*(j:Int)) k m hp () h0 h3;simp[cOf,Tg.put,sigD,GA,hm,e])
  rw[this];simp[LL]
theorem OF(ns:aH):Eh [.scr ns]=aa (.tup [.int (C8 ns),LL (L3 ns)]):=by
 have c0:=A9 ns 0 (by decide);have c1:=A9 ns 1 (by decide);have c2:=A9 ns 2 (by decide);have c3:=A9 ns 3 (by decide);have r0:=A7 (j8 ns 0) (show(0:Int)<4 by decide);have r1:=A7 (j8 ns 1) (show(0:Int)<5 by decide);have r2:=A7 (j8 ns 2) (show(0:Int)<5 by decide);have kl:=Cd ns;have ml:=IZ ns;have mc:=KM ns;have tl:=λf1 f2 f3=>Lc ns (B1 ns) (C8 ns) (V8 ns) f1 f2 f3 () () () ();have fin:∀(m k n:Int)(f1 f2 f3:Bool),m=B1 ns->k=C8 ns->n=V8 ns->sRet (fTup (b8 (fN 2) (b8 (k7 1 [0,2,1] (u9 (fN 3)) (Tg.one 0) fYes (f9 ae U9 (b8 (fN 1) (b8 (fOp u6 (fC (.int 8)) (fOp G1 (fN 2) (fN 0))) (b8 (fN 2) (b8 (fN 3) fNil)))))) fNil))) [.sh ag (.scr ns),.sh f1 (.int m),.sh f2 (.int k),.sh f3 (.int n)]=aa (.rt .nw (.tup [.int (C8 ns),LL (L3 ns)])):=by
   rintro m k n f1 f2 f3 rfl rfl rfl;simp[sRet,fTup,b8,fNil,fN,LO,Cell.val,Zb,o6,tl f1 f2 f3,BN,Fl.isNw,sndL,L3]
 have lk:∃m0:Int,atI [Dt.int 0,Dt.int 0,Dt.int 0,Dt.int 1,Dt.int 2] ((j8 ns 2).fmod 5)=aa (.int m0)/\(¬(j8 ns 3).fmod 7=6->m0=B1 ns)/\(m0=2↔(j8 ns 2).fmod 5=4):=by
   have hr2:(j8 ns 2).fmod 5=0\/(j8 ns 2).fmod 5=1\/(j8 ns 2).fmod 5=2\/(j8 ns 2).fmod 5=3\/(j8 ns 2).fmod 5=4:=by omega +splitDisjunctions
   rcases hr2 with h2|h2|h2|h2|h2<;>rw[h2]
   .exact⟨0,rfl,λh=>by simp[B1,h,h2],by decide⟩
   .exact⟨0,rfl,λh=>by simp[B1,h,h2],by decide⟩
   .exact⟨0,rfl,λh=>by simp[B1,h,h2],by decide⟩
   .exact⟨1,rfl,λh=>by simp[B1,h,h2],by decide⟩
   .exact⟨2,rfl,λh=>by simp[B1,h,h2],by decide⟩
 obtain⟨m0,lk,lm,l2⟩:=lk;have mo:∀(c:Int)(k:Nat),S4 c ((k+1:Nat):Int)=ae:=λc k=>by unfold S4;exact aI ()
 have mo2:=λc=>mo c 1;have mo4:=λc=>mo c 3;have mo5:=λc=>mo c 4;have mo7:=λc=>mo c 6;simp only[Nat.reduceAdd,Int.cast_ofNat_Int]at mo2 mo4 mo5 mo7;have t3:∀(m k n:Int),m=B1 ns->k=C8 ns->n=V8 ns->m≠2->_:=λm k n a b c d=>run (F:=sIf (j9 (fOp opEq (fN 1) (fC (.int 2)))) (sSeq (sSet [] 2 (fOp u6 (fC (.int 1)) (fOp G4 (fN 2) (fC (.int 2))))) (sSet [] 3 (fOp G4 (fN 3) (fC (.int 4))))) t9) (ρ:=[.sh ag (.scr ns),.sh ae (.int m),.sh ae (.int k),.sh ae (.int n)]) (ρ':=[.sh ag (.scr ns),.sh ae (.int m),.sh ae (.int k),.sh ae (.int n)]) (by simp[cOf,u7,d]) (fin m k n ae ae ae a b c);refine Q3 (f:=.nw) rfl (run (ρ':=[.sh ag (.scr ns),.sh ae (.int m0),.no,.no]) (by simp[cOf,c2,lk,mo5]) (run (ρ':=[.sh ag (.scr ns),.sh ae (.int m0),.sh ae (.int (1+(j8 ns 0).fmod 4)),.no]) (by simp[cOf,c0,mo4]) (run (ρ':=[.sh ag (.scr ns),.sh ae (.int m0),.sh ae (.int (1+(j8 ns 0).fmod 4)),.sh ae (.int ((j8 ns 1).fmod 5))]) (by simp[cOf,c1,mo5]) ?_))) rfl;by_cases h3:(j8 ns 3).fmod 7=6
 .exact run (ρ':=[.sh ag (.scr ns),.sh ae (.int 0),.sh ae (.int 6),.sh ae (.int 8)]) (by simp[cOf,c3,h3,u7,mo7]) (t3 0 6 8 (by simp[B1,h3]) (by simp[C8,B1,Cc,h3]) (by simp[V8,B1,GT,h3]) (by decide))
 .have lm:=lm h3;refine run (by simp[cOf,c3,h3,u7,mo7];rfl) ?_;by_cases h2:m0=2
  .have h4:=l2.mp h2;refine run (ρ':=[.sh ag (.scr ns),.sh ae (.int m0),.sh ae (.int (1+(1+(j8 ns 0).fmod 4).fmod 2)),.sh ae (.int (((j8 ns 1).fmod 5).fmod 4))]) (by simp[cOf,h2,u7,mo2,mo4]) (fin m0 _ _ ae ae ae lm ?_ ?_)
   .have:=A7 (1+(j8 ns 0).fmod 4) (show(0:Int)<2 by decide);simp[C8,B1,Cc,h3,h4];omega +splitDisjunctions
   .have:=A7 ((j8 ns 1).fmod 5) (show(0:Int)<4 by decide);simp[V8,B1,GT,h3,h4];omega +splitDisjunctions
  .have h4:¬(j8 ns 2).fmod 5=4:=λh=>h2 (l2.mpr h);exact t3 m0 _ _ lm (by simp[C8,B1,Cc,h3,h4];omega +splitDisjunctions) (by simp[V8,B1,GT,h3,h4];omega +splitDisjunctions) h2
theorem ER(d:Dt):M7 [d]=aa (.bl (isWh d)):=by
 unfold M7 Cg;cases d<;>simp[cOf,isWh,Dt.flat,nrm]<;>simp[tyN,Dt.flat]
theorem Jn(a:aH)(n:Int):AA [L a,.int n]=aa (.bl (decide ((a.length:Int)=n))):=by
 unfold AA Hi;have q:k7 1 [] (iSeq (fN 0)) (Tg.one 0) fYes (f9 ae M7 (b8 (fN 0) fNil)) [.sh ag (L a),.sh ag (.int n)]=aa (.nw,.lst (a.map λ_=>.bl ae)):=
   o9 (e:=Dt.int) (h:=λ_=>.bl ae) (xs:=a) (by simp[cOf]) (λx _=>by simp[cOf,Tg.put,sigD,ER,isWh])
 by_cases h:(a.length:Int)=n
 .simp[cOf,E7,h,q,bAll,DO (λ_=>ae) a]
 .simp[cOf,E7,h]
theorem OG(n:Nat)(h:n<=1000):Bs [.int n]=aa (L (E8 n)):=by
 unfold Bs DT;have q:k7 1 [] (u9 (fN 0)) (Tg.one 0) fYes (fC (.int 0)) [.sh ag (.int n)]=aa (.nw,L (E8 n)):=by
  rw[o9 (e:=λ(k:Nat)=>.int (0+(k:Int))) (h:=λ_=>.int 0) (xs:=aT n) (by simp[cOf,u9,intD,K9,J8,show(n:Int)<=1000000 by rfl',show -1000000<=(n:Int) by rfl']) (λx _=>by simp[cOf,Tg.put])];simp[L,E8,List.map_const']
 simp[cOf,q]
theorem MA(a b:aH)(h:a.length=b.length):Q4 [L a,L b]=aa (L (addR a b)):=by
 unfold Q4 KY;have q:k7 2 [] (iZip (fN 0) (fN 1)) (Tg.many [0,1]) fYes (fOp u6 (fN 0) (fN 1)) [.sh ag (L a),.sh ag (L b)]=aa (.nw,L (addR a b)):=by
  rw[o9 (e:=λp:Int×Int=>.tup [.int p.1,.int p.2]) (h:=λp=>.int (p.1+p.2)) (xs:=a.zip b) (by simp[cOf,iZip,h,GS]) (λp _=>by simp[cOf,Tg.put,V7,sigD]),VJ]
 simp[cOf,q]
theorem MB(a b:aH)(h:a.length=b.length):Bt [L a,L b]=aa (L (subR a b)):=by
 unfold Bt KZ;have q:k7 2 [] (iZip (fN 0) (fN 1)) (Tg.many [0,1]) fYes (fOp K7 (fN 0) (fN 1)) [.sh ag (L a),.sh ag (L b)]=aa (.nw,L (subR a b)):=by
  rw[o9 (e:=λp:Int×Int=>.tup [.int p.1,.int p.2]) (h:=λp=>.int (p.1-p.2)) (xs:=a.zip b) (by simp[cOf,iZip,h,GS]) (λp _=>by simp[cOf,Tg.put,V7,sigD]),Tv]
 simp[cOf,q]
theorem N5(a:aH)(k:Int)(h:∀x∈a,D9 k x=ae):E3 [L a,.int k]=aa (L (sclR k a)):=by
 unfold E3 Hj;have q:k7 1 [1] (iSeq (fN 0)) (Tg.one 0) fYes (fOp G1 (fN 1) (fN 0)) [.sh ag (L a),.sh ag (.int k)]=aa (.nw,L (sclR k a)):=by
  rw[o9 (e:=Dt.int) (h:=λx=>.int (k*x)) (xs:=a) (by simp[cOf]) (λx hx=>by simp[cOf,Tg.put,sigD,GA,h x hx])];simp[L,sclR]
 simp[cOf,q]
theorem Ld(n:Nat)(h1:1<=n)(h2:n<=6):U8 [.int n]=aa (.bl ae):=by
 unfold U8 AB;have e:=ER (.int n);simp[cOf,e,isWh,Kp,show(1:Int)<=n by rfl',show(n:Int)<=6 by rfl']
theorem Io(n:Nat)(h1:1<=n)(h2:n<=6):Q5 [.int n]=aa .non:=by
 unfold Q5 Z4;simp[cOf,Ld n h1 h2]
theorem OH(a:aH)(n:Nat)(hl:a.length=n)(h:∀x∈a,x.natAbs<10^30):Bu [L a,.int n]=aa (.bl ae):=by
 unfold Bu DV;have e:=Jn a n;have p30:Gk 10 30=ae:=by unfold Gk;decide
 have q:k7 1 [] (iSeq (fN 0)) (Tg.one 0) fYes (fOp opLt (fBlt bAbs (b8 (fN 0) fNil)) (fOp IJ (fC (.int 10)) (fC (.int 30)))) [.sh ag (L a),.sh ag (.int n)]=aa (.nw,.lst (a.map λ_=>.bl ae)):=
  o9 (e:=Dt.int) (h:=λ_=>.bl ae) (xs:=a) (by simp[cOf]) (λx hx=>by
   have:=h x hx;have:(if x<0 then -x else x)<1000000000000000000000000000000:=by split<;>rfl'
   simp[cOf,Tg.put,sigD,bAbs,p30,this])
 simp[cOf,e,hl,q,bAll,DO (λ_=>ae) a]
theorem Lf(a:aH)(n:Nat)(hl:a.length=n)(h:∀x∈a,x.natAbs<10^30):K2 [L a,.int n]=aa .non:=by
 unfold K2 AC;simp[cOf,OH a n hl h]
theorem OI(k:Int)(rows:aA):Bv [.int k,LL rows]=aa (k9 k rows):=by
 unfold Bv DW;have q:k7 1 [] (iSeq (fN 1)) (Tg.one 0) fYes (fBlt bTup (b8 (fN 0) fNil)) [.sh ag (.int k),.sh ag (LL rows)]=aa (.nw,.lst (rows.map T)):=
  o9 (e:=L) (h:=T) (xs:=rows) (by simp[cOf]) (λx hx=>by simp[cOf,Tg.put,sigD,bTup,T0])
 simp[cOf,q,bTup,M5]
theorem OJ(n:Nat)(bills:aA)(h1:1<=n)(h2:n<=6)(hm:bills.length<=8)(hw:Wide n bills)(hb:∀r∈bills,∀x∈r,x.natAbs<10^30):X0 [.int n,LL bills]=aa (k9 n bills):=by
 unfold X0 DX;obtain⟨j,q⟩:=W8 (g:=Tg.one 2) (F:=Ax (f9 ae K2 (b8 (fN 2) (b8 (fN 0) fNil)))) (e:=L) (R:=λ(_:Unit)(c:Cell)=>[.sh ag (.int n),.sh ag (LL bills),c]) (step:=λ_ _=>.unit) bills .unit .no
  (λb x j hx=>⟨.sh ag (L x),by simp[cOf,Tg.put,Lf x n (hw x hx) (hb x hx)]⟩)
 have q:forF (Tg.one 2) (Ax (f9 ae K2 (b8 (fN 2) (b8 (fN 0) fNil)))) (bills.map L) [.sh ag (.int n),.sh ag (LL bills),.no]=aa (.nx [.sh ag (.int n),.sh ag (LL bills),j]):=q;simp[cOf,Io n h1 h2,show ¬(8<(bills.length:Int)) by rfl',q,OI]
theorem AK(n:Nat)(bills:aA)(b:aH)(h:b.length=n):G8 [k9 n bills,L b]=aa .non:=by
 have e:F6 [.int n,L b]=aa .non:=by
  unfold F6 M8;simp[cOf,Jn,h]
 unfold G8 W0;simp[cOf,atI,ixN,e]
theorem TJ(n:Nat)(bills:aA)(h:n<=1000):X1 [k9 n bills]=aa (L (E8 n)):=by
 unfold X1 Hk;simp[cOf,atI,ixN,OG n h]
abbrev HF:FS:=sIf (j9 (fOp opNe (fN 2) (fC (.int 0)))) (sRet (fN 1)) t9
theorem Jo(c0:Cell):∀(r:aH)(j:Nat)(c1 c2:Cell),(b7 r<r.length->forF (Tg.many [1,2]) HF (S9 j (r.map .int)) [c0,c1,c2]=aa (.rt .nw (.int ((j+b7 r:Nat):Int)))) /\
  (¬b7 r<r.length->∃c1' c2',forF (Tg.many [1,2]) HF (S9 j (r.map .int)) [c0,c1,c2]=aa (.nx [c0,c1',c2']))
 |[],j,c1,c2=>⟨λh=>by simp[b7]at h,λ_=>⟨c1,c2,rfl⟩⟩
 |x::r,j,c1,c2=>by
  obtain⟨i1,i2⟩:=Jo c0 r (j+1) (.sh ag (.int j)) (.sh ag (.int x));rw[wj,S9,M4];by_cases hx:x=0
  .have e:(Tg.put (Tg.many [1,2]) (.tup [.int j,.int x]) [c0,c1,c2]).bind HF=aa (.nx [c0,.sh ag (.int j),.sh ag (.int x)]):=by simp[cOf,E7,hx]
   have eh:b7 (x::r)=b7 r+1:=by simp[b7,hx]
   rw[e,eh,wp];refine⟨λh=>?_,λh=>i2 ()⟩;have:=i1 ();rw[show j+(b7 r+1)=j+1+b7 r by rfl'];exact this
  .have e:(Tg.put (Tg.many [1,2]) (.tup [.int j,.int x]) [c0,c1,c2]).bind HF=aa (.rt .nw (.int j)):=by simp[cOf,E7,hx]
   have eh:b7 (x::r)=0:=by simp[b7,hx]
   rw[e,eh,wp];exact⟨λ_=>rfl,λh=>aW (Nat.succ_pos _) h⟩
theorem F1(r:aH):j7 [L r]=aa (.int (b7 r)):=by
 unfold j7 DU;obtain⟨h1,h2⟩:=Jo (.sh ag (L r)) r 0 .no .no;have hl:=Bn r;by_cases h:b7 r<r.length
 .have h1:=h1 h;simp only[vR]at h1;simp[cOf,h1]
 .obtain⟨c1,c2,h2⟩:=h2 h;simp[cOf,h2,show b7 r=r.length by rfl']
theorem Ei{r:aH}{k:Nat}(h:k<r.length):atI (r.map Dt.int) (k:Int)=aa (.int (at0 r k)):=by
 rw[CV,KN h];simp[at0,bA,wa h]
theorem Zp(a b:aH)(q:Int):subR a (sclR q b)=St.sub a q b:=by
 unfold subR sclR St.sub;rw[uC]
theorem SB{r:aH}{x:Int}(h:x∈r):∃k,at0 r k=x:=by
 obtain⟨k,hk,e⟩:=w0v.mp h;exact⟨k,by simp[at0,bA,wa hk,e]⟩
theorem SC{x:Int}{m:Nat}(h:x.natAbs<2^m):bP x<=m:=Km h
theorem R8{i j:Int}{m k:Nat}(h1:i.natAbs<2^m)(h2:j.natAbs<2^k)(h:m+k<=134217728):D9 i j=ae:=by
 unfold D9;rw[aI (show bP i+bP j<=134217728 from by have:=SC h1;have:=SC h2;rfl')];rfl
theorem Bz{i j:Int}(h0:0<j)(h:j<2^9000):L9 i j=ae:=by
 unfold L9;rw[aI (show j≠0 by rfl'),aI (show j.natAbs.log2<9000 from ?_)]
 .rfl
 .rw[w0V ()];have:((2^9000:Nat):Int)=(2:Int)^9000:=by norm_cast
  rfl'
abbrev LF:FS:=(sSeq (sSet [] 5 (f9 ae j7 (b8 (fN 4) fNil)))
 (sSeq (sSet [] 6 (fOp Ah (fAt (fN 2) (fN 5)) (fAt (fN 4) (fN 5))))
 (sSeq (sIf (j9 (fOp opNe (fN 6) (fC (.int 0)))) (sSet [] 2 (f9 ae Bt (b8 (fN 2) (b8 (f9 ae E3 (b8 (fN 4) (b8 (fN 6) fNil))) fNil)))) t9)
 (sWr wApp 3 (fN 6)))))
theorem Hu{n m:Nat}(hm:2*m<=134217728)(c0 c1:Cell):∀(S:aA)(left:aH)(cs:aH)(c4 c5 c6:Cell),(∀r∈S,r.length=n/\b7 r<n/\0<hd r/\hd r<2^9000)->left.length=n->St.LowB m left S->cs.length+S.length<=1000 ->
  ∃c4' c5' c6',forF (Tg.one 4) LF (S.map L) [c0,c1,.sh ae (L left),.ow ae (cs.map .int),c4,c5,c6]=aa (.nx [c0,c1,.sh ae (L (i4 left S)),.ow ae ((cs++GV left S).map .int),c4',c5',c6'])
 |[],left,cs,c4,c5,c6,_,_,_,_=>⟨c4,c5,c6,by simp[VF,i4,GV]⟩
 | r::S,left,cs,c4,c5,c6,hr,hl,hb,hc=>by
  obtain⟨r1,r2,r3,r4⟩:=hr r wd;have hs:(St.sub left (o7 left r) r).length=n:=by rw[O3 ()];exact hl
  obtain⟨d4,d5,d6,ih⟩:=Hu hm c0 c1 S (St.sub left (o7 left r) r) (cs++[o7 left r]) (.sh ag (L r)) (.sh ae (.int (b7 r))) (.sh ae (.int (o7 left r))) (λx hx=>hr x (wb _ hx)) hs hb.2 (by simp at hc|-;rfl');refine⟨d4,d5,d6,?_⟩;rw[wj,M4];have a1:=Ei (r:=left) (k:=b7 r) ();have a2:=Ei (r:=r) (k:=b7 r) ();have dv:L9 (at0 left (b7 r)) (at0 r (b7 r))=ae:=Bz r3 r4;have ef:(at0 left (b7 r)).fdiv (at0 r (b7 r))=o7 left r:=rfl;have hcs:cs.length<1000000:=by simp at hc;rfl'
  have e:(Tg.put (Tg.one 4) (L r) [c0,c1,.sh ae (L left),.ow ae (cs.map .int),c4,c5,c6]).bind LF=aa (.nx [c0,c1,.sh ae (L (St.sub left (o7 left r) r)),.ow ae ((cs++[o7 left r]).map .int),.sh ag (L r),.sh ae (.int (b7 r)),.sh ae (.int (o7 left r))]):=by
   refine(show LF [c0,c1,.sh ae (L left),.ow ae (cs.map .int),.sh ag (L r),c5,c6]=_ from run (ρ':=[c0,c1,.sh ae (L left),.ow ae (cs.map .int),.sh ag (L r),.sh ae (.int (b7 r)),c6]) (by simp[cOf,F1]) (run (ρ':=[c0,c1,.sh ae (L left),.ow ae (cs.map .int),.sh ag (L r),.sh ae (.int (b7 r)),.sh ae (.int (o7 left r))]) (by simp[cOf,a1,a2,dv,ef]) (run (ρ':=[c0,c1,.sh ae (L (St.sub left (o7 left r) r)),.ow ae (cs.map .int),.sh ag (L r),.sh ae (.int (b7 r)),.sh ae (.int (o7 left r))]) ?_ (by simp[cOf,hcs]))));by_cases ho:o7 left r=0
   .have es:St.sub left (o7 left r) r=left:=by rw[ho];exact Mm ()
    rw[es];simp[cOf,ho,E7]
   .have mo:∀x∈r,D9 (o7 left r) x=ae:=λx hx=>by
     obtain⟨k,rfl⟩:=SB hx;rcases hb.1 with h|⟨h1,h2⟩
     .exact aW h ho
     .exact R8 h1 (h2 k) ()
    have e1:=N5 r (o7 left r) mo;have e2:=MB left (sclR (o7 left r) r) (by rw[W9];rfl');rw[Zp]at e2;simp[cOf,ho,E7,e1,e2]
  rw[e];show forF (Tg.one 4) LF (S.map L) _=_;rw[ih,i4,GV];simp
def RowD(d:Dt)(v:aH):Prop:=d=L v\/d=T v
theorem MC{n m:Nat}(d:Dt)(v:aH)(S:aA)(hd:RowD d v)(hm:2*m<=134217728)(hr:∀r∈S,r.length=n/\b7 r<n/\0<St.hd r/\St.hd r<2^9000)(hl:v.length=n)(hb:St.LowB m v S)(hc:S.length<=1000):
   Z5 [d,LL S]=aa (.tup [L (GV v S),L (i4 v S)]):=by
 unfold Z5 Ci;rcases hd with rfl|rfl
 .obtain⟨d4,d5,d6,q⟩:=Hu hm (.sh ag (L v)) (.sh ag (LL S)) S v [] .no .no .no hr hl hb (by simpa using hc);simp[cOf]at q|-;simp[q]
 .obtain⟨d4,d5,d6,q⟩:=Hu hm (.sh ag (T v)) (.sh ag (LL S)) S v [] .no .no .no hr hl hb (by simpa using hc);simp[cOf]at q|-;simp[q]
theorem U0{n m:Nat}(d:Dt)(v:aH)(S:aA)(hd:RowD d v)(hm:2*m<=134217728)(hr:∀r∈S,r.length=n/\b7 r<n/\0<St.hd r/\St.hd r<2^9000)(hl:v.length=n)(hb:St.LowB m v S)(hc:S.length<=1000):
  o0 [d,LL S]=aa (L (i4 v S)):=by
 have e:=MC d v S hd hm hr hl hb hc;have hn:nrm (flOf ag) d=(if d.flat then .nw else .sh,d):=rfl;unfold o0 DZ;rcases hd with rfl|rfl<;>simp[cOf,e,VL]
theorem TK{i j:Int}(h0:j≠0)(h:j.natAbs<2^9000):L9 i j=ae:=by
 unfold L9;rw[aI h0,aI (show j.natAbs.log2<9000 from(w0V ()).mpr h)];rfl
abbrev BC:FT:=j9 (fOp opNe (fAt (fN 3) (fC (.int 0))) (fC (.int 0)))
abbrev BF:FS:=(sSeq (sSet [] 4 (fOp Ah (fAt (fN 2) (fC (.int 0))) (fAt (fN 3) (fC (.int 0)))))
 (sSeq (sSet [] 5 (k7 1 [2,4,3] (u9 (fC (.int 3))) (Tg.one 0) fYes (fOp K7 (fAt (fN 1) (fN 0)) (fOp G1 (fN 2) (fAt (fN 3) (fN 0))))))
 (sSeq (sSet [] 2 (fN 3))
 (sSet [] 3 (fN 5)))))
theorem MD(c0 c1 c4 c5:Cell)(u0 u1 u2 l0 l1 l2:Int)(hl:l0≠0)(h:l0.natAbs<2^9000)(m0:D9 (u0.fdiv l0) l0=ae)(m1:D9 (u0.fdiv l0) l1=ae)(m2:D9 (u0.fdiv l0) l2=ae):
  BF [c0,c1,.sh ae (L [u0,u1,u2]),.sh ae (L [l0,l1,l2]),c4,c5]=aa (.nx [c0,c1,.sh ae (L [l0,l1,l2]),.sh ae (L [u0-u0.fdiv l0*l0,u1-u0.fdiv l0*l1,u2-u0.fdiv l0*l2]),.sh ae (.int (u0.fdiv l0)),.sh ae (L [u0-u0.fdiv l0*l0,u1-u0.fdiv l0*l1,u2-u0.fdiv l0*l2])]):=by
 have dv:=TK (i:=u0) hl h;have q:k7 1 [2,4,3] (u9 (fC (.int 3))) (Tg.one 0) fYes (fOp K7 (fAt (fN 1) (fN 0)) (fOp G1 (fN 2) (fAt (fN 3) (fN 0)))) [CP c0,CP c1,.sh ae (L [u0,u1,u2]),.sh ae (L [l0,l1,l2]),.sh ae (.int (u0.fdiv l0)),CP c5]=aa (.nw,L [u0-u0.fdiv l0*l0,u1-u0.fdiv l0*l1,u2-u0.fdiv l0*l2]):=by
  rw[o9 (e:=λ(k:Nat)=>.int (0+(k:Int))) (h:=λ(k:Nat)=>.int ([u0,u1,u2].getD k 0-u0.fdiv l0*[l0,l1,l2].getD k 0)) (xs:=aT 3) (by simp[cOf,show K9 3=ae from Ou (n:=3) (by decide),J8]) (λk hk=>by
   have hk:k<3:=wQ.mp hk;have a1:=CW (xs:=[u0,u1,u2]) (i:=k) 0 hk;have a2:=CW (xs:=[l0,l1,l2]) (i:=k) 0 hk;have mk:D9 (u0.fdiv l0) ([l0,l1,l2].getD k 0)=ae:=by
    have:k=0\/k=1\/k=2:=()
    rcases this with rfl|rfl|rfl
    .exact m0
    .exact m1
    .exact m2
   generalize [u0,u1,u2].getD k 0=uk at *;generalize [l0,l1,l2].getD k 0=lk at *;generalize [u0,u1,u2]=us at *;generalize [l0,l1,l2]=ls at *;simp[cOf,CV,a1,a2,mk])]
  rfl
 exact run (ρ':=[c0,c1,.sh ae (L [u0,u1,u2]),.sh ae (L [l0,l1,l2]),.sh ae (.int (u0.fdiv l0)),c5]) (by simp[cOf,dv]) (run (ρ':=[c0,c1,.sh ae (L [u0,u1,u2]),.sh ae (L [l0,l1,l2]),.sh ae (.int (u0.fdiv l0)),.sh ae (L [u0-u0.fdiv l0*l0,u1-u0.fdiv l0*l1,u2-u0.fdiv l0*l2])]) (by simp[cOf,q]) (run (ρ':=[c0,c1,.sh ae (L [l0,l1,l2]),.sh ae (L [l0,l1,l2]),.sh ae (.int (u0.fdiv l0)),.sh ae (L [u0-u0.fdiv l0*l0,u1-u0.fdiv l0*l1,u2-u0.fdiv l0*l2])]) (by simp[cOf]) (by simp[cOf])))
theorem ME{a b:Int}{e:Nat}(he:e<=9000)(ha:a.natAbs<2^e)(hb:b.natAbs<2^e)(c0 c1:Cell):∀(k:Nat)(u0 u1 u2 l0 l1 l2:Int)(c4 c5:Cell),Br.BI a b u0 u1 u2 l0 l1 l2->l0.natAbs<=k ->
 ∃v0 v1 v2 w1 w2 d4 d5,D5 BC BF (k+1) [c0,c1,.sh ae (L [u0,u1,u2]),.sh ae (L [l0,l1,l2]),c4,c5]=aa (.nx [c0,c1,.sh ae (L [v0,v1,v2]),.sh ae (L [0,w1,w2]),d4,d5])/\Br.BI a b v0 v1 v2 0 w1 w2:=by
 intro k
 induction k using uT with
 |_ k IH=>
 intro u0 u1 u2 l0 l1 l2 c4 c5 B hk;have hc:BC [c0,c1,.sh ae (L [u0,u1,u2]),.sh ae (L [l0,l1,l2]),c4,c5]=aa (!decide (l0=0)):=by simp[cOf,E7]
 rw[D5,hc,o6];by_cases hl:l0=0
 .subst hl;exact⟨u0,u1,u2,l1,l2,c4,c5,by simp,B⟩
 .have p3:2^(e+3)=8*2^e:=by rw[vZ];rfl'
  obtain⟨z1,z2,z3,z4⟩:=Br.So u0 l0 hl;have c1':=B.c1;have c2':=B.c2;have b3:=B.b3;have b4:=B.b4;have hq:(u0.fdiv l0).natAbs<2^(e+3):=by
   have:1*(u0.fdiv l0).natAbs<=l0.natAbs*(u0.fdiv l0).natAbs:=wB _ ();rw[uf l0.natAbs]at this;rfl'
  have h9:(2:Nat)^e<=2^9000:=ww (by decide) he;have st:=MD c0 c1 c4 c5 u0 u1 u2 l0 l1 l2 hl () (R8 hq (show l0.natAbs<2^(e+3) by rfl') ()) (R8 hq (show l1.natAbs<2^(e+3) by rfl') ()) (R8 hq (show l2.natAbs<2^(e+3) by rfl') ());cases k with
  |zero=>rfl'
  |succ k=>
   obtain⟨v0,v1,v2,w1,w2,d4,d5,ih,B'⟩:=IH k (wW k) _ _ _ _ _ _ (.sh ae (.int (u0.fdiv l0))) (.sh ae (L [u0-u0.fdiv l0*l0,u1-u0.fdiv l0*l1,u2-u0.fdiv l0*l2])) (B.turn hl) ();refine⟨v0,v1,v2,w1,w2,d4,d5,?_,B'⟩;rw[st];simp only[hl,decide_false,Bool.not_false,if_true,o6];exact ih
theorem TL(a b:Int)(e:Nat)(he:e<=9000)(ha:a.natAbs<2^e)(hb:b.natAbs<2^e):∃x y,Hm [.int a,.int b]=aa (T [(uM a b:Int),x,y])/\a*x+b*y=uM a b/\x.natAbs<=a.natAbs+2*b.natAbs+1/\y.natAbs<=a.natAbs+2*b.natAbs+1:=by
 obtain⟨v0,v1,v2,w1,w2,d4,d5,lp,B⟩:=ME he ha hb (.sh ag (.int a)) (.sh ag (.int b)) b.natAbs a 1 0 b 0 1 .no .no (Br.BI.start a b) (wf _);have lp:=Be lp;have fin:=B.fin;have up:=B.up;have b1:=B.b1;have b2:=B.b2;have pre:∀{r:Option Oc},(sSeq (sIf (j9 (fOp opLt (fAt (fN 2) (fC (.int 0))) (fC (.int 0)))) (sSet [] 2 (k7 1 [] (iSeq (fN 2)) (Tg.one 0) fYes (fNeg (fN 0)))) t9) (sRet (fBlt bTup (b8 (fN 2) fNil)))) [.sh ag (.int a),.sh ag (.int b),.sh ae (L [v0,v1,v2]),.sh ae (L [0,w1,w2]),d4,d5]=r->Hl (rho0 6 [.int a,.int b])=r:=λh=>run (ρ':=[.sh ag (.int a),.sh ag (.int b),.sh ae (L [a,1,0]),.no,.no,.no]) (by simp[cOf,L]) (run (ρ':=[.sh ag (.int a),.sh ag (.int b),.sh ae (L [a,1,0]),.sh ae (L [b,0,1]),.no,.no]) (by simp[cOf,L]) (run lp h));have at0:atI ([v0,v1,v2].map Dt.int) 0=aa (.int v0):=rfl;by_cases h0:v0<0
 .refine⟨-v1,-v2,?_,by rw[w0Y,w0Y];rfl',(),()⟩;have q:k7 1 [] (iSeq (fN 2)) (Tg.one 0) fYes (fNeg (fN 0)) [.sh ag (.int a),.sh ag (.int b),.sh ae (L [v0,v1,v2]),.sh ae (L [0,w1,w2]),CP d4,CP d5]=aa (.nw,L [-v0,-v1,-v2]):=by
   rw[o9 (e:=Dt.int) (h:=λx=>.int (-x)) (xs:=[v0,v1,v2]) (by simp[cOf,L]) (λx hx=>by simp[cOf])];rfl
  have e0:(uM a b:Int) = -v0:=()
  rw[e0];refine Q3 (f:=.nw) rfl (pre (run (ρ':=[.sh ag (.int a),.sh ag (.int b),.sh ae (L [-v0,-v1,-v2]),.sh ae (L [0,w1,w2]),d4,d5]) ?_ (by simp[cOf,T]))) rfl;generalize [v0,v1,v2]=vs at *;simp[cOf,at0,h0,q]
 .refine⟨v1,v2,?_,(),(),()⟩;have e0:(uM a b:Int)=v0:=()
  rw[e0];refine Q3 (f:=.nw) rfl (pre (run (ρ':=[.sh ag (.int a),.sh ag (.int b),.sh ae (L [v0,v1,v2]),.sh ae (L [0,w1,w2]),d4,d5]) ?_ (by simp[cOf,T]))) rfl;generalize [v0,v1,v2]=vs at *;simp[cOf,at0,h0]
theorem Zq(a b:aH)(x y:Int):addR (sclR x a) (sclR y b)=lin x a y b:=by
 unfold addR sclR lin;rw[w0U]
theorem Wg(a b:aH)(x y:Int):subR (sclR x a) (sclR y b)=lin x a (-y) b:=by
 unfold subR sclR lin;rw[w0U];congr 1
 funext p q
 rw[w0t];rfl'
theorem FZ{q:Int}{r:aH}{m k:Nat}(h1:q.natAbs<2^m)(h2:Lt (2^k) r)(h:m+k<=134217728):∀x∈r,D9 q x=ae:=λx hx=>by
 obtain⟨i,rfl⟩:=SB hx;exact R8 h1 (h2 i) h
theorem OK{n e q:Nat}(r left:aH)(hr:r.length=n)(hl:left.length=n)(hh:b7 r<n)(hp:0<hd r)(h1:hd r<2^e)(h2:0<=at0 left (b7 r))(h3:at0 left (b7 r)<hd r)(he:e<=8990)(s1:Lt (2^q) r)(s2:Lt (2^q) left)(hq:q<=100000000):
  ∃g x y,R6 [L r,L left]=aa (.tup [L (v9 r left x y),L (C7 r left g)])/\0<g/\g∣hd r/\g∣at0 left (b7 r)/\hd r*x+at0 left (b7 r)*y=g/\x.natAbs<2^(e+2)/\y.natAbs<2^(e+2):=by
 have cast:((2^e:Nat):Int)=(2:Int)^e:=by norm_cast
 have a1:(hd r).natAbs<2^e:=()
 have a2:(at0 left (b7 r)).natAbs<2^e:=()
 obtain⟨x,y,eb,exy,bx,bY⟩:=TL (hd r) (at0 left (b7 r)) e () a1 a2;have g0:0<uM (hd r) (at0 left (b7 r)):=Int.gcd_pos_of_ne_zero_left _ ();have d1:(uM (hd r) (at0 left (b7 r)):Int)∣hd r:=Int.gcd_dvd_left _ _;have d2:(uM (hd r) (at0 left (b7 r)):Int)∣at0 left (b7 r):=Int.gcd_dvd_right _ _;generalize eg:(uM (hd r) (at0 left (b7 r)):Int)=g at *;have g0:0<g:=()
 have p2:2^(e+2)=4*2^e:=by rw[vZ];rfl'
 have x1:x.natAbs<2^(e+2):=()
 have y1:y.natAbs<2^(e+2):=()
 refine⟨g,x,y,?_,g0,d1,d2,exy,x1,y1⟩;have gle:g<=hd r:=Int.le_of_dvd hp d1;have g9:g<2^9000:=by
  have h9:(2:Nat)^e<=2^9000:=ww (by decide) ();have:((2^9000:Nat):Int)=(2:Int)^9000:=by norm_cast
  rfl'
 have dv1:L9 (hd r) g=ae:=Bz g0 g9;have dv2:L9 (at0 left (b7 r)) g=ae:=Bz g0 g9;have k1:((hd r).fdiv g).natAbs<2^(e+2):=by have:=CZ (hd r) g0;rfl'
 have k2:((at0 left (b7 r)).fdiv g).natAbs<2^(e+2):=by have:=CZ (at0 left (b7 r)) g0;rfl'
 have t1:=Ei (r:=r) (k:=b7 r) ();have t2:=Ei (r:=left) (k:=b7 r) ();have t1:atI (r.map Dt.int) (b7 r:Int)=aa (.int (hd r)):=t1;have e1:=N5 r x (FZ x1 s1 ());have e2:=N5 left y (FZ y1 s2 ());have e3:=N5 left ((hd r).fdiv g) (FZ k1 s2 ());have e4:=N5 r ((at0 left (b7 r)).fdiv g) (FZ k2 s1 ());have e5:=MA (sclR x r) (sclR y left) (by rw[W9,W9];rfl');have e6:=MB (sclR ((hd r).fdiv g) left) (sclR ((at0 left (b7 r)).fdiv g) r) (by rw[W9,W9];rfl');rw[Zq]at e5;rw[Wg]at e6;have hT:T [g,x,y]=.tup [.int g,.int x,.int y]:=rfl;have nT:∀f,nrm f (.tup [.int g,.int x,.int y])=(.nw,.tup [.int g,.int x,.int y]):=λf=>nrm_T f [g,x,y];rw[hT]at eb;unfold R6 Ea;have eL:C7 r left g=lin ((hd r).fdiv g) left (-((at0 left (b7 r)).fdiv g)) r:=rfl;simp[cOf,F1,t1,t2,eb,nT,dv1,dv2,e1,e2,e3,e4,e5,e6,v9,eL]
theorem Lg{n q:Nat}(left:aH)(hl:left.length=n)(hh:b7 left<n):B7 [L left]=aa (L (if at0 left (b7 left)<0 then sclR (-1) left else left)):=by
 have t2:=Ei (r:=left) (k:=b7 left) ();have e1:=N5 left (-1) (λx _=>L1 (by decide));unfold B7 AD;by_cases h:at0 left (b7 left)<0
 .simp[cOf,F1,t2,h,e1]
 .simp[cOf,F1,t2,h,IW]
def F7(S:aA):aA:=(Q1 (S.map λr=>((b7 r:Int),r))).map (·.2)
theorem Dd(S:aA):(F7 S).Perm S:=by
 have:=(J7 (S.map λr=>((b7 r:Int),r))).map (·.2);rw[wK]at this;have e:S.map ((λx:Int×aH=>x.2)∘λr=>((b7 r:Int),r))=S:=by
  have:((λx:Int×aH=>x.2)∘λr:aH=>((b7 r:Int),r))=id:=rfl;rw[this,w0W]
 rw[e]at this;exact this
theorem Hv(S:aA)(hn:(S.map b7).Nodup):((F7 S).map b7).Pairwise (·<·):=by
 have h1:((F7 S).map b7).Pairwise (·<=·):=by
  have q:=Z0 (S.map λr=>((b7 r:Int),r));have mem:∀p∈Q1 (S.map λr=>((b7 r:Int),r)),p.1=(b7 p.2:Int):=λp hp=>by
   obtain⟨r,_,rfl⟩:=wl.mp ((J7 _).mem_iff.mp hp);rfl
  unfold F7;rw[wK,vi];refine List.Pairwise.imp_of_mem (λ{a b}ha hb hab=>?_) q;have e1:=mem a ha;have e2:=mem b hb;show b7 a.2<=b7 b.2;have hab:a.1<=b.1:=hab;rfl'
 have h2:((F7 S).map b7).Nodup:=((Dd S).map b7).nodup_iff.mpr hn;exact(List.pairwise_and_iff.mpr ⟨h1,h2⟩).imp λ{a b}⟨p,q⟩=>()
theorem Hw:∀S:aA,P5 j7 (S.map L)=aa (S.map λr=>(b7 r:Int))
 |[]=>rfl
 |r::S=>by rw[wj,P5,F1,Hw S];rfl
theorem TM(S:aA):(Q1 ((S.map λr=>(b7 r:Int)).zip (S.map L))).map (·.2)=(F7 S).map L:=by
 have e:(S.map λr=>(b7 r:Int)).zip (S.map L)=(S.map λr=>((b7 r:Int),r)).map λq=>(q.1,L q.2):=by
  rw[List.zip_map,wK];have:S.zip S=S.map λr=>(r,r):=by
   induction S with
   |nil=>rfl
   |cons r S ih=>rw[List.zip_cons_cons,ih];rfl
  rw[this,wK];rfl
 rw[e,Bg];unfold F7;rw[wK,wK];rfl
def BR:Nat->aA->List (Nat×aH)
 |_,[]=>[]
 |j,r::S=>(j,r)::BR (j+1) S
theorem Jp:∀(j:Nat)(S:aA),S9 j (S.map L)=(BR j S).map λp=>.tup [.int p.1,L p.2]
 |j,[]=>rfl
 |j,r::S=>by rw[wj,S9,BR,wj,Jp (j+1) S]
theorem Co(h:Nat):∀(j:Nat)(S:aA),(∀r∈S,b7 r≠h)->(BR j S).filter (λp=>decide (b7 p.2=h))=[]
 |j,[],_=>rfl
 |j,r::S,q=>by
  rw[BR,ui,Co h (j+1) S λx hx=>q x (wb _ hx)];simp[q r wd]
theorem Jq(h:Nat):∀(j:Nat)(S1:aA)(r:aH)(S2:aA),b7 r=h->((S1++r::S2).map b7).Pairwise (·<·)->(BR j (S1++r::S2)).filter (λp=>decide (b7 p.2=h))=[(j+S1.length,r)]
 |j,[],r,S2,hr,pw=>by
  rw[w0j]at pw|-;rw[wj,vc]at pw;rw[BR,ui,Co h (j+1) S2 λx hx=>by have:=pw.1 _ (wl.mpr ⟨x,hx,rfl⟩);rfl'];simp[hr]
 |j,x::S1,r,S2,hr,pw=>by
  rw[w09]at pw|-;rw[wj,vc]at pw;have hx:=pw.1 (b7 r) (wl.mpr ⟨r,by simp,rfl⟩);rw[BR,ui,Jq h (j+1) S1 r S2 hr pw.2];simp[show b7 x≠h by rfl'];rfl'
theorem Jr(S:aA)(left:aH)(c0 c1 c4 c5:Cell)(f:Bool):k7 2 [3] (CT (fN 2)) (Tg.many [0,1]) (j9 (fOp opEq (f9 ae j7 (b8 (fN 1) fNil)) (f9 ae j7 (b8 (fN 2) fNil)))) (fN 0) [c0,c1,.ow f (S.map L),.sh ae (L left),c4,c5] =
   aa (.nw,.lst (((BR 0 S).filter λp=>decide (b7 p.2=b7 left)).map λp=>.int (p.1:Int))):=by
 refine KL (e:=λp:Nat×aH=>.tup [.int p.1,L p.2]) (h:=λp=>.int (p.1:Int)) (p:=λp=>decide (b7 p.2=b7 left)) (xs:=BR 0 S) ?_ (λx hx=>?_) (λx hx _=>?_)
 .cases f<;>simp[cOf,Jp]
 .simp[cOf,F1,u7];rfl'
 .simp[cOf]
abbrev WC:FT:=j9 (fOp opLt (f9 ae j7 (b8 (fN 3) fNil)) (fBlt bLen (b8 (fN 3) fNil)))
abbrev WF:FS:=(sSeq (U4 4 (k7 2 [3] (CT (fN 2)) (Tg.many [0,1]) (j9 (fOp opEq (f9 ae j7 (b8 (fN 1) fNil)) (f9 ae j7 (b8 (fN 2) fNil)))) (fN 0)))
 (sSeq (sIf (j9 (fOp opEq (fBlt bLen (b8 (fN 4) fNil)) (fC (.int 0)))) (sRet (Ca j7 (fOp u6 (fN 2) (fLst (b8 (f9 ae B7 (b8 (fN 3) fNil)) fNil))))) t9)
 (sSeq (U4 5 (f9 ae R6 (b8 (fAt (fN 2) (fAt (fN 4) (fC (.int 0)))) (b8 (fN 3) fNil))))
 (sSeq (sPut 2 (fAt (fN 4) (fC (.int 0))) (fAt (fN 5) (fC (.int 0))))
 (U4 3 (f9 ae o0 (b8 (fAt (fN 5) (fC (.int 1))) (b8 (fN 2) fNil))))))))
theorem Wh(S:aA)(t:aH)(h:S.length<60):u6 (.lst (S.map L)) (.lst [L t])=aa (newL ((S++[t]).map L)):=by
 have:u6 (.lst (S.map L)) (.lst [L t])=Gm (.lst (S.map L)) (.lst [L t]):=rfl;rw[this,Gm,ap (by simp;rfl')];simp
theorem Wj(S:aA)(left t:aH)(c0 c1 c4 c5:Cell)(f:Bool)(hn:∀r∈S,b7 r≠b7 left)(ht:B7 [L left]=aa (L t))(hh:((S++[t]).map b7).Nodup)(h60:S.length<60):
  ∃fl,WF [c0,c1,.ow f (S.map L),.sh ae (L left),c4,c5]=aa (.rt fl (LL (F7 (S++[t])))):=by
 have pl:=Jr S left c0 c1 c4 c5 f;rw[Co _ 0 S hn]at pl;have st:Ca j7 (fOp u6 (fN 2) (fLst (b8 (f9 ae B7 (b8 (fN 3) fNil)) fNil))) [c0,c1,.ow f (S.map L),.sh ae (L left),.sh ae (.lst []),c5]=aa (newL ((F7 (S++[t])).map L)):=by
  have e1:fOp u6 (fN 2) (fLst (b8 (f9 ae B7 (b8 (fN 3) fNil)) fNil)) [c0,c1,.ow f (S.map L),.sh ae (L left),.sh ae (.lst []),c5]=aa (newL ((S++[t]).map L)):=by
   have:=Wh S t h60;simp[cOf,ht,this]
  unfold Ca;rw[e1];have k1:=Hw (S++[t]);have nd:((S++[t]).map λr=>(b7 r:Int)).Nodup:=by
   have:((S++[t]).map λr=>(b7 r:Int))=((S++[t]).map b7).map (λn:Nat=>(n:Int)):=by rw[wK];rfl
   rw[this];exact List.Pairwise.map _ (λa b hab e=>hab ()) hh
  show(P5 j7 ((S++[t]).map L)).bind _=_;rw[k1,o6,ap ⟨by simp;rfl',nd⟩,TM]
 refine⟨lfl ((F7 (S++[t])).map L),?_⟩;have e1:U4 4 (k7 2 [3] (CT (fN 2)) (Tg.many [0,1]) (j9 (fOp opEq (f9 ae j7 (b8 (fN 1) fNil)) (f9 ae j7 (b8 (fN 2) fNil)))) (fN 0)) [c0,c1,.ow f (S.map L),.sh ae (L left),c4,c5]=aa (.nx [c0,c1,.ow f (S.map L),.sh ae (L left),.sh ae (.lst []),c5]):=by
  unfold U4;rw[pl];rfl
 refine run e1 ?_;have e2:sIf (j9 (fOp opEq (fBlt bLen (b8 (fN 4) fNil)) (fC (.int 0)))) (sRet (Ca j7 (fOp u6 (fN 2) (fLst (b8 (f9 ae B7 (b8 (fN 3) fNil)) fNil))))) t9 [c0,c1,.ow f (S.map L),.sh ae (L left),.sh ae (.lst []),c5]=aa (.rt (lfl ((F7 (S++[t])).map L)) (LL (F7 (S++[t])))):=by
  have c:j9 (fOp opEq (fBlt bLen (b8 (fN 4) fNil)) (fC (.int 0))) [c0,c1,.ow f (S.map L),.sh ae (L left),.sh ae (.lst []),c5]=aa ae:=by simp[cOf,u7]
  unfold sIf;rw[c,o6,ap rfl,sRet,st];rfl
 unfold sSeq;rw[e2];rfl
theorem OL(S1 S2:aA)(r left up lo:aH)(c0 c1 c4 c5:Cell)(f:Bool)(hh:b7 r=b7 left)(pw:((S1++r::S2).map b7).Pairwise (·<·))(hc:R6 [L r,L left]=aa (.tup [L up,L lo]))(res:aH)(hl:o0 [L lo,LL (S1++up::S2)]=aa (L res)):
   ∃d4 d5,WF [c0,c1,.ow f ((S1++r::S2).map L),.sh ae (L left),c4,c5]=aa (.nx [c0,c1,.ow f ((S1++up::S2).map L),.sh ae (L res),d4,d5]):=by
 have pl:=Jr (S1++r::S2) left c0 c1 c4 c5 f;rw[Jq _ 0 S1 r S2 hh pw]at pl;have pl:k7 2 [3] (CT (fN 2)) (Tg.many [0,1]) (j9 (fOp opEq (f9 ae j7 (b8 (fN 1) fNil)) (f9 ae j7 (b8 (fN 2) fNil)))) (fN 0) [c0,c1,.ow f ((S1++r::S2).map L),.sh ae (L left),c4,c5]=aa (.nw,.lst [.int (S1.length:Int)]):=by rw[pl];simp
 refine⟨.sh ae (.lst [.int (S1.length:Int)]),.sh ae (.tup [L up,L lo]),?_⟩;have at1:atI ((S1++r::S2).map L) (S1.length:Int)=aa (L r):=CC (by simp);have ix:ixN ((S1++r::S2).map L).length (S1.length:Int)=aa S1.length:=by
   unfold ixN;rw[ap (),ap (by simp;rfl')];simp
 have set1:((S1++r::S2).map L).set S1.length (L up)=(S1++up::S2).map L:=by
   rw[vz,vz,List.set_append];simp
 have hl:o0 [L lo,.lst ((S1++up::S2).map L)]=aa (L res):=hl;generalize (S1++r::S2).map L=D at *;generalize (S1++up::S2).map L=D' at *;have e1:U4 4 (k7 2 [3] (CT (fN 2)) (Tg.many [0,1]) (j9 (fOp opEq (f9 ae j7 (b8 (fN 1) fNil)) (f9 ae j7 (b8 (fN 2) fNil)))) (fN 0)) [c0,c1,.ow f D,.sh ae (L left),c4,c5]=aa (.nx [c0,c1,.ow f D,.sh ae (L left),.sh ae (.lst [.int (S1.length:Int)]),c5]):=by
   unfold U4;rw[pl];rfl
 refine run e1 (run (ρ':=[c0,c1,.ow f D,.sh ae (L left),.sh ae (.lst [.int (S1.length:Int)]),c5]) ?_ (run (ρ':=[c0,c1,.ow f D,.sh ae (L left),.sh ae (.lst [.int (S1.length:Int)]),.sh ae (.tup [L up,L lo])]) ?_ (run (ρ':=[c0,c1,.ow f D',.sh ae (L left),.sh ae (.lst [.int (S1.length:Int)]),.sh ae (.tup [L up,L lo])]) ?_ ?_)))
 .simp[cOf,u7]
 .simp[cOf,at1,hc]
 .simp[cOf,ix,set1]
 .simp[cOf,hl]
theorem TN(S:aA)(h:Nat):(∀r∈S,b7 r≠h)\/∃S1 r S2,S=S1++r::S2/\b7 r=h:=by
 by_cases q:∃r∈S,b7 r=h
 .obtain⟨r,hr,e⟩:=q;obtain⟨S1,S2,rfl⟩:=w0G hr;exact .inr ⟨S1,r,S2,rfl,e⟩
 .exact .inl λr hr e=>q ⟨r,hr,e⟩
theorem Dg{n e:Nat}{S:aA}(A:Asc n 0 S)(hd:∀r∈S,St.hd r<2^e)(he:e<=8990):∀r∈S,r.length=n/\b7 r<n/\0<St.hd r/\St.hd r<2^9000:=λr hr=>by
 have q:=A.mem hr;refine⟨q.1,q.2.2.1,q.2.2.2,?_⟩;have h1:=hd r hr;have h9:(2:Nat)^e<=2^9000:=ww (by decide) ();have c1:((2^9000:Nat):Int)=(2:Int)^9000:=by norm_cast
 have c2:((2^e:Nat):Int)=(2:Int)^e:=by norm_cast
 rfl'
structure Sz(n e eh m0 kk:Nat):Prop where
 n20:n<=20
 e90:eh<=8990
 ehe:eh<=e
 e33:e<=33000
 m0e:m0=e+20*(e+1)
 kke:kk=2*e+3+20*(e+1)
theorem Sz.lim{n e eh m0 kk:Nat}(z:Sz n e eh m0 kk):m0+n*kk<=16000000:=by
 have h1:=z.n20;have h2:=z.e33;have h3:=z.m0e;have h4:=z.kke;have:n*kk<=20*kk:=wB _ h1;rfl'
theorem Zr{n e eh m0 kk:Nat}(z:Sz n e eh m0 kk)(S0:aA)(v:aH)(h20:S0.length<=20)(c0 c1:Cell)(f:Bool):∀(k:Nat)(S:aA)(left:aH)(c4 c5:Cell),St.Wi n e eh m0 kk S0 v S left->n-b7 left<=k ->
 (∃S' left' c4' c5',D5 WC WF (k+1) [c0,c1,.ow f (S.map L),.sh ae (L left),c4,c5]=aa (.nx [c0,c1,.ow f (S'.map L),.sh ae (L left'),c4',c5'])/\St.Post n (e+3+(m0+n*kk)) S0 v S') \/
 (∃S' fl,D5 WC WF (k+1) [c0,c1,.ow f (S.map L),.sh ae (L left),c4,c5]=aa (.rt fl (LL S'))/\St.Post n (e+3+(m0+n*kk)) S0 v S'):=by
 intro k
 induction k using uT with
 |_ k IH=>
 intro S left c4 c5 I hk;have lim:=z.lim;have hlen:S.length=S0.length:=by have:=bV eO I.heads;simpa using this
 have hc:WC [c0,c1,.ow f (S.map L),.sh ae (L left),c4,c5]=aa (decide (b7 left<n)):=by
   have:(decide ((b7 left:Int)<(left.length:Int)))=decide (b7 left<n):=by
     have:=I.len;by_cases h:b7 left<n
     .rw[aI h,aI ()]
     .rw[aK h,aK ()]
   simp[cOf,F1,this];have:=I.len;rfl'
 rw[D5,hc,o6];by_cases hn:b7 left<n
 .rw[aI hn,ap rfl];rcases TN S (b7 left)with no|⟨S1,r,S2,rfl,hr⟩
  .right;have ht:=Lg (n:=n) (q:=0) left I.len hn;generalize et:(if at0 left (b7 left)<0 then sclR (-1) left else left)=t at ht;have hne:at0 left (b7 left)≠0:=CY left (by rw[I.len];exact hn)
   have tc:∃ c:Int,(c=1∨c = -1)∧(∀ k,at0 t k=c*at0 left k)∧0<at0 t (b7 left)∧t.length=n:=by
     by_cases h:at0 left (b7 left)<0
     .rw[ap h]at et;subst et;have e1:∀k,at0 (sclR (-1) left) k = -1*at0 left k:=λk=>by
       simp only[at0,sclR,bA,wx];cases left[k]?<;>simp
      exact⟨-1,.inr rfl,e1,by rw[e1];rfl',by rw[W9];exact I.len⟩
     .rw[ax h]at et;subst et;exact⟨1,.inl rfl,λk=>(),(),I.len⟩
   obtain⟨c,hc1,hc2,hc3,hc4⟩:=tc;have th:b7 t=b7 left:=M6 _ _ (λk hk=>by rw[hc2,x9 left k hk];simp) ();have nd:((S++[t]).map b7).Nodup:=by
     rw[vz,uE];refine⟨(Asc.iff.mp I.asc).2.imp λ{a b}h=>(),by simp,λa ha b hb=>?_⟩;obtain⟨x,hx,rfl⟩:=wl.mp ha;have:=no x hx;have hb:b=b7 t:=by simpa using hb
     rfl'
   obtain⟨fl,ew⟩:=Wj S left t c0 c1 c4 c5 f no ht nd ();refine⟨F7 (S++[t]),fl,by rw[ew];rfl,?_⟩;refine I.new hn no hc4 c hc1 hc2 hc3 ?_ (Hv _ nd);exact(Dd _).trans (vq)
  .have hm:r∈S1++r::S2:=by simp
   have q:=I.asc.mem hm;have hcast:((2^e:Nat):Int)=(2:Int)^e:=by norm_cast
   have hle:m0+b7 left*kk<=m0+n*kk:=by have:=wB kk (wN hn);rfl'
   obtain⟨g,x,y,ec,hg,ga,gb,hxy,hx,hy⟩:=OK (n:=n) (e:=eh) (q:=e+3+(m0+b7 left*kk)) r left q.1 I.len q.2.2.1 q.2.2.2 (I.hds r hm) (I.low r hm).1 (I.low r hm).2 z.e90 (I.all r hm) (I.size.mono (ww (by decide) ())) (by have:=z.e33;rfl');have hl2:S1.length+S2.length+1<=20:=by simp at hlen;rfl'
   obtain⟨I',hlt,lb,hds'⟩:=I.step hr hn hg ga gb hxy (wt hx (ww (by decide) (by have:=z.ehe;rfl'))) (wt hy (ww (by decide) (by have:=z.ehe;rfl'))) (by have:=z.m0e;rfl') (by
     have:=z.kke;have:(S1.length+S2.length+1)*(e+1)<=20*(e+1):=wB _ hl2;rfl')
   have el:=U0 (n:=n) (m:=m0+n*kk) (L (C7 r left g)) (C7 r left g) (S1++v9 r left x y::S2) (.inl rfl) () (Dg I'.asc hds' z.e90) (by
     unfold C7;rw[FQ (by rw[I.len,q.1])];exact I.len) lb (by simp;rfl')
   obtain⟨d4,d5,ew⟩:=OL S1 S2 r left _ _ c0 c1 c4 c5 f hr (Asc.iff.mp I.asc).2 ec _ el;cases k with
   |zero=>rfl'
   | succ k =>
     rcases IH k (wW k) _ _ d4 d5 I' () with⟨S',l',d4',d5',h1,h2⟩|⟨S',fl,h1,h2⟩
     .exact .inl ⟨S',l',d4',d5',by rw[ew];exact h1,h2⟩
     .exact .inr ⟨S',fl,by rw[ew];exact h1,h2⟩
 .rw[aK hn];exact .inl ⟨S,left,c4,c5,rfl,I.done hn⟩
theorem MF{n e eh m0 kk:Nat}(z:Sz n e eh m0 kk)(S:aA)(d:Dt)(v:aH)(hd:RowD d v)(A:Asc n 0 S)(hv:v.length=n)(h0:∀r∈S,Lt (2^e) r)(hh:∀r∈S,St.hd r<2^eh)(hs:Lt (2^e) v)(h20:S.length<=20):
   ∃S',M9 [LL S,d]=aa (LL S')/\St.Post n (e+3+(m0+n*kk)) S v S':=by
 have lim:=z.lim;have hm0:=z.m0e;have hml:e+S.length*(e+1)<=m0:=by have:S.length*(e+1)<=20*(e+1):=wB _ h20;rfl'
 obtain⟨I,lb⟩:=St.Wi.start (n:=n) (e:=e) (eh:=eh) (s:=e) (m0:=m0) (kk:=kk) A hv h0 hh hs hml ();have el:=U0 (n:=n) (m:=m0) d v S hd () (Dg A I.hds z.e90) hv lb ();have el:o0 [d,.lst (S.map L)]=aa (L (i4 v S)):=el;have fl:∃f:Bool,∀d0:Dt,sOwn 2 (fBlt bLst (b8 (fN 0) fNil)) [.sh ag (LL S),.sh ag d0,.no,.no,.no,.no]=aa (.nx [.sh ag (LL S),.sh ag d0,.ow f (S.map L),.no,.no,.no]):=by
   cases S with
   |nil=>exact⟨ae,λd0=>by simp[cOf]⟩
   |cons r S=>exact⟨ag,λd0=>by simp[cOf,newL,lfl]⟩
 obtain⟨f,hf⟩:=fl;have hb:∀o,S8 WC WF [.sh ag (LL S),.sh ag d,.ow f (S.map L),.sh ae (L (i4 v S)),.no,.no]=aa o->(∃S' fl,seqO (sRet (fN 2)) o=aa (.rt fl (LL S'))/\St.Post n (e+3+(m0+n*kk)) S v S')->∃S',M9 [LL S,d]=aa (LL S')/\St.Post n (e+3+(m0+n*kk)) S v S':=by
   rintro o ho ⟨S',fl,h1,h2⟩;refine⟨S',?_,h2⟩;have e2:U4 3 (f9 ae o0 (b8 (fN 1) (b8 (fN 2) fNil))) [.sh ag (LL S),.sh ag d,.ow f (S.map L),.no,.no,.no]=aa (.nx [.sh ag (LL S),.sh ag d,.ow f (S.map L),.sh ae (L (i4 v S)),.no,.no]):=by
    rcases hd with rfl|rfl<;>simp[cOf,el]
   have q:T6 [.sh ag (LL S),.sh ag d,.no,.no,.no,.no]=aa (.rt fl (LL S')):=by
    unfold T6;refine run (hf d) (run e2 ?_);show(S8 WC WF _).bind (seqO (sRet (fN 2)))=_;rw[ho];exact h1
   unfold M9 cOf;rw[ap (show[LL S,d].length=2 from rfl)];show(T6 [.sh ag (LL S),.sh ag d,.no,.no,.no,.no]).bind _=_;rw[q];rfl
 rcases Zr z S v h20 (.sh ag (LL S)) (.sh ag d) f (n-b7 (i4 v S)) S (i4 v S) .no .no I (wf _) with⟨S',l',d4',d5',h1,h2⟩|⟨S',fl,h1,h2⟩
 .exact hb _ (Be h1) ⟨S',flOf f,rfl,h2⟩
 .exact hb _ (Be h1) ⟨S',fl,rfl,h2⟩
theorem ES:∀(A T:aA),∃A',even (A++T)=A'++even T
 |[],T=>⟨[],rfl⟩
 |r::A,T=>by
  obtain⟨A',e⟩:=ES A T;exact⟨i4 r (even (A++T))::A',by rw[w09,even,e];rfl⟩
theorem Hx{n:Nat}:∀{f:Nat}{A T:aA},Asc n f (A++T)->Asc n 0 T
 |f,[],T,h=>h.weak (wy _)
 |f,r::A,T,h=>Hx (A:=A) h.2.2.2.2
abbrev EF:FS:=sWrA GH 1 (f9 ae o0 (b8 (fN 2) (b8 (fN 1) fNil)))
theorem SD{n e eh u:Nat}(he:eh<=8990)(he3:e<=33000)(hu:u<=17000000)(c0:Cell)(S:aA)(A:Asc n 0 S)(hs:∀r∈S,Lt (2^u) r)(hE:∀r∈even S,Lt (2^e) r)(hH:∀r∈even S,hd r<2^eh)(h20:S.length<=21)(heu:e<=u):
  ∀(R T:aA)(c2:Cell),S=R.reverse++T->∃c2',forF (Tg.one 2) EF (R.map L) [c0,.ow ae ((even T).map L),c2]=aa (.nx [c0,.ow ae ((even S).map L),c2'])
 |[],T,c2,h=>⟨c2,by rw[h];rfl⟩
 | r::R,T,c2,h=>by
  have h':S=R.reverse++(r::T):=by rw[h];simp
  obtain⟨c2',ih⟩:=SD he he3 hu c0 S A hs hE hH h20 heu R (r::T) (.sh ag (L r)) h';refine⟨c2',?_⟩;rw[wj,M4];have hlen:T.length+1<=21:=by have:=bV eO h';simp at this;rfl'
  have rm:r∈S:=by rw[h'];simp
  have AT:Asc n 0 T:=Hx (A:=R.reverse++[r]) (by rw[wP];show Asc n 0 (R.reverse++(r::T));rw[<-h'];exact A);have AE:=(R5 AT).1;obtain⟨A',ea⟩:=ES (R.reverse++[r]) T;have sub:∀x∈even T,x∈even S:=λx hx=>by
   rw[h',show R.reverse++(r::T)=(R.reverse++[r])++T by simp,ea];exact wn.mpr (.inr hx)
  have hE':∀x∈even T,Lt (2^e) x:=λx hx=>hE x (sub x hx);have hel:(even T).length<=20:=by rw[T3];rfl'
  have hmul:(even T).length*(e+1)<=20*(e+1):=wB _ hel;obtain⟨_,lb⟩:=K1 (n:=n) (t:=0) (s:=u) (e:=e) (m:=u+20*(e+1)) (S:=even T) (left:=r) (λx hx=>⟨(AE.mem hx).1,(AE.mem hx).2.2.2⟩) (A.mem rm).1 (λk hk=>()) (λx hx _=>hE' x hx) (hs r rm) () ();have el:=U0 (n:=n) (m:=u+20*(e+1)) (L r) r (even T) (.inl rfl) () (Dg AE (λx hx=>hH x (sub x hx)) he) (A.mem rm).1 lb ();have el:o0 [L r,.lst ((even T).map L)]=aa (L (i4 r (even T))):=el;have e1:(Tg.put (Tg.one 2) (L r) [c0,.ow ae ((even T).map L),c2]).bind EF=aa (.nx [c0,.ow ae (L (i4 r (even T))::(even T).map L),.sh ag (L r)]):=by
   simp[cOf,el,show(even T).length<1000000 by rfl']
  rw[e1];exact ih
theorem TQ{n e eh u:Nat}(S:aA)(he:eh<=8990)(he3:e<=33000)(hu:u<=17000000)(A:Asc n 0 S)(hs:∀r∈S,Lt (2^u) r)(hE:∀r∈even S,Lt (2^e) r)(hH:∀r∈even S,hd r<2^eh)(h20:S.length<=21)(heu:e<=u):AF [LL S]=aa (LL (even S)):=by
 obtain⟨c2,q⟩:=SD he he3 hu (.sh ag (LL S)) S A hs hE hH h20 heu S.reverse [] .no (by simp);have q:forF (Tg.one 2) EF (S.map L).reverse [.sh ag (LL S),.ow ae [],.no]=aa (.nx [.sh ag (LL S),.ow ae ((even S).map L),c2]):=by rw[<-List.map_reverse];exact q
 unfold AF Hn;simp[cOf,q]
abbrev CF:FS:=sSet [] 1 (f9 ae AF (b8 (f9 ag M9 (b8 (fN 1) (b8 (fN 2) fNil))) fNil))
theorem Hy{n e eh B:Nat}(ed:aH->Dt)(hed:∀r,RowD (ed r) r)(hn:n<=20)(he:eh<=8990)(hee:eh<=e)(he3:e<=33000)(all:aA)(hl:∀r∈all,r.length=n)(hb:∀r∈all,Lt B r)(hB:0<B)(hBe:B<=2^e)(hbn:∀k,k<=all.length->bnd k B+1<=2^e)(hH:∀k S,k<=all.length->St.Good n B (all.take k) S->∀r∈S,hd r<2^eh)(h20:all.length<=20)(c0:Cell):
  ∀(todo done:aA)(S:aA)(c2:Cell),all=done++todo->St.Good n B done S->∃S' c2',forF (Tg.one 2) CF (todo.map ed) [c0,.sh ae (LL S),c2]=aa (.nx [c0,.sh ae (LL S'),c2'])/\St.Good n B all S'
 |[],done,S,c2,h,G=>⟨S,c2,rfl,by rw[h,vd];exact G⟩
 | v::todo,done,S,c2,h,G=>by
  have z:Sz n e eh (e+20*(e+1)) (2*e+3+20*(e+1)):=⟨hn,he,hee,he3,rfl,rfl⟩;have hdn:all.take done.length=done:=by rw[h];simp
  have hdv:all.take (done.length+1)=done++[v]:=by rw[h,List.take_append,vm ()];simp
  have hld:done.length+1+todo.length=all.length:=by rw[h];simp;rfl'
  have hv:v∈all:=by rw[h];simp
  have sub:∀r∈done,r∈all:=λr hr=>by rw[h];exact wn.mpr (.inl hr)
  have small:=G.small (λr hr=>hb r (sub r hr)) hB;have len:=G.len;have small:∀r∈S,Lt (2^e) r:=λr hr=>(small r hr).mono (hbn _ ());obtain⟨S1,e1,P⟩:=MF z S (ed v) v (hed v) G.asc (hl v hv) small (hH done.length S () (by rw[hdn];exact G)) ((hb v hv).mono hBe) ();have G':=G.step P;have small':=G'.small (λr hr=>by
   rcases wn.mp hr with hr|hr
   .exact hb r (sub r hr)
   .rw[wv.mp hr];exact hb v hv) hB
  have len':=G'.len;have len2:(done++[v]).length=done.length+1:=by simp
  have small':∀r∈even S1,Lt (2^e) r:=λr hr=>(small' r hr).mono (hbn _ ());have lim:=z.lim;have e2:=TQ (n:=n) (e:=e) (u:=e+3+(e+20*(e+1)+n*(2*e+3+20*(e+1)))) S1 he he3 () P.asc P.size small' (hH (done.length+1) _ () (by rw[hdv];exact G')) (by rw[<-T3];rfl') ();obtain⟨S',c2',ih,GG⟩:=Hy ed hed hn he hee he3 all hl hb hB hBe hbn hH h20 c0 todo (done++[v]) (even S1) (.sh ag (ed v)) (by rw[h];simp) G';refine⟨S',c2',?_,GG⟩;rw[wj,M4];have st:(Tg.put (Tg.one 2) (ed v) [c0,.sh ae (LL S),c2]).bind CF=aa (.nx [c0,.sh ae (LL (even S1)),.sh ag (ed v)]):=by
   have sn:∀f,(nrm f (ed v)).2=ed v:=λf=>rfl;simp[cOf,sn,e1,e2]
  rw[st];exact ih
theorem MG{n e eh B:Nat}(ed:aH->Dt)(hed:∀r,RowD (ed r) r)(hn:n<=20)(he:eh<=8990)(hee:eh<=e)(he3:e<=33000)(rows:aA)(d:Dt)(hd:d=.lst (rows.map ed)\/d=.tup (rows.map ed))(hl:∀r∈rows,r.length=n)(hb:∀r∈rows,Lt B r)(hB:0<B)(hBe:B<=2^e)(hbn:∀k,k<=rows.length->bnd k B+1<=2^e)(hH:∀k S,k<=rows.length->St.Good n B (rows.take k) S->∀r∈S,St.hd r<2^eh)(h20:rows.length<=20):
   ∃S,X2 [d]=aa (LL S)/\St.Good n B rows S:=by
 obtain⟨S,c2,q,G⟩:=Hy ed hed hn he hee he3 rows hl hb hB hBe hbn hH h20 (.sh ag d) rows [] [] .no rfl St.Good.nil;refine⟨S,?_,G⟩;have q:forF (Tg.one 2) CF (rows.map ed) [.sh ag d,.sh ae (.lst []),.no]=aa (.nx [.sh ag d,.sh ae (LL S),c2]):=q;unfold X2 Eb;rcases hd with rfl|rfl
 .simp[cOf,q]
 .simp[cOf,q]
theorem OM{n e B:Nat}(ed:aH->Dt)(hed:∀r,RowD (ed r) r)(hn:n<=20)(he:e<=8990)(rows:aA)(d:Dt)(hd:d=.lst (rows.map ed)\/d=.tup (rows.map ed))(hl:∀r∈rows,r.length=n)(hb:∀r∈rows,Lt B r)(hB:0<B)(hBe:B<=2^e)(hbn:∀k,k<=rows.length->bnd k B+1<=2^e)(h20:rows.length<=20):
 ∃S,X2 [d]=aa (LL S)/\St.Good n B rows S:=MG (eh:=e) ed hed hn he (wf _) () rows d hd hl hb hB hBe hbn (λk S hk G r hr=>by
 have q:=G.small (λr hr=>hb r (w0q hr)) hB r hr (b7 r);have l:=G.len;have b:=hbn S.length (by rw[vg]at l;rfl');have q:(St.hd r).natAbs<bnd S.length B+1:=q;have c2:((2^e:Nat):Int)=(2:Int)^e:=by norm_cast
 rfl') h20
theorem Wk{n e B:Nat}(k:Int)(bills:aA)(hn:n<=20)(he:e<=8990)(hl:∀r∈bills,r.length=n)(hb:∀r∈bills,Lt B r)(hB:0<B)(hBe:B<=2^e)(hbn:∀k,k<=bills.length->bnd k B+1<=2^e)(h20:bills.length<=20):
  ∃S,D7 [k9 k bills]=aa (LL S)/\St.Good n B bills S:=by
 obtain⟨S,q,G⟩:=OM (n:=n) (e:=e) (B:=B) T (λr=>.inr rfl) hn he bills (TTu bills) (.inr rfl) hl hb hB hBe hbn h20;refine⟨S,?_,G⟩;unfold D7 La;simp[cOf,q]
def Js(xs:aH):Int:=xs.foldl (λt x=>t*x) 1
theorem ON{e:Nat}(xs:aH)(h:∀x∈xs,x.natAbs<2^e)(he:e*(xs.length+1)<=1000000):Bw [L xs]=aa (.int (Js xs)):=by
 have key:∀(ys:aH)(t:Int)(k:Nat)(c0 c2:Cell)(f:Bool),(∀x∈ys,x.natAbs<2^e)->t.natAbs<2^k->k+e*(ys.length+1)<=2000000->∃f' c2',forF (Tg.one 2) (sSet [] 1 (fOp G1 (fN 1) (fN 2))) (ys.map Dt.int) [c0,.sh f (.int t),c2]=aa (.nx [c0,.sh f' (.int (ys.foldl (λt x=>t*x) t)),c2']):=by
  intro ys
  induction ys with
  |nil=>intro t k c0 c2 f _ _ _;exact⟨f,c2,rfl⟩
  | cons y ys ih =>
   intro t k c0 c2 f hy ht hk;have e1:e*(ys.length+1+1)=e*(ys.length+1)+e:=Nat.mul_succ _ _;rw[wp,e1]at hk;have m:D9 t y=ae:=Ot ht (hy y wd) ();have b:(t*y).natAbs<2^(k+e):=by rw[wX,vZ];exact w0b ht (hy y wd)
   obtain⟨f',c2',q⟩:=ih (t*y) (k+e) c0 (.sh ag (.int y)) ae (λx hx=>hy x (wb _ hx)) b ();refine⟨f',c2',?_⟩;rw[wj,M4,w15,<-q];have s:(Tg.put (Tg.one 2) (.int y) [c0,.sh f (.int t),c2]).bind (sSet [] 1 (fOp G1 (fN 1) (fN 2)))=aa (.nx [c0,.sh ae (.int (t*y)),.sh ag (.int y)]):=by
    simp[cOf,m]
   rw[s];rfl
 obtain⟨f',c2',q⟩:=key xs 1 1 (.sh ag (L xs)) .no ae h (by decide) ();unfold Bw DY;have q:forF (Tg.one 2) (sSet [] 1 (fOp G1 (fN 1) (fN 2))) (xs.map Dt.int) [.sh ag (L xs),.sh ae (.int 1),.no]=aa (.nx [.sh ag (L xs),.sh f' (.int (Js xs)),c2']):=q;simp[cOf,q]
theorem OO(d:Dt):R7 [d]=aa (.bl (isWh d)):=by
 unfold R7 Eg;cases d<;>simp[cOf,isWh,Dt.flat,nrm]<;>simp[tyN,Dt.flat]
theorem MH(a:aH)(n:Int):Z6 [L a,.int n]=aa (.bl (decide ((a.length:Int)=n))):=by
 unfold Z6 Cm;obtain⟨j,q⟩:=W8 (g:=Tg.one 2) (F:=sIf (fNot (fTru (f9 ae R7 (b8 (fN 2) fNil)))) (sRet (fC (.bl ag))) t9) (e:=Dt.int) (R:=λ(_:Unit)(c:Cell)=>[.sh ag (L a),.sh ag (.int n),c]) (step:=λ_ _=>.unit) a .unit .no
   (λb x j hx=>⟨.sh ag (.int x),by simp[cOf,Tg.put,OO,isWh]⟩)
 have q:forF (Tg.one 2) (sIf (fNot (fTru (f9 ae R7 (b8 (fN 2) fNil)))) (sRet (fC (.bl ag))) t9) (a.map Dt.int) [.sh ag (L a),.sh ag (.int n),.no]=aa (.nx [.sh ag (L a),.sh ag (.int n),j]):=q;by_cases h:(a.length:Int)=n
 .simp[cOf,E7,h,q]
 .simp[cOf,E7,h]
theorem Lh{r:aH}{k:Nat}(h:k<r.length):atI (r.map Dt.int) (k:Int)=aa (.int (at0 r k)):=by
 rw[CV,KN h];simp[at0,bA,wa h]
theorem MI(r:aH):∀(m k:Nat),r.length-k<=m->k<=b7 r->(∀j,j<k->at0 r j=0)->D5 (fAnd (j9 (fOp opLt (fN 1) (fBlt bLen (b8 (fN 0) fNil)))) (j9 (fOp opEq (fAt (fN 0) (fN 1)) (fC (.int 0))))) (sSet [] 1 (fOp u6 (fN 1) (fC (.int 1)))) (m+1) [.sh ag (L r),.sh ae (.int k)]=aa (.nx [.sh ag (L r),.sh ae (.int (b7 r))]):=by
 intro m
 induction m using uT with
 |_ m IH=>
 intro k hm hk hz;have hl:=Bn r;rw[D5];by_cases h:k<r.length
 .have a:=Lh h;by_cases h0:at0 r k=0
  .have ne:k≠b7 r:=λe=>CY r () (by rw[<-e];exact h0);cases m with
   |zero=>rfl'
   | succ m =>
    have ih:=IH m (wW m) (k+1) () () (λj hj=>by
     by_cases q:j=k
     .rw[q];exact h0
     .exact hz j ())
    rw[show((k+1:Nat):Int)=(k:Int)+1 by rfl']at ih;simp[cOf,a,h,h0,u7];exact ih
  .have e:k=b7 r:=(M6 r k hz h0).symm;simp[cOf,a,h,h0,u7];rfl'
 .simp[cOf,h];rfl'
theorem TR(r:aH):AI [L r]=aa (.int (b7 r)):=by
 have q:=Be (MI r r.length 0 () (wy _) (λj hj=>()));have q:S8 _ _ [.sh ag (L r),.sh ae (.int 0)]=_:=q;unfold AI Hq;simp[cOf,q]
theorem TU(a b:aH)(k:Int)(hl:a.length=b.length)(hs:a.length<=1000)(h:∀x∈b,D9 k x=ae):AH [L a,L b,.int k]=aa (L (addR a (sclR k b))):=by
 unfold AH Ho;have q:k7 1 [0,2,1] (u9 (fBlt bLen (b8 (fN 0) fNil))) (Tg.one 0) fYes (fOp u6 (fAt (fN 1) (fN 0)) (fOp G1 (fN 2) (fAt (fN 3) (fN 0)))) [.sh ag (L a),.sh ag (L b),.sh ag (.int k)]=aa (.nw,L (addR a (sclR k b))):=by
  rw[o9 (e:=λ(j:Nat)=>.int (0+(j:Int))) (h:=λ(j:Nat)=>.int (a.getD j 0+k*b.getD j 0)) (xs:=aT a.length) (by simp[cOf,u9,intD,Ou (show a.length<=1000000 by rfl'),J8]) (λj hj=>by
   have hj:=wQ.mp hj;have e1:=CW (xs:=a) 0 hj;have e2:=CW (xs:=b) (i:=j) 0 ();have e3:=h _ (VM 0 (show j<b.length by rfl'));simp[cOf,Tg.put,sigD,GA,CV,e1,e2,e3,-List.getD_eq_getElem?_getD]),L_map (λj=>a.getD j 0+k*b.getD j 0),addscl a b k hl]
 simp[cOf,q]
structure Hall(n:Nat)(bills:aA):Prop where
 n1:1<=n
 n6:n<=6
 m8:bills.length<=8
 wide:∀r∈bills,r.length=n
 small:∀r∈bills,∀x∈r,x.natAbs<10^30
theorem Hall.lt{n:Nat}{bills:aA}(H:Hall n bills):∀r∈bills,Lt (10^30) r:=λr hr=>St.Ty (by decide) (H.small r hr)
theorem OP{n:Nat}{bills:aA}(H:Hall n bills):∃S,D7 [k9 n bills]=aa (LL S)/\St.Good n (10^30) bills S/\∀r∈S,Lt (2^900) r:=by
 have m8:=H.m8;have n6:=H.n6;obtain⟨S,es,G⟩:=Wk (n:=n) (e:=900) (B:=10^30) n bills () () H.wide H.lt (by decide) (by decide) (λk hk=>St.bnd30 k ()) ();have:=G.len;exact⟨S,es,G,λr hr=>(G.small H.lt (by decide) r hr).mono (St.bnd30 _ ())⟩
theorem hd_lt{n e:Nat}{S:aA}(A:Asc n 0 S)(h:∀r∈S,Lt (2^e) r):∀r∈S,hd r<2^e:=λr hr=>by
 have h1:=h r hr (b7 r);have h3:(hd r).natAbs<2^e:=h1;have:((2^e:Nat):Int)=(2:Int)^e:=by norm_cast
 rfl'
theorem Ej{n e s:Nat}{S:aA}{v:aH}(A:Asc n 0 S)(h:∀r∈S,Lt (2^e) r)(he:e<=8990)(hv:v.length=n)(hs:Lt (2^s) v)(h20:S.length<=20)(hsl:s<=1000000):
  (∀r∈S,r.length=n/\b7 r<n/\0<hd r/\hd r<2^9000)/\St.LowB (s+20*(e+1)) v S/\2*(s+20*(e+1))<=134217728/\S.length<=1000/\Lt (2^(s+20*(e+1))) (i4 v S):=by
 have hm:S.length*(e+1)<=20*(e+1):=wB _ h20;obtain⟨z1,z2⟩:=K1 (n:=n) (t:=0) (s:=s) (e:=e) (m:=s+20*(e+1)) (S:=S) (left:=v) (λr hr=>⟨(A.mem hr).1,(A.mem hr).2.2.2⟩) hv (λk hk=>()) (λr hr _=>h r hr) hs () ();exact⟨Dg A (hd_lt A h) he,z2,(),(),z1.mono (ww (by decide) ())⟩
theorem copies(bills:aA)(ρ:Rho)(F:FE)(f:Fl)(h:F ρ=aa (f,LL bills)):k7 1 [] (iSeq F) (Tg.one 0) fYes (fBlt bLst (b8 (fN 0) fNil)) ρ=aa (.nw,LL bills):=
 o9 (e:=L) (h:=L) (xs:=bills) (by unfold iSeq;rw[h];rfl) (λx hx=>by simp[cOf])
theorem OQ(ns:aH):Hall (C8 ns) (L3 ns):=⟨(Cd ns).1,(Cd ns).2,by rw[Mj];exact IZ ns,KO ns,Ov ns⟩
theorem Hall.made{n:Nat}{bills:aA}(H:Hall n bills):X0 [.int n,LL bills]=aa (k9 n bills):=OJ n bills H.n1 H.n6 H.m8 H.wide H.small
theorem MJ(a b:aH)(q:Int):addR a (sclR (-q) b)=St.sub a q b:=by
 unfold addR sclR St.sub;rw[uC];congr 1
 funext x y
 rw[w0t];rfl'
abbrev LfF:FS:=(sSeq (sSet [] 4 (f9 ae AI (b8 (fN 3) fNil)))
 (sSet [] 2 (f9 ae AH (b8 (fN 2) (b8 (fN 3) (b8 (fNeg (fOp Ah (fAt (fN 2) (fN 4)) (fAt (fN 3) (fN 4)))) fNil))))))
theorem Jt{n m:Nat}(hn:n<=1000)(hm:2*m<=134217728)(c0 c1:Cell):∀(S:aA)(left:aH)(c3 c4:Cell),(∀r∈S,r.length=n/\b7 r<n/\0<hd r/\hd r<2^9000)->left.length=n->St.LowB m left S ->
  ∃c3' c4',forF (Tg.one 3) LfF (S.map L) [c0,c1,.sh ae (L left),c3,c4]=aa (.nx [c0,c1,.sh ae (L (i4 left S)),c3',c4'])
 |[],left,c3,c4,_,_,_=>⟨c3,c4,rfl⟩
 | r::S,left,c3,c4,hr,hl,hb=>by
  obtain⟨r1,r2,r3,r4⟩:=hr r wd;have hs:(St.sub left (o7 left r) r).length=n:=by rw[O3 ()];exact hl
  obtain⟨d3,d4,ih⟩:=Jt hn hm c0 c1 S (St.sub left (o7 left r) r) (.sh ag (L r)) (.sh ae (.int (b7 r))) (λx hx=>hr x (wb _ hx)) hs hb.2;refine⟨d3,d4,?_⟩;rw[wj,M4];have a1:=Lh (r:=left) (k:=b7 r) ();have a2:=Lh (r:=r) (k:=b7 r) ();have dv:L9 (at0 left (b7 r)) (at0 r (b7 r))=ae:=Bz r3 r4;have ef:(at0 left (b7 r)).fdiv (at0 r (b7 r))=o7 left r:=rfl;have mo:∀x∈r,D9 (-(o7 left r)) x=ae:=λx hx=>by
   obtain⟨k,rfl⟩:=VT hx;rcases hb.1 with h|⟨h1,h2⟩
   .rw[h];exact L1 (by decide)
   .exact R8 (m:=m) () (h2 k) ()
  have pl:=TU left r (-(o7 left r)) () () mo;rw[MJ]at pl;have e:(Tg.put (Tg.one 3) (L r) [c0,c1,.sh ae (L left),c3,c4]).bind LfF=aa (.nx [c0,c1,.sh ae (L (St.sub left (o7 left r) r)),.sh ag (L r),.sh ae (.int (b7 r))]):=by
   simp[cOf,TR,a1,a2,dv,ef,pl]
  rw[e];exact ih
theorem BA{n m:Nat}(v:aH)(S:aA)(hn:n<=1000)(hm:2*m<=134217728)(hr:∀r∈S,r.length=n/\b7 r<n/\0<hd r/\hd r<2^9000)(hl:v.length=n)(hb:St.LowB m v S):L5 [LL S,L v]=aa (L (i4 v S)):=by
 obtain⟨d3,d4,q⟩:=Jt hn hm (.sh ag (LL S)) (.sh ag (L v)) S v .no .no hr hl hb;unfold L5 Hr;simp[cOf,q]
theorem OR{np nn m:Nat}{fr:Bool}{F:FS}{ds:iC}(hl:ds.length=np)(h:F (rho0 nn ds)=aa (.ex m)):xOf np nn fr F ds=aa (.inr m):=by
 unfold xOf;rw[ap hl,h];rfl
theorem Wl{F G:FS}{ρ:Rho}{m:Nat}(h:F ρ=aa (.ex m)):sSeq F G ρ=aa (.ex m):=by
 unfold sSeq;rw[h];rfl
theorem Wm{c:FX}{Fs:FA}{ρ:Rho}{xs:iE}{m:Nat}(h:Fs ρ=aa xs)(q:c (sndL xs)=aa (.inr m)):Kx c Fs ρ=aa (.ex m):=by
 unfold Kx;rw[h,o6,q];rfl
theorem Wn{c:FX}{Fs:FA}{ρ ρ':Rho}{xs:iE}{m:Nat}{hits:Nat->Bool}{G:FS}(h:Fs ρ=aa xs)(q:c (sndL xs)=aa (.inr m))(hm:hits m=ae)(g:G ρ=aa (.nx ρ')):sTry c Fs hits G ρ=aa (.nx ρ'):=by
 unfold sTry;rw[h,o6,q,o6];show(if hits m=ae then _ else _)=_;rw[ap hm,g];rfl
theorem Wo{c:FX}{Fs:FA}{ρ ρ':Rho}{xs:iE}{m i:Nat}{hits:Nat->Bool}{G:FS}(h:Fs ρ=aa xs)(q:c (sndL xs)=aa (.inr m))(hm:hits m=ae)(g:G (ρ.set i .ex)=aa (.nx ρ')):Kz c Fs hits i G ρ=aa (.nx (ρ'.set i .no)):=by
 unfold Kz;rw[h,o6,q,o6];show(if hits m=ae then _ else _)=_;rw[ap hm,g];rfl
theorem exCall{c:FX}{Fs:FA}{ρ:Rho}{xs:iE}{m:Nat}(h:Fs ρ=aa xs)(q:c (sndL xs)=aa (.inr m)):sEx (Sg c Fs) ρ=aa (.ex m):=by
 unfold sEx Sg;rw[h,o6,q];rfl
theorem Zs{x:Int}{n:Nat}(h:0<n):∃k:Nat,k<n/\x.fmod (n:Int)=(k:Int):=by
 have a:=vx x (show(0:Int)<n by rfl');have b:=vH x (show(0:Int)<n by rfl');obtain⟨k,hk⟩:=Int.eq_ofNat_of_zero_le a;exact⟨k,(),hk⟩
theorem ET{ds:iC}{d:Dt}(e:K3 ds=aa d):Mr N3 D7 D3 X1 Q4 o0 ds d:=by
 unfold K3 at e;split at e
 .rename_i h;cases e;exact vp h
 .cases e
theorem Ek{n:Nat}{S:aA}(A:Asc n 0 S)(hs:∀r∈S,Lt (2^900) r)(h20:S.length<=20):J3 [LL S]=aa (.int (Js (S.map hd))):=by
 have key:k7 1 [] (iSeq (fN 0)) (Tg.one 0) fYes (fAt (fN 0) (f9 ae j7 (b8 (fN 0) fNil))) [.sh ag (LL S)]=aa (.nw,L (S.map hd)):=by
  rw[o9 (e:=L) (h:=λr=>.int (hd r)) (xs:=S) (by simp[cOf]) (λr hr=>by
   have a:=Ei (r:=r) (k:=b7 r) (by rw[(A.mem hr).1];exact(A.mem hr).2.2.1);have a:atI (r.map Dt.int) (b7 r:Int)=aa (.int (hd r)):=a;simp[cOf,F1,a])]
  simp[L]
 have pe:=ON (e:=900) (S.map hd) (λx hx=>by
  obtain⟨r,hr,rfl⟩:=wl.mp hx;exact hs r hr _) (by rw[we];rfl')
 unfold J3 P8;generalize S.map hd=xs at *;simp[cOf,key,pe]
theorem EU{n:Nat}{bills S:aA}(es:D7 [k9 n bills]=aa (LL S))(A:Asc n 0 S)(hs:∀r∈S,Lt (2^900) r)(h20:S.length<=20):F0 [k9 n bills]=aa (if S.length<n then .non else .int (Js (S.map hd))):=by
 have e:=Ek A hs h20;unfold F0 Cj;by_cases h:S.length<n
 .simp[cOf,es,h]
 .simp[cOf,es,h,e]
theorem MK(m j:Nat)(hm:m<=1000):T5 [.int m,.int j]=aa (L (G7 m j)):=by
 unfold T5 Ch;have q:k7 1 [1] (u9 (fN 0)) (Tg.one 0) fYes (fIf (j9 (fOp opEq (fN 0) (fN 1))) (fC (.int 1)) (fC (.int 0))) [.sh ag (.int m),.sh ag (.int j)]=aa (.nw,L (G7 m j)):=by
  rw[o9 (e:=λ(k:Nat)=>.int (0+(k:Int))) (h:=λk=>.int (if k=j then 1 else 0)) (xs:=aT m) (by simp[cOf,y13 m (),J8]) (λk _=>by
   by_cases h:k=j
   .simp[cOf,u7,h]
   .simp[cOf,u7,h,show ¬(k:Int)=(j:Int) by rfl'])]
  rw[L_map (λk=>if k=j then 1 else 0)];rfl
 simp[cOf,q]
theorem cat_LL(a b:aA)(h:a.length+b.length<=1000):∃f,u6 (LL a) (LL b)=aa (f,LL (a++b)):=by
 have e1:(a.map L).length+(b.map L).length<=1000000:=by simp;rfl'
 have:u6 (.lst (a.map L)) (.lst (b.map L))=Gm (.lst (a.map L)) (.lst (b.map L)):=rfl;show ∃f,u6 (.lst (a.map L)) (.lst (b.map L))=_;rw[this];unfold Gm;simp only[ap e1,<-vz];exact⟨_,rfl⟩
theorem EV{S:aA}(h:∀r∈S,0<hd r):Js (S.map hd)=(Lat.prod (E9 S):Int):=by
 have key:∀(S:aA)(t:Int),(∀r∈S,0<hd r)->(S.map hd).foldl (λt x=>t*x) t=t*(Lat.prod (E9 S):Int):=by
  intro S
  induction S with
  |nil=>intro t _;show t=t*((1:Nat):Int);rfl'
  |cons r S ih=>
   intro t h;have p:=h r wd;show(S.map hd).foldl (λt x=>t*x) (t*hd r)=t*(((hd r).toNat*Lat.prod (E9 S):Nat):Int);rw[ih _ λx hx=>h x (wb _ hx),Int.natCast_mul,Int.toNat_of_nonneg (),w02]
 unfold Js;rw[key S 1 h,Int.one_mul]
theorem ML{n:Nat}{bills S:aA}(es:D7 [k9 n bills]=aa (LL S))(A:Asc n 0 S)(hs:∀r∈S,Lt (2^900) r)(hl:S.length=n)(n6:n<=6)(hp:Lat.prod (E9 S)<=200):N3 [k9 n bills]=aa .non:=by
 have e:=EU es A hs ();rw[ax (),EV λr hr=>(A.mem hr).2.2.2]at e;unfold N3 Cl;have isn:Au (.int (Lat.prod (E9 S):Int)) .non=aa (.nw,.bl ag):=rfl;simp[cOf,e,isn,show ¬(200:Int)<(Lat.prod (E9 S):Int) by rfl']
theorem FG(n:Nat)(hn:n<=6):D3 [.int n]=aa (LL (L4 n)):=by
 have c1:k7 1 [0] (u9 (fN 0)) (Tg.one 0) fYes (f9 ae T5 (b8 (fN 1) (b8 (fN 0) fNil))) [.sh ag (.int n),.no]=aa (.nw,LL ((aT n).map (G7 n))):=by
  rw[o9 (e:=λ(k:Nat)=>.int (0+(k:Int))) (h:=λk=>L (G7 n k)) (xs:=aT n) (by simp[cOf,y13 n (),J8]) (λk _=>by
   have u:=MK n k ();simp[cOf,u])]
  unfold LL;rw[wK];rfl
 have c2:k7 1 [] (iSeq (fN 1)) (Tg.one 0) fYes (f9 ae E3 (b8 (fN 0) (b8 (fNeg (fC (.int 1))) fNil))) [.sh ag (.int n),.sh ae (LL ((aT n).map (G7 n)))]=aa (.nw,LL ((aT n).map λj=>sclR (-1) (G7 n j))):=by
  rw[o9 (e:=L) (h:=λr=>L (sclR (-1) r)) (xs:=(aT n).map (G7 n)) (by simp[cOf]) (λr hr=>by
   have u:=N5 r (-1) (λx _=>L1 (by decide));simp[cOf,u])]
  unfold LL;rw[wK,wK];rfl
 obtain⟨f,ct⟩:=cat_LL ((aT n).map (G7 n)) ((aT n).map λj=>sclR (-1) (G7 n j)) (by rw[we,we,vW];rfl');unfold D3 T7;unfold L4;generalize (aT n).map (G7 n)=U at *;generalize (aT n).map (λj=>sclR (-1) (G7 n j))=W at *;unfold LL at *;simp[cOf,c1,c2,ct]
theorem L_inj{a b:aH}(h:L a=L b):a=b:=by
 injection h with h
 induction a generalizing b with
 |nil=>cases b with
  |nil=>rfl
  |cons _ _=>simp at h
 | cons x a ih=>cases b with
  |nil=>simp at h
  |cons y b=>
   simp only[wj,gF,Dt.int.injEq]at h;rw[h.1,ih h.2]
theorem Wp{a b:aA}(h:LL a=LL b):a=b:=by
 injection h with h
 induction a generalizing b with
 |nil=>cases b with
  |nil=>rfl
  |cons _ _=>simp at h
 | cons x a ih=>cases b with
  |nil=>simp at h
  |cons y b=>
   rw[wj,wj]at h;injection h with h1 h2
   rw[L_inj h1,ih h2]
structure Few(n:Nat)(bills S:aA)(told:List Ent):Prop where
 es:D7 [k9 n bills]=aa (LL S)
 asc:Asc n 0 S
 sS:∀r∈S,Lt (2^900) r
 len:S.length=n
 cls:K3 [k9 n bills]=aa (tolD told)
 fin:Fin n (λb=>i4 b S) told
 first:∃more,told=(E8 n,0,E8 n)::more
 few:Lat.prod (E9 S)<=200
theorem MM{n:Nat}{bills S:aA}(H:Hall n bills)(es:D7 [k9 n bills]=aa (LL S))(A:Asc n 0 S)(sS:∀r∈S,Lt (2^900) r)(hl:S.length=n)(hp:Lat.prod (E9 S)<=200):∃told,Few n bills S told:=by
 have n1:=H.n1;have n6:=H.n6;have g:=Hf n1 A hl;have bf:=We A;have sl:(L4 n).length<=12:=by unfold L4;rw[wz,we,we,vW];rfl'
 have nf:=ML es A sS hl n6 ();have ss:=FG n n6;have ng:=TJ n bills ();generalize hM:Lat.prod (E9 S)=M at *;obtain⟨fin,run,_⟩:=run_ex g (ca:=Q4) (cl:=o0) (G:=S) () sl (λb t hb hs ht=>by
  have lt:=g.len t ht;have la:(addR b t).length=n:=by rw[T1 (by rw[hb,lt]),hb]
  have bd:Lt (2^8) (addR b t):=λk=>by
   have:=Mt (b:=addR b t) (j:=k);have:=g.near b t hb ht;have:(2:Nat)^7=128:=by decide
   rfl'
  obtain⟨o1,o2,o3,o4,_⟩:=Ej A sS (by decide) la bd () (by decide);exact⟨MA b t (by rw[hb,lt]),U0 (L (addR b t)) (addR b t) S (.inl rfl) o3 o1 la o2 o4⟩) (M+2) 0 _ _ _ bf () (λ_=>by show _<=_+1;rfl')
 have ok:Mr N3 D7 D3 X1 Q4 o0 [k9 n bills] (tolD fin):=⟨n,_,_,S,L4 n,E8 n,M+2,fin,rfl,nf,es,ss,ng,run,rfl⟩;have ex:∃d,K3 [k9 n bills]=aa d:=by
  unfold K3;rw[dif_pos ⟨_,ok⟩];exact⟨_,rfl⟩
 obtain⟨d,ed⟩:=ex;obtain⟨n',hr,df,G',steps,z,k,told,e0,_,e2,e3,e4,run',ed'⟩:=ET ed;have e0:k9 n bills=.tup (.int n'::hr):=by injection e0
 injection e0 with e0
 injection e0 with e01 _
 injection e01 with e01
 subst e01;rw[es]at e2;rw[ss]at e3;rw[ng]at e4;have e2:=Wp (aM e2);have e3:=Wp (aM e3);have e4:=L_inj (aM e4);subst e2 e3 e4 ed';obtain⟨f,more,em⟩:=run_fin g k 0 _ _ _ told run' bf;exact⟨told,es,A,sS,hl,ed,f,⟨more,em⟩,()⟩
theorem MN(R:aA):Z7 [LL R]=aa (LL R):=by
 have cp:=copies R [.sh ag (LL R)] (fN 0) .sh (by simp[cOf]);unfold Z7 Cn;simp[cOf,cp]
theorem Zt{told:List Ent}{e:Ent}{t:aH}(nd:(told.map (·.1)).Nodup)(he:e∈told)(ee:e.1=t):told.filter (λx=>decide (x.1=t))=[e]:=by
 induction told with
 |nil=>cases he
 |cons x told ih=>
  rw[wj,vf]at nd;rcases wg.mp he with rfl|he
  .rw[ui,ap (by simpa using ee)];congr 1;rw[List.filter_eq_nil_iff];intro y hy;simp only[decide_eq_true_eq];intro z;exact nd.1 (by rw[ee,<-z];exact uo hy)
  .rw[ui,ax (by
    simp only[decide_eq_true_eq];intro z;exact nd.1 (by rw[z,<-ee];exact uo he))]
   exact ih nd.2 he
theorem Zu{np n:Nat}{F:FS}{ds:iC}{f:Fl}{d:Dt}(h:F (rho0 n ds)=aa (.rt f d))(hl:ds.length=np:=by rfl):cOf np n ag F ds=aa d:=by
 unfold cOf;rw[ap hl,h];rfl
theorem OS{n s:Nat}{bills S:aA}{told:List Ent}(F:Few n bills S told)(n6:n<=6){b:aH}(hb:b.length=n)(sb:Lt (2^s) b)(hs:s<=1000):
  ∃e∈told,e.1=i4 b S/\sz e.2.2<=sz b/\Bx [k9 n bills,L b]=aa (L e.2.2):=by
 obtain⟨e,he,e1,e2⟩:=F.fin.all b hb;have e1:e.1=i4 b S:=e1;refine⟨e,he,e1,e2,?_⟩;have nb:=AK n bills b hb;have ec:=F.cls;have es:=F.es;obtain⟨o1,o2,o3,o4,_⟩:=Ej F.asc F.sS (by decide) hb sb (by have:=F.len;rfl') ();have lw:=U0 (L b) b S (.inl rfl) o3 o1 hb o2 o4;have ok:=Zt F.fin.nd he e1;generalize i4 b S=t at *;have cm:∀c4:Cell,k7 1 [3] (iSeq (fN 2)) (Tg.one 0) (j9 (fOp opEq (fAt (fN 0) (fC (.int 0))) (fN 1))) (fAt (fN 0) (fC (.int 2))) [.sh ag (k9 n bills),.sh ag (L b),.sh ag (tolD told),.sh ae (L t),c4]=aa (.tn,.lst [L e.2.2]):=λc4=>by
  have q:=Q2 (g:=Tg.one 0) (Fc:=j9 (fOp opEq (fAt (fN 0) (fC (.int 0))) (fN 1))) (Fe:=fAt (fN 0) (fC (.int 2))) (ρ0:=[.no,.sh ag (L t)]) entD (λx:Ent=>(Fl.sh,L x.2.2)) (λx=>decide (x.1=t)) told (λx _=>by
   have oe:=Bl x.1 t;simp[cOf,oe]) (λx _ _=>by simp[cOf])
  rw[ok]at q;unfold k7;rw[show iSeq (fN 2) [.sh ag (k9 n bills),.sh ag (L b),.sh ag (tolD told),.sh ae (L t),c4]=aa (told.map entD)from rfl];show(S7 _ _ _ [.no,.sh ag (L t)] (told.map entD)).bind _=_;rw[q];rfl
 have cm:=cm .no;unfold Bx Ef;refine Zu (f:=.sh) ?_;refine run (by simp[cOf,nb];rfl) ?_;refine run (ρ':=[.sh ag (k9 n bills),.sh ag (L b),.sh ag (tolD told),.no,.no]) (by simp[cOf,ec];rfl) ?_;refine run (by simp[cOf,es,lw];rfl) ?_;refine run (ρ':=[.sh ag (k9 n bills),.sh ag (L b),.sh ag (tolD told),.sh ae (L t),.sh ag (.lst [L e.2.2])]) (by
  generalize tolD told=td at *;simp[cOf,cm];rfl) ?_
 simp[cOf]
theorem sz_le{b:aH}{B:Nat}(h:∀x∈b,x.natAbs<B):sz b<=b.length*B:=by
 induction b with
 |nil=>exact wy _
 |cons x b ih=>
  have h1:=h x wd;have h2:=ih λy hy=>h y (wb _ hy);show x.natAbs+sz b<=(b.length+1)*B;rw[uO];rfl'
theorem MO{n:Nat}{bills:aA}{d:Dt}(hm:F0 [k9 n bills]=aa d)(bad:d=.non\/∃m:Int,d=.int m/\200<m):N2 [k9 n bills]=aa (.inr 6):=by
 refine OR rfl ?_;unfold Ck;rcases bad with rfl|⟨m,rfl,h⟩
 .have isn:Au .non .non=aa (.nw,.bl ae):=rfl;simp[cOf,hm,isn];rfl
 .have isn:Au (.int m) .non=aa (.nw,.bl ag):=rfl;simp[cOf,hm,isn,h];rfl
theorem Hz{n:Nat}{bills:aA}(h:N2 [k9 n bills]=aa (.inr 6)):X3 [k9 n bills]=aa (.inr 6):=by
 refine OR rfl ?_;unfold Ec;exact Wl (Wm (xs:=[(.nw,k9 n bills)]) (by simp[cOf,M5]) h)
theorem OT{n:Nat}{bills:aA}{b:aH}(hb:b.length=n)(h:N2 [k9 n bills]=aa (.inr 6)):Ee [k9 n bills,L b]=aa (.inr 6):=by
 have nb:=AK n bills b hb;refine OR rfl ?_;unfold Ed;refine run (ρ':=[.sh ag (k9 n bills),.sh ag (L b),.no,.no,.no]) (by show Ax _ [.sh ag (k9 n bills),.sh ag (L b),.no,.no,.no]=_;simp[cOf,nb]) ?_;exact Wl (exCall (xs:=[(.nw,k9 n bills)]) (by simp[cOf,M5]) (Hz h))
theorem Li{n:Nat}{bills:aA}{b:aH}(hb:b.length=n)(h:N2 [k9 n bills]=aa (.inr 6)):V0 [k9 n bills,L b]=aa (.int 3):=by
 have x1:=Hz h;have x2:=OT hb h;unfold V0 AJ;refine Q3 (f:=.nw) rfl ?_ rfl;refine run (by simp[cOf];rfl) ?_;refine run (ρ':=[.sh ag (k9 n bills),.sh ag (L b),.sh ae (.int 1),.no]) (Wn (xs:=[(.nw,k9 n bills)]) (by simp[cOf,M5]) x1 rfl (by simp[cOf])) ?_;refine run (ρ':=[.sh ag (k9 n bills),.sh ag (L b),.sh ae (.int 2),.no]) (Wn (xs:=[(.nw,k9 n bills),(.sh,L b)]) (by simp[cOf,M5]) x2 rfl (by simp[cOf])) ?_;refine run (ρ':=[.sh ag (k9 n bills),.sh ag (L b),.sh ae (.int 3),.no]) (Wo (ρ':=[.sh ag (k9 n bills),.sh ag (L b),.sh ae (.int 3),.ex]) (xs:=[(.nw,k9 n bills)]) (by simp[cOf,M5]) x1 rfl (by simp[cOf,fIsx,bInt])) ?_;simp[cOf]
theorem TV(ns:aH):∃n bills,Hall n bills/\T9 [.scr ns]=aa (.tup [.int n,LL bills]):=by
 have c4:=A9 ns 4 (by decide);have c5:=A9 ns 5 (by decide);have c6:=A9 ns 6 (by decide);have c4:k6 [.scr ns,.int 4]=aa (.int (j8 ns 4)):=c4;have c5:k6 [.scr ns,.int 5]=aa (.int (j8 ns 5)):=c5;have c6:k6 [.scr ns,.int 6]=aa (.int (j8 ns 6)):=c6;have big:(1000:Nat)<=10^30:=by decide
 have r5:=λ(m:Int)(hm:0<m)=>A7 (j8 ns 5) hm;have r6:=λ(m:Int)(hm:0<m)=>A7 (j8 ns 6) hm;by_cases w4:(j8 ns 4).fmod 5=4
 .have a:=r5 40 (by decide);have b:=r6 180 (by decide);refine⟨2,[[1,-2-(j8 ns 5).fmod 40],[0,20+(j8 ns 6).fmod 180]],⟨by decide,by decide,by simp,?_,?_⟩,?_⟩
  .intro r hr;simp at hr;rcases hr with rfl|rfl<;>rfl
  .intro r hr x hx;simp at hr;rcases hr with rfl|rfl<;>simp at hx<;>rcases hx with rfl|rfl<;>rfl'
  .unfold T9 X4 LL L;simp[cOf,c4,c5,c6,S4,u7,w4]
 .by_cases w0:(j8 ns 4).fmod 5=0
  .have a:=r5 21 (by decide);refine⟨1,[[190+(j8 ns 5).fmod 21]],⟨by decide,by decide,by simp,?_,?_⟩,?_⟩
   .intro r hr;simp at hr;rw[hr];rfl
   .intro r hr x hx;simp at hr;subst hr;simp at hx;rfl'
   .unfold T9 X4 LL L;simp[cOf,c4,c5,c6,S4,u7,w0]
  .by_cases w1:(j8 ns 4).fmod 5=1
   .have a:=r5 11 (by decide);have b:=r6 11 (by decide);refine⟨2,[[10+(j8 ns 5).fmod 11,3],[0,10+(j8 ns 6).fmod 11]],⟨by decide,by decide,by simp,?_,?_⟩,?_⟩
    .intro r hr;simp at hr;rcases hr with rfl|rfl<;>rfl
    .intro r hr x hx;simp at hr;rcases hr with rfl|rfl<;>simp at hx<;>rcases hx with rfl|rfl<;>rfl'
    .unfold T9 X4 LL L;simp[cOf,c4,c5,c6,S4,u7,w1]
   .refine⟨C8 ns,L3 ns,OQ ns,?_⟩;have lb:=OF ns;unfold T9 X4;simp[cOf,c4,S4,u7,w4,w0,w1,lb]
abbrev LsI:FS:=(sIf (j9 (fOp opEq (f9 ae L5 (b8 (fN 0) (b8 (fSl (fLst (b8 (fN 4) (b8 (fN 6) fNil))) FJ (RX (fN 1))) fNil))) (fAt (fN 2) (fC (.int 0))))) (sRet (fC (.bl ag))) t9)
abbrev LsO:FS:=(sSeq (sSet [] 5 (fOp K7 (fOp K7 (fN 3) (fC (.int 1))) (fBlt bAbs (b8 (fN 4) fNil))))
 (sFor [] (Y7 (fOp G1 (fNeg (fN 5)) (fOp K7 (fN 1) (fC (.int 1)))) (fOp u6 (fOp G1 (fN 5) (fOp K7 (fN 1) (fC (.int 1)))) (fC (.int 1)))) (Tg.one 6)
 LsI))
theorem Zv(a:aH):bSum [L (a.map λx=>((x.natAbs:Nat):Int))]=aa (.nw,.int (sz a)):=by
 have e:∀ns:aH,Y6 (ns.map Dt.int)=aa ns:=λns=>by
  induction ns with
  |nil=>rfl
  |cons x ns ih=>rw[wj];unfold Y6;rw[ih];rfl
 have s:∀a:aH,(a.map λx=>((x.natAbs:Nat):Int)).sum=(sz a:Int):=λa=>by
  induction a with
  |nil=>rfl
  |cons x a ih=>rw[wj,List.sum_cons,ih];show _=((x.natAbs+sz a:Nat):Int);rfl'
 show(Y6 ((a.map λx=>((x.natAbs:Nat):Int)).map Dt.int)).map _=_;rw[e,<-s];rfl
theorem Wq{n:Nat}{bills S:aA}{told:List Ent}(F:Few n bills S told)(hn:n=1\/n=2){e:Ent}(he:e∈told){x y:Int}(h:x.natAbs+(if n=2 then y.natAbs else 0)<sz e.2.2)(c5:Cell):
   LsI [.sh ag (LL S),.sh ag (.int n),.sh ag (entD e),.sh ae (.int (sz e.2.2)),.sh ag (.int x),c5,.sh ag (.int y)]=aa (.nx [.sh ag (LL S),.sh ag (.int n),.sh ag (entD e),.sh ae (.int (sz e.2.2)),.sh ag (.int x),c5,.sh ag (.int y)]):=by
 have key:∀row:aH,row.length=n->sz row<sz e.2.2->L5 [LL S,L row]=aa (L (i4 row S))/\¬i4 row S=e.1:=λrow hr hz=>by
   have sl:sz e.2.2<2^8:=by
    have:=DS (Hf () F.asc F.len) F.fin he;rw[Bp () F.asc F.len F.fin]at this;have:=F.few;rfl'
   have lt:Lt (2^8) row:=λk=>by
    have:=Mt (b:=row) (j:=k);rfl'
   obtain⟨o1,o2,o3,o4,_⟩:=Ej F.asc F.sS (by decide) hr lt (by have:=F.len;rfl') (by decide);refine⟨BA row S () o3 o1 hr o2,λz=>?_⟩;obtain⟨e',he',d1,d2⟩:=F.fin.all row hr;have d1:e'.1=i4 row S:=d1;have:=Sx F.fin he' he (by rw[d1,z]);subst this;rfl'
 rcases hn with rfl|rfl
 .obtain⟨k1,k2⟩:=key [x] rfl (by show x.natAbs+0<_;simpa using h);have oe:=Bl (i4 [x] S) e.1;rw[aK k2]at oe;have q:(newL (cutD [Dt.int x,Dt.int y] aj (aa 1))).2=L [x]:=rfl;generalize i4 [x] S=w at *;simp[cOf,q,k1,oe]
 .obtain⟨k1,k2⟩:=key [x,y] rfl (by show x.natAbs+(y.natAbs+0)<_;simpa using h);have oe:=Bl (i4 [x,y] S) e.1;rw[aK k2]at oe;have q:(newL (cutD [Dt.int x,Dt.int y] aj (aa 2))).2=L [x,y]:=rfl;generalize i4 [x,y] S=w at *;simp[cOf,q,k1,oe]
theorem TW{n:Nat}{bills S:aA}{told:List Ent}(F:Few n bills S told)(hn:n=1\/n=2){e:Ent}(he:e∈told){x:Int}(hx:x.natAbs<sz e.2.2)(c5 c6:Cell):
  ∃d5 d6,LsO [.sh ag (LL S),.sh ag (.int n),.sh ag (entD e),.sh ae (.int (sz e.2.2)),.sh ag (.int x),c5,c6]=aa (.nx [.sh ag (LL S),.sh ag (.int n),.sh ag (entD e),.sh ae (.int (sz e.2.2)),.sh ag (.int x),d5,d6]):=by
 have sl:sz e.2.2<256:=by
  have:=DS (Hf () F.asc F.len) F.fin he;rw[Bp () F.asc F.len F.fin]at this;have:=F.few;rfl'
 obtain⟨z,hz⟩:∃z,sz e.2.2=z:=⟨_,rfl⟩;have ab:(if x<0 then -x else x)=(x.natAbs:Int):=by split<;>rfl'
 have kin:∀x y,x.natAbs+(if n=2 then y.natAbs else 0)<z->∀c5:Cell,LsI [.sh ag (LL S),.sh ag (.int n),.sh ag (entD e),.sh ae (.int z),.sh ag (.int x),c5,.sh ag (.int y)]=aa (.nx [.sh ag (LL S),.sh ag (.int n),.sh ag (entD e),.sh ae (.int z),.sh ag (.int x),c5,.sh ag (.int y)]):=λx y h c5=>by
  have:=Wq F hn he (x:=x) (y:=y) (by rw[hz];exact h) c5
  rwa [hz]at this
 rw[hz]at hx sl|-;generalize hl:(z:Int)-1-(x.natAbs:Int)=l at *;have l0:0<=l:=()
 have b64:(256:Nat)<2^64:=by decide
 have m1:∀j:Int,D9 l j=ae:=λj=>L1 ();have m2:∀j:Int,D9 (-l) j=ae:=λj=>L1 ();obtain⟨k,hk⟩:∃k:Int,(n:Int)-1=k/\(k=0\/k=1):=⟨_,rfl,()⟩;obtain⟨hk,k01⟩:=hk;have rl:K9 (-l*k)=ae:=by unfold K9;rcases k01 with rfl|rfl<;>simp<;>rfl'
 have rh:K9 (l*k+1)=ae:=by unfold K9;rcases k01 with rfl|rfl<;>simp<;>rfl'
 obtain⟨j,q⟩:=W8 (g:=Tg.one 6) (F:=LsI) (e:=λ(i:Nat)=>.int (-l*k+(i:Int))) (R:=λ(_:Unit)(c:Cell)=>[.sh ag (LL S),.sh ag (.int n),.sh ag (entD e),.sh ae (.int z),.sh ag (.int x),.sh ae (.int l),c]) (step:=λ_ _=>.unit) (aT (l*k+1 - -l*k).toNat) .unit c6
  (fun _ i c hi=>⟨.sh false (.int (-l*k+(i:Int))),by
   have hi:=wQ.mp hi;refine kin x _ ?_ _;rcases k01 with rfl|rfl
   .rw[ax ()];rfl'
   .rw[ap ()];rfl'⟩)
 refine⟨.sh ae (.int l),j,?_⟩;refine run (by simp[cOf,bAbs,ab,hl];rfl) ?_;have q:forF (Tg.one 6) LsI (V6 (-l*k) (l*k+1 - -l*k).toNat) [.sh ag (LL S),.sh ag (.int n),.sh ag (entD e),.sh ae (.int z),.sh ag (.int x),.sh ae (.int l),c6]=aa (.nx [.sh ag (LL S),.sh ag (.int n),.sh ag (entD e),.sh ae (.int z),.sh ag (.int x),.sh ae (.int l),j]):=q;generalize LsI=FF at *;simp[cOf,Y7,m1,m2,hk,rl,rh,q]
theorem Ip{n:Nat}{bills S:aA}{told:List Ent}(F:Few n bills S told)(hn:n=1\/n=2){e:Ent}(he:e∈told):Q6 [LL S,.int n,entD e]=aa (.bl ae):=by
 have sl:sz e.2.2<256:=by
  have:=DS (Hf () F.asc F.len) F.fin he;rw[Bp () F.asc F.len F.fin]at this;have:=F.few;rfl'
 obtain⟨f1,f2,f3⟩:=F.fin.ent e he;have f2:e.1=i4 e.2.2 S:=f2;have lt:Lt (2^8) e.2.2:=λk=>by
  have:=Mt (b:=e.2.2) (j:=k);rfl'
 obtain⟨o1,o2,o3,o4,_⟩:=Ej F.asc F.sS (by decide) f1 lt (by have:=F.len;rfl') (by decide);have l2:=BA e.2.2 S () o3 o1 f1 o2;rw[<-f2]at l2;have ne2:=Tu e.1 e.1;have sa:=Zv e.2.2;have cm:k7 1 [] (iSeq (fAt (fN 2) (fC (.int 2)))) (Tg.one 0) fYes (fBlt bAbs (b8 (fN 0) fNil)) [.sh ag (LL S),.sh ag (.int n),.sh ag (entD e),.no,.no,.no,.no]=aa (.nw,L (e.2.2.map λx=>((x.natAbs:Nat):Int))):=by
  rw[o9 (e:=Dt.int) (h:=λx=>.int ((x.natAbs:Nat):Int)) (xs:=e.2.2) (by simp[cOf]) (λx _=>by
   have ab:(if x<0 then -x else x)=(x.natAbs:Int):=by split<;>rfl'
   simp[cOf,bAbs,ab])]
  unfold L;rw[wK];rfl
 have out:∀x:Int,x.natAbs<sz e.2.2->∀c5 c6:Cell,∃d5 d6,LsO [.sh ag (LL S),.sh ag (.int n),.sh ag (entD e),.sh ae (.int (sz e.2.2)),.sh ag (.int x),c5,c6]=aa (.nx [.sh ag (LL S),.sh ag (.int n),.sh ag (entD e),.sh ae (.int (sz e.2.2)),.sh ag (.int x),d5,d6]):=λx hx c5 c6=>TW F hn he hx c5 c6;generalize hz:sz e.2.2=z at *;have r1:K9 (1-(z:Int))=ae:=by unfold K9;simp;rfl'
 have r2:K9 (z:Int)=ae:=y13 z ();obtain⟨j,q⟩:=W8 (g:=Tg.one 4) (F:=LsO) (e:=λ(i:Nat)=>.int (1-(z:Int)+(i:Int))) (R:=λ(_:Unit)(c:Cell×Cell×Cell)=>[.sh ag (LL S),.sh ag (.int n),.sh ag (entD e),.sh ae (.int z),c.1,c.2.1,c.2.2]) (step:=λ_ _=>.unit) (aT ((z:Int)-(1-(z:Int))).toNat) .unit (.no,.no,.no)
  (fun _ i c hi=>by
   have hi:=wQ.mp hi;obtain⟨d5,d6,h⟩:=out (1-(z:Int)+(i:Int)) () c.2.1 c.2.2;exact⟨(.sh ag (.int (1-(z:Int)+(i:Int))),d5,d6),h⟩)
 have q:forF (Tg.one 4) LsO (V6 (1-(z:Int)) ((z:Int)-(1-(z:Int))).toNat) [.sh ag (LL S),.sh ag (.int n),.sh ag (entD e),.sh ae (.int z),.no,.no,.no]=aa (.nx [.sh ag (LL S),.sh ag (.int n),.sh ag (entD e),.sh ae (.int z),j.1,j.2.1,j.2.2]):=q;unfold Q6 Z8;refine Q3 (f:=.nw) rfl ?_ rfl;refine run (by simp[cOf,cm,sa];rfl) ?_;refine run (by simp[cOf,l2,ne2,E7,f3];rfl) ?_;refine run (ρ':=[.sh ag (LL S),.sh ag (.int n),.sh ag (entD e),.sh ae (.int z),j.1,j.2.1,j.2.2]) (by
  show sFor [] (Y7 (fOp K7 (fC (.int 1)) (fN 3)) (fN 3)) (Tg.one 4) LsO _=_;generalize LsO=FF at *;simp[cOf,Y7,r1,r2,q]) ?_
 simp[cOf]
theorem TX{d:Dt}(h:d.okN 8=ae):opNe d d=aa (.nw,.bl ag):=by
 unfold opNe;rw[h];have:eqD d d=ae:=by unfold eqD;exact PySem.SeqAt.eqv_refl _ (CL 8 d h).1
 rw[this];rfl
theorem Ju:∀ps:List (Int×aH),oksN 7 (ps.map λp=>.tup [.int p.1,L p.2])=ae
 |[]=>rfl
 |p::ps=>by
  rw[wj,oksN,Ju ps,Dt.okN,oksN,oksN,Dt.okN,D1];rfl
theorem Wr(ns:aH)(h:ns.length<=63):Ht [.scr ns]=aa (.bl ae):=by
 obtain⟨n,bills,H,lh⟩:=TV ns;have eh:=H.made;have n6:=H.n6;have n1:=H.n1;have cp:=MN bills;have lr:=Mz ns 40 n 1 (by decide) () (by decide) (by decide);have lb:=IY ns 40 n 1;have bb:=Mi ns 40 n 1;obtain⟨S,es,G,sS⟩:=OP H;have A:=G.asc;have l1:=KQ A (wy n);have hm:=EU es A sS ();generalize Ay ns 40 n 1=b at *;have ref:∀d,F0 [k9 n bills]=aa d->(d=.non\/∃m:Int,d=.int m/\200<m)->Ht [.scr ns]=aa (.bl ae):=λd hd bad=>by
   have lrf:=Li (bills:=bills) lb (MO hd bad);unfold Ht SA;refine Q3 (f:=.nw) rfl ?_ rfl;refine run (ρ':=[.sh ag (.scr ns),.sh ae (.tup [.int n,LL bills]),.no,.no,.no,.no,.no,.no,.no,.no]) (by simp[cOf,lh]) ?_;refine run (ρ':=[.sh ag (.scr ns),.sh ae (.tup [.int n,LL bills]),.sh ae (k9 n bills),.no,.no,.no,.no,.no,.no,.no]) (by simp[cOf,cp,eh]) ?_;refine run (ρ':=[.sh ag (.scr ns),.sh ae (.tup [.int n,LL bills]),.sh ae (k9 n bills),.sh ae (L b),.no,.no,.no,.no,.no,.no]) (by simp[cOf,lr]) ?_;refine run (ρ':=[.sh ag (.scr ns),.sh ae (.tup [.int n,LL bills]),.sh ae (k9 n bills),.sh ae (L b),.sh ae d,.no,.no,.no,.no,.no]) (by simp[cOf,hd]) ?_;rcases bad with rfl|⟨m,rfl,hm⟩
   .have isn:Au .non .non=aa (.nw,.bl ae):=rfl;simp[cOf,isn,lrf,u7]
   .have isn:Au (.int m) .non=aa (.nw,.bl ag):=rfl;simp[cOf,isn,lrf,u7,hm]
 by_cases c:S.length<n
 .rw[ap c]at hm;exact ref _ hm (.inl rfl)
 rw[ax c,EV λr hr=>(A.mem hr).2.2.2]at hm;by_cases c2:200<Lat.prod (E9 S)
 .exact ref _ hm (.inr ⟨_,rfl,()⟩)
 have hl:S.length=n:=()
 obtain⟨told,F⟩:=MM H es A sS hl ();have cnt:=Bp n1 A hl F.fin;rw[<-cnt]at hm;have t2:told.length<=200:=()
 obtain⟨more,em⟩:=F.first;have t1:0<told.length:=by rw[em];simp
 have ec:=F.cls;have c7:=A9 ns 7 (by decide);have c7:k6 [.scr ns,.int 7]=aa (.int (j8 ns 7)):=c7;obtain⟨i,hi,ei⟩:=Zs (x:=j8 ns 7) t1;have mo:S4 (j8 ns 7) (told.length:Int)=ae:=Tz ();have ai:atI (told.map entD) (i:Int)=aa (entD told[i]):=by rw[KN (by rw[we];exact hi),wM]
 have me:told[i]∈told:=w04 hi;have szb:=sz_le bb;have p30:6*10^30<2^110:=by decide
 have sb6:sz b<2^110:=by
   have:b.length*10^30<=6*10^30:=wB _ ();rfl'
 have ltz:∀r:aH,sz r<=sz b->Lt (2^110) r:=λr hr k=>by
   have:=Mt (b:=r) (j:=k);rfl'
 obtain⟨e,he,e1,e2,th⟩:=OS F n6 lb (ltz b (wf _)) (by decide);obtain⟨f1,f2,f3⟩:=F.fin.ent e he;obtain⟨o1,o2,o3,o4,_⟩:=Ej A sS (by decide) lb (ltz b (wf _)) () (by decide);obtain⟨u1,u2,u3,u4,_⟩:=Ej A sS (by decide) f1 (ltz _ e2) () (by decide);have l1':=BA b S () o3 o1 lb o2;have l2:=BA e.2.2 S () u3 u1 f1 u2;have f2:e.1=i4 e.2.2 S:=f2;rw[<-f2]at l2;rw[<-e1]at l1';have ir:=MH e.2.2 n;rw[aI (by rw[f1])]at ir;have oq:=Bl e.1 e.1;have names:k7 1 [] (iSeq (fN 5)) (Tg.one 0) fYes (fTup (b8 (fAt (fN 0) (fC (.int 1))) (b8 (fAt (fN 0) (fC (.int 0))) fNil))) [.sh ag (.scr ns),.sh ae (.tup [.int n,LL bills]),.sh ae (k9 n bills),.sh ae (L b),.sh ae (.int told.length),.sh ag (tolD told),.no,.no,.no,.no]=aa (.tn,.lst ((told.map λe=>(e.2.1,e.1)).map λp=>.tup [.int p.1,L p.2])):=by
   have q:=Q2 (g:=Tg.one 0) (Fc:=fYes) (Fe:=fTup (b8 (fAt (fN 0) (fC (.int 1))) (b8 (fAt (fN 0) (fC (.int 0))) fNil))) (ρ0:=[.no]) entD (λx:Ent=>(Fl.sh,.tup [.int x.2.1,L x.1])) (λ_=>ae) told (λx _=>rfl) (λx _ _=>by simp[cOf];rfl);rw[List.filter_eq_self.mpr (λ_ _=>rfl)]at q;unfold k7;rw[show iSeq (fN 5) [.sh ag (.scr ns),.sh ae (.tup [.int n,LL bills]),.sh ae (k9 n bills),.sh ae (L b),.sh ae (.int told.length),.sh ag (tolD told),.no,.no,.no,.no]=aa (told.map entD)from rfl];show(S7 _ _ _ [.no] (told.map entD)).bind _=_;rw[q];have af:P9 (told.map λx:Ent=>(Fl.sh,Dt.tup [.int x.2.1,L x.1]))=ag:=by rw[em];rfl
   show aa (if P9 _=ae then Fl.nw else Fl.tn,Dt.lst (sndL _))=_;have sm:∀l:List Ent,sndL (l.map λx:Ent=>(Fl.sh,Dt.tup [.int x.2.1,L x.1]))=(l.map λe=>(e.2.1,e.1)).map λp=>.tup [.int p.1,L p.2]:=λl=>by
     induction l with
     |nil=>rfl
     |cons x l ih=>rw[wj,wj,wj,<-ih];rfl
   rw[af,sm];rfl
 have up:=Zo F.fin;have few:(told.map λe=>(e.2.1,e.1)).length<4096:=by rw[we];rfl'
 generalize hps:(told.map λe=>(e.2.1,e.1))=ps at *;have ok8:Dt.okN 8 (.lst (ps.map λp=>.tup [.int p.1,L p.2]))=ae:=by rw[Dt.okN];exact Ju ps
 have nes:=TX ok8;have lst:∀c7 c8 c9:Cell,Hg (fN 6) [.sh ag (.scr ns),.sh ae (.tup [.int n,LL bills]),.sh ae (k9 n bills),.sh ae (L b),.sh ae (.int told.length),.sh ag (tolD told),.sh ag (.lst (ps.map λp=>.tup [.int p.1,L p.2])),c7,c8,c9]=aa (.sh,.lst (ps.map λp=>.tup [.int p.1,L p.2])):=λc7 c8 c9=>TH (f:=.sh) (by simp[cOf]) up few;generalize Dt.lst (ps.map λp=>.tup [.int p.1,L p.2])=nd at *;have isn:Au (.int (told.length:Int)) .non=aa (.nw,.bl ag):=rfl;unfold Ht SA;refine Q3 (f:=.nw) rfl ?_ rfl;refine run (ρ':=[.sh ag (.scr ns),.sh ae (.tup [.int n,LL bills]),.no,.no,.no,.no,.no,.no,.no,.no]) (by simp[cOf,lh]) ?_;refine run (ρ':=[.sh ag (.scr ns),.sh ae (.tup [.int n,LL bills]),.sh ae (k9 n bills),.no,.no,.no,.no,.no,.no,.no]) (by simp[cOf,cp,eh]) ?_;refine run (ρ':=[.sh ag (.scr ns),.sh ae (.tup [.int n,LL bills]),.sh ae (k9 n bills),.sh ae (L b),.no,.no,.no,.no,.no,.no]) (by simp[cOf,lr]) ?_;refine run (ρ':=[.sh ag (.scr ns),.sh ae (.tup [.int n,LL bills]),.sh ae (k9 n bills),.sh ae (L b),.sh ae (.int told.length),.no,.no,.no,.no,.no]) (by simp[cOf,hm]) ?_;refine run (ρ':=[.sh ag (.scr ns),.sh ae (.tup [.int n,LL bills]),.sh ae (k9 n bills),.sh ae (L b),.sh ae (.int told.length),.no,.no,.no,.no,.no]) (by simp[cOf,isn,show ¬(200:Int)<(told.length:Int) by rfl']) ?_;refine run (ρ':=[.sh ag (.scr ns),.sh ae (.tup [.int n,LL bills]),.sh ae (k9 n bills),.sh ae (L b),.sh ae (.int told.length),.sh ag (tolD told),.no,.no,.no,.no]) (by simp[cOf,ec];rfl) ?_;refine run (ρ':=[.sh ag (.scr ns),.sh ae (.tup [.int n,LL bills]),.sh ae (k9 n bills),.sh ae (L b),.sh ae (.int told.length),.sh ag (tolD told),.no,.no,.no,.no]) (by simp[cOf,E7]) ?_;refine run (ρ':=[.sh ag (.scr ns),.sh ae (.tup [.int n,LL bills]),.sh ae (k9 n bills),.sh ae (L b),.sh ae (.int told.length),.sh ag (tolD told),.sh ag nd,.no,.no,.no]) (by simp[cOf,names];rfl) ?_;refine run (ρ':=[.sh ag (.scr ns),.sh ae (.tup [.int n,LL bills]),.sh ae (k9 n bills),.sh ae (L b),.sh ae (.int told.length),.sh ag (tolD told),.sh ag nd,.no,.no,.no]) (by
   have q:=lst .no .no .no;have hn:(nrm Fl.sh nd).2=nd:=by unfold nrm;split<;>rfl
   simp[cOf,q,hn,nes]) ?_
 refine run (ρ':=[.sh ag (.scr ns),.sh ae (.tup [.int n,LL bills]),.sh ae (k9 n bills),.sh ae (L b),.sh ae (.int told.length),.sh ag (tolD told),.sh ag nd,.sh ag (entD told[i]),.no,.no]) (by simp[cOf,c7,mo,ei,ai];rfl) ?_;refine run (ρ':=[.sh ag (.scr ns),.sh ae (.tup [.int n,LL bills]),.sh ae (k9 n bills),.sh ae (L b),.sh ae (.int told.length),.sh ag (tolD told),.sh ag nd,.sh ag (entD told[i]),.no,.no]) (by
   by_cases n3:n<3
   .have il:=Ip F () me;generalize told[i]=ee at *;simp[cOf,show(n:Int)<3 by rfl',es,il]
   .simp[cOf,show ¬(n:Int)<3 by rfl']) ?_
 refine run (ρ':=[.sh ag (.scr ns),.sh ae (.tup [.int n,LL bills]),.sh ae (k9 n bills),.sh ae (L b),.sh ae (.int told.length),.sh ag (tolD told),.sh ag nd,.sh ag (entD told[i]),.sh ag (L e.2.2),.no]) (by simp[cOf,th];rfl) ?_;refine run (ρ':=[.sh ag (.scr ns),.sh ae (.tup [.int n,LL bills]),.sh ae (k9 n bills),.sh ae (L b),.sh ae (.int told.length),.sh ag (tolD told),.sh ag nd,.sh ag (entD told[i]),.sh ag (L e.2.2),.no]) (by simp[cOf,ir]) ?_;refine run (ρ':=[.sh ag (.scr ns),.sh ae (.tup [.int n,LL bills]),.sh ae (k9 n bills),.sh ae (L b),.sh ae (.int told.length),.sh ag (tolD told),.sh ag nd,.sh ag (entD told[i]),.sh ag (L e.2.2),.sh ae (LL S)]) (by simp[cOf,es]) ?_;simp[cOf,l1',l2,oq]
end
noncomputable section
noncomputable def top(i:Nat):aZ:=PySem.Challenge.pw_changehall_k29_classes_refused.main.body.getD i (.Pass ⟨0,0,0,0⟩)
abbrev Cp:aZ:=top 6
theorem MP:FnScope g1b g1b (d7 Cp):=scm
abbrev Di:aZ:=top 7
theorem TY:FnScope g0r g0r (d7 Di):=scm
abbrev BB:aZ:=top 8
theorem OU:FnScope g1m g1m (d7 BB):=scm
abbrev Z9:aZ:=top 9
theorem MQ:FnScope g0p g0p (d7 Z9):=scm
abbrev Ga:aZ:=top 10
theorem Ws:FnScope g0f g0f (d7 Ga):=scm
abbrev Gb:aZ:=top 11
theorem Wt:FnScope g0f g0f (d7 Gb):=scm
abbrev Dj:aZ:=top 12
theorem TZ:FnScope g0z g0z (d7 Dj):=scm
abbrev El:aZ:=top 13
theorem Cq:FnScope ["row","spot","number"] g1j (d7 El):=scm
abbrev AL:aZ:=top 17
theorem Lj:FnScope g1b g1b (d7 AL):=scm
abbrev BD:aZ:=top 18
theorem OV:FnScope g0t g0t (d7 BD):=scm
abbrev Aa:aZ:=top 19
theorem Iq:FnScope g1i g1i (d7 Aa):=scm
abbrev AM:aZ:=top 20
theorem Lk:FnScope g1h g1h (d7 AM):=scm
abbrev BE:aZ:=top 22
theorem OW:FnScope g0x g0x (d7 BE):=scm
abbrev Em:aZ:=top 21
theorem HA:FnScope ["kinds","bills","bill"] g1l (d7 Em):=scm
abbrev N6:aZ:=top 23
theorem Dk:FnScope g1c g1c (d7 N6):=scm
abbrev W1:aZ:=top 24
theorem HB:FnScope g0g g0g (d7 W1):=scm
abbrev HC:aZ:=top 25
theorem Ua:FnScope g0e g0e (d7 HC):=scm
abbrev AN:aZ:=top 27
theorem K4:FnScope g0h g0v (d7 AN):=scm
abbrev En:aZ:=top 28
theorem Ab:FnScope ["numbers","found","number"] ["numbers"] (d7 En):=scm
abbrev Cr:aZ:=top 30
theorem F2:FnScope ["row","rungs","left","counts","rung","spot","often"] g0k (d7 Cr):=scm
abbrev Eo:aZ:=top 31
theorem OX:FnScope g0k g0k (d7 Eo):=scm
abbrev Ep:aZ:=top 32
theorem U1:FnScope ["rung","row","spot","found","upper","lower"] g1o (d7 Ep):=scm
abbrev AO:aZ:=top 33
theorem Ll:FnScope g1j g1j (d7 AO):=scm
abbrev Ac:aZ:=top 34
theorem K5:FnScope g0q g1n (d7 Ac):=scm
abbrev HD:aZ:=top 35
theorem Er:FnScope ["rungs","found","rung"] g1d (d7 HD):=scm
abbrev Es:aZ:=top 36
theorem Ad:FnScope ["rows","rungs","row"] ["rows"] (d7 Es):=scm
abbrev J4:aZ:=top 37
theorem Et:FnScope g1d g1d (d7 J4):=scm
abbrev Lm:aZ:=top 38
theorem Wu:FnScope g0e g0e (d7 Lm):=scm
abbrev Cs:aZ:=top 40
theorem EW:FnScope ["hall","rungs"] g0e (d7 Cs):=scm
abbrev Ct:aZ:=top 43
theorem V1:FnScope ["hall","many"] g0e (d7 Ct):=scm
abbrev F3:aZ:=top 44
theorem Aj:FnScope ["kinds","ones"] g1i (d7 F3):=scm
abbrev Ae:aZ:=top 45
theorem E4:FnScope ["level","steps","rungs","seen","found","start","step","basket","reached"] g0m (d7 Ae):=scm
abbrev BG:aZ:=top 46
theorem B9:FnScope g0j g0e (d7 BG):=scm
abbrev BH:aZ:=top 47
theorem N7:FnScope g0u g0g (d7 BH):=scm
abbrev AQ:aZ:=top 49
theorem Ln:FnScope g0n g0n (d7 AQ):=scm
abbrev Eu:aZ:=top 50
theorem OY:FnScope g1k g1k (d7 Eu):=scm
abbrev Cu:aZ:=top 51
theorem EX:FnScope ["_law_found","_law_size","_law_number_here"] g0y (d7 Cu):=scm
abbrev Cv:aZ:=top 52
theorem V2:FnScope ["_law_cell","_law_mode","_law_number_here","_law_wide"] g1a (d7 Cv):=scm
abbrev Gc:aZ:=top 53
theorem Wv:FnScope g0b g0b (d7 Gc):=scm
abbrev BJ:aZ:=top 54
theorem D8:FnScope g0l g0d (d7 BJ):=scm
abbrev Dl:aZ:=top 55
theorem Ub:FnScope g0c g0c (d7 Dl):=scm
abbrev HE:aZ:=top 56
theorem Ev:FnScope ["_law_row_here","_law_k"] g1f (d7 HE):=scm
abbrev HG:aZ:=top 57
theorem X5:FnScope ["_law_rows","_law_row_here","_law_left_here","_law_one","_law_at"] g0s (d7 HG):=scm
abbrev Af:aZ:=top 58
theorem MR:FnScope g1g g1g (d7 Af):=scm
abbrev AR:aZ:=top 59
theorem F8:FnScope ["_law_hall_here","_law_basket","_law_refused_here","e"] g0o (d7 AR):=scm
abbrev HH:aZ:=top 60
theorem Jv:FnScope ["_law_script","_law_way"] g0d (d7 HH):=scm
abbrev Q7:aZ:=top 61
theorem G9:FnScope ["_law_rows","_law_kinds","_law_entry","_law_sizes","_law_first","_law_left_here","_law_last"] g0i (d7 Q7):=scm
abbrev SE:aZ:=top 62
theorem W2:FnScope g0a g0d (d7 SE):=scm
set_option genInjectivity false in
structure Adr where
 HJ:Addr
 HK:az
 Nd:Addr
 Nf:az
 Jx:Addr
 Jy:az
 HL:Addr
 HM:az
 SF:Addr
 SG:az
 SH:Addr
 SI:az
 Ng:Addr
 Nh:az
 Jz:Addr
 JA:az
 Fd:Addr
 Ff:az
 JB:Addr
 JC:az
 Dp:Addr
 Dq:az
 Fg:Addr
 Fh:az
 JD:Addr
 JE:az
 JF:Addr
 JG:az
 X6:Addr
 X7:az
 BS:Addr
 BU:az
 Ni:Addr
 Nj:az
 Nk:Addr
 Nl:az
 JH:Addr
 JI:az
 HN:Addr
 HP:az
 JJ:Addr
 JK:az
 JL:Addr
 JM:az
 Fm:Addr
 Fn:az
 HQ:Addr
 HR:az
 Nm:Addr
 Nn:az
 JN:Addr
 JO:az
 Ak:Addr
 Al:az
 SJ:Addr
 SK:az
 HS:Addr
 HU:az
 Cw:Addr
 Cy:az
 AX:Addr
 AY:az
 Dr:Addr
 F9:az
 Ey:Addr
 Ez:az
 EA:Addr
 EB:az
 Fo:Addr
 Fp:az
 JP:Addr
 JQ:az
 HV:Addr
 HW:az
 HX:Addr
 HY:az
 SL:Addr
 SM:az
 JR:Addr
 JS:az
 Np:Addr
 Nq:az
 Nr:Addr
 Nt:az
 Nu:Addr
 Nv:az
 HZ:Addr
 Ia:az
 Fq:Addr
 Ft:az
 Nw:Addr
 Nx:az
 Ds:Addr
 Du:az
 a_law:Addr
 SN:az
 Q8:Tok
 L6:Tok
 Q9:Tok
 x_HallError:Addr
 x_TooMany:Addr
structure Facts(K:aE)(mg:aF)(A:Adr):Prop where
 Lw:mg "ValueError"=aj
 XZ:mg "abs"=aj
 n_all:mg "all"=aj
 Yb:mg "bool"=aj
 Fv:mg "enumerate"=aj
 Yc:mg "int"=aj
 B8:mg "isinstance"=aj
 X8:mg "len"=aj
 W3:mg "list"=aj
 R1:mg "range"=aj
 RE:mg "reversed"=aj
 Ib:mg "sorted"=aj
 n_sum:mg "sum"=aj
 BL:mg "tuple"=aj
 n_zip:mg "zip"=aj
 Lx:mg "MOST_BILLS"=aa (.int 8 A.Q8)
 AZ:mg "MOST_CLASSES"=aa (.int 200 A.L6)
 Ly:mg "MOST_KINDS"=aa (.int 6 A.Q9)
 Cz:Df K mg "is_whole" Cp g1b A.HJ A.HK
 Ic:Df K mg "is_row" Di g0r A.Nd A.Nf
 JT:Df K mg "noughts" BB g1m A.Jx A.Jy
 Ie:Df K mg "unit_row" Z9 g0p A.HL A.HM
 Dw:Df K mg "added" Ga g0f A.SF A.SG
 Lz:Df K mg "taken" Gb g0f A.SH A.SI
 P3:Df K mg "scaled" Dj g0z A.Ng A.Nh
 E5:Df K mg "head_at" El g1j A.Jz A.JA
 Fw:Df K mg "are_kinds" AL g1b A.Fd A.Ff
 JU:Df K mg "is_bill" BD g0t A.JB A.JC
 Dx:Df K mg "need_kinds" Aa g1i A.Dp A.Dq
 Fx:Df K mg "need_bill" AM g1h A.Fg A.Fh
 JV:Df K mg "hall_by" BE g0x A.JD A.JE
 JW:Df K mg "hall_of" Em g1l A.JF A.JG
 X9:Df K mg "need_basket_of" N6 g1c A.X6 A.X7
 W4:Df K mg "need_basket" W1 g0g A.BS A.BU
 I0:Df K mg "nought" HC g0e A.Ni A.Nj
 Ny:Df K mg "bridge" AN g0v A.Nk A.Nl
 JX:Df K mg "product" En ["numbers"] A.JH A.JI
 Ig:Df K mg "lowering" Cr g0k A.HN A.HP
 K6:Df K mg "lowered" Eo g0k A.JJ A.JK
 JY:Df K mg "crossed" Ep g1o A.JL A.JM
 Fy:Df K mg "turned_up" AO g1j A.Fm A.Fn
 Ih:Df K mg "with_row" Ac g1n A.HQ A.HR
 Nz:Df K mg "evened" HD g1d A.Nm A.Nn
 JZ:Df K mg "climbed" Es ["rows"] A.JN A.JO
 Am:Df K mg "heads_product" J4 g1d A.Ak A.Al
 V3:Df K mg "stair" Lm g0e A.SJ A.SK
 Ag:Df K mg "how_many" Cs g0e A.HS A.HU
 N9:Df K mg "need_few" Ct g0e A.Cw A.Cy
 L7:Df K mg "single_steps" F3 g1i A.AX A.AY
 L8:Df K mg "next_level" Ae g0m A.Dr A.F9
 O0:Df K mg "classes" BG g0e A.Ey A.Ez
 BM:Df K mg "thrifty" BH g0g A.EA A.EB
 u8:Df K mg "_law_cell_at" AQ g0n A.Fo A.Fp
 Kb:Df K mg "_law_whole" Eu g1k A.JP A.JQ
 Ii:Df K mg "_law_is_row" Cu g0y A.HV A.HW
 Ij:Df K mg "_law_number" Cv g1a A.HX A.HY
 LA:Df K mg "_law_row" Gc g0b A.SL A.SM
 Kc:Df K mg "_law_bills" BJ g0d A.JR A.JS
 NA:Df K mg "_law_plus" Dl g0c A.Np A.Nq
 NB:Df K mg "_law_head" HE g1f A.Nr A.Nt
 Ba:Df K mg "_law_left" HG g0s A.Nu A.Nv
 Ik:Df K mg "_law_copied" Af g1g A.HZ A.Ia
 Fz:Df K mg "_law_refused" AR g0o A.Fq A.Ft
 NC:Df K mg "_law_hall" HH g0d A.Nw A.Nx
 Dy:Df K mg "_law_is_least" Q7 g0i A.Ds A.Du
 f_law:Df K mg "law" SE g0d A.a_law A.SN
 x_TooMany:Xc K mg 6 A.x_TooMany
 h_HallError:Hit K mg h_HallError "HallError" A.x_HallError
 h_TooMany:Hit K mg h_TooMany "TooMany" A.x_TooMany
section
variable {K:aE}{mg:aF}{P:aN}{w:aP}{base:aX}{A:Adr}
section
variable (T:Facts K mg A)
include T
theorem EY:FK P w K mg base 1 A.HJ A.HK g1b ae M7:=
 T.Cz.d 0 Cg MP (λhr hu=>
  (i0 (k8 (RU (Gu (T :="int") rfl rfl T.B8 rfl T.Yc (by decide +kernel) (b9 0)) (RT (p_not (Gu (T :="bool") rfl rfl T.B8 rfl T.Yb (by decide +kernel) (b9 0))))))))
theorem Jw:FK P w K mg base 2 A.Nd A.Nf g0r ae AA:=
 T.Ic.d 1 Hi TY (λhr hu=>
  (d8 (s_if (PFW.pt (w_or (CK (CJ (Gu (T := "list") rfl rfl T.B8 rfl T.W3 (by decide +kernel) (b9 0)) (fun _=>rfl))) (Gn (t_cm (o_ne hu) (p_bu W7 T.X8 (q_n 0 e9)) (b9 1))))) (i0 (k8 p_bl)) u5)
   (i0 (k8 (p_bu (c_all rfl) T.n_all (f7 (p_co ["number"] 1 [] g0r (d7 Di).names (M1 (b9 0)) (λ_ _ _ _ _=>(p_ca (EY T) T.Cz hr (q_n 0 e9)))) e9))))))
theorem OZ:FK P w K mg base 1 A.Jx A.Jy g1m ae Bs:=
 T.JT.d 0 DT OU (λhr hu=>
  (i0 (k8 (p_co ["spot"] 1 [] g1m (d7 BB).names (S6 rfl T.R1 (b9 0)) (λ_ _ _ _ _=>f8)))))
theorem MS:FK P w K mg base 1 A.HL A.HM g0p ae T5:=
 T.Ie.d 0 Ch MQ (λhr hu=>
  (i0 (k8 (p_co ["spot","one_at"] 1 [1] g0p (d7 Z9).names (S6 rfl T.R1 (b9 0)) (λ_ _ _ _ _=>(p_if (t_cm (o_eq hu) (b9 0) (b9 1)) f8 f8))))))
theorem MT:FK P w K mg base 1 A.SF A.SG g0f ae Q4:=
 T.Dw.d 0 KY Ws (λhr hu=>
  (i0 (k8 (Ks (g:=(Tg.many [0,1])) (J5 (N:=g0v) (nt:=2) (js:=[]) g0f (d7 Ga).names rfl rfl rfl (by decide +kernel)) rfl (i_zip rfl T.n_zip (b9 0) (b9 1)) (λ_ _ _ _ _=>Gz rfl (O1 (F5 (ndp g0v) rfl (aR rfl) (bH rfl)) (O1 (F5 (ndp g0v) rfl (aR rfl) (bH rfl)) Gy))) (jlt [0,1] 2) (λ_ _ _ _ _=>GB) (λ_ _ _ _ _=>(p_op K8 (b9 0) (b9 1))) (jlt [] 2)))))
theorem MU:FK P w K mg base 1 A.SH A.SI g0f ae Bt:=
 T.Lz.d 0 KZ Wt (λhr hu=>
  (i0 (k8 (Ks (g:=(Tg.many [0,1])) (J5 (N:=g0v) (nt:=2) (js:=[]) g0f (d7 Gb).names rfl rfl rfl (by decide +kernel)) rfl (i_zip rfl T.n_zip (b9 0) (b9 1)) (λ_ _ _ _ _=>Gz rfl (O1 (F5 (ndp g0v) rfl (aR rfl) (bH rfl)) (O1 (F5 (ndp g0v) rfl (aR rfl) (bH rfl)) Gy))) (jlt [0,1] 2) (λ_ _ _ _ _=>GB) (λ_ _ _ _ _=>(p_op CH (b9 0) (b9 1))) (jlt [] 2)))))
theorem N8:FK P w K mg base 1 A.Ng A.Nh g0z ae E3:=
 T.P3.d 0 Hj TZ (λhr hu=>
  (i0 (k8 (p_co ["number","often"] 1 [1] g0z (d7 Dj).names (M1 (b9 0)) (λ_ _ _ _ _=>(p_op EE (b9 1) (b9 0)))))))
theorem F4:FK P w K mg base 1 A.Jz A.JA g1j ae j7:=
 T.E5.d 0 DU Cq (λhr hu=>
  (d8 (BO (rels:=[]) (g:=(Tg.many [1,2])) PassesOwn.never rfl (Vc rfl T.Fv (b9 0)) (Gz rfl (O1 (F5 (i:=1) Cq.nd rfl (Or.inl rfl) (Or.inl rfl)) (O1 (F5 (i:=2) Cq.nd rfl (Or.inl rfl) (Or.inl rfl)) Gy))) (i0 (s_if (t_cm (o_ne hu) (b9 2) f8) (i0 (k8 (b9 1))) u5)))
   (i0 (k8 (p_bu W7 T.X8 (q_n 0 e9))))))
theorem Lo:FK P w K mg base 2 A.Fd A.Ff g1b ae U8:=
 T.Fw.d 1 AB Lj (λhr hu=>
  (i0 (k8 (RU (p_ca (EY T) T.Cz hr (q_n 0 e9)) (RT (Yy o_le o_le f8 (b9 0) (Kn rfl T.Ly)))))))
theorem Pa:FK P w K mg base 3 A.JB A.JC g0t ae Bu:=
 T.JU.d 2 DV OV (λhr hu=>
  (i0 (k8 (RU (p_ca (Jw T) T.Ic hr (q_n 0 (q_n 1 e9))) (RT (p_bu (c_all rfl) T.n_all (f7 (p_co ["number"] 1 [] g0t (d7 BD).names (M1 (b9 0)) (λ_ _ _ _ _=>(p_cm o_lt (p_bu UJ T.XZ (q_n 0 e9)) (p_op UE f8 f8)))) e9)))))))
theorem Ir:FK P w K mg base 3 A.Dp A.Dq g1i ae Q5:=
 T.Dx.d 2 Z4 Iq (λhr hu=>
  (i0 (s_if (CK (CJ (p_ca (Lo T) T.Fw hr (q_n 0 e9)) (λ_=>rfl))) (i0 CQ) u5)))
theorem Lp:FK P w K mg base 4 A.Fg A.Fh g1h ae K2:=
 T.Fx.d 3 AC Lk (λhr hu=>
  (i0 (s_if (CK (CJ (p_ca (Pa T) T.JU hr (q_n 0 (q_n 1 e9))) (λ_=>rfl))) (i0 CQ) u5)))
theorem Pb:FK P w K mg base 1 A.JD A.JE g0x ae Bv:=
 T.JV.d 0 DW OW (λhr hu=>
  (i0 (k8 (@CM _ _ _ _ _ (@f7 _ _ _ _ _ (b9 0) (@f7 _ _ _ _ _ (p_ty UI T.BL (f7 (p_co g1j 1 [] g0x (d7 BE).names (M1 (b9 1)) (λ_ _ _ _ _=>(p_ty UI T.BL (q_n 0 e9)))) e9)) e9 rfl) rfl)))))
theorem Pc:FK P w K mg base 5 A.JF A.JG g1l ae X0:=
 T.JW.d 4 DX HA (λhr hu=>
  (d8 (GD (p_ca (Ir T) T.Dx hr (q_n 0 e9)))
   (d8 (s_if (PFW.pt (w_or (CK (CJ (Gu (T :="list") rfl rfl T.B8 rfl T.W3 (by decide +kernel) (b9 1)) (λ_=>rfl))) (Gn (t_cm o_gt (p_bu W7 T.X8 (q_n 1 e9)) (Kn rfl T.Lx))))) (i0 CQ) u5)
   (d8 (BO (rels:=[]) (g:=(Tg.one 2)) bp rfl (M1 (b9 1)) (Ai HA.nd rfl (aR rfl) (aR rfl)) (i0 (GD (p_ca (Lp T) T.Fx hr (q_n 2 (q_n 0 e9))))))
   (i0 (k8 (p_ca (Pb T) T.JV hr (q_n 0 (q_n 1 e9)))))))))
theorem Dm:FK P w K mg base 3 A.X6 A.X7 g1c ae F6:=
 T.X9.d 2 M8 Dk (λhr hu=>
  (i0 (s_if (CK (CJ (p_ca (Jw T) T.Ic hr (q_n 1 (q_n 0 e9))) (λ_=>rfl))) (i0 CQ) u5)))
theorem AS:FK P w K mg base 4 A.BS A.BU g0g ae G8:=
 T.W4.d 3 W0 HB (λhr hu=>
  (i0 (GD (p_ca (Dm T) T.X9 hr (f7 (p_i (b9 0) f8) (q_n 1 e9))))))
theorem Ew:FK P w K mg base 2 A.Ni A.Nj g0e ae X1:=
 T.I0.d 1 Hk Ua (λhr hu=>
  (i0 (k8 (p_ca (OZ T) T.JT hr (f7 (p_i (b9 0) f8) e9)))))
theorem Uc:FK P w K mg base 1 A.Nk A.Nl g0v ae Hm:=
 T.Ny.d 0 Hl K4 (λhr hu=>
  (d8 (O8 (rels:=[]) (w8 (i:=2) (M0 (q_n 0 (f7 f8 (f7 f8 e9)))) K4.nd rfl (Or.inr rfl) rfl (Or.inl rfl)))
   (d8 (O8 (rels:=[]) (w8 (i:=3) (M0 (q_n 1 (f7 f8 (f7 f8 e9)))) K4.nd rfl (bH rfl) rfl (aR rfl)))
   (d8 (Kv bp (t_cm (o_ne hu) (p_i (b9 3) f8) f8) (d8 (O8 (rels:=[]) (w8 (i:=4) (p_op BY (p_i (b9 2) f8) (p_i (b9 3) f8)) K4.nd rfl (bH rfl) rfl (aR rfl)))
   (d8 (O8 (rels:=[]) (a_co 5 K4.nd ["k","upper","often","lower"] 1 [2,4,3] g0h (d7 AN).names (S6 rfl T.R1 f8) (λ_ _ _ _ _=>(p_op CH (p_i (b9 1) (b9 0)) (p_op EE (b9 2) (p_i (b9 3) (b9 0)))))))
   (d8 (O8 (rels:=[]) (w8 (i:=2) (b9 3) K4.nd rfl (bH rfl) rfl (aR rfl)))
   (i0 (O8 (rels:=[]) (w8 (i:=3) (b9 5) K4.nd rfl (bH rfl) rfl (aR rfl))))))))
   (d8 (s_if (t_cm o_lt (p_i (b9 2) f8) f8) (i0 (O8 (rels:=[]) (w8 (i:=2) (p_co ["number"] 1 [] g0h (d7 AN).names (M1 (b9 2)) (λ_ _ _ _ _=>(Go (b9 0)))) K4.nd rfl (bH rfl) rfl (aR rfl)))) u5)
   (i0 (k8 (p_ty UI T.BL (q_n 2 e9)))))))))
theorem Pd:FK P w K mg base 1 A.JH A.JI ["numbers"] ae Bw:=
 T.JX.d 0 DY Ab (λhr hu=>
  (d8 (asn 1 f8 Ab.nd)
   (d8 (BO (rels:=[]) (g:=(Tg.one 2)) bp rfl (M1 (b9 0)) (Ai Ab.nd rfl (aR rfl) (aR rfl)) (i0 (asn 1 (p_op EE (b9 1) (b9 2)) Ab.nd)))
   (i0 (k8 (b9 1))))))
theorem MV:FK P w K mg base 2 A.HN A.HP g0k ae Z5:=
 T.Ig.d 1 Ci F2 (λhr hu=>
  (d8 (asn 2 (p_ty Gr T.W3 (q_n 0 e9)) F2.nd)
   (d8 (US (w8 (i:=3) (M0 e9) F2.nd rfl (aR rfl) rfl (aR rfl)))
   (d8 (BO (rels:=[]) (g:=(Tg.one 4)) bp rfl (M1 (b9 1)) (Ai F2.nd rfl (aR rfl) (aR rfl)) (d8 (asn 5 (p_ca (F4 T) T.E5 hr (q_n 4 e9)) F2.nd)
   (d8 (asn 6 (p_op BY (p_i (b9 2) (b9 5)) (p_i (b9 4) (b9 5))) F2.nd)
   (d8 (s_if (t_cm (o_ne hu) (b9 6) f8) (i0 (asn 2 (p_ca (MU T) T.Lz hr (q_n 2 (f7 (p_ca (N8 T) T.P3 hr (q_n 4 (q_n 6 e9))) e9))) F2.nd)) u5)
   (i0 (s_wr1 (i:=3) mw_app gE F.type_list_append rfl (aR rfl) (b9 6)))))))
   (i0 (k8 (CM (q_n 3 (q_n 2 e9)))))))))
theorem U2:FK P w K mg base 3 A.JJ A.JK g0k ae o0:=
 T.K6.d 2 DZ OX (λhr hu=>
  (i0 (k8 (p_i (p_ca (MV T) T.Ig hr (q_n 0 (q_n 1 e9))) f8))))
theorem Pe:FK P w K mg base 2 A.JL A.JM g1o ae R6:=
 T.JY.d 1 Ea U1 (λhr hu=>
  (d8 (asn 2 (p_ca (F4 T) T.E5 hr (q_n 0 e9)) U1.nd)
   (d8 (asn 3 (p_ca (Uc T) T.Ny hr (f7 (p_i (b9 0) (b9 2)) (f7 (p_i (b9 1) (b9 2)) e9))) U1.nd)
   (d8 (asn 4 (p_ca (MT T) T.Dw hr (f7 (p_ca (N8 T) T.P3 hr (q_n 0 (f7 (p_i (b9 3) f8) e9))) (f7 (p_ca (N8 T) T.P3 hr (q_n 1 (f7 (p_i (b9 3) f8) e9))) e9))) U1.nd)
   (d8 (asn 5 (p_ca (MU T) T.Lz hr (f7 (p_ca (N8 T) T.P3 hr (q_n 1 (f7 (p_op BY (p_i (b9 0) (b9 2)) (p_i (b9 3) f8)) e9))) (f7 (p_ca (N8 T) T.P3 hr (q_n 0 (f7 (p_op BY (p_i (b9 1) (b9 2)) (p_i (b9 3) f8)) e9))) e9))) U1.nd)
   (i0 (k8 (CM (q_n 4 (q_n 5 e9))))))))))
theorem Lq:FK P w K mg base 2 A.Fm A.Fn g1j ae B7:=
 T.Fy.d 1 AD Ll (λhr hu=>
  (i0 (k8 (p_if (t_cm o_lt (p_i (b9 0) (p_ca (F4 T) T.E5 hr (q_n 0 e9))) f8) (p_ca (N8 T) T.P3 hr (q_n 0 (f7 (Go f8) e9))) (p_ty Gr T.W3 (q_n 0 e9))))))
theorem MW:FK P w K mg base 4 A.HQ A.HR g1n ag M9:=
 T.Ih.d 3 T6 K5 (λhr hu=>
  (d8 (US (w8 (i:=2) (p_ty Gr T.W3 (q_n 0 e9)) K5.nd rfl (Or.inl rfl) rfl (Or.inl rfl)))
   (d8 (Ku (w8 (i:=3) (p_ca (U2 T) T.K6 hr (q_n 1 (q_n 2 e9))) K5.nd rfl (bH rfl) rfl (aR rfl)))
   (d8 (Kv bp (t_cm o_lt (p_ca (F4 T) T.E5 hr (q_n 3 e9)) (p_bu W7 T.X8 (q_n 3 e9))) (d8 (Ku (GE (i:=4) (g:=(Tg.many [0,1])) K5.nd rfl rfl rfl (J5 (N:=g1e) (nt:=2) (js:=[3]) g0q (d7 Ac).names rfl rfl rfl (by decide +kernel)) rfl (Vc rfl T.Fv (b9 2)) (λ_ _ _ _ _=>Gz rfl (O1 (F5 (ndp g1e) rfl (aR rfl) (bH rfl)) (O1 (F5 (ndp g1e) rfl (aR rfl) (bH rfl)) Gy))) (jlt [0,1] 2) (λ_ _ _ _ _=>(UL (t_cm (o_eq hu) (p_ca (F4 T) T.E5 hr (q_n 1 e9)) (p_ca (F4 T) T.E5 hr (q_n 2 e9))))) (λ_ _ _ _ _=>(b9 0)) (jlt [3] 6)))
   (d8 (s_if (t_cm (o_eq hu) (p_bu W7 T.X8 (q_n 4 e9)) f8) (i0 (k8 (YR (F4 T) (hr.mono (by decide)) rfl T.Ib T.E5.mg rfl T.E5.bd (p_op K8 (b9 2) (@M0 _ _ _ _ (@f7 _ _ _ _ _ (p_ca (Lq T) T.Fy hr (q_n 3 e9)) e9 rfl)))))) u5)
   (d8 (Ku (w8 (i:=5) (p_ca (Pe T) T.JY hr (f7 (p_i (b9 2) (p_i (b9 4) f8)) (q_n 3 e9))) K5.nd rfl (aR rfl) rfl (aR rfl)))
   (d8 (s_put (i:=2) rfl (aR rfl) (p_i (b9 4) f8) (p_i (b9 5) f8))
   (i0 (Ku (w8 (i:=3) (p_ca (U2 T) T.K6 hr (f7 (p_i (b9 5) f8) (q_n 2 e9))) K5.nd rfl (bH rfl) rfl (aR rfl)))))))))
   (i0 (k8 (b9 2)))))))
theorem Ud:FK P w K mg base 4 A.Nm A.Nn g1d ae AF:=
 T.Nz.d 3 Hn Er (λhr hu=>
  (d8 (US (w8 (i:=1) (M0 e9) Er.nd rfl (Or.inl rfl) rfl (Or.inl rfl)))
   (d8 (BO (rels:=[]) (g:=(Tg.one 2)) bp rfl (i_rev rfl T.RE (b9 0)) (Ai Er.nd rfl (aR rfl) (aR rfl)) (i0 (s_insA (i:=1) rfl (aR rfl) (p_ca (U2 T) T.K6 hr (q_n 2 (q_n 1 e9))))))
   (i0 (k8 (b9 1))))))
theorem Pf:FK P w K mg base 5 A.JN A.JO ["rows"] ae X2:=
 T.JZ.d 4 Eb Ad (λhr hu=>
  (d8 (asn 1 (M0 e9) Ad.nd)
   (d8 (BO (rels:=[]) (g:=(Tg.one 2)) bp rfl (M1 (b9 0)) (Ai Ad.nd rfl (aR rfl) (aR rfl)) (i0 (asn 1 (p_ca (Ud T) T.Nz hr (f7 (p_ca (MW T) T.Ih hr (q_n 1 (q_n 2 e9))) e9)) Ad.nd)))
   (i0 (k8 (b9 1))))))
theorem Ex:FK P w K mg base 2 A.Ak A.Al g1d ae J3:=
 T.Am.d 1 P8 Et (λhr hu=>
  (i0 (k8 (p_ca (Pd T) T.JX hr (f7 (p_co ["rung"] 1 [] g1d (d7 J4).names (M1 (b9 0)) (λ_ _ _ _ _=>(p_i (b9 0) (p_ca (F4 T) T.E5 hr (q_n 0 e9))))) e9)))))
theorem AU:FK P w K mg base 6 A.SJ A.SK g0e ae D7:=
 T.V3.d 5 La Wu (λhr hu=>
  (i0 (k8 (p_ca (Pf T) T.JZ hr (f7 (p_i (b9 0) f8) e9)))))
theorem AV:FK P w K mg base 7 A.HS A.HU g0e ae F0:=
 T.Ag.d 6 Cj EW (λhr hu=>
  (d8 (asn 1 (p_ca (AU T) T.V3 hr (q_n 0 e9)) EW.nd)
   (d8 (s_if (t_cm o_lt (p_bu W7 T.X8 (q_n 1 e9)) (p_i (b9 0) f8)) (i0 (k8 RS)) u5)
   (i0 (k8 (p_ca (Ex T) T.Am hr (q_n 1 e9)))))))
theorem Lr:FnOk P w K mg base (CX1 P w) 8 A.Cw A.Cy g0e (spx K mg ae N2):=
 Fun.datX (k:=7) (F:=Ck) T.N9.fn V1 rfl rfl (λcdv A outer s H E hr=>have hu:=hr.units
  (d8 (asn 1 (p_ca (AV T) T.Ag hr (q_n 0 e9)) V1.nd)
   (i0 (s_if (PFW.pt (w_or (t_cm UG (b9 1) RS) (Gn (t_cm o_gt (b9 1) (Kn rfl T.AZ))))) (i0 (YK 6 rfl T.x_TooMany rfl)) u5))))
theorem MX:FK P w K mg base 8 A.Cw A.Cy g0e ae N3:=
 T.N9.d 7 Cl V1 (λhr hu=>
  (d8 (asn 1 (p_ca (AV T) T.Ag hr (q_n 0 e9)) V1.nd)
   (i0 (s_if (PFW.pt (w_or (t_cm UG (b9 1) RS) (Gn (t_cm o_gt (b9 1) (Kn rfl T.AZ))))) (i0 CQ) u5))))
theorem FH:FK P w K mg base 2 A.AX A.AY g1i ag D3:=
 T.L7.d 1 T7 Aj (λhr hu=>
  (d8 (O8 (rels:=[]) (a_co 1 Aj.nd ["spot", "kinds"] 1 [0] ["kinds", "ones"] (d7 F3).names (S6 rfl T.R1 (b9 0)) (fun _ _ _ _ _=>(p_ca (MS T) T.Ie hr (q_n 1 (q_n 0 e9))))))
   (i0 (k8 (p_op K8 (b9 1) (p_co ["one"] 1 [] ["kinds","ones"] (d7 F3).names (M1 (b9 1)) (λ_ _ _ _ _=>(p_ca (N8 T) T.P3 hr (q_n 0 (f7 (Go f8) e9))))))))))
end
theorem Iu(T:Facts K mg A)(lm:Lam base mg 262 258)(lc:A.F9.code=.ref 262):FnOk P w K mg base CX0 4 A.Dr A.F9 g0m (spNx K Q4 o0 258 #[] "next_level.<locals>.<lambda>"):=
 Zi T.L8 E4 rfl rfl lc fun _ _ _ _ _ hr=>have hu:_+1<_:=Nat.lt_of_le_of_lt (Nat.add_le_add_left (by decide:1≤64) _) hr.units
  A8 (M2 E4.nd (i:=4) rfl (aR rfl) (Kf A4))
  (A8 (NG PassesOwn.never rfl (RK (pv 0)) (F5 (i:=5) E4.nd rfl (Or.inl rfl))
   (Y0 (NG PassesOwn.never rfl (RK (pv 1)) (F5 (i:=6) E4.nd rfl (Or.inl rfl))
    (A8 (M2 E4.nd (i:=7) rfl (aR rfl) (E6 (E:=E0) (dvs:=[]) (MT T) (hr.mono (by decide)) rfl T.Dw.mg T.Dw.fn.kp T.Dw.bd .nil Aq (m9 (RN Kj (pv 5) Gf (λ_ _=>rfl)) (m9 (pv 6) A4))))
    (A8 (M2 E4.nd (i:=8) rfl (aR rfl) (E6 (E:=E0) (dvs:=[]) (U2 T) (hr.mono (by decide)) rfl T.K6.mg T.K6.fn.kp T.K6.bd .nil Aq (m9 (pv 7) (m9 (pv 2) A4))))
    (Y0 (ps_if (pt_cmp (Tp hu (Bb G3 rfl T.BL (by decide +kernel) (m9 (pv 8) A4)) (pv 3)))
     (A8 (YS hu (pv 3) (Bb G3 rfl T.BL (by decide +kernel) (m9 (pv 8) A4)) RF rfl)
     (Y0 (U3 (RO fg gE F.type_list_append DB (pv 4) (m9 (NJ (m9 (pv 8) (m9 (pv 7) A4))) A4)))))
     RH)))))))
  (Y0 (ND (VE (k:=0) ⟨scm,λ_ _ _ _=>rfl,λ_ _ _ _ _ _=>RN Kj (pv 0) Gf (λ_ _=>rfl)⟩ (hr.mono (by decide)) lm rfl rfl rfl rfl rfl T.Ib (pv 4)))))
theorem AW(T:Facts K mg A):FnOk P w K mg base (CX1 P w) 9 A.Ey A.Ez g0e (spx K mg ag X3):=
 Fun.datX (k:=8) (F:=Ec) T.O0.fn B9 rfl rfl (λcdv A outer s H E hr=>have hu:=hr.units
  (d8 (YM (Lr T) T.N9 hr rfl (q_n 0 e9))
   Mc))
theorem HI(T:Facts K mg A)(lm:Lam base mg 262 258)(lc:A.F9.code=.ref 262):FnOk P w K mg base CX0 9 A.Ey A.Ez g0e (spcT K 258 #[] "next_level.<locals>.<lambda>" ag K3):=
 Oy T.O0 B9 rfl rfl (λds d e=>ET e) λ_ _ _ _ _ _ hr=>have hu:=hr.units
  A8 (U3 (E6 (E:=E0) (dvs:=[]) (MX T) (hr.mono (by decide)) rfl T.N9.mg T.N9.fn.kp T.N9.bd .nil Aq (m9 (pv 0) A4)))
  (A8 (M2 B9.nd (i:=1) rfl (aR rfl) (E6 (E:=E0) (dvs:=[]) (AU T) (hr.mono (by decide)) rfl T.V3.mg T.V3.fn.kp T.V3.bd .nil Aq (m9 (pv 0) A4)))
  (A8 (M2 B9.nd (i:=2) rfl (aR rfl) (E6 (E:=E0) (dvs:=[]) (FH T) (hr.mono (by decide)) rfl T.L7.mg T.L7.fn.kp T.L7.bd .nil Aq (m9 (RN Kj (pv 0) Gf (λ_ _=>rfl)) A4)))
  (A8 (M2 B9.nd (i:=3) rfl (aR rfl) (YT (vS (w0a _ 64) hu) (Bb G3 rfl T.BL (by decide +kernel) (m9 (E6 (E:=E0) (dvs:=[]) (Ew T) (hr.mono (by decide)) rfl T.I0.mg T.I0.fn.kp T.I0.bd .nil Aq (m9 (pv 0) A4)) A4)) RF))
  (A8 (M2 B9.nd (i:=4) rfl (aR rfl) (Kf (m9 (NJ (m9 (E6 (E:=E0) (dvs:=[]) (Ew T) (hr.mono (by decide)) rfl T.I0.mg T.I0.fn.kp T.I0.bd .nil Aq (m9 (pv 0) A4)) (m9 (E6 (E:=E0) (dvs:=[]) (Ew T) (hr.mono (by decide)) rfl T.I0.mg T.I0.fn.kp T.I0.bd .nil Aq (m9 (pv 0) A4)) A4))) A4)))
  (A8 (M2 B9.nd (i:=5) rfl (aR rfl) (Kf A4))
  (A8 (M2 B9.nd (i:=6) rfl (bH rfl) Gf)
  (A8 (LD PassesOwn.never (t_cm o_gt (p_bu W7 T.X8 (q_n 4 e9)) f8)
   (A8 (U3 (RO fg F.slot_list_extend F.type_list_extend SX (pv 5) (m9 (Ks (g:=(Tg.many [0,1])) (J5 (N:=g0w) (nt:=2) (js:=[6]) g0j (d7 BG).names rfl rfl rfl (by decide +kernel)) rfl (M1 (b9 4)) (λ_ _ _ _ _=>Gz rfl (O1 (F5 (ndp g0w) rfl (aR rfl) (bH rfl)) (O1 (F5 (ndp g0w) rfl (aR rfl) (bH rfl)) Gy))) (jlt [0,1] 2) (λ_ _ _ _ _=>GB) (λ_ _ _ _ _=>(CM (q_n 0 (q_n 2 (q_n 1 e9))))) (jlt [6] 7)) A4)))
   (A8 (M2 B9.nd (i:=4) rfl (aR rfl) (E6 (E:=E0) (dvs:=[]) (Iu T lm lc) (hr.mono (by decide)) rfl T.L8.mg T.L8.fn.kp T.L8.bd .nil Aq (m9 (pv 4) (m9 (pv 2) (m9 (pv 1) (m9 (pv 3) A4))))))
   (Y0 (M2 B9.nd (i:=6) rfl (bH rfl) (p_op K8 (b9 6) f8))))))
  (Y0 (ND (pv 5))))))))))
theorem MY(T:Facts K mg A):FnOk P w K mg base (CX1 P w) 10 A.EA A.EB g0g (spx K mg ag Ee):=
 Fun.datX (k:=9) (F:=Ed) T.BM.fn N7 rfl rfl (λcdv A outer s H E hr=>have hu:=hr.units
  (d8 (GD (p_ca (AS T) T.W4 hr (q_n 0 (q_n 1 e9))))
   (d8 (s_asgR (i:=2) (r_call (AW T) T.O0 hr rfl (q_n 0 e9)) N7.nd rfl (aR rfl))
   Mc)))
theorem Pg(T:Facts K mg A)(lm:Lam base mg 262 258)(lc:A.F9.code=.ref 262):FnOk P w K mg base CX0 10 A.EA A.EB g0g (spcT K 258 #[] "next_level.<locals>.<lambda>" ag Bx):=
 T.BM.dT 9 Ef N7 (λhr hu hT=>
  (d8 (GD (p_ca (AS T) T.W4 hr (q_n 0 (q_n 1 e9))))
   (d8 (asn 2 (Wb (HI T lm lc) T.O0 hr hT (q_n 0 e9)) N7.nd)
   (d8 (O8 (rels:=[]) (w8 (i:=3) (p_ca (U2 T) T.K6 hr (q_n 1 (f7 (p_ca (AU T) T.V3 hr (q_n 0 e9)) e9))) N7.nd rfl (bH rfl) rfl (aR rfl)))
   (d8 (O8 (rels:=[]) (GE (i:=4) (g:=(Tg.one 0)) N7.nd rfl rfl rfl (J5 (N:=["each","sought"]) (nt:=1) (js:=[3]) g0u (d7 BH).names rfl rfl rfl (by decide +kernel)) rfl (M1 (b9 2)) (λ_ _ _ _ _=>Ai (ndp ["each","sought"]) rfl (aR rfl) (bH rfl)) (show 0<1 by decide) (λ_ _ _ _ _=>(UL (t_cm (o_eq hu) (p_i (b9 0) f8) (b9 1)))) (λ_ _ _ _ _=>(p_i (b9 0) f8)) (jlt [3] 5)))
   (i0 (k8 (p_i (b9 4) f8))))))))
section
variable (T:Facts K mg A)
include T
theorem r9:FK P w K mg base 1 A.Fo A.Fp g0n ae k6:=
 T.u8.d 0 AG Ln (λhr hu=>
  (d8 (s_if (t_cm o_lt (b9 1) (p_bu W7 T.X8 (q_n 0 e9))) (i0 (k8 (p_i (b9 0) (b9 1)))) u5)
   (d8 (s_if (t_cm (o_eq hu) (b9 0) (M0 e9)) (i0 (k8 f8)) u5)
   (i0 (k8 (p_op K8 (p_op EE (p_i (b9 0) (p_op O6 (b9 1) (p_bu W7 T.X8 (q_n 0 e9)))) f8) (b9 1)))))))
theorem Ph:FK P w K mg base 1 A.JP A.JQ g1k ae R7:=
 T.Kb.d 0 Eg OY (λhr hu=>
  (i0 (k8 (RU (Gu (T :="int") rfl rfl T.B8 rfl T.Yc (by decide +kernel) (b9 0)) (RT (p_not (Gu (T :="bool") rfl rfl T.B8 rfl T.Yb (by decide +kernel) (b9 0))))))))
theorem MZ:FK P w K mg base 2 A.HV A.HW g0y ae Z6:=
 T.Ii.d 1 Cm EX (λhr hu=>
  (d8 (s_if (PFW.pt (w_or (CK (CJ (Gu (T := "list") rfl rfl T.B8 rfl T.W3 (by decide +kernel) (b9 0)) (fun _=>rfl))) (Gn (t_cm (o_ne hu) (p_bu W7 T.X8 (q_n 0 e9)) (b9 1))))) (i0 (k8 p_bl)) u5)
   (d8 (BO (rels:=[]) (g:=(Tg.one 2)) bp rfl (M1 (b9 0)) (Ai EX.nd rfl (aR rfl) (aR rfl)) (i0 (s_if (CK (CJ (p_ca (Ph T) T.Kb hr (q_n 2 e9)) (λ_=>rfl))) (i0 (k8 p_bl)) u5)))
   (i0 (k8 p_bl)))))
theorem Na:FK P w K mg base 1 A.HX A.HY g1a ae N4:=
 T.Ij.d 0 T8 V2 (λhr hu=>
  (d8 (s_if (t_cm (o_eq hu) (b9 1) f8) (d8 (asn 2 (p_op O6 (b9 0) (p_op UE f8 f8)) V2.nd)
   (d8 (s_if (t_cm (o_eq hu) (p_op O6 (p_op BY (b9 0) (p_op UE f8 f8)) f8) f8) (i0 (k8 (Go (b9 2)))) u5)
   (i0 (k8 (b9 2))))) u5)
   (d8 (asn 3 (p_i (M0 (f7 f8 (f7 f8 e9))) (b9 1)) V2.nd)
   (d8 (asn 2 (p_op O6 (b9 0) (b9 3)) V2.nd)
   (d8 (s_if (t_cm o_gt (b9 2) (p_op BY (b9 3) f8)) (i0 (k8 (p_op CH (b9 2) (b9 3)))) u5)
   (i0 (k8 (b9 2))))))))
theorem Nb:FK P w K mg base 2 A.SL A.SM g0b ae U9:=
 T.LA.d 1 Lb Wv (λhr hu=>
  (i0 (k8 (p_co ["_law_k","_law_script","_law_at","_law_mode"] 1 [0,1,3] g0b (d7 Gc).names (S6 rfl T.R1 (b9 2)) (λ_ _ _ _ _=>(p_ca (Na T) T.Ij hr (f7 (p_ca (r9 T) T.u8 hr (q_n 1 (f7 (p_op K8 (b9 2) (b9 0)) e9))) (q_n 3 e9))))))))
theorem Pi:FK P w K mg base 3 A.JR A.JS g0d ae Eh:=
 T.Kc.d 2 Jm D8 (λhr hu=>
  (d8 (O8 (rels:=[]) (w8 (i:=1) (p_i (M0 (f7 f8 (f7 f8 (f7 f8 (f7 f8 (f7 f8 e9)))))) (p_op O6 (p_ca (r9 T) T.u8 hr (q_n 0 (f7 f8 e9))) f8)) D8.nd rfl (Or.inr rfl) rfl (Or.inl rfl)))
   (d8 (O8 (rels:=[]) (w8 (i:=2) (p_op K8 f8 (p_op O6 (p_ca (r9 T) T.u8 hr (q_n 0 (f7 f8 e9))) f8)) D8.nd rfl (bH rfl) rfl (aR rfl)))
   (d8 (asn 3 (p_op O6 (p_ca (r9 T) T.u8 hr (q_n 0 (f7 f8 e9))) f8) D8.nd)
   (d8 (s_if (t_cm (o_eq hu) (p_op O6 (p_ca (r9 T) T.u8 hr (q_n 0 (f7 f8 e9))) f8) f8) (d8 (O8 (rels:=[]) (w8 (i:=2) f8 D8.nd rfl (bH rfl) rfl (aR rfl)))
   (d8 (asn 3 f8 D8.nd)
   (i0 (O8 (rels:=[]) (w8 (i:=1) f8 D8.nd rfl (bH rfl) rfl (aR rfl)))))) u5)
   (d8 (s_if (t_cm (o_eq hu) (b9 1) f8) (d8 (O8 (rels:=[]) (w8 (i:=2) (p_op K8 f8 (p_op O6 (b9 2) f8)) D8.nd rfl (bH rfl) rfl (aR rfl)))
   (i0 (asn 3 (p_op O6 (b9 3) f8) D8.nd))) u5)
   (i0 (k8 (@CM _ _ _ _ _ (@f7 _ _ _ _ _ (b9 2) (@f7 _ _ _ _ _ (p_co ["_law_k","_law_script","_law_kinds","_law_mode"] 1 [0,2,1] g0l (d7 BJ).names (S6 rfl T.R1 (b9 3)) (λ_ _ _ _ _=>(p_ca (Nb T) T.LA hr (q_n 1 (f7 (p_op K8 f8 (p_op EE (b9 2) (b9 0))) (q_n 2 (q_n 3 e9))))))) e9 rfl) rfl))))))))))
theorem Ue:FK P w K mg base 1 A.Np A.Nq g0c ae AH:=
 T.NA.d 0 Ho Ub (λhr hu=>
  (i0 (k8 (p_co ["_law_k","_law_one","_law_times","_law_other"] 1 [0,2,1] g0c (d7 Dl).names (S6 rfl T.R1 (p_bu W7 T.X8 (q_n 0 e9))) (λ_ _ _ _ _=>(p_op K8 (p_i (b9 1) (b9 0)) (p_op EE (b9 2) (p_i (b9 3) (b9 0)))))))))
theorem Uf:FK P w K mg base 1 A.Nr A.Nt g1f ae AI:=
 T.NB.d 0 Hq Ev (λhr hu=>
  (d8 (asn 1 f8 Ev.nd)
   (d8 (Kv bp (PFW.pt (w_and (t_cm o_lt (b9 1) (p_bu W7 T.X8 (q_n 0 e9))) (UF (t_cm (o_eq hu) (p_i (b9 0) (b9 1)) f8)))) (i0 (asn 1 (p_op K8 (b9 1) f8) Ev.nd)))
   (i0 (k8 (b9 1))))))
theorem BK:FK P w K mg base 2 A.Nu A.Nv g0s ae L5:=
 T.Ba.d 1 Hr X5 (λhr hu=>
  (d8 (asn 2 (p_ty Gr T.W3 (q_n 1 e9)) X5.nd)
   (d8 (BO (rels:=[]) (g:=(Tg.one 3)) bp rfl (M1 (b9 0)) (Ai X5.nd rfl (aR rfl) (aR rfl)) (d8 (asn 4 (p_ca (Uf T) T.NB hr (q_n 3 e9)) X5.nd)
   (i0 (asn 2 (p_ca (Ue T) T.NA hr (q_n 2 (q_n 3 (f7 (Go (p_op BY (p_i (b9 2) (b9 4)) (p_i (b9 3) (b9 4)))) e9)))) X5.nd))))
   (i0 (k8 (b9 2))))))
theorem Nc:FK P w K mg base 1 A.HZ A.Ia g1g ae Z7:=
 T.Ik.d 0 Cn MR (λhr hu=>
  (i0 (k8 (p_co g1f 1 [] g1g (d7 Af).names (M1 (b9 0)) (λ_ _ _ _ _=>(p_ty Gr T.W3 (q_n 0 e9)))))))
theorem Ls:FK P w K mg base 11 A.Fq A.Ft g0o ae V0:=
 T.Fz.d 10 AJ F8 (λhr hu=>
  (d8 (asn 2 f8 F8.nd)
   (d8 (s_try (AW T) T.O0 hr rfl (λ_=>(q_n 0 e9)) rfl T.h_TooMany (λ_=>(i0 (asn 2 (p_op K8 (b9 2) f8) F8.nd))))
   (d8 (s_try (MY T) T.BM hr rfl (λ_=>(q_n 0 (q_n 1 e9))) rfl T.h_TooMany (λ_=>(i0 (asn 2 (p_op K8 (b9 2) f8) F8.nd))))
   (d8 (YO 3 (AW T) T.O0 hr rfl (λ_=>(q_n 0 e9)) rfl T.h_HallError (λ_=>(i0 (asn 2 (p_op K8 (b9 2) (p_ty c_int T.Yc (f7 (p_isx 3 rfl T.B8 rfl T.Lw) e9))) F8.nd))) F8.nd)
   (i0 (k8 (b9 2))))))))
theorem Ug:FK P w K mg base 4 A.Nw A.Nx g0d ae T9:=
 T.NC.d 3 X4 Jv (λhr hu=>
  (d8 (asn 1 (p_op O6 (p_ca (r9 T) T.u8 hr (q_n 0 (f7 f8 e9))) f8) Jv.nd)
   (@d8 _ _ _ _ _ (@s_if _ _ _ _ _ _ _ _ (t_cm (o_eq hu) (b9 1) f8) (@i0 _ _ _ (@k8 _ _ _ _ (@CM _ _ _ _ _ (@f7 _ _ _ _ _ f8 (@f7 _ _ _ _ _ (@M0 _ _ _ _ (@f7 _ _ _ _ _ (@M0 _ _ _ _ (@f7 _ _ _ _ _ f8 (@f7 _ _ _ _ _ (p_op CH (Go f8) (p_op O6 (p_ca (r9 T) T.u8 hr (q_n 0 (f7 f8 e9))) f8)) e9 rfl) rfl)) (@f7 _ _ _ _ _ (@M0 _ _ _ _ (@f7 _ _ _ _ _ f8 (@f7 _ _ _ _ _ (p_op K8 f8 (p_op O6 (p_ca (r9 T) T.u8 hr (q_n 0 (f7 f8 e9))) f8)) e9 rfl) rfl)) e9 rfl) rfl)) e9 rfl) rfl)))) u5)
   (@d8 _ _ _ _ _ (@s_if _ _ _ _ _ _ _ _ (t_cm (o_eq hu) (b9 1) f8) (@i0 _ _ _ (@k8 _ _ _ _ (@CM _ _ _ _ _ (@f7 _ _ _ _ _ f8 (@f7 _ _ _ _ _ (@M0 _ _ _ _ (@f7 _ _ _ _ _ (@M0 _ _ _ _ (@f7 _ _ _ _ _ (p_op K8 f8 (p_op O6 (p_ca (r9 T) T.u8 hr (q_n 0 (f7 f8 e9))) f8)) e9 rfl)) e9 rfl)) e9 rfl) rfl)))) u5)
   (@d8 _ _ _ _ _ (@s_if _ _ _ _ _ _ _ _ (t_cm (o_eq hu) (b9 1) f8) (@i0 _ _ _ (@k8 _ _ _ _ (@CM _ _ _ _ _ (@f7 _ _ _ _ _ f8 (@f7 _ _ _ _ _ (@M0 _ _ _ _ (@f7 _ _ _ _ _ (@M0 _ _ _ _ (@f7 _ _ _ _ _ (p_op K8 f8 (p_op O6 (p_ca (r9 T) T.u8 hr (q_n 0 (f7 f8 e9))) f8)) (@f7 _ _ _ _ _ f8 e9 rfl) rfl)) (@f7 _ _ _ _ _ (@M0 _ _ _ _ (@f7 _ _ _ _ _ f8 (@f7 _ _ _ _ _ (p_op K8 f8 (p_op O6 (p_ca (r9 T) T.u8 hr (q_n 0 (f7 f8 e9))) f8)) e9 rfl) rfl)) e9 rfl) rfl)) e9 rfl) rfl)))) u5)
   (i0 (k8 (p_ca (Pi T) T.Kc hr (q_n 0 e9)))))))))
theorem Iv:FK P w K mg base 3 A.Ds A.Du g0i ae Q6:=
 T.Dy.d 2 Z8 G9 (λhr hu=>
  (d8 (asn 3 (p_bu (c_sum rfl) T.n_sum (f7 (p_co ["_law_number_here"] 1 [] ["_law_rows", "_law_kinds", "_law_entry", "_law_sizes", "_law_first", "_law_left_here", "_law_last"] (d7 Q7).names (M1 (p_i (b9 2) f8)) (fun _ _ _ _ _=>(p_bu UJ T.XZ (q_n 0 e9)))) e9)) G9.nd)
   (d8 (s_if (PFW.pt (w_or (t_cm (o_ne hu) (b9 3) (p_i (b9 2) f8)) (Gn (t_cm (o_ne hu) (p_ca (BK T) T.Ba hr (q_n 0 (f7 (p_i (b9 2) f8) e9))) (p_i (b9 2) f8))))) (i0 (k8 p_bl)) u5)
   (d8 (BO (rels:=[]) (g:=(Tg.one 4)) bp rfl (LR rfl T.R1 (p_op CH f8 (b9 3)) (b9 3)) (Ai G9.nd rfl (aR rfl) (aR rfl)) (d8 (asn 5 (p_op CH (p_op CH (b9 3) f8) (p_bu UJ T.XZ (q_n 4 e9))) G9.nd)
   (i0 (BO (rels:=[]) (g:=(Tg.one 6)) bp rfl (LR rfl T.R1 (p_op EE (Go (b9 5)) (p_op CH (b9 1) f8)) (p_op K8 (p_op EE (b9 5) (p_op CH (b9 1) f8)) f8)) (Ai G9.nd rfl (aR rfl) (aR rfl)) (i0 (s_if (t_cm (o_eq hu) (p_ca (BK T) T.Ba hr (q_n 0 (f7 (YD (M0 (q_n 4 (q_n 6 e9))) s_none (s_some (b9 1))) e9))) (p_i (b9 2) f8)) (i0 (k8 p_bl)) u5))))))
   (i0 (k8 p_bl))))))
end
theorem ok_law(T:Facts K mg A)(lm:Lam base mg 262 258)(lc:A.F9.code=.ref 262):FnOk P w K mg base CX0 12 A.a_law A.SN g0d (spcT K 258 #[] "next_level.<locals>.<lambda>" ae Ht):=
 T.f_law.dT 11 SA W2 (λhr hu hT=>
  (d8 (asn 1 (p_ca (Ug T) T.NC hr (q_n 0 e9)) W2.nd)
   (d8 (asn 2 (p_ca (Pc T) T.JW hr (f7 (p_i (b9 1) f8) (f7 (p_ca (Nc T) T.Ik hr (f7 (p_i (b9 1) f8) e9)) e9))) W2.nd)
   (d8 (asn 3 (p_ca (Nb T) T.LA hr (q_n 0 (f7 f8 (f7 (p_i (b9 1) f8) (f7 f8 e9))))) W2.nd)
   (d8 (asn 4 (p_ca (AV T) T.Ag hr (q_n 2 e9)) W2.nd)
   (d8 (s_if (PFW.pt (w_or (t_cm UG (b9 4) RS) (Gn (t_cm o_gt (b9 4) f8)))) (i0 (k8 (p_cm (o_eq hu) (p_ca (Ls T) T.Fz hr (q_n 2 (f7 (p_ty Gr T.W3 (q_n 3 e9)) e9))) f8))) u5)
   (d8 (asn 5 (Wb (HI T lm lc) T.O0 hr hT (q_n 2 e9)) W2.nd)
   (d8 (s_if (t_cm (o_ne hu) (p_bu W7 T.X8 (q_n 5 e9)) (b9 4)) (i0 (k8 p_bl)) u5)
   (d8 (O8 (rels:=[]) (a_co 6 W2.nd ["_law_entry"] 1 [] g0a (d7 SE).names (M1 (b9 5)) (λ_ _ _ _ _=>(CM (f7 (p_i (b9 0) f8) (f7 (p_i (b9 0) f8) e9))))))
   (d8 (s_if (t_cm (o_ne hu) (b9 6) (Zn hu T.Ib (b9 6))) (i0 (k8 p_bl)) u5)
   (d8 (asn 7 (p_i (b9 5) (p_op O6 (p_ca (r9 T) T.u8 hr (q_n 0 (f7 f8 e9))) (b9 4))) W2.nd)
   (d8 (s_if (PFW.pt (w_and (t_cm o_lt (p_i (b9 1) f8) f8) (UF (CK (CJ (p_ca (Iv T) T.Dy hr (f7 (p_ca (AU T) T.V3 hr (q_n 2 e9)) (f7 (p_i (b9 1) f8) (q_n 7 e9)))) (λ_=>rfl)))))) (i0 (k8 p_bl)) u5)
   (d8 (asn 8 (Wb (Pg T lm lc) T.BM hr hT (q_n 2 (f7 (p_ty Gr T.W3 (q_n 3 e9)) e9))) W2.nd)
   (d8 (s_if (CK (CJ (p_ca (MZ T) T.Ii hr (q_n 8 (f7 (p_i (b9 1) f8) e9))) (λ_=>rfl))) (i0 (k8 p_bl)) u5)
   (d8 (asn 9 (p_ca (AU T) T.V3 hr (q_n 2 e9)) W2.nd)
   (i0 (k8 (p_cm (o_eq hu) (p_ca (BK T) T.Ba hr (q_n 9 (q_n 8 e9))) (p_ca (BK T) T.Ba hr (q_n 9 (q_n 3 e9)))))))))))))))))))))
end
theorem Ww{l:gu}{w:aP}{K:aE}{h:aX}{mg:aF}{fa:Addr}(X:K.In h)(G:h.Ns aO mg)(hfa:mg "law"=aa (.ref fa))
  {a0 a1 a2 a3 a4 a5 a6 a7 a8 a9 a10 a11 a12 a13 a14 a15 a16 a17 a18 a19 a20 a21 a22 a23 a24 a25 a26 a27 a28 a29 a30 a31 a32 a33 a34 a35 a36 a37 a38 a39 a40 a41 a42 a43 a44 a45 a46 a47:Addr}
  (h0:Dh K "is_whole" Cp a0)
  (h1:Dh K "is_row" Di a1)
  (h2:Dh K "noughts" BB a2)
  (h3:Dh K "unit_row" Z9 a3)
  (h4:Dh K "added" Ga a4)
  (h5:Dh K "taken" Gb a5)
  (h6:Dh K "scaled" Dj a6)
  (h7:Dh K "head_at" El a7)
  (h8:Dh K "are_kinds" AL a8)
  (h9:Dh K "is_bill" BD a9)
  (h10:Dh K "need_kinds" Aa a10)
  (h11:Dh K "need_bill" AM a11)
  (h12:Dh K "hall_by" BE a12)
  (h13:Dh K "hall_of" Em a13)
  (h14:Dh K "need_basket_of" N6 a14)
  (h15:Dh K "need_basket" W1 a15)
  (h16:Dh K "nought" HC a16)
  (h17:Dh K "bridge" AN a17)
  (h18:Dh K "product" En a18)
  (h19:Dh K "lowering" Cr a19)
  (h20:Dh K "lowered" Eo a20)
  (h21:Dh K "crossed" Ep a21)
  (h22:Dh K "turned_up" AO a22)
  (h23:Dh K "with_row" Ac a23)
  (h24:Dh K "evened" HD a24)
  (h25:Dh K "climbed" Es a25)
  (h26:Dh K "heads_product" J4 a26)
  (h27:Dh K "stair" Lm a27)
  (h28:Dh K "how_many" Cs a28)
  (h29:Dh K "need_few" Ct a29)
  (h30:Dh K "single_steps" F3 a30)
  (h31:Dh K "next_level" Ae a31)
  (h32:Dh K "classes" BG a32)
  (h33:Dh K "thrifty" BH a33)
  (h34:Dh K "_law_cell_at" AQ a34)
  (h35:Dh K "_law_whole" Eu a35)
  (h36:Dh K "_law_is_row" Cu a36)
  (h37:Dh K "_law_number" Cv a37)
  (h38:Dh K "_law_row" Gc a38)
  (h39:Dh K "_law_bills" BJ a39)
  (h40:Dh K "_law_plus" Dl a40)
  (h41:Dh K "_law_head" HE a41)
  (h42:Dh K "_law_left" HG a42)
  (h43:Dh K "_law_copied" Af a43)
  (h44:Dh K "_law_refused" AR a44)
  (h45:Dh K "_law_hall" HH a45)
  (h46:Dh K "_law_is_least" Q7 a46)
  (h47:Dh K "law" SE a47)
  (z_ValueError:aY K aO "ValueError"=aa aj)
  (z_abs:aY K aO "abs"=aa aj)
  (z_all:aY K aO "all"=aa aj)
  (z_bool:aY K aO "bool"=aa aj)
  (z_enumerate:aY K aO "enumerate"=aa aj)
  (z_int:aY K aO "int"=aa aj)
  (z_isinstance:aY K aO "isinstance"=aa aj)
  (z_len:aY K aO "len"=aa aj)
  (z_list:aY K aO "list"=aa aj)
  (z_range:aY K aO "range"=aa aj)
  (z_reversed:aY K aO "reversed"=aa aj)
  (z_sorted:aY K aO "sorted"=aa aj)
  (z_sum:aY K aO "sum"=aa aj)
  (z_tuple:aY K aO "tuple"=aa aj)
  (z_zip:aY K aO "zip"=aa aj)
  {Q8:Tok} (y_MOST_BILLS:aY K aO "MOST_BILLS"=aa (aa (.int 8 Q8)))
  {L6:Tok} (y_MOST_CLASSES:aY K aO "MOST_CLASSES"=aa (aa (.int 200 L6)))
  {Q9:Tok} (y_MOST_KINDS:aY K aO "MOST_KINDS"=aa (aa (.int 6 Q9)))
  {x_HallError:Addr} (w_HallError:aY K aO "HallError"=aa (aa (.ref x_HallError)))
  {x_TooMany:Addr} (w_TooMany:aY K aO "TooMany"=aa (aa (.ref x_TooMany)))
  (u_TooMany:PySem.W.excIn K x_TooMany bmVE "ValueError.__new__"=ae) (v_TooMany:gq K (.ref x_TooMany) (.type "ValueError")=aa ae)
  (o_TooMany_HallError:gM K (.ref x_TooMany) (.ref x_HallError)=aa ae)
  (o_TooMany_TooMany:gM K (.ref x_TooMany) (.ref x_TooMany)=aa ae)
  {oc0:Value} {od0:iB} {fd0:az} {sl0:Array (iA)} (n1:aY K aO "next_level"=aa (aa (.ref 263))) (n2:K.lookup 263=aa ⟨oc0,od0,.func fd0,sl0⟩) (n3:fd0.code=.ref 262)
  : ∃fd:az,(∀(s:Shared)(u:Value),BindsTo s fd ⟨[u],[]⟩ [("_law_script",u)])/\∀base:aX,K.In base->base.Ns aO mg->Lam base mg 262 258->FnOk l.prog w K mg base CX0 12 fa fd g0d (spcT K 258 #[] "next_level.<locals>.<lambda>" ae Ht):=by
 have t0:Hit K mg h_HallError "HallError" x_HallError:=Vj (cw X G w_HallError) (by intro n C hn hC;unfold h_HallError at hn;simp only[vJ,beq_iff_eq,or_assoc]at hn;first|(rcases hn with rfl<;>first|(cases hC.symm.trans (cw X G w_TooMany);exact⟨o_TooMany_HallError,v_TooMany⟩)));have t1:Hit K mg h_TooMany "TooMany" x_TooMany:=Vj (cw X G w_TooMany) (by intro n C hn hC;unfold h_TooMany at hn;simp only[vJ,beq_iff_eq,or_assoc]at hn;first|(rcases hn with rfl<;>first|(cases hC.symm.trans (cw X G w_TooMany);exact⟨o_TooMany_TooMany,v_TooMany⟩)));have key:∃A:Adr,Facts K mg A/\∀(s:Shared)(u:Value),BindsTo s A.SN ⟨[u],[]⟩ [("_law_script",u)]:=⟨⟨_,_,_,_,_,_,_,_,_,_,_,_,_,_,_,_,_,_,_,_,_,_,_,_,_,_,_,_,_,_,_,_,_,_,_,_,_,_,_,_,_,_,_,_,_,_,_,_,_,_,_,_,_,_,_,_,_,_,_,_,_,_,_,_,_,_,_,_,_,_,_,_,_,_,_,_,_,_,_,_,_,_,_,_,_,_,_,_,_,_,_,_,_,_,_,_,Q8,L6,Q9,x_HallError,x_TooMany⟩,⟨bg X G z_ValueError,bg X G z_abs,bg X G z_all,bg X G z_bool,bg X G z_enumerate,bg X G z_int,bg X G z_isinstance,bg X G z_len,bg X G z_list,bg X G z_range,bg X G z_reversed,bg X G z_sorted,bg X G z_sum,bg X G z_tuple,bg X G z_zip,cw X G y_MOST_BILLS,cw X G y_MOST_CLASSES,cw X G y_MOST_KINDS,h0.q X G,h1.q X G,h2.q X G,h3.q X G,h4.q X G,h5.q X G,h6.q X G,h7.q X G,h8.q X G,h9.q X G,h10.q X G,h11.q X G,h12.q X G,h13.q X G,h14.q X G,h15.q X G,h16.q X G,h17.q X G,h18.q X G,h19.q X G,h20.q X G,h21.q X G,h22.q X G,h23.q X G,h24.q X G,h25.q X G,h26.q X G,h27.q X G,h28.q X G,h29.q X G,h30.q X G,h31.q X G,h32.q X G,h33.q X G,h34.q X G,h35.q X G,h36.q X G,h37.q X G,h38.q X G,h39.q X G,h40.q X G,h41.q X G,h42.q X G,h43.q X G,h44.q X G,h45.q X G,h46.q X G,h47.q X G,⟨cw X G w_TooMany,u_TooMany,v_TooMany⟩,t0,t1⟩,λs u=>.of_eq (h47.b (ps:=g0d) (λ_ _ _ _ _ _=>us1 λ_=>rfl) [u] rfl)⟩;obtain⟨A,FF,hb⟩:=key;have e:=hfa.symm.trans FF.f_law.mg;cases e;exact⟨A.SN,hb,λbase _ _ lm=>ok_law FF lm (Zk FF.L8 (cw X G n1) n2 n3)⟩
end
namespace H
noncomputable section
open PySem PySem.W PySem.Calls PyProof.Rows
abbrev pw:aN:=PySem.Challenge.pw_changehall_k29_classes_refused
noncomputable abbrev vs(s:String)(t:Nat):Value:=.str (bw s) t
noncomputable abbrev de(P:bo)(s:String)(t:Nat)(v:Value):cb:=⟨PyData.keyHash P (bw s),.str (bw s) t,v⟩
abbrev N:=BT.node
abbrev E:=BT.nil
noncomputable abbrev ins(t:BT)(l:List (Nat×Obj)):BT:=l.foldl (λt x=>t.ins x.1 x.2) t
def fdT(s:aZ)(g:Addr)(md cd:Value):az:=match s with
 |.FunctionDef name args body _ _ _ scope _ _ _=>{ name:=name,qualname:=name,params:=args,body:=.stmts body,scope:=scope,globals:=g,closure:=[],defaults:=.none,kwdefaults:=.none,pyModule:=md,code:=cd }
 |_=>default
noncomputable abbrev tu(l:aG):Obj:=⟨.type "tuple",aj,.seq l.toArray 0,#[]⟩
noncomputable abbrev fi(l:aG):Obj:=⟨.none,aj,.fields l.toArray,#[]⟩
noncomputable abbrev fo(c:Value)(i:Nat)(g:Addr)(md cd:Value):Obj:=⟨c,aj,.func (fdT (top i) g md cd),#[]⟩
noncomputable abbrev co(a f:String)(t0 t1 t2:Nat)(l n z:Int)(r:Addr)(u:Bool)(v:Int)(s:Addr)(p q1 q2 q3:Value)(w:Int)(t3:Nat):Obj:=⟨.type "code",aj,.fields #[vs a t0,vs a t1,vs f t2,.int l 0,.int n 0,.int 0 0,.int 0 0,.int z 0,.ref r,.bool u,.int v 0,.ref s,p,q1,q2,q3,.int w 0,.int l 0,vs f t3],#[]⟩
theorem te_go:@topGo=Fast.tw15667345088766844465:=Fast.te15667345088766844465
theorem te_sr:@segRun=Fast.tw14374325043358763698:=Fast.te14374325043358763698
theorem te_sT:@segRunT=Fast.tw10110043849684766642:=Fast.te10110043849684766642
theorem te_tr:@topRun=Fast.tw14082659384304107361:=Fast.te14082659384304107361
theorem te_tb:cJ=Fast.tw14364793385576792824:=Fast.te14364793385576792824
theorem te_im:@importedModules=Fast.tw5923862056798008813:=Fast.te5923862056798008813
theorem te_seen:@seen=Fast.tw5160383126252970620:=Fast.te5160383126252970620
theorem te_recs:@recsOf=Fast.tw3399658132070893891:=Fast.te3399658132070893891
theorem te_owns:@ownsOf=Fast.tw5991557255702980513:=Fast.te5991557255702980513
theorem te_keys:@Heap.keysOk=Fast.tw10880121769531294198:=Fast.te10880121769531294198
theorem te_loose:@looseW=Fast.tw821141287760084731:=Fast.te821141287760084731
theorem te_lits:@litsOf=Fast.tw7409074990110511671:=Fast.te7409074990110511671
theorem te_clss:@clssOf=Fast.tw13664370479719496447:=Fast.te13664370479719496447
theorem te_acc:@Heap.accountedOkI=Fast.tw14722251495701143533:=Fast.te14722251495701143533
theorem te_tabl:@tablesOk=Fast.tw10994771534591457954:=Fast.te10994771534591457954
theorem te_tabs:@tabsOk=Fast.tw479339242167458305:=Fast.te479339242167458305
theorem te_pin:@pinSeenD=Fast.tw16090120013241838585:=Fast.te16090120013241838585
theorem te_drecs:@drecsOf=Fast.tw3247288618530077131:=Fast.te3247288618530077131
theorem te_pE:@plainSeenE=Fast.tw2386780881361962483:=Fast.te2386780881361962483
theorem te_pD:@plainSeenD=Fast.tw11698064438423848299:=Fast.te11698064438423848299
theorem te_wide:@wideSeen=Fast.tw7317090234206586261:=Fast.te7317090234206586261
theorem te_cls:@clsSeenW=Fast.tw7369524293546568484:=Fast.te7369524293546568484
theorem te_den:@denote=Fast.tw11892475500146522536:=Fast.te11892475500146522536
theorem te_ns:@Heap.nsMap=Fast.tw8920871248978507458:=Fast.te8920871248978507458
noncomputable abbrev kc(n:String)(b m:aG)(s:Addr)(z:aG)(i:Addr)(x:iA)(t u:Nat):Obj:=⟨.type "type",aj,.cls { name:=bw n,bases:=b,mro:=m++[.type "ValueError",.type "Exception",.type "BaseException",.type "object"],ns:=s,qualname:=bw n,subclasses:=z },#[aa (.ref i),x,aa (vs n t),aa (vs n u),aa (.builtin "ValueError.__new__"),aa (.bool ae)]⟩
noncomputable abbrev fm(a b c:Addr)(v:Value):Obj:=⟨.type "frame",aj,.plain,#[aa (.ref a),aa (.ref b),aa (.ref c),aj,aa v,aj,aa (.ref 0)]⟩
noncomputable abbrev dc(l:iw)(n:Nat):Obj:=⟨.type "dict",aj,.dict l.toArray n,#[]⟩
noncomputable abbrev pf(s:String)(l:aG):Obj:=⟨.type s,aj,.fields l.toArray,#[]⟩
abbrev cf(a:String)(t:Nat)(l n:Int)(r:Addr)(w:Nat):Obj:=co a "/claim/cut.py" t (t+1) (t+2) l n 3 r ae 181 (r+1) .none .none .none (.ref (r+2)) w (w+1)
abbrev cg(a:String)(t:Nat)(l n:Int)(r:Addr)(w:Nat):Obj:=co a "/claim/cut.py" t (t+1) (t+2) l n 3 r ae 181 (r+1) .none (.ref (r+2)) (.ref (r+3)) (.ref (r+4)) w (w+1)
abbrev cc(a:String)(t:Nat)(l:Int)(r:Addr)(w:Nat):Obj:=co a "/claim/cut.py" t (t+1) (t+2) l 0 0 r ag 181 (r+1) .none .none .none .none w (w+1)
abbrev fn(i:Nat):Obj:=fo .none i 0 .none .none
abbrev ff(i:Nat)(m:Value)(c:Addr):Obj:=fo (.type "function") i 3 m (.ref c)
noncomputable abbrev inq(t:BT)(n:Nat)(l:List Obj):BT:=(l.foldl (λ(x:BT×Nat)o=>(x.1.ins x.2 o,x.2+1)) (t,n)).1
abbrev m187:=vs "changehall.errors" 187
abbrev m255:=vs "changehall.rows" 255
abbrev m381:=vs "changehall.whole" 381
abbrev m309:=vs "changehall.halls" 309
abbrev m487:=vs "changehall.thrift" 487
abbrev m398:=vs "changehall.stairs" 398
abbrev m477:=vs "changehall.classes" 477
abbrev m532:=vs "law_changehall_k29_classes_refused" 532
noncomputable abbrev lr(l:List (Nat×Nat)):aG:=l.flatMap λx=>[.int x.1 0,.int 0 0,.ref x.2]
abbrev env:Env:={ scope:=pw.main.scope,locals:=mainNs,globals:=mainNs,cells:=[],code:=.ref 13,frame:=aa 14 }
abbrev cE:Code:=.body (behindTheImports pw) env
abbrev fB:List Frame:=[topFrame ⟨0,0,0,0⟩]
abbrev ann:iA:=aa (.ref 6)
abbrev o11a:=tu []
abbrev o12aL:aG:=[]
abbrev o12a:=fi o12aL
abbrev o13a:=cc "<module>" 182 1 11 185
abbrev o14a:Obj:=fm 13 3 3 (vs "__main__" 164)
abbrev ha(P:bo):aX:=⟨⟨[boot_o_0 P,boot_o_1 P,boot_o_2 P,boot_o_3 P,boot_o_4 P,boot_o_5 P,boot_o_6 P,boot_o_7 P,boot_o_8 P,boot_o_9 P,boot_o_10 P,o11a,o12a,o13a,o14a]⟩,{ }⟩
theorem run_a(w:aP)(os:bB):topGo cJ pw w 11 ann 12 ⟨eG w.params,#[],boot_drawn,boot_toks,os⟩ (topStub pw)=aa (⟨ha w.params,#[],{ },187,os⟩,⟨denote cJ cE,cE,⟨0,0,0,0⟩,fB⟩):=by
 rewrite[te_go,te_den,te_tb];kernel_rfl
abbrev t0(P:bo):BT:=(N (boot_o_0 P) (N (boot_o_1 P) (N (boot_o_3 P) (N (boot_o_7 P) E E) (N (o11a) E E)) (N (boot_o_5 P) (N (boot_o_9 P) E E) (N (o13a) E E))) (N (boot_o_2 P) (N (boot_o_4 P) (N (boot_o_8 P) E E) (N (o12a) E E)) (N (boot_o_6 P) (N (boot_o_10 P) E E) (N (o14a) E E))))
abbrev s0(w:aP)(os:bB):fR:=⟨t0 w.params,15,{ },#[],{ },187,os⟩
theorem run_b(w:aP)(os:bB):segRun cJ pw w 11 ann 1 1 ⟨ha w.params,#[],{ },187,os⟩ (blockOf (behindTheImports pw) env cE ⟨0,0,0,0⟩ fB)=aa (.next,(s0 w os).abs,cE,⟨0,0,0,0⟩):=by
 rewrite[te_sr,te_tb];kernel_rfl
abbrev o3_1L(P:bo):iw:=[de P "__name__" 165 m187,de P "__doc__" 166 .none,de P "__package__" 167 .none,de P "__loader__" 168 (.builtin "__main__.__loader__#opaque"),de P "__spec__" 169 .none,de P "__annotations__" 170 (.ref 6),de P "__builtins__" 171 (.ref 4),de P "__file__" 173 (vs "/claim/cut.py" 172),de P "__cached__" 174 .none,de P "HallError" 206 (.ref 24)]
abbrev o3_1(P:bo):Obj:=dc (o3_1L P) 10
abbrev Wx:aG:=o12aL++lr [(2,20)]
abbrev o12_1:=fi Wx
abbrev Wy:=tu [.type "ValueError"]
abbrev EZ:Obj:=pf "builtin_function_or_method" [.builtin "type.__prepare__",.type "type"]
abbrev o17_1L(P:bo):iw:=[de P "__module__" 196 m187,de P "__qualname__" 198 (vs "HallError" 197),de P "__firstlineno__" 200 (.int 2 199),de P "__static_attributes__" 201 (.ref 22)]
abbrev o17_1(P:bo):Obj:=dc (o17_1L P) 4
abbrev i6:=fi []
abbrev o20_1:=cc "HallError" 191 2 18 194
abbrev o21_1:Obj:=fm 20 3 17 m187
abbrev o23_1L(P:bo):iw:=[de P "__module__" 196 m187,de P "__firstlineno__" 200 (.int 2 199),de P "__static_attributes__" 201 (.ref 22),de P "__weakref__" 203 (.ref 25),de P "__doc__" 204 .none]
abbrev Wz(P:bo):Obj:=dc (o23_1L P) 3
abbrev o24_1:Obj:=kc "HallError" [.type "ValueError"] [.ref 24] 23 [] 15 aj 189 197
abbrev WA:Obj:=pf "getset_descriptor" [vs "__weakref__" 202,.ref 24,.builtin "ExceptionGroup.__weakref__",.none]
abbrev o26_1:Obj:=pf "super" [.ref 24,.ref 24,.ref 24]
abbrev o27_1:Obj:=pf "builtin_function_or_method" [.builtin "object.__init_subclass__",.ref 24]
abbrev t1(P:bo):BT:=inq (ins (t0 P) [(3,o3_1 P),(12,o12_1)]) 15 [Wy,EZ,o17_1 P,o11a,i6,o20_1,o21_1,o11a,Wz P,o24_1,WA,o26_1,o27_1]
abbrev s1(w:aP)(os:bB):fR:=⟨t1 w.params,28,{ },#[],{ },207,os⟩
abbrev l0:io:=[top 0,top 1]
theorem run_0(w:aP)(os:bB):gw cJ pw w 11 ann 1 196 (s0 w os) (fI l0 env cE ⟨0,0,0,0⟩ fB)=aa (.next,s1 w os,cE,⟨2,0,3,8⟩):=by
 rewrite[te_sT,te_tb];kernel_rfl
abbrev o3_2L(P:bo):iw:=de P "__name__" 165 m187::(o3_1L P).tail++[de P "NoHall" 222 (.ref 37)]
abbrev o3_2(P:bo):Obj:=dc (o3_2L P) 11
abbrev WB:aG:=Wx++lr [(4,33)]
abbrev o12_2:=fi WB
abbrev o24_2:Obj:=kc "HallError" [.type "ValueError"] [.ref 24] 23 [.ref 37] 15 aj 189 197
abbrev Dn:=tu [.ref 24]
abbrev o30_2L(P:bo):iw:=[de P "__module__" 214 m187,de P "__qualname__" 216 (vs "NoHall" 215),de P "__firstlineno__" 218 (.int 4 217),de P "__static_attributes__" 219 (.ref 35)]
abbrev o30_2(P:bo):Obj:=dc (o30_2L P) 4
abbrev o33_2:=cc "NoHall" 209 4 31 212
abbrev o34_2:Obj:=fm 33 3 30 m187
abbrev o36_2L(P:bo):iw:=[de P "__module__" 214 m187,de P "__firstlineno__" 218 (.int 4 217),de P "__static_attributes__" 219 (.ref 35),de P "__doc__" 220 .none]
abbrev WD(P:bo):Obj:=dc (o36_2L P) 2
abbrev WE:Obj:=kc "NoHall" [.ref 24] [.ref 37,.ref 24] 36 [] 28 aj 207 215
abbrev o38_2:Obj:=pf "super" [.ref 37,.ref 37,.ref 37]
abbrev o39_2:Obj:=pf "builtin_function_or_method" [.builtin "object.__init_subclass__",.ref 37]
abbrev t2(P:bo):BT:=inq (ins (t1 P) [(3,o3_2 P),(12,o12_2),(24,o24_2)]) 28 [Dn,EZ,o30_2 P,o11a,i6,o33_2,o34_2,o11a,WD P,WE,o38_2,o39_2]
abbrev s2(w:aP)(os:bB):fR:=⟨t2 w.params,40,{ },#[],{ },223,os⟩
abbrev l1:io:=[top 2]
theorem run_1(w:aP)(os:bB):gw cJ pw w 11 ann 1 214 (s1 w os) (fI l1 env cE ⟨2,0,3,8⟩ fB)=aa (.next,s2 w os,cE,⟨4,0,5,8⟩):=by
 rewrite[te_sT,te_tb];kernel_rfl
abbrev o3_3L(P:bo):iw:=de P "__name__" 165 m187::(o3_2L P).tail++[de P "NoBasket" 238 (.ref 49)]
abbrev o3_3(P:bo):Obj:=dc (o3_3L P) 12
abbrev WG:aG:=WB++lr [(6,45)]
abbrev o12_3:=fi WG
abbrev o24_3:Obj:=kc "HallError" [.type "ValueError"] [.ref 24] 23 [.ref 37,.ref 49] 15 aj 189 197
abbrev o42_3L(P:bo):iw:=[de P "__module__" 230 m187,de P "__qualname__" 232 (vs "NoBasket" 231),de P "__firstlineno__" 234 (.int 6 233),de P "__static_attributes__" 235 (.ref 47)]
abbrev o42_3(P:bo):Obj:=dc (o42_3L P) 4
abbrev o45_3:=cc "NoBasket" 225 6 43 228
abbrev o46_3:Obj:=fm 45 3 42 m187
abbrev o48_3L(P:bo):iw:=[de P "__module__" 230 m187,de P "__firstlineno__" 234 (.int 6 233),de P "__static_attributes__" 235 (.ref 47),de P "__doc__" 236 .none]
abbrev WH(P:bo):Obj:=dc (o48_3L P) 2
abbrev WI:Obj:=kc "NoBasket" [.ref 24] [.ref 49,.ref 24] 48 [] 40 aj 223 231
abbrev o50_3:Obj:=pf "super" [.ref 49,.ref 49,.ref 49]
abbrev o51_3:Obj:=pf "builtin_function_or_method" [.builtin "object.__init_subclass__",.ref 49]
abbrev t3(P:bo):BT:=inq (ins (t2 P) [(3,o3_3 P),(12,o12_3),(24,o24_3)]) 40 [Dn,EZ,o42_3 P,o11a,i6,o45_3,o46_3,o11a,WH P,WI,o50_3,o51_3]
abbrev s3(w:aP)(os:bB):fR:=⟨t3 w.params,52,{ },#[],{ },239,os⟩
abbrev l2:io:=[top 3]
theorem run_2(w:aP)(os:bB):gw cJ pw w 11 ann 1 214 (s2 w os) (fI l2 env cE ⟨4,0,5,8⟩ fB)=aa (.next,s3 w os,cE,⟨6,0,7,8⟩):=by
 rewrite[te_sT,te_tb];kernel_rfl
abbrev o3_4L(P:bo):iw:=de P "__name__" 165 m255::(o3_3L P).tail++[de P "TooMany" 254 (.ref 61),de P "is_whole" 263 (.ref 70),de P "is_row" 269 (.ref 75),de P "noughts" 275 (.ref 80),de P "unit_row" 281 (.ref 85),de P "added" 287 (.ref 90),de P "taken" 293 (.ref 95)]
abbrev o3_4(P:bo):Obj:=dc (o3_4L P) 19
abbrev WJ:aG:=WG++lr [(8,57),(11,69),(13,74),(17,79),(19,84),(21,89),(23,94)]
abbrev o12_4:=fi WJ
abbrev WK:Obj:=kc "HallError" [.type "ValueError"] [.ref 24] 23 [.ref 37,.ref 49,.ref 61] 15 aj 189 197
abbrev o54_4L(P:bo):iw:=[de P "__module__" 246 m187,de P "__qualname__" 248 (vs "TooMany" 247),de P "__firstlineno__" 250 (.int 8 249),de P "__static_attributes__" 251 (.ref 59)]
abbrev o54_4(P:bo):Obj:=dc (o54_4L P) 4
abbrev o57_4:=cc "TooMany" 241 8 55 244
abbrev o58_4:Obj:=fm 57 3 54 m187
abbrev o60_4L(P:bo):iw:=[de P "__module__" 246 m187,de P "__firstlineno__" 250 (.int 8 249),de P "__static_attributes__" 251 (.ref 59),de P "__doc__" 252 .none]
abbrev WL(P:bo):Obj:=dc (o60_4L P) 2
abbrev WM:Obj:=kc "TooMany" [.ref 24] [.ref 61,.ref 24] 60 [] 52 aj 239 247
abbrev o62_4:Obj:=pf "super" [.ref 61,.ref 61,.ref 61]
abbrev o63_4:Obj:=pf "builtin_function_or_method" [.builtin "object.__init_subclass__",.ref 61]
abbrev WN:=tu [vs "value" 260]
abbrev o68_4:=fn 6
abbrev WO:=cg "is_whole" 257 11 1 64 261
abbrev WP:=ff 6 m255 69
abbrev o73_4:=fn 7
abbrev WQ:=cf "is_row" 264 13 2 71 267
abbrev WR:=ff 7 m255 74
abbrev o78_4:=fn 8
abbrev WS:=cf "noughts" 270 17 1 76 273
abbrev WT:=ff 8 m255 79
abbrev o83_4:=fn 9
abbrev WU:=cf "unit_row" 276 19 2 81 279
abbrev WV:=ff 9 m255 84
abbrev o88_4:=fn 10
abbrev WW:=cf "added" 282 21 2 86 285
abbrev WX:=ff 10 m255 89
abbrev o93_4:=fn 11
abbrev WY:=cf "taken" 288 23 2 91 291
abbrev WZ:=ff 11 m255 94
abbrev t4(P:bo):BT:=inq (ins (t3 P) [(3,o3_4 P),(12,o12_4),(24,WK)]) 52 [Dn,EZ,o54_4 P,o11a,i6,o57_4,o58_4,o11a,WL P,WM,o62_4,o63_4,o11a,i6,WN,o11a,o68_4,WO,WP,o11a,i6,o73_4,WQ,WR,o11a,i6,o78_4,WS,WT,o11a,i6,o83_4,WU,WV,o11a,i6,o88_4,WW,WX,o11a,i6,o93_4,WY,WZ]
abbrev s4(w:aP)(os:bB):fR:=⟨t4 w.params,96,{ },#[],{ },294,os⟩
abbrev l3:io:=[top 4,top 5,top 6,top 7,top 8,top 9,top 10,top 11]
theorem run_3(w:aP)(os:bB):gw cJ pw w 11 ann 1 382 (s3 w os) (fI l3 env cE ⟨6,0,7,8⟩ fB)=aa (.next,s4 w os,cE,⟨23,0,24,59⟩):=by
 rewrite[te_sT,te_tb];kernel_rfl
abbrev o3_5L(P:bo):iw:=de P "__name__" 165 m381::(o3_4L P).tail++[de P "scaled" 299 (.ref 100),de P "head_at" 308 (.ref 107),de P "MOST_KINDS" 312 (.int 6 311),de P "MOST_BILLS" 314 (.int 8 313),de P "are_kinds" 321 (.ref 114),de P "is_bill" 327 (.ref 119),de P "need_kinds" 334 (.ref 126),de P "need_bill" 342 (.ref 133),de P "hall_of" 351 (.ref 140),de P "hall_by" 357 (.ref 145),de P "need_basket_of" 365 (.ref 152),de P "need_basket" 373 (.ref 159),de P "nought" 380 (.ref 166),de P "bridge" 388 (.ref 171)]
abbrev o3_5(P:bo):Obj:=dc (o3_5L P) 33
abbrev Xa:aG:=WJ++lr [(25,99),(27,106),(35,113),(37,118),(39,125),(42,132),(45,139),(52,144),(54,151),(57,158),(59,165),(62,170)]
abbrev o12_5:=fi Xa
abbrev o98_5:=fn 12
abbrev Xb:=cf "scaled" 294 25 2 96 297
abbrev Pj:=ff 12 m255 99
abbrev Pk:=tu [vs "row" 303,vs "spot" 304,vs "number" 305]
abbrev Xd:=fn 13
abbrev Pl:=cg "head_at" 300 27 1 101 306
abbrev Pm:=ff 13 m255 106
abbrev Pn:=tu [vs "value" 318]
abbrev Xe:=fn 17
abbrev Po:=cg "are_kinds" 315 35 1 108 319
abbrev Pp:=ff 17 m309 113
abbrev Xf:=fn 18
abbrev Pq:=cf "is_bill" 322 37 2 115 325
abbrev Pr:=ff 18 m309 118
abbrev Ps:=tu [vs "kinds" 331]
abbrev Xg:=fn 19
abbrev Pt:=cg "need_kinds" 328 39 1 120 332
abbrev Pu:=ff 19 m309 125
abbrev Pw:=tu [vs "bill" 338,vs "kinds" 339]
abbrev Xh:=fn 20
abbrev Px:=cg "need_bill" 335 42 2 127 340
abbrev Py:=ff 20 m309 132
abbrev Pz:=tu [vs "kinds" 346,vs "bills" 347,vs "bill" 348]
abbrev Xi:=fn 21
abbrev PB:=cg "hall_of" 343 45 2 134 349
abbrev PD:=ff 21 m309 139
abbrev Xj:=fn 22
abbrev PH:=cf "hall_by" 352 52 2 141 355
abbrev PJ:=ff 22 m309 144
abbrev PL:=tu [vs "kinds" 361,vs "basket" 362]
abbrev Xk:=fn 23
abbrev PM:=cg "need_basket_of" 358 54 2 146 363
abbrev PN:=ff 23 m309 151
abbrev PP:=tu [vs "hall" 369,vs "basket" 370]
abbrev Xl:=fn 24
abbrev PQ:=cg "need_basket" 366 57 2 153 371
abbrev PR:=ff 24 m309 158
abbrev PU:=tu [vs "hall" 377]
abbrev Xm:=fn 25
abbrev PV:=cg "nought" 374 59 1 160 378
abbrev PX:=ff 25 m309 165
abbrev Xn:=fn 27
abbrev PY:=cf "bridge" 383 62 2 167 386
abbrev PZ:=ff 27 m381 170
abbrev t5(P:bo):BT:=inq (ins (t4 P) [(3,o3_5 P),(12,o12_5)]) 96 [o11a,i6,o98_5,Xb,Pj,o11a,i6,Pk,o11a,Xd,Pl,Pm,o11a,i6,Pn,o11a,Xe,Po,Pp,o11a,i6,Xf,Pq,Pr,o11a,i6,Ps,o11a,Xg,Pt,Pu,o11a,i6,Pw,o11a,Xh,Px,Py,o11a,i6,Pz,o11a,Xi,PB,PD,o11a,i6,Xj,PH,PJ,o11a,i6,PL,o11a,Xk,PM,PN,o11a,i6,PP,o11a,Xl,PQ,PR,o11a,i6,PU,o11a,Xm,PV,PX,o11a,i6,Xn,PY,PZ]
abbrev s5(w:aP)(os:bB):fR:=⟨t5 w.params,172,{ },#[],{ },389,os⟩
abbrev l4:io:=[top 12,top 13,top 14,top 15,top 16,top 17,top 18,top 19,top 20,top 21,top 22,top 23,top 24,top 25,top 26,top 27]
theorem run_4(w:aP)(os:bB):gw cJ pw w 11 ann 1 380 (s4 w os) (fI l4 env cE ⟨23,0,24,59⟩ fB)=aa (.next,s5 w os,cE,⟨62,0,72,23⟩):=by
 rewrite[te_sT,te_tb];kernel_rfl
abbrev o3_6L(P:bo):iw:=de P "__name__" 165 m487::(o3_5L P).tail++[de P "product" 397 (.ref 178),de P "lowering" 412 (.ref 185),de P "lowered" 420 (.ref 192),de P "crossed" 432 (.ref 199),de P "turned_up" 439 (.ref 206),de P "with_row" 445 (.ref 211),de P "evened" 454 (.ref 218),de P "climbed" 463 (.ref 225),de P "heads_product" 469 (.ref 230),de P "stair" 476 (.ref 237),de P "how_many" 486 (.ref 244),de P "MOST_CLASSES" 490 (.int 200 489),de P "need_few" 498 (.ref 251)]
abbrev o3_6(P:bo):Obj:=dc (o3_6L P) 46
abbrev Xo:aG:=Xa++lr [(73,177),(79,184),(89,191),(91,198),(97,205),(99,210),(110,217),(115,224),(120,229),(122,236),(125,243),(132,250)]
abbrev o12_6:=fi Xo
abbrev Qb:=tu [vs "numbers" 392,vs "found" 393,vs "number" 394]
abbrev Xp:=fn 28
abbrev Qc:=cg "product" 389 73 1 172 395
abbrev Qd:=ff 28 m381 177
abbrev Qe:=tu [vs "row" 403,vs "rungs" 404,vs "left" 405,vs "counts" 406,vs "rung" 407,vs "spot" 408,vs "often" 409]
abbrev Xq:=fn 30
abbrev Qf:=cg "lowering" 400 79 2 179 410
abbrev Qg:=ff 30 m398 184
abbrev Qh:=tu [vs "row" 416,vs "rungs" 417]
abbrev Xr:=fn 31
abbrev Qi:=cg "lowered" 413 89 2 186 418
abbrev Qj:=ff 31 m398 191
abbrev Qk:=tu [vs "rung" 424,vs "row" 425,vs "spot" 426,vs "found" 427,vs "upper" 428,vs "lower" 429]
abbrev Xs:=fn 32
abbrev Ql:=cg "crossed" 421 91 2 193 430
abbrev Qm:=ff 32 m398 198
abbrev Qn:=tu [vs "row" 436]
abbrev Xu:=fn 33
abbrev Qo:=cg "turned_up" 433 97 1 200 437
abbrev Qp:=ff 33 m398 205
abbrev Xv:=fn 34
abbrev Qq:=cf "with_row" 440 99 2 207 443
abbrev Qr:=ff 34 m398 210
abbrev Qs:=tu [vs "rungs" 449,vs "found" 450,vs "rung" 451]
abbrev Xw:=fn 35
abbrev Qt:=cg "evened" 446 110 1 212 452
abbrev Qu:=ff 35 m398 217
abbrev Qv:=tu [vs "rows" 458,vs "rungs" 459,vs "row" 460]
abbrev Xx:=fn 36
abbrev Qw:=cg "climbed" 455 115 1 219 461
abbrev Qx:=ff 36 m398 224
abbrev Xy:=fn 37
abbrev Qy:=cf "heads_product" 464 120 1 226 467
abbrev Qz:=ff 37 m398 229
abbrev QA:=tu [vs "hall" 473]
abbrev Xz:=fn 38
abbrev QB:=cg "stair" 470 122 1 231 474
abbrev QC:=ff 38 m398 236
abbrev QD:=tu [vs "hall" 482,vs "rungs" 483]
abbrev XA:=fn 40
abbrev QE:=cg "how_many" 479 125 1 238 484
abbrev QF:=ff 40 m477 243
abbrev QG:=tu [vs "hall" 494,vs "many" 495]
abbrev XB:=fn 43
abbrev QH:=cg "need_few" 491 132 1 245 496
abbrev QI:=ff 43 m487 250
abbrev t6(P:bo):BT:=inq (ins (t5 P) [(3,o3_6 P),(12,o12_6)]) 172 [o11a,i6,Qb,o11a,Xp,Qc,Qd,o11a,i6,Qe,o11a,Xq,Qf,Qg,o11a,i6,Qh,o11a,Xr,Qi,Qj,o11a,i6,Qk,o11a,Xs,Ql,Qm,o11a,i6,Qn,o11a,Xu,Qo,Qp,o11a,i6,Xv,Qq,Qr,o11a,i6,Qs,o11a,Xw,Qt,Qu,o11a,i6,Qv,o11a,Xx,Qw,Qx,o11a,i6,Xy,Qy,Qz,o11a,i6,QA,o11a,Xz,QB,QC,o11a,i6,QD,o11a,XA,QE,QF,o11a,i6,QG,o11a,XB,QH,QI]
abbrev s6(w:aP)(os:bB):fR:=⟨t6 w.params,252,{ },#[],{ },499,os⟩
abbrev l5:io:=[top 28,top 29,top 30,top 31,top 32,top 33,top 34,top 35,top 36,top 37,top 38,top 39,top 40,top 41,top 42,top 43]
theorem run_5(w:aP)(os:bB):gw cJ pw w 11 ann 1 399 (s5 w os) (fI l5 env cE ⟨62,0,72,23⟩ fB)=aa (.next,s6 w os,cE,⟨132,0,135,59⟩):=by
 rewrite[te_sT,te_tb];kernel_rfl
abbrev o3_7L(P:bo):iw:=de P "__name__" 165 m532::(o3_6L P).tail++[de P "single_steps" 504 (.ref 256),de P "next_level" 519 (.ref 263),de P "classes" 525 (.ref 268),de P "thrifty" 531 (.ref 273),de P "_law_cell_at" 541 (.ref 280),de P "_law_whole" 548 (.ref 287),de P "_law_is_row" 557 (.ref 294),de P "_law_number" 567 (.ref 301),de P "_law_row" 573 (.ref 306),de P "_law_bills" 579 (.ref 311),de P "_law_plus" 585 (.ref 316),de P "_law_head" 593 (.ref 323),de P "_law_left" 604 (.ref 330)]
abbrev o3_7(P:bo):Obj:=dc (o3_7L P) 59
abbrev XC:aG:=Xo++lr [(136,255),(139,262),(149,267),(162,272),(169,279),(175,286),(177,293),(184,300),(195,305),(197,310),(209,315),(211,322),(216,329)]
abbrev o12_7:=fi XC
abbrev XD:=fn 44
abbrev QJ:=cf "single_steps" 499 136 1 252 502
abbrev QK:=ff 44 m487 255
abbrev QL:=tu [vs "level" 508,vs "steps" 509,vs "rungs" 510,vs "seen" 511,vs "found" 512,vs "start" 513,vs "step" 514,vs "basket" 515,vs "reached" 516]
abbrev XE:=fn 45
abbrev Lu:=cg "next_level" 505 139 4 257 517
abbrev QM:=ff 45 m487 262
abbrev XF:=fn 46
abbrev QN:=cf "classes" 520 149 1 264 523
abbrev QO:=ff 46 m487 267
abbrev XG:=fn 47
abbrev QP:=cf "thrifty" 526 162 2 269 529
abbrev QQ:=ff 47 m487 272
abbrev QR:=tu [vs "_law_script" 537,vs "_law_k" 538]
abbrev XH:=fn 49
abbrev QS:=cg "_law_cell_at" 534 169 2 274 539
abbrev QT:=ff 49 m532 279
abbrev QU:=tu [vs "_law_found" 545]
abbrev XI:=fn 50
abbrev QV:=cg "_law_whole" 542 175 1 281 546
abbrev QW:=ff 50 m532 286
abbrev QX:=tu [vs "_law_found" 552,vs "_law_size" 553,vs "_law_number_here" 554]
abbrev XJ:=fn 51
abbrev QY:=cg "_law_is_row" 549 177 2 288 555
abbrev QZ:=ff 51 m532 293
abbrev Ra:=tu [vs "_law_cell" 561,vs "_law_mode" 562,vs "_law_number_here" 563,vs "_law_wide" 564]
abbrev XM:=fn 52
abbrev Rb:=cg "_law_number" 558 184 2 295 565
abbrev Rc:=ff 52 m532 300
abbrev XO:=fn 53
abbrev Re:=cf "_law_row" 568 195 4 302 571
abbrev Rf:=ff 53 m532 305
abbrev XQ:=fn 54
abbrev Rg:=cf "_law_bills" 574 197 1 307 577
abbrev Rh:=ff 54 m532 310
abbrev XR:=fn 55
abbrev Ri:=cf "_law_plus" 580 209 3 312 583
abbrev Rj:=ff 55 m532 315
abbrev Rk:=tu [vs "_law_row_here" 589,vs "_law_k" 590]
abbrev XS:=fn 56
abbrev Rl:=cg "_law_head" 586 211 1 317 591
abbrev Rm:=ff 56 m532 322
abbrev Ro:=tu [vs "_law_rows" 597,vs "_law_row_here" 598,vs "_law_left_here" 599,vs "_law_one" 600,vs "_law_at" 601]
abbrev XT:=fn 57
abbrev Rq:=cg "_law_left" 594 216 2 324 602
abbrev Rr:=ff 57 m532 329
abbrev t7(P:bo):BT:=inq (ins (t6 P) [(3,o3_7 P),(12,o12_7)]) 252 [o11a,i6,XD,QJ,QK,o11a,i6,QL,o11a,XE,Lu,QM,o11a,i6,XF,QN,QO,o11a,i6,XG,QP,QQ,o11a,i6,QR,o11a,XH,QS,QT,o11a,i6,QU,o11a,XI,QV,QW,o11a,i6,QX,o11a,XJ,QY,QZ,o11a,i6,Ra,o11a,XM,Rb,Rc,o11a,i6,XO,Re,Rf,o11a,i6,XQ,Rg,Rh,o11a,i6,XR,Ri,Rj,o11a,i6,Rk,o11a,XS,Rl,Rm,o11a,i6,Ro,o11a,XT,Rq,Rr]
abbrev s7(w:aP)(os:bB):fR:=⟨t7 w.params,331,{ },#[],{ },605,os⟩
abbrev l6:io:=[top 44,top 45,top 46,top 47,top 48,top 49,top 50,top 51,top 52,top 53,top 54,top 55,top 56,top 57]
theorem run_6(w:aP)(os:bB):gw cJ pw w 11 ann 1 388 (s6 w os) (fI l6 env cE ⟨132,0,135,59⟩ fB)=aa (.next,s7 w os,cE,⟨216,0,221,25⟩):=by
 rewrite[te_sT,te_tb];kernel_rfl
abbrev o3_8L(P:bo):iw:=de P "__name__" 165 m532::(o3_7L P).tail++[de P "_law_copied" 610 (.ref 335),de P "_law_refused" 620 (.ref 342),de P "_law_hall" 628 (.ref 349),de P "_law_is_least" 634 (.ref 354),de P "law" 640 (.ref 359)]
abbrev o3_8(P:bo):Obj:=dc (o3_8L P) 64
abbrev o12_8L:aG:=XC++lr [(222,334),(224,341),(239,348),(248,353),(258,358)]
abbrev o12_8:=fi o12_8L
abbrev XU:=fn 58
abbrev Rs:=cf "_law_copied" 605 222 1 331 608
abbrev Rt:=ff 58 m532 334
abbrev Ru:=tu [vs "_law_hall_here" 614,vs "_law_basket" 615,vs "_law_refused_here" 616,vs "e" 617]
abbrev XV:=fn 59
abbrev Rv:=cg "_law_refused" 611 224 2 336 618
abbrev Rw:=ff 59 m532 341
abbrev Rx:=tu [vs "_law_script" 624,vs "_law_way" 625]
abbrev XW:=fn 60
abbrev Ry:=cg "_law_hall" 621 239 1 343 626
abbrev Rz:=ff 60 m532 348
abbrev XX:=fn 61
abbrev RA:=cf "_law_is_least" 629 248 3 350 632
abbrev RB:=ff 61 m532 353
abbrev XY:=fn 62
abbrev RC:=cf "law" 635 258 1 355 638
abbrev RD:=ff 62 m532 358
abbrev t8(P:bo):BT:=inq (ins (t7 P) [(3,o3_8 P),(12,o12_8)]) 331 [o11a,i6,XU,Rs,Rt,o11a,i6,Ru,o11a,XV,Rv,Rw,o11a,i6,Rx,o11a,XW,Ry,Rz,o11a,i6,XX,RA,RB,o11a,i6,XY,RC,RD]
abbrev s8(w:aP)(os:bB):fR:=⟨t8 w.params,360,{ },#[],{ },641,os⟩
abbrev l7:io:=[top 58,top 59,top 60,top 61,top 62]
theorem run_7(w:aP)(os:bB):gw cJ pw w 11 ann 1 141 (s7 w os) (fI l7 env cE ⟨216,0,221,25⟩ fB)=aa (.next,s8 w os,cE,⟨258,0,278,80⟩):=by
 rewrite[te_sT,te_tb];kernel_rfl
def h1(P:bo):aX:=⟨⟨[boot_o_0 P,boot_o_1 P,boot_o_2 P,o3_8 P,boot_o_4 P,boot_o_5 P,boot_o_6 P,boot_o_7 P,boot_o_8 P,boot_o_9 P,boot_o_10 P,o11a,o12_8,o13a,o14a,Wy,EZ,o17_1 P,o11a,i6,o20_1,o21_1,o11a,Wz P,WK,WA,o26_1,o27_1,Dn,EZ,o30_2 P,o11a,i6,o33_2,o34_2,o11a,WD P,WE,o38_2,o39_2,Dn,EZ,o42_3 P,o11a,i6,o45_3,o46_3,o11a,WH P,WI,o50_3,o51_3,Dn,EZ,o54_4 P,o11a,i6,o57_4,o58_4,o11a,WL P,WM,o62_4,o63_4,o11a,i6,WN,o11a,o68_4,WO,WP,o11a,i6,o73_4,WQ,WR,o11a,i6,o78_4,WS,WT,o11a,i6,o83_4,WU,WV,o11a,i6,o88_4,WW,WX,o11a,i6,o93_4,WY,WZ,o11a,i6,o98_5,Xb,Pj,o11a,i6,Pk,o11a,Xd,Pl,Pm,o11a,i6,Pn,o11a,Xe,Po,Pp,o11a,i6,Xf,Pq,Pr,o11a,i6,Ps,o11a,Xg,Pt,Pu,o11a,i6,Pw,o11a,Xh,Px,Py,o11a,i6,Pz,o11a,Xi,PB,PD,o11a,i6,Xj,PH,PJ,o11a,i6,PL,o11a,Xk,PM,PN,o11a,i6,PP,o11a,Xl,PQ,PR,o11a,i6,PU,o11a,Xm,PV,PX,o11a,i6,Xn,PY,PZ,o11a,i6,Qb,o11a,Xp,Qc,Qd,o11a,i6,Qe,o11a,Xq,Qf,Qg,o11a,i6,Qh,o11a,Xr,Qi,Qj,o11a,i6,Qk,o11a,Xs,Ql,Qm,o11a,i6,Qn,o11a,Xu,Qo,Qp,o11a,i6,Xv,Qq,Qr,o11a,i6,Qs,o11a,Xw,Qt,Qu,o11a,i6,Qv,o11a,Xx,Qw,Qx,o11a,i6,Xy,Qy,Qz,o11a,i6,QA,o11a,Xz,QB,QC,o11a,i6,QD,o11a,XA,QE,QF,o11a,i6,QG,o11a,XB,QH,QI,o11a,i6,XD,QJ,QK,o11a,i6,QL,o11a,XE,Lu,QM,o11a,i6,XF,QN,QO,o11a,i6,XG,QP,QQ,o11a,i6,QR,o11a,XH,QS,QT,o11a,i6,QU,o11a,XI,QV,QW,o11a,i6,QX,o11a,XJ,QY,QZ,o11a,i6,Ra,o11a,XM,Rb,Rc,o11a,i6,XO,Re,Rf,o11a,i6,XQ,Rg,Rh,o11a,i6,XR,Ri,Rj,o11a,i6,Rk,o11a,XS,Rl,Rm,o11a,i6,Ro,o11a,XT,Rq,Rr,o11a,i6,XU,Rs,Rt,o11a,i6,Ru,o11a,XV,Rv,Rw,o11a,i6,Rx,o11a,XW,Ry,Rz,o11a,i6,XX,RA,RB,o11a,i6,XY,RC,RD]⟩,{ }⟩
abbrev Lv:Drawn:={ }
theorem run_z(w:aP)(os:bB):topRun cJ pw w 11 ann 2 (s8 w os).abs ⟨doneF .next,cE,⟨258,0,278,80⟩,fB⟩=aa ⟨h1 w.params,#[],Lv,641,os⟩:=by
 rewrite[te_tr,te_tb];kernel_rfl
theorem Zw:behindTheImports pw=(l0++(l1++(l2++(l3++(l4++(l5++(l6++(l7++[])))))))):=by kernel_rfl
theorem run_all(w:aP)(os:bB):topRun cJ pw w 11 ann (12+(1+(196+(214+(214+(382+(380+(399+(388+(141+2)))))))))) ⟨eG w.params,#[],boot_drawn,boot_toks,os⟩ (topStub pw)=aa ⟨h1 w.params,#[],Lv,641,os⟩:=
 go_top (run_a w os) (piece_block (env:=env) (run_b w os) (by rw[Zw];exact(eW (eV (run_0 w os)) (eW (eV (run_1 w os)) (eW (eV (run_2 w os)) (eW (eV (run_3 w os)) (eW (eV (run_4 w os)) (eW (eV (run_5 w os)) (eW (eV (run_6 w os)) (eW (eV (run_7 w os)) (run_z w os)))))))))))
abbrev keep:ii:=[1,2,3,4,6,7,8,9,10,11,12,13,15,16,17,18,19,20,21,22,23,24,25,27,28,30,31,32,33,34,35,36,37,38,40,42,43,44,45,46,47,49,50,51,52,53,54,55,56,57,58,59,60,61,62]
def K0:bo->PySem.W.Frag:=λP=>(nat_lit 2,boot_o_2 P)::(nat_lit 3,o3_8 P)::(nat_lit 15,Wy)::(nat_lit 22,o11a)::(nat_lit 23,Wz P)::(nat_lit 24,WK)::(nat_lit 25,WA)::(nat_lit 28,Dn)::(nat_lit 35,o11a)::(nat_lit 36,WD P)::(nat_lit 37,WE)::(nat_lit 40,Dn)::(nat_lit 47,o11a)::(nat_lit 48,WH P)::(nat_lit 49,WI)::(nat_lit 52,Dn)::(nat_lit 59,o11a)::(nat_lit 60,WL P)::(nat_lit 61,WM)::(nat_lit 64,o11a)::(nat_lit 66,WN)::(nat_lit 67,o11a)::(nat_lit 69,WO)::(nat_lit 70,WP)::(nat_lit 71,o11a)::(nat_lit 74,WQ)::(nat_lit 75,WR)::(nat_lit 76,o11a)::(nat_lit 79,WS)::(nat_lit 80,WT)::(nat_lit 81,o11a)::(nat_lit 84,WU)::(nat_lit 85,WV)::(nat_lit 86,o11a)::(nat_lit 89,WW)::(nat_lit 90,WX)::(nat_lit 91,o11a)::(nat_lit 94,WY)::(nat_lit 95,WZ)::(nat_lit 96,o11a)::(nat_lit 99,Xb)::(nat_lit 100,Pj)::(nat_lit 101,o11a)::(nat_lit 103,Pk)::(nat_lit 104,o11a)::(nat_lit 106,Pl)::(nat_lit 107,Pm)::(nat_lit 108,o11a)::(nat_lit 110,Pn)::(nat_lit 111,o11a)::(nat_lit 113,Po)::(nat_lit 114,Pp)::(nat_lit 115,o11a)::(nat_lit 118,Pq)::(nat_lit 119,Pr)::(nat_lit 120,o11a)::(nat_lit 122,Ps)::(nat_lit 123,o11a)::(nat_lit 125,Pt)::(nat_lit 126,Pu)::(nat_lit 127,o11a)::(nat_lit 129,Pw)::(nat_lit 130,o11a)::(nat_lit 132,Px)::(nat_lit 133,Py)::(nat_lit 134,o11a)::(nat_lit 136,Pz)::(nat_lit 137,o11a)::(nat_lit 139,PB)::(nat_lit 140,PD)::(nat_lit 141,o11a)::(nat_lit 144,PH)::(nat_lit 145,PJ)::(nat_lit 146,o11a)::(nat_lit 148,PL)::(nat_lit 149,o11a)::(nat_lit 151,PM)::(nat_lit 152,PN)::(nat_lit 153,o11a)::(nat_lit 155,PP)::(nat_lit 156,o11a)::(nat_lit 158,PQ)::(nat_lit 159,PR)::(nat_lit 160,o11a)::(nat_lit 162,PU)::(nat_lit 163,o11a)::(nat_lit 165,PV)::(nat_lit 166,PX)::(nat_lit 167,o11a)::(nat_lit 170,PY)::(nat_lit 171,PZ)::(nat_lit 172,o11a)::(nat_lit 174,Qb)::(nat_lit 175,o11a)::(nat_lit 177,Qc)::(nat_lit 178,Qd)::(nat_lit 179,o11a)::(nat_lit 181,Qe)::(nat_lit 182,o11a)::(nat_lit 184,Qf)::(nat_lit 185,Qg)::(nat_lit 186,o11a)::(nat_lit 188,Qh)::(nat_lit 189,o11a)::(nat_lit 191,Qi)::(nat_lit 192,Qj)::(nat_lit 193,o11a)::(nat_lit 195,Qk)::(nat_lit 196,o11a)::(nat_lit 198,Ql)::(nat_lit 199,Qm)::(nat_lit 200,o11a)::(nat_lit 202,Qn)::(nat_lit 203,o11a)::(nat_lit 205,Qo)::(nat_lit 206,Qp)::(nat_lit 207,o11a)::(nat_lit 210,Qq)::(nat_lit 211,Qr)::(nat_lit 212,o11a)::(nat_lit 214,Qs)::(nat_lit 215,o11a)::(nat_lit 217,Qt)::(nat_lit 218,Qu)::(nat_lit 219,o11a)::(nat_lit 221,Qv)::(nat_lit 222,o11a)::(nat_lit 224,Qw)::(nat_lit 225,Qx)::(nat_lit 226,o11a)::(nat_lit 229,Qy)::(nat_lit 230,Qz)::(nat_lit 231,o11a)::(nat_lit 233,QA)::(nat_lit 234,o11a)::(nat_lit 236,QB)::(nat_lit 237,QC)::(nat_lit 238,o11a)::(nat_lit 240,QD)::(nat_lit 241,o11a)::(nat_lit 243,QE)::(nat_lit 244,QF)::(nat_lit 245,o11a)::(nat_lit 247,QG)::(nat_lit 248,o11a)::(nat_lit 250,QH)::(nat_lit 251,QI)::(nat_lit 252,o11a)::(nat_lit 255,QJ)::(nat_lit 256,QK)::(nat_lit 257,o11a)::(nat_lit 259,QL)::(nat_lit 260,o11a)::(nat_lit 262,Lu)::(nat_lit 263,QM)::(nat_lit 264,o11a)::(nat_lit 267,QN)::(nat_lit 268,QO)::(nat_lit 269,o11a)::(nat_lit 272,QP)::(nat_lit 273,QQ)::(nat_lit 274,o11a)::(nat_lit 276,QR)::(nat_lit 277,o11a)::(nat_lit 279,QS)::(nat_lit 280,QT)::(nat_lit 281,o11a)::(nat_lit 283,QU)::(nat_lit 284,o11a)::(nat_lit 286,QV)::(nat_lit 287,QW)::(nat_lit 288,o11a)::(nat_lit 290,QX)::(nat_lit 291,o11a)::(nat_lit 293,QY)::(nat_lit 294,QZ)::(nat_lit 295,o11a)::(nat_lit 297,Ra)::(nat_lit 298,o11a)::(nat_lit 300,Rb)::(nat_lit 301,Rc)::(nat_lit 302,o11a)::(nat_lit 305,Re)::(nat_lit 306,Rf)::(nat_lit 307,o11a)::(nat_lit 310,Rg)::(nat_lit 311,Rh)::(nat_lit 312,o11a)::(nat_lit 315,Ri)::(nat_lit 316,Rj)::(nat_lit 317,o11a)::(nat_lit 319,Rk)::(nat_lit 320,o11a)::(nat_lit 322,Rl)::(nat_lit 323,Rm)::(nat_lit 324,o11a)::(nat_lit 326,Ro)::(nat_lit 327,o11a)::(nat_lit 329,Rq)::(nat_lit 330,Rr)::(nat_lit 331,o11a)::(nat_lit 334,Rs)::(nat_lit 335,Rt)::(nat_lit 336,o11a)::(nat_lit 338,Ru)::(nat_lit 339,o11a)::(nat_lit 341,Rv)::(nat_lit 342,Rw)::(nat_lit 343,o11a)::(nat_lit 345,Rx)::(nat_lit 346,o11a)::(nat_lit 348,Ry)::(nat_lit 349,Rz)::(nat_lit 350,o11a)::(nat_lit 353,RA)::(nat_lit 354,RB)::(nat_lit 355,o11a)::(nat_lit 358,RC)::(nat_lit 359,RD)::[]
def K:bo->PySem.W.Frag:=λP=>(nat_lit 258,i6)::K0 P
abbrev Ka:ig:=[258,2,3,15,22,23,24,25,28,35,36,37,40,47,48,49,52,59,60,61,64,66,67,69,70,71,74,75,76,79,80,81,84,85,86,89,90,91,94,95,96,99,100,101,103,104,106,107,108,110,111,113,114,115,118,119,120,122,123,125,126,127,129,130,132,133,134,136,137,139,140,141,144,145,146,148,149,151,152,153,155,156,158,159,160,162,163,165,166,167,170,171,172,174,175,177,178,179,181,182,184,185,186,188,189,191,192,193,195,196,198,199,200,202,203,205,206,207,210,211,212,214,215,217,218,219,221,222,224,225,226,229,230,231,233,234,236,237,238,240,241,243,244,245,247,248,250,251,252,255,256,257,259,260,262,263,264,267,268,269,272,273,274,276,277,279,280,281,283,284,286,287,288,290,291,293,294,295,297,298,300,301,302,305,306,307,310,311,312,315,316,317,319,320,322,323,324,326,327,329,330,331,334,335,336,338,339,341,342,343,345,346,348,349,350,353,354,355,358,359]
theorem Ke(P:bo):Ka=(K P).map (·.1):=by kernel_rfl
abbrev qv:aN:=view pw keep
abbrev Xt:Shared->Bool:=λs=>xlAt qv [] s&&recOk [] s
abbrev sW(w:aP)(os:bB):Shared:=⟨h1 w.params,#[],Lv,641,os⟩
theorem opened:∀w:aP,(fencedOpening cJ pw w 4738).map (λs=>(s.heap,s.gens,s.drawn,s.toks))=aa (eG w.params,Array.mk [],boot_drawn,boot_toks):=boot_open (by kernel_rfl) (by kernel_rfl) (λs=>by kernel_rfl)
theorem sized(w:aP):((eG w.params).isNs aO&&(Array.mk []:Array GenState).size==0,(eG w.params).objs.size,(eG w.params).nsMap aO "__annotations__")=(ae,11,ann):=by
 rewrite[te_ns];kernel_rfl
theorem lk0(w:aP)(os:bB):(staticsOk (eK pw.main.body) (eG w.params) (h1 w.params)&&namesBound pw (h1 w.params)&&gensDone (sW w os)&&laidKept (eG w.params) (h1 w.params))=ae:=by
 rewrite[te_im];kernel_rfl
theorem lk1(w:aP)(os:bB):seen ((recsOf qv).map (·.name)) (ownsOf qv) [] { (sW w os)with gens:=#[] }=expectedOf qv:=by
 rewrite[te_seen,te_recs,te_owns];kernel_rfl
theorem lk2(w:aP)(os:bB):(sW w os).heap.bltView=bltViewBooted:=by
 kernel_rfl
theorem lk3(w:aP)(os:bB):((sW w os).heap.keysOk (looseW qv []) ((recsOf qv).map (·.name)) ((litsOf qv).map (·.1)) ((clssOf qv (looseW qv [])).map (·.name))&&(sW w os).heap.accountedOkI (eK pw.main.body)&&(sW w os).heap.isNs aO&&(sW w os).heap.isNs dq&&tablesOk qv (sW w os).heap&&Xt (sW w os)&&(if ae=ae then(sW w os).gens.size==0 else !leftWithCleanup (sW w os).gens))=ae:=by
 rewrite[te_keys,te_loose,te_recs,te_lits,te_clss,te_acc,te_im,te_tabl];kernel_rfl
theorem lk4(w:aP)(os:bB):tabsOk qv (sW w os)=ae:=by
 rewrite[te_tabs];kernel_rfl
theorem lk5(w:aP)(os:bB):pinSeenD qv (drecsOf qv) (sW w os)=pinGoodD (drecsOf qv):=by
 rewrite[te_pin,te_drecs];kernel_rfl
theorem lk6(w:aP)(os:bB):plainSeenE qv (looseW qv []) (sW w os)=plainGoodE qv (looseW qv []):=by
 rewrite[te_pE,te_loose];kernel_rfl
theorem lk7(w:aP)(os:bB):plainSeenD qv [] (sW w os)=plainGoodD qv []:=by
 rewrite[te_pD];kernel_rfl
theorem lk8(w:aP)(os:bB):wideSeen qv (sW w os)=wideGood qv:=by
 rewrite[te_wide];kernel_rfl
theorem lk9(w:aP)(os:bB):clsSeenW qv [] (sW w os)=clsGoodW qv []:=by
 rewrite[te_cls];kernel_rfl
theorem lk10(w:aP)(os:bB):Hook.obs (kHook K Ka Ke) (sW w os)=Hook.val (kHook K Ka Ke) w:=by
 kernel_rfl
theorem sn(w:aP)(os:bB):openSeen qv [] (eK pw.main.body) Xt ae (sW w os)=(seen ((recsOf qv).map (·.name)) (ownsOf qv) [] { (sW w os)with gens:=#[] },(sW w os).heap.bltView,((sW w os).heap.keysOk (looseW qv []) ((recsOf qv).map (·.name)) ((litsOf qv).map (·.1)) ((clssOf qv (looseW qv [])).map (·.name))&&(sW w os).heap.accountedOkI (eK pw.main.body)&&(sW w os).heap.isNs aO&&(sW w os).heap.isNs dq&&tablesOk qv (sW w os).heap&&Xt (sW w os)&&(if ae=ae then(sW w os).gens.size==0 else !leftWithCleanup (sW w os).gens)),tabsOk qv (sW w os),pinSeenD qv (drecsOf qv) (sW w os),plainSeenE qv (looseW qv []) (sW w os),plainSeenD qv [] (sW w os),wideSeen qv (sW w os),clsSeenW qv [] (sW w os)):=by kernel_rfl
theorem gd:openGood qv []=(expectedOf qv,bltViewBooted,ae,ae,pinGoodD (drecsOf qv),plainGoodE qv (looseW qv []),plainGoodD qv [],wideGood qv,clsGoodW qv []):=by kernel_rfl
theorem lkS(w:aP)(os:bB):openSeen qv [] (eK pw.main.body) Xt ae (sW w os)=openGood qv []:=(sn w os).trans (Eq.trans (dG (lk1 w os) (dG (lk2 w os) (dG (lk3 w os) (dG (lk4 w os) (dG (lk5 w os) (dG (lk6 w os) (dG (lk7 w os) (dG (lk8 w os) (lk9 w os))))))))) gd.symm)
theorem left:LeftO pw qv [] Xt (Hook.obs (kHook K Ka Ke)) (Hook.val (kHook K Ka Ke)) 4738:=
 LeftO.of_pieces (H₀:=eG) (H₁:=h1) (gs₀:=Array.mk []) (gs₁:=#[]) (d₀:=boot_drawn) (d₁:=Lv) (k₀:=boot_toks) (k₁:=641) (m₀:=11) (ann:=ann) (M:=(12+(1+(196+(214+(214+(382+(380+(399+(388+(141+2))))))))))) opened sized run_all (by kernel_rfl) (λw=>funext λos=>
  dG (lk0 w os) (dG (lkS w os) (lk10 w os)))
end
end H
theorem codeK(P:bo):Wc (H.K0 P) 262 258:=⟨H.Lu,_,_,_,_,_,_,_,_,by kernel_rfl,rfl,rfl,rfl,rfl,rfl,rfl,rfl,rfl⟩
end K29
noncomputable def PySem.W.Fast.tw9533941811076084313:PySem.Program:=PySem.Challenge.pw_changehall_k29_classes_refused
theorem PySem.W.Fast.te9533941811076084313:PySem.Challenge.pw_changehall_k29_classes_refused=PySem.W.Fast.tw9533941811076084313:=rfl
open PySem PySem.W PyProof.Rows
set_option maxRecDepth 100000 in
set_option maxHeartbeats 0 in
theorem PySem.Challenge.cw_changehall_k29_classes_refused_holds : PySem.Challenge.rw_changehall_k29_classes_refused.Holds := by
 w_on;o_law
 refine PySem.W.holds_open (q:=K29.H.qv) (loose:=[]) (Xt:=K29.H.Xt) (XP:=XL K29.H.qv []) (Yf:=Hook.obs (kHook K29.H.K K29.H.Ka K29.H.Ke)) (Ya:=Hook.val (kHook K29.H.K K29.H.Ka K29.H.Ke)) (YP:=Hook.says (kHook K29.H.K K29.H.Ka K29.H.Ke)) (N:=4738) K29.H.left (Hook.of _) (Hook.keeps _) (λs e=>xl_of s (w0w.mp e).1) XL.keeps (by rfl) (by rfl) (by rfl) (λs e=>recFacts_of (w0w.mp e).2) (by rfl) (by first|assumption|decide +kernel) (by decide +kernel) ⟨rfl,rfl,rfl,rfl,rfl,by decide +kernel⟩ ?hw ?hc
 (case hw=>w_witness2)
 k_fill
 refine L2.Oz (x := "_law_script") (qn := "next_level.<locals>.<lambda>") (tb:=258) (cA:=262) (K:=K29.H.K0) (k:=12) (fr:=true) (c:=K29.Ht) (l:=PySem.Challenge.rw_changehall_k29_classes_refused) rfl rfl (λw h Y=>L2.Zj rfl (PySem.W.kIn_of Y)) (λw=>⟨rfl,K29.codeK w.params⟩) ?F (λns hl=>K29.Wr ns hl) ⟨rfl,by decide,by decide⟩
 case F =>
  k_fill
  intro w mg fa h KX G hmg;apply K29.Ww KX G hmg
  all_goals first|apply L2.dh|skip
  all_goals try k_is
  all_goals kernel_rfl

end

