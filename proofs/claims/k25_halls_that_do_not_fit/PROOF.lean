import PyProof.Rows.All
import Wide.All
import OpenK.AllK
import Wide.FinOn
import Lean
import PyProof.EqAt
import PyProof.EqKinds
import PyProof.TupleCall
import PyProof.CompFree
import PyProof.Cells
import PySem.Challenge.RW_changehall_k25_halls_that_do_not_fit
set_option Elab.async false
set_option linter.all false
set_option maxRecDepth 100000
set_option exponentiation.threshold 20000
abbrev aA:=List (List Int)
abbrev aB:=List (PySem.Addr×PySem.Obj)
abbrev aC:=PySem.Value->PySem.Shared->Prop
abbrev aD:=PySem.W.Frag
abbrev aE:=PySem.Str->Option PySem.Value
abbrev aF:=List PySem.Value
abbrev aG:=List Int
set_option compiler.extract_closed false
open Option renaming some->aa,none->ag
open Bool renaming true->ac,false->af
open PySem renaming wpAny_bind->ah,Addr->aj,FuncData->ak,Shared->am,Value->ao,starEach->aq,wpAny->ay,mainGlobals->az,World->aH,wpAny_pure->aI,Stmt->aJ,Expr->aK,Program->aL,Params->aQ,Heap->aV,cellsFrom->aX,OsState->aZ,mem_of_lookup->bi,Around->bj,compareOp->bp,DictEntry->bt,wpAny_mono->bu,bootBuiltins->bz,NameKind->bA,wpAny_field->bE,foldedSetIterable->bF,backTo->bH,treeTable->bJ,wpAny_Call_Name_kw->bK,binaryOp->bU,swapsWith->bV,wpAny_truthy_bool->bW,keywordEach->bZ,assignEach->cb,wpAny_setField_rec->cj,wpAny_passesOwn->ck,wpAny_newObj_type->cw,wpAny_seqItems->cz,sizeLine_eq->cA,IsPair->cC,wpAny_holding->cK,wpAny_attempt->cL,wpAny_execs_nil->cM,letOwnedTupleGo->cN,wpAny_callSpecial?_slot->cQ,wpAny_pyIter_list->cR,rawInt->cS,codeAny_mono->cT,backToKw->cU,wpAny_call_entry->cX,behindInMarks->cZ,sliceBounds->dg,importedModules->dq,wpAny_setField->dE,wpAny_standAt->dM,wpAny_rule->dS,builtinsNs->dU,Keyword->dX,firstArgMember->eG,standAt->eM,callerA->eN,codeAny->eZ,bindArgs->fe,BindsTo->fw,wpAny_typeOf_ref->fE,wpAny_isInstance->fF,wpAny_execs_cons->fG,noteFrame->fH,PassesOwn->fJ
open List renaming getD->au,range->av,replicate->bg,zipWith->ce,length->dB,lookup->eR
open Or renaming inl->ax,inr->aW
open Option.some renaming inj->aP
open PySem.W renaming nsIn->aR,mg_none_of->aT,kia_one->bf,fnOf->bB,mg_of->bG,keepIn->bQ,codeIn->cq,looks_pair->cF,segRun_of->cI,piece_app->cJ,piecesOf->cW,boot_heap->di,SharedT->dm,kitx_list->dw,segRunT->dF,cellsFrom_some->dH,findIn->dO,exmOne->dP,methodObj->eI,kitx_dict->eJ,instObj->eS,OpenLaw->eU,lookIn->fg,kitOne->fh,kitCls->fk,hideAll_none->fI
open PySem.PassesOwn renaming never->aY
open PySem.Builtin.SmallTypes renaming nextOrEnd->bh,ownedTupleIsFree->bT,nextOf->cG,ownedTupleHandOut->eQ,stopIteration->ft
open PySem.Value renaming ref->bq,none->bw,int->dQ,bool->eV
open PySem.Str renaming ofString->bv
open PySem.Builtin.Int renaming intBits->bC
open Ne renaming symm->bL
open PySem.NameKind renaming free->bM,cell->cu
open PyProof.Rows renaming callWith_type1->bN,envOfC->ci,seqObj->cH,AllBare->eE
open List.Sublist renaming map->bP
open False renaming elim->bR
open PySem.Obj renaming mapSeq->cB,data_mapFields->cP,mapFields->df,isFreed_of_fields->eD
open PySem.F renaming slot_tuple_iterator_next->cD,slot_zip_next->ee,slot_list_append->eX,plainAttrs_list->fq
open PySem.PyData renaming depth->cV,depthAll->du,eqv->dG,canLayAll0->dI,eqvAll->dN,int->dW,canLay0->eK
open PySem.Heap.SameBut renaming update->dA
open List.Pairwise renaming nil->dC,imp_of_mem->fL
open PySem.Heap renaming SameBut->dD,FlyingW->dY
open ForInStep renaming yield->dJ
open Sum renaming inl->dR,inr->eF
open Array renaming length_toList->dZ,getElem?_setIfInBounds_ne->eP
open True renaming intro->eB
open List.Perm renaming refl->fy
open Classical renaming byContradiction->fA
open PySem.Data renaming cell->fK,fields->fM
abbrev ar:=@if_pos
abbrev aw:=@if_neg
abbrev aM:=@decide_eq_true
abbrev aN:=@absurd
abbrev aU:=@decide_eq_false
abbrev bo:=@of_decide_eq_true
abbrev bI:=@congrArg
abbrev fO:=List PySem.Str
abbrev fP:=List PySem.Addr
abbrev fQ:=List Nat
abbrev fR:=List PySem.Expr
abbrev fT:=List PySem.Stmt
abbrev fU:=List PySem.Env
abbrev fV:=Array PySem.Value
abbrev fW:=List PySem.DictEntry
abbrev fX:=Option Int
abbrev fY:=Option PySem.Value
abbrev fZ:=Option PySem.Addr
open List renaming getElem?_eq_getElem->wa,mem_cons_of_mem->wc,mem_cons_self->we,mem_map->wg,length_map->wj,mem_cons->wn,length_cons->wo,map_cons->wq,mem_append->wu,getElem?_map->wy,length_append->wB,size_toArray->wD,getElem_of_mem->wH,mem_singleton->wI,mem_append_right->wJ,getElem?_eq_none->wK,mem_range->wO,lookup_cons->wR,map_map->wS,getElem?_append_left->wV,length_drop->vd,getElem?_set_ne->vg,pairwise_cons->vi,filter_sublist->vj,mem_filter->vm,append_nil->vn,length_set->vq,getElem?_append_right->vv,getElem?_replicate->vx,all_eq_true->vy,getElem?_set->vz,getElem_mem->vA,nodup_cons->vD,getElem?_eq_some_iff->vF,length_take->vI,mem_of_getElem?->vJ,mem_or_eq_of_mem_set->vN,length_replicate->vO,mem_filterMap->vP,of_mem_zip->vU,map_append->vV,length_zipWith->vW,take_of_length_le->vY,ext_getElem->ue,filter_cons->uf,append_assoc->ui,not_mem_nil->uo,zip_cons_cons->uu,length_range->uz,mem_append_left->uB,mem_of_mem_take->uC,getD_eq_getElem?_getD->uD,drop_eq_getElem_cons->uH,range_succ->uK,foldl_cons->uL,getElem?_drop->uM,getElem?_set_self->uO,forIn_nil->uQ,drop_of_length_le->uR,range_succ_eq_map->uS,drop_eq_nil_of_le->uT,getElem?_zipWith->uX,cons_append->uZ,mem_iff_getElem->w02,forIn_cons->w03,filterMap_cons->w04,getElem?_range->w05,map_congr_left->w06,getElem?_eq_none_iff->w0b,all_eq_false->w0i,map_take->w0j,length_eq_zero_iff->w0n,zipWith_map_right->w0q,nil_append->w0t,map_const'->w0u,getElem_zipWith->w0B,range_eq_range'->w0D,length_reverse->w0F,replicate_succ->w0G,all_cons->w0I,append_of_mem->w0K,getElem?_take->w0L,any_eq_false->w0M,map_nil->w0N,flatMap_cons->w0R,nodup_append->w0S,pairwise_map->w0T,foldl_append->w0Y,any_eq_true->w12,take_length->w13,zipIdx_cons->w14,mem_flatMap->w16,zipWith_map->w19,zipIdx_nil->w1i,take_left'->w1l,take_zero->w1n,nodup_nil->w1o,foldl_map->w1p
open Nat renaming pow_le_pow_right->wm,le_refl->wv,lt_of_lt_of_le->ww,mul_le_mul_right->wE,le_trans->wF,ne_of_lt->wM,zero_le->wQ,two_pow_pos->wU,mul_le_mul_left->wY,pow_add->vB,lt_succ_self->vE,lt_irrefl->vG,mul_assoc->vR,mul_le_mul->vT,le_of_lt->vX,pow_succ->vZ,le_of_not_lt->ud,zero_add->uj,mul_lt_mul''->uq,lt_or_gt_of_ne->ut,strongRecOn->uv,pow_lt_pow_right->uE,ne_of_gt->uF,mul_comm->uG,pow_le_pow_left->uI,le_of_succ_le->uP,succ_mul->uU,lt_of_le_of_lt->w09,le_succ_of_le->w0e,mul_add->w0g,lt_trichotomy->w0h,le_mul_of_pos_right->w0m,lt_trans->w0p,mul_succ->w0r,mul_pos->w0A,lt_succ_of_lt->w0O,min_eq_right->w15,le_add_right->w17,succ_le_succ->w18,log2_lt->w1b,add_mul->w1d,pow_pos->w1f,min_eq_left->w1j,not_lt->w1m
open Int renaming mul_comm->wN,natAbs_mul->wW,fmod_nonneg_of_pos->vh,fmod_lt_of_pos->vC,mul_eq_zero->vH,mul_assoc->vQ,le_of_dvd->uc,eq_ofNat_of_zero_le->ur,gcd->uA,dvd_of_fmod_eq_zero->uN,natAbs_neg->uV,mul_left_comm->uW,mul_le_mul_of_nonneg_right->uY,dvd_trans->w00,neg_mul->w01,gcd_pos_of_ne_zero_left->w07,fdiv_eq_ediv_of_nonneg->w0a,eq_of_mul_eq_mul_left->w0c,toNat_natCast->w0d,lt_trichotomy->w0f,mul_fdiv_cancel_left->w0k,mul_ediv_cancel_left->w0l,fmod_eq_zero_of_dvd->w0o,mul_sub->w0w,mul_nonneg->w0x,mul_add->w0y,sub_mul->w0z,mul_pos->w0C,natAbs_eq_zero->w0J,dvd_refl->w0U,zero_dvd->w0V,gcd_dvd_right->w0W,zero_add->w0X,gcd_dvd_left->w1a,add_mul->w1c,mul_neg->w1e,dvd_add->w1g,neg_mul_neg->w1k
open Option renaming isSome_iff_exists->uJ,getD_none->w0Z,map_some->w1h
open PySem.Heap renaming get?_push_of_some->wf,lt_size->wt,get?_push_size->wx,get?_update_other->vL,size_push->vM,get?_none_of_le->vS,get?_update_self->uw,get?_push_ne->w0P
open Bool renaming and_eq_true->wG,false_ne_true->wL,or_eq_true->ug,false_eq_true->w08,eq_iff_iff->w0s,beq_eq_decide_eq->w0v,and_eq_true_iff->w0E,true_and->w0H,not_eq_true'->w0Q,not_false->w1q
open Classical renaming choose_spec->wP,byContradiction->wZ,choose->vK
local macro_rules|`(tactic|rfl')=>`(tactic|omega)
section
open PySem PySem.Spec PyProof.Rows
section
local macro_rules|`(tactic|rfl')=>`(tactic|first|lia|omega +splitDisjunctions)
namespace L2
abbrev Key:=Sum Int Str
def keyIs:Key->ao->Bool
 |.inl k,v=>Value.isInt k v
 |.inr x,v=>Value.isStrOf x v
def keyH(w:aH):Key->Int
 |.inl k=>hashInt k
 |.inr x=>hashStr w x
theorem F9:∀{k:Key}{v:ao},keyIs k v=ac->(∃i t,k=dR i/\v=dQ i t)\/(∃x t,k=eF x/\v=Value.str x t)
 |.inl i,v,h=>by
  obtain⟨t,e⟩:=Value.isInt_shape (k:=i) (v:=v) h;exact .inl ⟨i,t,rfl,e⟩
 |.inr x,v,h=>by
  obtain⟨t,e⟩:=Value.isStrOf_shape (x:=x) (v:=v) h;exact .inr ⟨x,t,rfl,e⟩
theorem key_ll(a b:Int):decide ((dR a:Key)=dR b)=(a==b):=by
 by_cases e:a=b
 .subst e;simp
 .have h:¬(dR a:Key)=dR b:=λq=>e (Sum.inl.inj q);rw[aU h];exact(beq_eq_false_iff_ne.mpr e).symm
theorem key_rr(a b:Str):decide ((eF a:Key)=eF b)=decide (a=b):=by
 by_cases e:a=b
 .subst e;simp
 .have h:¬(eF a:Key)=eF b:=λq=>e (Sum.inr.inj q);rw[aU h,aU e]
theorem key_lr(a:Int)(b:Str):decide ((dR a:Key)=eF b)=af:=aU (λq=>nomatch q)
theorem key_rl(a:Str)(b:Int):decide ((eF a:Key)=dR b)=af:=aU (λq=>nomatch q)
def OM(prog:Program)(w:World):PySem.KeyKind prog w Key where
 is:=keyIs
 hash:=keyH w
 inj:=λv a b ha hb=>by
  rcases F9 ha with⟨i,t,rfl,rfl⟩|⟨x,t,rfl,rfl⟩
  .rcases F9 hb with⟨j,u,rfl,e⟩|⟨y,u,rfl,e⟩
   .injection e with e1 _;rw[e1]
   .exact nomatch e
  .rcases F9 hb with⟨j,u,rfl,e⟩|⟨y,u,rfl,e⟩
   .exact nomatch e
   .injection e with e1 _;rw[e1]
 byValue:=λk v h=>by
  rcases F9 h with⟨i,t,rfl,rfl⟩|⟨x,t,rfl,rfl⟩<;>rfl
 pyHash:=λhv h=>by
  rcases F9 hv with⟨i,t,rfl,rfl⟩|⟨x,t,rfl,rfl⟩
  .exact wpAny_pyHash_int h
  .exact wpAny_pyHash_str h
 eqBool:=λhu hv h=>by
  rcases F9 hu with⟨i,t,rfl,rfl⟩|⟨x,t,rfl,rfl⟩
  .rcases F9 hv with⟨j,u,rfl,rfl⟩|⟨y,u,rfl,rfl⟩
   .rw[key_ll]at h;exact wpAny_eqBool_int h
   .rw[key_lr]at h;exact SeqAt.EqAt.int_str i t y u _ _ _ _ h
  .rcases F9 hv with⟨j,u,rfl,rfl⟩|⟨y,u,rfl,rfl⟩
   .rw[key_rl]at h;exact SeqAt.EqAt.str_int x t j u _ _ _ _ h
   .rw[key_rr]at h;exact wpAny_eqBool_str h
 «strs»:=λk x t v h=>by
  rcases F9 h with⟨i,u,rfl,e⟩|⟨y,u,rfl,e⟩
  .exact nomatch e
  .injection e with e1 _
   subst e1;cases v<;>rfl
end L2
namespace L2
inductive V where
 |non|bl (b:Bool)|int (i:Int)|str (x:Str)|byt (b:Array UInt8)|flt (b:UInt64)|ref (a:aj)|ty (n:String)
 deriving DecidableEq
abbrev gg:=List V
def RelV:V->ao->Prop
 |.non,u=>u=bw
 |.bl b,u=>u=eV b
 |.int i,u=>∃t,u=dQ i t
 |.str x,u=>∃t,u=Value.str x t
 |.byt b,u=>∃t,u=Value.bytes b t
 |.flt b,u=>∃t,u=Value.float b t
 |.ref a,u=>u=bq a
 |.ty n,u=>u=Value.type n
abbrev Vals:gg->aF->Prop:=Paired RelV
theorem Vals.length{xs:gg}{us:aF}(r:Vals xs us):xs.length=us.length:=Paired.length r
theorem Vals.get:∀{xs:gg}{us:aF}{i:Nat}{x:V},Vals xs us->xs[i]?=aa x->∃u,us[i]?=aa u/\RelV x u
 |_,_,_,_,.nil,e=>by simp at e
 |_,_,0,_,.cons r _,e=>by simp at e;subst e;exact⟨_,rfl,r⟩
 |_,_,i+1,x,.cons _ t,e=>by
  obtain⟨u,h1,h2⟩:=Vals.get (i:=i) (x:=x) t (by simpa using e);exact⟨u,by simpa using h1,h2⟩
theorem Vals.set{x:V}{u:ao}(r:RelV x u):∀{xs:gg}{us:aF}(i:Nat),Vals xs us->Vals (xs.set i x) (us.set i u)
 |_,_,_,.nil=>.nil
 |_,_,0,.cons _ t=>.cons r t
 |_,_,i+1,.cons q t=>.cons q (Vals.set r i t)
theorem Vals.append:∀{xs ys:gg}{us ws:aF},Vals xs us->Vals ys ws->Vals (xs++ys) (us++ws)
 |_,_,_,_,.nil,s=>s
 |_,_,_,_,.cons r t,s=>.cons r (Vals.append t s)
theorem Vals.take:∀{xs:gg}{us:aF}(n:Nat),Vals xs us->Vals (xs.take n) (us.take n)
 |_,_,0,_=>.nil
 |_,_,_+1,.nil=>.nil
 |_,_,n+1,.cons r t=>.cons r (Vals.take n t)
theorem Vals.drop:∀{xs:gg}{us:aF}(n:Nat),Vals xs us->Vals (xs.drop n) (us.drop n)
 |_,_,0,r=>r
 |_,_,_+1,.nil=>.nil
 |_,_,n+1,.cons _ t=>Vals.drop n t
theorem Vals.none_of:∀{xs:gg}{us:aF}{i:Nat},Vals xs us->xs[i]?=ag->us[i]?=ag:=λ{xs us i}r e=>by
 have h1:=r.length;have h2:xs.length<=i:=w0b.mp e;exact w0b.mpr (by rfl')
def RelO:Option V->fY->Prop
 |some v,aa u=>RelV v u
 |none,ag=>True
 |_,_=>False
def KV{κ:Type}:List (κ×V)->List (κ×ao)->Prop:=Paired λ(p:κ×V)(q:κ×ao)=>p.1=q.1/\RelV p.2 q.2
def kV:Key->V
 |.inl i=>.int i
 |.inr x=>.str x
inductive HO where
 |lst (xs:gg)
 |tup (xs:gg)
 |dK (kvs:List (Key×V))|dT (kvs:List (List Key×V))
 |set (S:Int->Bool) (n:Nat)
 |ins (C dx:aj) (fs:List (Str×V))
 |own (x:aj)
 |xd (fs:List (Str×V))
 |met (f x:aj)
 |rng (lo hi:Int)
 |frz (o:Obj) (u:HO)
 |tbl (ps:fV)
 |ext (φ:aV->Prop)
abbrev Hp:=aj->Option HO
def upd(H:Hp)(a:aj)(o:HO):Hp:=λb=>if b=a then aa o else H b
theorem A0{H:Hp}{a:aj}{o:HO}:upd H a o a=aa o:=by unfold upd;rw[ar rfl]
theorem u6{H:Hp}{a b:aj}{o:HO}(h:b≠a):upd H a o b=H b:=by unfold upd;rw[aw h]
theorem T4{H:Hp}{a b:aj}{o:HO}(h:H a=aa o)(h':H b=ag):a≠b:=by
 intro e;subst e;rw[h]at h';cases h'
section
variable (P:aL)(w:aH)
def ObjOk(H:Hp)(h:aV)(a:aj):HO->Prop
 |.lst xs=>xs.length<=sizeLine/\∃(its:aF)(n:Nat),Vals xs its/\h.get? a=aa { cls:=.type "list",data:=.seq its.toArray n }
 |.tup xs=>xs.length<=sizeLine/\∃its:aF,Vals xs its/\IsTup h a its.toArray
 |.dK kvs=>kvs.length<=sizeLine/\(a==sysModules)=af/\∃vs,KV kvs vs/\h.DictOf (OM P w) a vs
 |.dT kvs=>kvs.length<=sizeLine/\(a==sysModules)=af/\∃xs:List (List Key×aj×ao),
  Paired (λ(p:List Key×V)(q:List Key×aj×ao)=>p.1=q.1/\H q.2.1=aa (.tup (p.1.map kV))/\RelV p.2 q.2.2) kvs xs /\
  ∃o es ep,h.get? a=aa o/\o.ExactDict/\o.data=.dict es ep/\es.toList=xs.map (entryOfKey (tupleKind (OM P w)))/\(xs.map (·.1)).Nodup
 |.set S n=>h.SetOf (intKind P w) a S n
 |.ins C dx fs=>H dx=aa (.own a)/\fs.length<=1000/\dx≠a/\h.get? a=aa (eS C dx) /\
  ∃mA,h.Ns1 dx mA/\(∀f,RelO (fs.lookup f) (mA f))/\PySem.Within mA (fs.map (·.1))
 |.own _=>∃o,h.get? a=aa o
 |.xd fs=>∃mA,h.Ns1 a mA/\∀f,RelO (fs.lookup f) (mA f)
 |.rng lo hi=>∃t u v,h.get? a=aa { cls:=.type "range",data:=.fields #[.int lo t,.int hi u,.int 1 v] }
 |.frz o u=>h.get? a=aa o/\ObjOk H h a u
 |.tbl ps=>h.get? a=aa { cls:=.none,data:=.fields ps }
 |.met f x=>h.get? a=aa (eI (.ref f) (.ref x))
 |.ext φ=>φ h/\(∃o,h.get? a=aa o)/\∀h1 h2:aV,φ h1->(∀o,h1.get? a=aa o->h2.get? a=aa o)->φ h2
def HOk(H:Hp)(h:aV):Prop:=∀a o,H a=aa o->ObjOk P w H h a o
end
section
variable {P:aL}{w:aH}{H H':Hp}{h h':aV}{a:aj}{o:HO}
theorem ObjOk.lt(x:ObjOk P w H h a o):a<h.objs.size:=by
 cases o with
 |lst xs=>obtain⟨_,_,_,_,e⟩:=x;exact wt e
 |tup xs=>obtain⟨_,_,_,p⟩:=x;exact p.lt
 |dK kvs=>obtain⟨_,_,_,_,o,_,_,e,_⟩:=x;exact wt e
 |dT kvs=>obtain⟨_,_,_,_,o,_,_,e,_⟩:=x;exact wt e
 |set S n=>obtain⟨o,_,_,_,e,_⟩:=x;exact wt e
 |ins C dx fs=>obtain⟨_,_,_,e,_⟩:=x;exact wt e
 |own y=>obtain⟨_,e⟩:=x;exact wt e
 |xd fs=>obtain⟨_,⟨_,_,_,e,_⟩,_⟩:=x;exact wt e
 |rng lo hi=>obtain⟨_,_,_,e⟩:=x;exact wt e
 |frz ob u=>obtain⟨e,_⟩:=x;exact wt e
 |tbl ps=>exact wt (show h.get? a=aa _ from x)
 |met f y=>exact wt (show h.get? a=aa _ from x)
 |ext φ=>obtain⟨_,⟨_,e⟩,_⟩:=x;exact wt e
theorem Paired.mapP{α β:Type}{F G:α->β->Prop}:∀{l₁:List α}{l₂:List β},Paired F l₁ l₂->(∀a b,F a b->G a b)->Paired G l₁ l₂
 |_,_,.nil,_=>.nil
 |_,_,.cons r t,f=>.cons (f _ _ r) (Paired.mapP t f)
theorem ObjOk.stay(x:ObjOk P w H h a o)(k:∀b u,(b=a\/H b=aa (.own a))->h.get? b=aa u->h'.get? b=aa u)
  (ho:∀b,H b=aa (.own a)->H' b=aa (.own a)) (ht:∀b xs,H b=aa (.tup xs)->H' b=aa (.tup xs)):ObjOk P w H' h' a o:=by
 induction o with
 |lst xs=>obtain⟨z,its,n,r,e⟩:=x;exact⟨z,its,n,r,k _ _ (.inl rfl) e⟩
 |tup xs=>obtain⟨z,its,r,ob,e,c⟩:=x;exact⟨z,its,r,ob,k _ _ (.inl rfl) e,c⟩
 |dK kvs=>obtain⟨z,y,vs,r,ob,es,ep,e,c⟩:=x;exact⟨z,y,vs,r,ob,es,ep,k _ _ (.inl rfl) e,c⟩
 |dT kvs=>
  obtain⟨z,y,xs,r,ob,es,ep,e,c⟩:=x;exact⟨z,y,xs,Paired.mapP r λp q z=>⟨z.1,ht _ _ z.2.1,z.2.2⟩,ob,es,ep,k _ _ (.inl rfl) e,c⟩
 |set S n=>obtain⟨ob,es,ep,t,e,c⟩:=x;exact⟨ob,es,ep,t,k _ _ (.inl rfl) e,c⟩
 |ins C dx fs=>
  obtain⟨d,z,ne,e,mA,⟨od,es,ep,e2,c⟩,r⟩:=x;exact⟨ho _ d,z,ne,k _ _ (.inl rfl) e,mA,⟨od,es,ep,k _ _ (.inr d) e2,c⟩,r⟩
 |own y=>obtain⟨ob,e⟩:=x;exact⟨ob,k _ _ (.inl rfl) e⟩
 |xd fs=>obtain⟨mA,⟨od,es,ep,e,c⟩,r⟩:=x;exact⟨mA,⟨od,es,ep,k _ _ (.inl rfl) e,c⟩,r⟩
 |rng lo hi=>obtain⟨t,u,v,e⟩:=x;exact⟨t,u,v,k _ _ (.inl rfl) e⟩
 |frz ob u ih=>obtain⟨e,q⟩:=x;exact⟨k _ _ (.inl rfl) e,ih q⟩
 |tbl ps=>
  have e:h.get? a=aa { cls:=.none,data:=.fields ps }:=x;show h'.get? a=aa { cls:=.none,data:=.fields ps };exact k a _ (.inl rfl) e
 |met f y=>
  have e:h.get? a=aa (eI (.ref f) (.ref y)):=x;show h'.get? a=aa (eI (.ref f) (.ref y));exact k a _ (.inl rfl) e
 |ext φ=>obtain⟨p,⟨o,e⟩,st⟩:=x;exact⟨st _ _ p λo q=>k _ _ (.inl rfl) q,⟨o,k _ _ (.inl rfl) e⟩,st⟩
theorem HOk.lt(x:HOk P w H h)(e:H a=aa o):a<h.objs.size:=(x a o e).lt
theorem HOk.fresh(x:HOk P w H h)(e:h.objs.size<=a):H a=ag:=by
 cases q:H a with
 |none=>rfl
 |some u=>exact aN (ww (x.lt q) e) (vG _)
theorem HOk.kept(x:HOk P w H h)(k:∀b u,h.get? b=aa u->h'.get? b=aa u):HOk P w H h':=λa o e=>
 (x a o e).stay (λb u _ q=>k b u q) (λ_ q=>q) λ_ _ q=>q
theorem HOk.laid(x:HOk P w H h)(k:∀b u,h.get? b=aa u->h'.get? b=aa u)(hp:h.objs.size<=a)(new:ObjOk P w (upd H a o) h' a o):HOk P w (upd H a o) h':=λb u e=>by
 have hn:=x.fresh hp;by_cases hb:b=a
 .subst hb;rw[A0]at e;cases e;exact new
 .rw[u6 hb]at e;exact(x b u e).stay (λc v _ q=>k c v q) (λc q=>by rw[u6 (T4 q hn)];exact q) λc xs q=>by rw[u6 (T4 q hn)];exact q
end
def Rd(H:Hp)(a:aj)(u:HO):Prop:=H a=aa u\/∃o,H a=aa (.frz o u)
theorem Rd.ok{P:aL}{w:aH}{H:Hp}{h:aV}{a:aj}{u:HO}(r:Rd H a u)(x:HOk P w H h):ObjOk P w H h a u:=by
 rcases r with r|⟨o,r⟩
 .exact x a u r
 .obtain⟨_,q⟩:=x a _ r;exact q
def Mut:Option HO->Prop
 |some (.lst _)=>True
 |some (.dK _)=>True
 |some (.dT _)=>True
 |some (.set _ _)=>True
 |some (.ins _ _ _)=>True
 |some (.ext _)=>True
 |_=>False
section
variable {P:aL}{w:aH}{H:Hp}{h h':aV}{x e:aj}{o':HO}
theorem HOk.write(ok:HOk P w H h)(mu:Mut (H x))(he:e=x\/H e=aa (.own x))(k:∀b u,b≠e->h.get? b=aa u->h'.get? b=aa u)(heo:∃u,h'.get? e=aa u)
   (new:ObjOk P w (upd H x o') h' x o'):HOk P w (upd H x o') h':=λb u q=>by
 have nown:∀c y,H c=aa (.own y)->c≠x:=λc y r z=>by subst z;rw[r]at mu;exact mu
 have ntup:∀c xs,H c=aa (.tup xs)->c≠x:=λc xs r z=>by subst z;rw[r]at mu;exact mu
 by_cases hb:b=x
 .subst hb;rw[A0]at q;cases q;exact new
 .rw[u6 hb]at q;by_cases hbe:b=e
  .have q':H b=aa (.own x):=by
     rcases he with z|z
     .exact aN (hbe.trans z) hb
     .rw[hbe];exact z
   rw[q]at q';cases q';obtain⟨v,hv⟩:=heo;exact⟨v,by rw[hbe];exact hv⟩
  .refine(ok b u q).stay (λc v hc r=>k c v ?_ r) (λc r=>by rw[u6 (nown c b r)];exact r) λc xs r=>by rw[u6 (ntup c xs r)];exact r
   rcases hc with rfl|hc
   .exact hbe
   .rintro rfl;rcases he with z|z
    .exact nown c b hc z
    .rw[hc]at z;cases z;exact hb rfl
end
structure Un(fs ex:fP)(H H':Hp)(h h':aV):Prop where
 keep:∀b o,h.get? b=aa o->H b=ag->b∉fs->b∉ex->h'.get? b=aa o
 slot:∀b o,h.get? b=aa o->H b=ag->b∈fs->b∉ex->∃sl,h'.get? b=aa { o with slots:=sl }
 free:∀b o,h.get? b=aa o->H b=ag->b∉ex->H' b=ag
 there:∀b o,h.get? b=aa o->b∉ex->∃o',h'.get? b=aa o'
 tups:∀b xs,H b=aa (.tup xs)->H' b=aa (.tup xs)
 frzs:∀b o u,H b=aa (.frz o u)->H' b=aa (.frz o u)
 tbls:∀b ps,H b=aa (.tbl ps)->∃more,H' b=aa (.tbl (ps++more))
section
variable {fs fs' ex ex':fP}{H H1 H2:Hp}{h h1 h2 h':aV}{a x e:aj}{o:HO}
theorem Un.any(u:Un fs ex H H1 h h1){b:aj}{ob:Obj}(q:h.get? b=aa ob)(n:H b=ag)(hx:b∉ex):∃sl,h1.get? b=aa { ob with slots:=sl }:=by
 by_cases hb:b∈fs
 .exact u.slot b ob q n hb hx
 .exact⟨ob.slots,u.keep b ob q n hb hx⟩
theorem Un.trans(a:Un fs ex H H1 h h1)(b:Un fs ex H1 H2 h1 h2):Un fs ex H H2 h h2 where
 keep:=λc ob q n hc hx=>b.keep c ob (a.keep c ob q n hc hx) (a.free c ob q n hx) hc hx
 slot:=λc ob q n hc hx=>by
  obtain⟨sl,e1⟩:=a.slot c ob q n hc hx;obtain⟨sl',e2⟩:=b.slot c _ e1 (a.free c ob q n hx) hc hx;exact⟨sl',e2⟩
 free:=λc ob q n hx=>by
  obtain⟨o',e1⟩:=a.there c ob q hx;exact b.free c o' e1 (a.free c ob q n hx) hx
 there:=λc ob q hx=>by
  obtain⟨o',e1⟩:=a.there c ob q hx;exact b.there c o' e1 hx
 tups:=λc xs q=>b.tups c xs (a.tups c xs q)
 frzs:=λc ob xs q=>b.frzs c ob xs (a.frzs c ob xs q)
 tbls:=λc ps q=>by
  obtain⟨m1,e1⟩:=a.tbls c ps q;obtain⟨m2,e2⟩:=b.tbls c _ e1;exact⟨m1++m2,by rw[e2,Array.append_assoc]⟩
theorem Un.kept(k:∀b u,h.get? b=aa u->h'.get? b=aa u):Un fs ex H H h h':=
 ⟨λb ob q _ _ _=>k b ob q,λb ob q _ _ _=>⟨ob.slots,k b ob q⟩,λ_ _ _ n _=>n,λb ob q _=>⟨ob,k b ob q⟩,λ_ _ q=>q,λ_ _ _ q=>q,λ_ ps q=>⟨#[],by rw[q];simp⟩⟩
theorem Un.refl:Un fs ex H H h h:=Un.kept λ_ _ q=>q
theorem Un.laid(k:∀b u,h.get? b=aa u->h'.get? b=aa u)(hp:h.objs.size<=a)(hn:H a=ag):Un fs ex H (upd H a o) h h' where
 keep:=λb u q _ _ _=>k b u q
 slot:=λb u q _ _ _=>⟨u.slots,k b u q⟩
 free:=λb u q n _=>by rw[u6 (wM (ww (wt q) hp))];exact n
 there:=λb u q _=>⟨u,k b u q⟩
 tups:=λb xs q=>by rw[u6 (T4 q hn)];exact q
 frzs:=λb u xs q=>by rw[u6 (T4 q hn)];exact q
 tbls:=λb ps q=>⟨#[],by rw[u6 (T4 q hn),q];simp⟩
theorem Un.write(mu:Mut (H x))(he:e=x\/H e=aa (.own x))(k:∀b u,b≠e->h.get? b=aa u->h'.get? b=aa u)(heo:∃u,h'.get? e=aa u):Un fs ex H (upd H x o) h h':=by
 have hx:∀b,H b=ag->b≠x:=λb n z=>by subst z;rw[n]at mu;exact mu
 have hb:∀b,H b=ag->b≠e:=λb n z=>by
   subst z;rcases he with r|r
   .exact hx b n r
   .rw[n]at r;cases r
 have hm:∀b u,H b=aa u->¬Mut (aa u)->b≠x:=λb u q nm z=>by subst z;rw[q]at mu;exact nm mu
 refine⟨λb u q n _ _=>k b u (hb b n) q,λb u q n _ _=>⟨u.slots,k b u (hb b n) q⟩,λb u q n _=>by rw[u6 (hx b n)];exact n,λb u q _=>?_,
   λb xs q=>by rw[u6 (hm b _ q λz=>z)];exact q,λb u xs q=>by rw[u6 (hm b _ q λz=>z)];exact q,λb ps q=>⟨#[],by rw[u6 (hm b _ q λz=>z),q];simp⟩⟩
 by_cases hbe:b=e
 .subst hbe;exact heo
 .exact⟨u,k b u hbe q⟩
end
def trk(h:aV)(H:Hp):fP:=(av h.objs.size).filter λa=>(H a).isSome
def hidT(h:aV)(H:Hp):aV:=PySem.W.hideAll h (trk h H)
theorem ZS(h:aV)(H:Hp):(hidT h H).objs.size=h.objs.size:=PySem.W.hideAll_size _ _
theorem z0U{h:aV}{H:Hp}{b:aj}{o:Obj}(e:h.get? b=aa o)(n:H b=ag):(hidT h H).get? b=aa o:=
 PySem.W.hideAll_get _ e λhm=>by
  have q:(H b).isSome=ac:=(vm.mp hm).2;rw[n]at q;simp at q
theorem z4p{h:aV}{H:Hp}{b:aj}{o:Obj}(e:(hidT h H).get? b=aa o):h.get? b=aa o/\H b=ag:=by
 have e':h.get? b=aa o:=PySem.W.of_hideAll (trk h H) e;refine⟨e',?_⟩;cases q:H b with
 |none=>rfl
 |some x=>
  have hm:b∈trk h H:=vm.mpr ⟨wO.mpr (wt e'),by simp[q]⟩;have z:(hidT h H).get? b=ag:=PySem.W.hideAll_none (trk h H) hm;rw[z]at e;cases e
def z4q(g h:aV)(L:aj):aB:=(av h.objs.size).filterMap λa=>if a=L\/(g.get? a).isSome=ac then ag else(h.get? a).map λo=>(a,o)
def rest(g h:aV)(L d:aj):aB:=(z4q g h L).filter λp=>decide (p.1≠d)
end L2
namespace L2
structure Mod(K:aD)(mg:aE)(base:aV):Prop where
 kin:K.In base
 glob:base.Ns az mg
 blt:∃mb,base.Ns dU mb/\∀x:Str,x ≠ "__name__" -> mb x=bz x
 nolimit:base.NoLimit
structure Cx where
 prog:aL
 w:aH
 K:aD
 mg:aE
 base:aV
 A:bj
 N:fO
 s₀:am
 H₀:Hp
 env:Env
 outer:fU
 stack:fU
 ex:fP
 fn:Str->Bool
 calm:Bool
 pn:aB
 xe:aC
def frs(l:fU):fP:=l.filterMap (·.frame)
abbrev Cx.fs(X:Cx):fP:=frs X.outer
def Vis(sc:Scope)(x:Str):Prop:=sc.names.lookup x=aa .local\/sc.names.lookup x=aa .cell\/sc.names.lookup x=aa .free
def Loc(sc:Scope)(x:Str):Prop:=sc.names.lookup x=aa .local\/sc.names.lookup x=aa .cell
def Look(env:Env)(h:aV)(m:aE)(x:Str)(u:ao):Prop:=
 (env.kindOf x=aa .local/\m x=aa u)\/((env.kindOf x=aa .cell\/env.kindOf x=aa .free)/\∃c,env.cells.lookup x=aa c/\h.IsCell c (aa u))
structure Cx.Ok(X:Cx):Prop where
 mod:Mod X.K X.mg X.base
 kind:X.env.scope.kind=.function
 glob:X.env.globals=az
 blt:X.env.builtins=dU
 above:X.s₀.heap.objs.size<=X.env.locals
 inj:∀x y c,X.env.cells.lookup x=aa c->X.env.cells.lookup y=aa c->x=y
 has:∀x,(X.env.kindOf x=aa .cell\/X.env.kindOf x=aa .free)->∃c,X.env.cells.lookup x=aa c
 cab:∀x c,X.fn x=ac->X.env.cells.lookup x=aa c->X.s₀.heap.objs.size<=c
 hd:X.calm=ac->X.A.handled=ag
 frames:X.A.frames=aa X.stack
 stk:X.stack=X.outer\/(X.stack=X.env::X.outer/\X.env.frame=aa X.env.locals)
 exf:∀b∈X.ex,b≠X.env.locals/\∀x c,X.env.cells.lookup x=aa c->c≠b
 bs:∀b o,X.base.get? b=aa o->X.s₀.heap.get? b=aa o/\X.H₀ b=ag
 bsz:X.base.objs.size<=X.s₀.heap.objs.size
 noex:∀b o,X.base.get? b=aa o->b∉X.ex
 exfs:∀b∈X.ex,b∉X.fs
 funs:X.s₀.heap.FunFrames X.base X.outer
 frf:∀b∈X.fs,X.H₀ b=ag
structure Inv(X:Cx)(π:aB)(σ:List (Option V))(H:Hp)(s:am):Prop where
 ok:X.Ok
 os:s.os=X.s₀.os
 bare:eE s.gens
 base:Un X.fs X.ex X.H₀ H X.s₀.heap s.heap
 loc:∃m,s.heap.Ns X.env.locals m/\∀(i:Nat)(x:Str)(v:V),X.N[i]?=aa x->σ[i]?=aa (aa v)->Vis X.env.scope x->∃u,RelV v u/\Look X.env s.heap m x u
 cell:∀x c,X.env.cells.lookup x=aa c->∃v,s.heap.IsCell c v
 free:H X.env.locals=ag
 freeC:∀x c,X.env.cells.lookup x=aa c->H c=ag
 pin:∀p∈X.pn++π,s.heap.get? p.1=aa p.2/\H p.1=ag/\p.1≠X.env.locals/\p.1∉X.fs/\∀v,p.2.data ≠ .cell v
 hok:HOk X.prog X.w H s.heap
 len:σ.length=X.N.length
section
variable {X:Cx}{π:aB}{σ:List (Option V)}{H H':Hp}{s:am}{h':aV}
theorem Cx.Ok.nofr(ok:X.Ok){b:aj}{o:Obj}(e:X.base.get? b=aa o):b∉X.fs:=λhb=>by
 have:=(ok.funs.mem hb).1;rw[e]at this;cases this
theorem Inv.bs(I:Inv X π σ H s):∀b o,X.base.get? b=aa o->s.heap.get? b=aa o/\H b=ag:=λb o e=>
 ⟨I.base.keep b o (I.ok.bs b o e).1 (I.ok.bs b o e).2 (I.ok.nofr e) (I.ok.noex b o e),I.base.free b o (I.ok.bs b o e).1 (I.ok.bs b o e).2 (I.ok.noex b o e)⟩
theorem Inv.bk(I:Inv X π σ H s):∀b o,X.base.get? b=aa o->s.heap.get? b=aa o:=λb o e=>(I.bs b o e).1
theorem Inv.mod(I:Inv X π σ H s):Mod X.K X.mg X.base:=I.ok.mod
theorem Inv.kIn(I:Inv X π σ H s):X.K.In s.heap:=I.ok.mod.kin.keeps I.bk
theorem Inv.fr(I:Inv X π σ H s):∃m,Fr X.base X.env.locals s.heap m:=
 let ⟨m,hn,_⟩:=I.loc
 ⟨m,hn,I.bk,wF I.ok.bsz I.ok.above⟩
theorem Inv.lt(I:Inv X π σ H s):X.env.locals<s.heap.objs.size:=let ⟨_,hn,_⟩:=I.loc;hn.lt
theorem Inv.sz(I:Inv X π σ H s):X.s₀.heap.objs.size<=s.heap.objs.size:=wF I.ok.above (vX I.lt)
theorem Inv.nofs(I:Inv X π σ H s){a:aj}(h:s.heap.objs.size<=a):a∉X.fs:=λhb=>by
 obtain⟨_,o,ho,_⟩:=I.ok.funs.mem hb;exact aN (ww (wt ho) (wF I.sz h)) (vG _)
theorem Inv.cne(I:Inv X π σ H s):∀x c,X.env.cells.lookup x=aa c->c≠X.env.locals:=λx c e z=>by
 obtain⟨v,o,ho,hd⟩:=I.cell x c e;obtain⟨m,⟨o',es,ep,ho',hd',_⟩,_⟩:=I.loc;rw[z,ho']at ho;cases ho;rw[hd']at hd;cases hd
theorem Inv.funs(I:Inv X π σ H s):s.heap.FunFrames X.base X.outer:=by
 have all:∀(l:fU),(∀b∈frs l,b∈X.fs)->X.s₀.heap.FunFrames X.base l->s.heap.FunFrames X.base l:=by
  intro l
  induction l with
  |nil=>intro _ _;trivial
  |cons env r ih=>
   intro hs hl;obtain⟨hk,⟨L,o,hf,hn,ho,hd⟩,hr⟩:=hl;have hL:L∈X.fs:=hs L (by unfold frs;rw[w04,hf];exact we);obtain⟨sl,e⟩:=I.base.slot L o ho (I.ok.frf L hL) hL λz=>I.ok.exfs L z hL;exact⟨hk,⟨L,_,hf,hn,e,hd⟩,ih (λb hb=>hs b (by unfold frs;rw[w04,hf];exact wc _ hb)) hr⟩
 exact all X.outer (λ_ hb=>hb) I.ok.funs
theorem Inv.stack(I:Inv X π σ H s):s.heap.FunFrames X.base X.stack:=by
 rcases I.ok.stk with e|⟨e,hf⟩
 .rw[e];exact I.funs
 .rw[e];obtain⟨m,hn,_⟩:=I.loc;refine .cons (by rw[I.ok.kind];decide) hf hn ?_ I.funs;exact vS (wF I.ok.bsz I.ok.above)
theorem Inv.stkSub(I:Inv X π σ H s):∀b∈frs X.stack,b∈X.env.locals::X.fs:=λb hb=>by
 rcases I.ok.stk with e|⟨e,hf⟩
 .rw[e]at hb;exact wc _ hb
 .rw[e]at hb;unfold frs at hb;rw[w04,hf]at hb;exact hb
theorem Inv.stkFree(I:Inv X π σ H s):∀b∈frs X.stack,H b=ag:=λb hb=>by
 rcases wn.mp (I.stkSub b hb)with e|hb
 .rw[e];exact I.free
 .obtain⟨_,o,ho,_⟩:=I.ok.funs.mem hb;exact I.base.free b o ho (I.ok.frf b hb) λz=>I.ok.exfs b z hb
theorem Inv.step{g':Array GenState}{t':Nat}{d':Drawn}{ch:fP}(I:Inv X π σ H s)
   (hch:∀b∈ch,(b∈X.ex\/X.s₀.heap.objs.size<=b)/\b≠X.env.locals/\(∀x c,X.env.cells.lookup x=aa c->c≠b)/\∀p∈X.pn++π,p.1≠b)
   (keep:∀b o,b≠X.env.locals->b∉X.fs->b∉ch->s.heap.get? b=aa o->H b=ag->h'.get? b=aa o)
   (slot:∀b o,b≠X.env.locals->b∈X.fs->b∉ch->s.heap.get? b=aa o->H b=ag->∃sl,h'.get? b=aa { o with slots:=sl }) (free:∀b o,b∉ch->s.heap.get? b=aa o->H b=ag->H' b=ag)
   (there:∀b o,b∉ch->s.heap.get? b=aa o->∃o',h'.get? b=aa o')
   (tups:∀b xs,H b=aa (.tup xs)->H' b=aa (.tup xs)) (frzs:∀b o u,H b=aa (.frz o u)->H' b=aa (.frz o u)) (tbls:∀b ps,H b=aa (.tbl ps)->∃more,H' b=aa (.tbl (ps++more)))
   (ns:∀m,s.heap.Ns X.env.locals m->h'.Ns X.env.locals m) (hok:HOk X.prog X.w H' h') (hg:eE g') :
   Inv X π σ H' { s with heap:=h',gens:=g',drawn:=d',toks:=t' }:=by
 have neL:∀b o,X.s₀.heap.get? b=aa o->b≠X.env.locals:=λb o e=>wM (ww (wt e) I.ok.above);have neC:∀b o,X.s₀.heap.get? b=aa o->b∉X.ex->b∉ch:=λb o e hx hb=>by
   rcases(hch b hb).1 with z|z
   .exact hx z
   .exact aN (ww (wt e) z) (vG _)
 have cellK:∀x c,X.env.cells.lookup x=aa c->∀v,s.heap.IsCell c v->h'.IsCell c v:=λx c e v⟨o,ho,hd⟩=>by
   have nch:c∉ch:=λz=>(hch c z).2.2.1 x c e rfl;by_cases hc:c∈X.fs
   .obtain⟨sl,q⟩:=slot c o (I.cne x c e) hc nch ho (I.freeC x c e);exact⟨_,q,hd⟩
   .exact⟨o,keep c o (I.cne x c e) hc nch ho (I.freeC x c e),hd⟩
 refine⟨I.ok,I.os,hg,⟨λb o e n hb hx=>?_,λb o e n hb hx=>?_,λb o e n hx=>?_,λb o e hx=>?_,λb xs e=>tups b xs (I.base.tups b xs e),λb o xs e=>frzs b o xs (I.base.frzs b o xs e),λb ps e=>?_⟩,?_,λx c e=>?_,?_,λx c e=>?_,λp hp=>?_,hok,I.len⟩
 .exact keep b o (neL b o e) hb (neC b o e hx) (I.base.keep b o e n hb hx) (I.base.free b o e n hx)
 .obtain⟨sl,e1⟩:=I.base.slot b o e n hb hx;obtain⟨sl',e2⟩:=slot b _ (neL b o e) hb (neC b o e hx) e1 (I.base.free b o e n hx);exact⟨sl',e2⟩
 .obtain⟨o',e1⟩:=I.base.there b o e hx;exact free b o' (neC b o e hx) e1 (I.base.free b o e n hx)
 .obtain⟨o',e1⟩:=I.base.there b o e hx;exact there b o' (neC b o e hx) e1
 .obtain⟨m1,e1⟩:=I.base.tbls b ps e;obtain⟨m2,e2⟩:=tbls b _ e1;exact⟨m1++m2,by rw[e2,Array.append_assoc]⟩
 .obtain⟨m,hn,hl⟩:=I.loc;refine⟨m,ns m hn,λi x v e1 e2 e3=>?_⟩;obtain⟨u,r,l⟩:=hl i x v e1 e2 e3;refine⟨u,r,?_⟩;rcases l with l|⟨k,c,e,z⟩
  .exact .inl l
  .exact .inr ⟨k,c,e,cellK x c e _ z⟩
 .obtain⟨v,z⟩:=I.cell x c e;exact⟨v,cellK x c e v z⟩
 .obtain⟨m,⟨o,_,_,ho,_⟩,_⟩:=I.loc;exact free _ o (λz=>(hch _ z).2.1 rfl) ho I.free
 .obtain⟨v,o,ho,hd⟩:=I.cell x c e;exact free c o (λz=>(hch c z).2.2.1 x c e rfl) ho (I.freeC x c e)
 .obtain⟨e,n,ne,nf,d⟩:=I.pin p hp;have nch:p.1∉ch:=λz=>(hch p.1 z).2.2.2 p hp rfl;exact⟨keep p.1 p.2 ne nf nch e n,free p.1 p.2 nch e n,ne,nf,d⟩
theorem Inv.un{t':Nat}(I:Inv X π σ H s)(u:Un X.fs [] H H' s.heap h')(hok:HOk X.prog X.w H' h'):Inv X π σ H' { s with heap:=h',toks:=t' }:=by
 obtain⟨m,⟨o,es,ep,ho,r⟩,_⟩:=id I.loc;obtain⟨sl,hL⟩:=u.any ho I.free (by simp);exact I.step (g':=s.gens) (d':=s.drawn) (ch:=[]) (λ_ z=>nomatch z) (λb o _ hb _ e n=>u.keep b o e n hb (by simp)) (λb o _ hb _ e n=>u.slot b o e n hb (by simp)) (λb o _ e n=>u.free b o e n (by simp)) (λb o _ e=>u.there b o e (by simp)) u.tups u.frzs u.tbls (λm' hm=>by
  obtain⟨o',es',ep',ho',r'⟩:=hm;rw[ho]at ho';cases ho';exact⟨_,es',ep',hL,r'⟩) hok I.bare
theorem Inv.call{g':Array GenState}{t':Nat}{d':Drawn}{ch:fP}(I:Inv X π σ H s)(u:Un (frs X.stack) ch H H' s.heap h')(hok:HOk X.prog X.w H' h')(hg:eE g')
  (hch:∀b∈ch,(b∈X.ex\/X.s₀.heap.objs.size<=b)/\b≠X.env.locals/\(∀x c,X.env.cells.lookup x=aa c->c≠b)/\∀p∈X.pn++π,p.1≠b) :
  Inv X π σ H' { s with heap:=h',gens:=g',drawn:=d',toks:=t' }:=by
 obtain⟨m,⟨o,es,ep,ho,r⟩,_⟩:=id I.loc;obtain⟨sl,hL⟩:=u.any ho I.free λz=>(hch _ z).2.1 rfl;exact I.step (ch:=ch) hch (λb o hL hb hc e n=>u.keep b o e n (λz=>(wn.mp (I.stkSub b z)).elim hL hb) hc) (λb o _ _ hc e n=>u.any e n hc) (λb o hc e n=>u.free b o e n hc) (λb o hc e=>u.there b o e hc) u.tups u.frzs u.tbls (λm' hm=>by
  obtain⟨o',es',ep',ho',r'⟩:=hm;rw[ho]at ho';cases ho';exact⟨_,es',ep',hL,r'⟩) hok hg
theorem Inv.turned{t':Nat}{it:aj}(I:Inv X π σ H s)(k:∀b o,b≠it->s.heap.get? b=aa o->h'.get? b=aa o)(hn:H it=ag)(hL:it≠X.env.locals)
   (h1:it∈X.ex\/X.s₀.heap.objs.size<=it) (h2:∀x c,X.env.cells.lookup x=aa c->c≠it) (h3:∀p∈X.pn++π,p.1≠it):Inv X π σ H { s with heap:=h',toks:=t' }:=by
 have nit:∀b u,H b=aa u->b≠it:=λb u e z=>by rw[z,hn]at e;cases e
 refine I.step (g':=s.gens) (d':=s.drawn) (ch:=[it]) (λb hb=>?_) (λb o _ _ hc e _=>k b o (λz=>hc (by simp[z])) e) (λb o _ _ hc e _=>⟨o.slots,k b o (λz=>hc (by simp[z])) e⟩) (λ_ _ _ _ n=>n)
   (λb o hc e=>⟨o,k b o (λz=>hc (by simp[z])) e⟩) (λ_ _ e=>e) (λ_ _ _ e=>e) (λb ps e=>⟨#[],by rw[e];simp⟩) (λm hm=>?_) (λb u e=>?_) I.bare
 .have e:b=it:=by simpa using hb
  subst e;exact⟨h1,hL,h2,h3⟩
 .obtain⟨o,es,ep,ho,r⟩:=hm;exact⟨o,es,ep,k _ o (bL hL) ho,r⟩
 .refine(I.hok b u e).stay (λc v hc q=>k c v ?_ q) (λ_ q=>q) λ_ _ q=>q;rcases hc with z|z
  .rw[z];exact nit b u e
  .exact nit c _ z
theorem Inv.tok(I:Inv X π σ H s)(t:Nat):Inv X π σ H { s with toks:=t }:=I.un (h':=s.heap) (t':=t) Un.refl I.hok
theorem Inv.kept{t':Nat}(I:Inv X π σ H s)(k:∀b u,s.heap.get? b=aa u->h'.get? b=aa u):Inv X π σ H { s with heap:=h',toks:=t' }:=I.un (Un.kept k) (I.hok.kept k)
theorem Inv.laid{a:aj}{o:HO}{t':Nat}(I:Inv X π σ H s)(k:∀b u,s.heap.get? b=aa u->h'.get? b=aa u)(hp:s.heap.objs.size<=a)(new:ObjOk X.prog X.w (upd H a o) h' a o):
 Inv X π σ (upd H a o) { s with heap:=h',toks:=t' }:=I.un (Un.laid k hp (I.hok.fresh hp)) (I.hok.laid k hp new)
theorem Inv.write{x e:aj}{o:HO}{t':Nat}(I:Inv X π σ H s)(mu:Mut (H x))(he:e=x\/H e=aa (.own x))(k:∀b u,b≠e->s.heap.get? b=aa u->h'.get? b=aa u)(heo:∃u,h'.get? e=aa u)
 (new:ObjOk X.prog X.w (upd H x o) h' x o):Inv X π σ (upd H x o) { s with heap:=h',toks:=t' }:=I.un (Un.write mu he k heo) (I.hok.write mu he k heo new)
theorem Inv.weak{σ':List (Option V)}(I:Inv X π σ H s)(hl:σ'.length=σ.length)(w:∀(i:Nat)v,σ'[i]?=aa (aa v)->σ[i]?=aa (aa v)):Inv X π σ' H s:=
 ⟨I.ok,I.os,I.bare,I.base,let ⟨m,hn,hl'⟩:=I.loc;⟨m,hn,λi x v e1 e2 e3=>hl' i x v e1 (w i v e2) e3⟩,I.cell,I.free,I.freeC,I.pin,I.hok,hl.trans I.len⟩
theorem Inv.pins_of{pins':aB}(I:Inv X π σ H s)(h:∀p∈pins',s.heap.get? p.1=aa p.2/\H p.1=ag/\p.1≠X.env.locals/\p.1∉X.fs/\∀v,p.2.data ≠ .cell v):Inv X pins' σ H s:=
 ⟨I.ok,I.os,I.bare,I.base,I.loc,I.cell,I.free,I.freeC,λp hp=>(wu.mp hp).elim (λz=>I.pin p (uB _ z)) (h p),I.hok,I.len⟩
theorem JZ{N:fO}(hN:N.Nodup){i j:Nat}{x:Str}(a:N[i]?=aa x)(b:N[j]?=aa x):i=j:=by
 obtain⟨h1,e1⟩:=vF.mp a;obtain⟨h2,e2⟩:=vF.mp b;exact(List.getElem_inj hN).mp (e1.trans e2.symm)
theorem MX{M:Model}{A:bj}{E:aC}{i:Nat}{x:Str}{v:V}{u:ao}{Q:Unit->am->Prop}(I:Inv X π σ H s)(hN:X.N.Nodup)(hi:X.N[i]?=aa x)(hx:Loc X.env.scope x)(r:RelV v u)
   (h:∀s',Inv X π (σ.set i (aa v)) H s'->(∃a,dD a s.heap s'.heap/\(a=X.env.locals\/X.env.cells.lookup x=aa a))->Q () s') (hf:X.fn x=ac\/X.env.scope.names.lookup x=aa .local:=by first|exact .inl rfl|exact .inr rfl|assumption):ay M A (storeName X.env x u) Q E s:=by
 obtain⟨m,hn,hl⟩:=id I.loc;have hcls:(X.env.scope.kind==.class||(X.env.scope.kind==.module&&X.env.locals != X.env.globals))=af:=by rw[I.ok.kind];rfl
 have hiσ:i<σ.length:=by rw[I.len];exact(vF.mp hi).1
 have cne:=I.cne;have tracked:∀{a:aj}{h':aV},(∃o,s.heap.get? a=aa o/\H a=ag)->dD a s.heap h'->HOk X.prog X.w H h':=λ{a h'}ha hs b ob e=>by
   obtain⟨_,_,hfree⟩:=ha;refine(I.hok b ob e).stay (λc w' hc q=>(hs.2 c ?_).trans q) (λ_ q=>q) λ_ _ q=>q;rintro rfl;rcases hc with rfl|hc
   .rw[hfree]at e;cases e
   .rw[hfree]at hc;cases hc
 rcases hx with hk|hk
 .refine wpAny_storeName_local hk hn (λh' hn' hs=>?_) hcls;obtain⟨oL,_,_,hoL,_⟩:=id hn;refine h _ ⟨I.ok,I.os,I.bare,⟨λb o e n hb hx=>?_,λb o e n hb hx=>?_,I.base.free,λb o e hx=>?_,I.base.tups,I.base.frzs,I.base.tbls⟩,⟨_,hn',λj y v' e1 e2 e3=>?_⟩,λy c e=>?_,I.free,I.freeC,λp hp=>?_,tracked ⟨oL,hoL,I.free⟩ hs,by simpa using I.len⟩ ⟨_,hs,.inl rfl⟩
  .exact(hs.2 b (wM (ww (wt e) I.ok.above))).trans (I.base.keep b o e n hb hx)
  .obtain⟨sl,e1⟩:=I.base.slot b o e n hb hx;exact⟨sl,(hs.2 b (wM (ww (wt e) I.ok.above))).trans e1⟩
  .obtain⟨o',e1⟩:=I.base.there b o e hx;exact⟨o',(hs.2 b (wM (ww (wt e) I.ok.above))).trans e1⟩
  .by_cases hj:j=i
   .subst hj;rw[hi]at e1;cases e1;rw[uO hiσ]at e2;cases e2;exact⟨u,r,.inl ⟨hk,by simp⟩⟩
   .rw[vg (bL hj)]at e2;obtain⟨u',r',q⟩:=hl j y v' e1 e2 e3;refine⟨u',r',?_⟩;rcases q with⟨k,e⟩|⟨k,c,e,z⟩
    .refine .inl ⟨k,?_⟩;have:y≠x:=λe=>hj (JZ hN e1 (e ▸ hi));simp[this,e]
    .exact .inr ⟨k,c,e,z.sameBut hs (cne y c e)⟩
  .obtain⟨w',z⟩:=I.cell y c e;exact⟨w',z.sameBut hs (cne y c e)⟩
  .obtain⟨e,n,ne,nf,d⟩:=I.pin p hp;exact⟨(hs.2 p.1 ne).trans e,n,ne,nf,d⟩
 .have hfn:X.fn x=ac:=by
    rcases hf with z|z
    .exact z
    .rw[z]at hk;cases hk
  obtain⟨c,hc⟩:=I.ok.has x (.inl hk);obtain⟨w',z⟩:=I.cell x c hc;refine wpAny_storeName_cell I.ok.kind hk hc z (λh' hc' hs=>?_);obtain⟨oc,hoc,hocd⟩:=id z;refine h { s with heap:=h' } ⟨I.ok,I.os,I.bare,⟨λb o e n hb hx=>?_,λb o e n hb hx=>?_,I.base.free,λb o e hx=>?_,I.base.tups,I.base.frzs,I.base.tbls⟩,⟨m,hn.sameBut hs (bL (cne x c hc)),λj y v' e1 e2 e3=>?_⟩,λy c' e=>?_,I.free,I.freeC,λp hp=>?_,tracked ⟨oc,hoc,I.freeC x c hc⟩ hs,by simpa using I.len⟩ ⟨c,hs,.inr hc⟩
  .exact(hs.2 b (wM (ww (wt e) (I.ok.cab x c hfn hc)))).trans (I.base.keep b o e n hb hx)
  .obtain⟨sl,e1⟩:=I.base.slot b o e n hb hx;exact⟨sl,(hs.2 b (wM (ww (wt e) (I.ok.cab x c hfn hc)))).trans e1⟩
  .obtain⟨o',e1⟩:=I.base.there b o e hx;exact⟨o',(hs.2 b (wM (ww (wt e) (I.ok.cab x c hfn hc)))).trans e1⟩
  .by_cases hj:j=i
   .subst hj;rw[hi]at e1;cases e1;rw[uO hiσ]at e2;cases e2;exact⟨u,r,.inr ⟨.inl hk,c,hc,hc'⟩⟩
   .rw[vg (bL hj)]at e2;obtain⟨u',r',q⟩:=hl j y v' e1 e2 e3;refine⟨u',r',?_⟩;rcases q with q|⟨k,c',e,z'⟩
    .exact .inl q
    .refine .inr ⟨k,c',e,z'.sameBut hs ?_⟩;rintro rfl;exact hj (JZ hN e1 (I.ok.inj _ _ _ e hc ▸ hi))
  .by_cases hcc:c'=c
   .subst hcc;exact⟨_,hc'⟩
   .obtain⟨w2,z2⟩:=I.cell y c' e;exact⟨w2,z2.sameBut hs hcc⟩
  .obtain⟨e,n,ne,nf,d⟩:=I.pin p hp;refine⟨(hs.2 p.1 ?_).trans e,n,ne,nf,d⟩;intro q;rw[q,hoc]at e;have q':oc=p.2:=aP e;exact d w' (by rw[<-q'];exact hocd)
theorem Kb{M:Model}{A:bj}{E:aC}{i:Nat}{x:Str}{v:V}{u:ao}{Q:Unit->am->Prop}(I:Inv X π σ H s)(hN:X.N.Nodup)(hi:X.N[i]?=aa x)(hx:Loc X.env.scope x)(r:RelV v u)
  (h:∀s',Inv X π (σ.set i (aa v)) H s'->Q () s') (hf:X.fn x=ac\/X.env.scope.names.lookup x=aa .local:=by first|exact .inl rfl|exact .inr rfl|assumption):ay M A (storeName X.env x u) Q E s:=
 MX I hN hi hx r (λs' I' _=>h s' I') hf
theorem Inv.call'{s':am}{ch:fP}(I:Inv X π σ H s)(ho:s'.os=s.os)(u:Un (frs X.stack) ch H H' s.heap s'.heap)(hok:HOk X.prog X.w H' s'.heap)(hg:eE s'.gens)
  (hch:∀b∈ch,(b∈X.ex\/X.s₀.heap.objs.size<=b)/\b≠X.env.locals/\(∀x c,X.env.cells.lookup x=aa c->c≠b)/\∀p∈X.pn++π,p.1≠b):Inv X π σ H' s':=by
 obtain⟨h',g',d',t',o'⟩:=s';have e:o'=s.os:=ho;subst e;exact I.call (g':=g') (t':=t') (d':=d') u hok hg hch
end
abbrev XK:=ao->fZ->Hp->Prop
abbrev St:=List (Option V)
abbrev VK:=V->Hp->Prop
abbrev TE:=St->Hp->VK->Prop
abbrev TT:=St->Hp->(Bool->Hp->Prop)->Prop
abbrev TA:=St->Hp->(gg->Hp->Prop)->Prop
structure Ends where
 nx:St->Hp->Prop
 rt:VK
 bk:St->Hp->Prop:=λ_ _=>False
 ct:St->Hp->Prop:=λ_ _=>False
abbrev TS:=Ends->St->Hp->Prop
def EP(X:Cx)(π:aB)(σ:St)(Q:VK)(u:ao)(s':am):Prop:=∃v H',Inv X π σ H' s'/\RelV v u/\Q v H'
def TP(X:Cx)(π:aB)(σ:St)(Q:Bool->Hp->Prop)(b:Bool)(s':am):Prop:=∃H',Inv X π σ H' s'/\Q b H'
def AP(X:Cx)(π:aB)(σ:St)(Q:gg->Hp->Prop)(us:aF)(s':am):Prop:=∃vs H',Inv X π σ H' s'/\Vals vs us/\Q vs H'
def SP(X:Cx)(π:aB)(D:Ends)(f:Flow)(s':am):Prop:=
 match f with
 |.next=>∃σ' H',Inv X π σ' H' s'/\D.nx σ' H'
 |.brk=>∃σ' H',Inv X π σ' H' s'/\D.bk σ' H'
 |.cont=>∃σ' H',Inv X π σ' H' s'/\D.ct σ' H'
 |.ret u=>∃v σ' H',Inv X π σ' H' s'/\RelV v u/\D.rt v H'
def PE(X:Cx)(e:aK)(t:TE):Prop:=
 ∀(π:aB)(s:am)(σ:St)(H:Hp)(Q:VK),Inv X π σ H s->t σ H Q->ay (model X.prog X.w) X.A (eval e X.env) (EP X π σ Q) X.xe s
def PT(X:Cx)(e:aK)(t:TT):Prop:=
 ∀(π:aB)(s:am)(σ:St)(H:Hp)(Q:Bool->Hp->Prop),Inv X π σ H s->t σ H Q->ay (model X.prog X.w) X.A (isTrue e X.env (eval e X.env)) (TP X π σ Q) X.xe s
def PW(X:Cx)(e:aK)(t:TT):Prop:=
 ∀(whole:Sem ao)(π:aB)(s:am)(σ:St)(H:Hp)(Q:Bool->Hp->Prop),Inv X π σ H s->t σ H Q->ay (model X.prog X.w) X.A (isTrue e X.env whole) (TP X π σ Q) X.xe s
theorem PW.pt{X:Cx}{e:aK}{t:TT}(h:PW X e t):PT X e t:=h _
def PA(X:Cx)(es:fR)(t:TA):Prop:=
 ∀(pos:Pos)(π:aB)(s:am)(σ:St)(H:Hp)(Q:gg->Hp->Prop),Inv X π σ H s->t σ H Q->ay (model X.prog X.w) X.A (spliced (bH pos (aq es X.env))) (AP X π σ Q) X.xe s
def PS(X:Cx)(st:aJ)(t:TS):Prop:=
 ∀(π:aB)(s:am)(σ:St)(H:Hp)(D:Ends),Inv X π σ H s->t D σ H->ay (model X.prog X.w) X.A (exec st X.env) (SP X π D) X.xe s
def PSs(X:Cx)(st:fT)(t:TS):Prop:=
 ∀(π:aB)(s:am)(σ:St)(H:Hp)(D:Ends),Inv X π σ H s->t D σ H->ay (model X.prog X.w) X.A (execs st X.env) (SP X π D) X.xe s
theorem thn{α:Type}{t:Sem α}{Q Q':α->am->Prop}{M:Model}{A:bj}{E:aC}{s:am}(h:ay M A t Q E s)(hQ:∀a s,Q a s->Q' a s):ay M A t Q' E s:=bu h hQ λ_ _ x=>x
end L2
namespace L2
section
variable {X:Cx}
def tVar(i:Nat):TE:=λσ H Q=>∃v,σ[i]?=aa (aa v)/\Q v H
def tC(v:V):TE:=λ_ H Q=>Q v H
theorem AV{i:Nat}{x:Str}{pos:Pos}(hN:X.N[i]?=aa x)(hv:Vis X.env.scope x)(hd:(x==("__debug__":Str))=af:=by decide)(hcd:(x==("__classdict__":Str))=af:=by decide):PE X (.Name x pos) (tVar i):=by
 intro π s σ H Q I h;obtain⟨v,e,h⟩:=h;obtain⟨m,hn,hl⟩:=I.loc;obtain⟨u,r,l⟩:=hl i x v hN e hv;have fin:EP X π σ Q u s:=⟨v,H,I,r,h⟩;rcases l with⟨hk,hm⟩|⟨hk,c,hc,hcell⟩
 .exact wpAny_Name (wpAny_loadName_local I.ok.kind hk hn hm fin) hd
 .rcases hk with hk|hk
  .exact wpAny_Name (wpAny_loadName_cell I.ok.kind hk hc hcell fin) hd
  .exact wpAny_Name (wpAny_loadName_free I.ok.kind hk hc hcell fin hcd) hd
theorem z0V{i j pos}:PE X (.Constant (.int i) j pos) (tC (.int i)):=λ_ _ _ H _ I h=>wpAny_Constant_int ⟨.int i,H,I.tok _,⟨_,rfl⟩,h⟩
theorem pe_bl{b j pos}:PE X (.Constant (.bool b) j pos) (tC (.bl b)):=λ_ _ _ H _ I h=>Constant_bool ⟨.bl b,H,I,rfl,h⟩
theorem pe_non{j pos}:PE X (.Constant .none j pos) (tC .non):=λ_ _ _ H _ I h=>Constant_none ⟨.non,H,I,rfl,h⟩
theorem pe_str{x j pos}:PE X (.Constant (.str x) j pos) (tC (.str x)):=λ_ _ _ H _ I h=>Calls.Constant_str ⟨.str x,H,I.tok _,⟨_,rfl⟩,h⟩
def Gl(X:Cx)(x:Str):Prop:=X.env.kindOf x=aa .globalImplicit
theorem Gg{E:aC}{π:aB}{s:am}{σ:St}{H:Hp}{x:Str}{u:ao}{pos:Pos}{Q:aC}(I:Inv X π σ H s)(hg:Gl X x)(hm:X.mg x=aa u)(h:Q u s)
  (hd:(x==("__debug__":Str))=af:=by decide):ay (model X.prog X.w) X.A (eval (.Name x pos) X.env) Q E s:=
 Calls.Name_function_global I.ok.kind hg (Calls.loadGlobal_global (by rw[I.ok.glob];exact I.mod.glob.keeps I.bk) hm h) hd
theorem BO{E:aC}{π:aB}{s:am}{σ:St}{H:Hp}{x:Str}{u:ao}{pos:Pos}{Q:aC}(I:Inv X π σ H s)(hg:Gl X x)(hm:X.mg x=ag)(hv:bz x=aa u)(h:Q u s)
  (hn:x ≠ "__name__":=by decide) (hd:(x==("__debug__":Str))=af:=by decide):ay (model X.prog X.w) X.A (eval (.Name x pos) X.env) Q E s:=by
 obtain⟨mb,h1,h2⟩:=I.mod.blt;exact Calls.Name_function_global I.ok.kind hg (Calls.loadGlobal_builtin (by rw[I.ok.glob];exact I.mod.glob.keeps I.bk) hm (by rw[I.ok.blt];exact h1.keeps I.bk) ((h2 x hn).trans hv) h) hd
theorem Yc{x:Str}{v:V}{u:ao}{pos:Pos}(hg:Gl X x)(hm:X.mg x=aa u)(r:RelV v u)(hd:(x==("__debug__":Str))=af:=by decide):PE X (.Name x pos) (tC v):=
 λ_ _ _ H _ I h=>Gg I hg hm ⟨v,H,I,r,h⟩ hd
theorem z4r{x:Str}{v:V}{u:ao}{pos:Pos}(hg:Gl X x)(hm:X.mg x=ag)(hv:bz x=aa u)(r:RelV v u)(hn:x ≠ "__name__":=by decide)(hd:(x==("__debug__":Str))=af:=by decide):PE X (.Name x pos) (tC v):=
 λ_ _ _ H _ I h=>BO I hg hm hv ⟨v,H,I,r,h⟩ hn hd
variable {a b:aK}{ta tb:TE}{pos:Pos}
def tB(t:TE):TT:=λσ H Q=>t σ H λx H1=>∃c,x=.bl c/\Q c H1
theorem pt_val{e:aK}{t:TE}(h:PE X e t)(he:∀whole,isTrue e X.env whole=(do let v <-whole;eM e.pos;holding [v] (truthy v)):=by intro _;rfl):PT X e (tB t):=by
 intro π s σ H Q I hw;refine isTrue_plain (thn (h π s σ H _ I hw) λv s1⟨x,H1,I1,r1,q1⟩=>?_) (he _);obtain⟨d,rfl,q⟩:=q1;cases r1;exact bW ⟨H1,I1,q⟩
variable {tA tB':TT}{rest:fR}
def tAnd(t u:TT):TT:=λσ H Q=>t σ H λc H1=>if c=ac then u σ H1 Q else Q af H1
def tOr(t u:TT):TT:=λσ H Q=>t σ H λc H1=>if c=ac then Q ac H1 else u σ H1 Q
def tNot(t:TT):TT:=λσ H Q=>t σ H λc H1=>Q (!c) H1
theorem z4s(ha:PT X a tA):PW X (.BoolOp .And [a] pos) tA:=by
 intro wh π s σ H Q I h;refine isTrue_and (thn (ha π s σ H Q I h) λc s1 e=>?_);cases c with
 |true=>exact isTrue_and_nil e
 |false=>exact e
theorem pw_or1(ha:PT X a tA):PW X (.BoolOp .Or [a] pos) tA:=by
 intro wh π s σ H Q I h;refine isTrue_or (thn (ha π s σ H Q I h) λc s1 e=>?_);cases c with
 |false=>exact isTrue_or_nil e
 |true=>exact e
theorem pw_and(ha:PT X a tA)(hb:PW X (.BoolOp .And (b::rest) pos) tB'):PW X (.BoolOp .And (a::b::rest) pos) (tAnd tA tB'):=by
 intro wh π s σ H Q I h;refine isTrue_and (thn (ha π s σ H _ I h) ?_);rintro c s1 ⟨H1,I1,q1⟩;cases c with
 |true=>exact hb wh π s1 σ H1 Q I1 q1
 |false=>exact⟨H1,I1,q1⟩
theorem pw_or(ha:PT X a tA)(hb:PW X (.BoolOp .Or (b::rest) pos) tB'):PW X (.BoolOp .Or (a::b::rest) pos) (tOr tA tB'):=by
 intro wh π s σ H Q I h;refine isTrue_or (thn (ha π s σ H _ I h) ?_);rintro c s1 ⟨H1,I1,q1⟩;cases c with
 |true=>exact⟨H1,I1,q1⟩
 |false=>exact hb wh π s1 σ H1 Q I1 q1
theorem z0W(ha:PT X a tA):PT X (.UnaryOp .Not a pos) (tNot tA):=by
 intro π s σ H Q I h;exact isTrue_not (ha π s σ H (λc H1=>Q (!c) H1) I h)
def tAndV(ta tb:TE):TE:=λσ H Q=>ta σ H λx H1=>∃c,x=.bl c/\if c=ac then tb σ H1 Q else Q (.bl af) H1
def tNotV(ta:TE):TE:=λσ H Q=>ta σ H λx H1=>∃c,x=.bl c/\Q (.bl (!c)) H1
theorem pe_one{op}{t:TE}(h:PE X a t):PE X (.BoolOp op [a] pos) t:=λπ s σ H Q I hw=>BoolOp_one (h π s σ H Q I hw)
theorem pe_and(ha:PE X a ta)(hb:PE X (.BoolOp .And (b::rest) pos) tb):PE X (.BoolOp .And (a::b::rest) pos) (tAndV ta tb):=by
 intro π s σ H Q I h;refine BoolOp_and (thn (ha π s σ H _ I h) ?_);rintro v s1 ⟨x,H1,I1,r1,q1⟩;obtain⟨c,rfl,q1⟩:=q1;cases r1;refine bW ?_;cases c with
 |true=>exact hb π s1 σ H1 Q I1 q1
 |false=>exact⟨.bl af,H1,I1,rfl,q1⟩
theorem pe_not(ha:PE X a ta):PE X (.UnaryOp .Not a pos) (tNotV ta):=by
 intro π s σ H Q I h;refine UnaryOp_ (thn (ha π s σ H _ I h) ?_);rintro v s1 ⟨x,H1,I1,r1,q1⟩;obtain⟨c,rfl,q1⟩:=q1;cases r1;exact not_of (bW ⟨.bl (!c),H1,I1,rfl,q1⟩)
def tIf(t:TT)(ta tb:TE):TE:=λσ H Q=>t σ H λc H1=>if c=ac then ta σ H1 Q else tb σ H1 Q
theorem z0X{c:aK}(hc:PT X c tA)(ha:PE X a ta)(hb:PE X b tb):PE X (.IfExp c a b pos) (tIf tA ta tb):=by
 intro π s σ H Q I h;refine wpAny_IfExp (thn (hc π s σ H _ I h) ?_);rintro d s1 ⟨H1,I1,q1⟩;cases d with
 |true=>exact ha π s1 σ H1 Q I1 q1
 |false=>exact hb π s1 σ H1 Q I1 q1
end
end L2
namespace L2
def SqL(K:aD)(H:Hp)(a:aj)(xs:gg):Prop:=
 Rd H a (.lst xs) \/
  ∃(o:Obj)(its:fV)(n:Nat),K.lookup a=aa o/\o.cls=.type "list" /\ o.dict=ag/\o.data=.seq its n/\its.size<=sizeLine/\Vals xs its.toList
def SqT(K:aD)(H:Hp)(a:aj)(xs:gg):Prop:=
 Rd H a (.tup xs) \/
  ∃(o:Obj)(its:fV)(n:Nat),K.lookup a=aa o/\o.cls=.type "tuple" /\ o.data=.seq its n/\its.size<=sizeLine/\Vals xs its.toList
def absV:ao->Option V
 |.none=>aa .non
 |.bool b=>aa (.bl b)
 |.int i _=>aa (.int i)
 |.str x _=>aa (.str x)
 |.bytes b _=>aa (.byt b)
 |.float b _=>aa (.flt b)
 |.ref a=>aa (.ref a)
 |.type n=>aa (.ty n)
 |_=>ag
theorem RelV.abs{x:V}{u:ao}(r:RelV x u):absV u=aa x:=by
 cases x with
 |non=>cases r;rfl
 |bl _=>cases r;rfl
 |int _=>obtain⟨t,rfl⟩:=r;rfl
 |str _=>obtain⟨t,rfl⟩:=r;rfl
 |byt _=>obtain⟨t,rfl⟩:=r;rfl
 |flt _=>obtain⟨t,rfl⟩:=r;rfl
 |ref _=>cases r;rfl
 |ty _=>cases r;rfl
theorem RelV.inj{x y:V}{u:ao}(r:RelV x u)(q:RelV y u):x=y:=aP (r.abs.symm.trans q.abs)
theorem Vals.inj:∀{xs ys:gg}{us:aF},Vals xs us->Vals ys us->xs=ys
 |_,_,_,.nil,.nil=>rfl
 |_,_,_,.cons r t,.cons r' t'=>by rw[r.inj r',Vals.inj t t']
section
variable {X:Cx}{π:aB}{σ:St}{H:Hp}{s:am}{a:aj}{xs ys:gg}
theorem SqL.of{K:aD}(h:H a=aa (.lst xs)):SqL K H a xs:=.inl (.inl h)
theorem SqT.of{K:aD}(h:H a=aa (.tup xs)):SqT K H a xs:=.inl (.inl h)
theorem Inv.list(I:Inv X π σ H s)(h:SqL X.K H a xs):∃its:aF,Vals xs its/\PlainL s.heap a its.toArray/\xs.length<=sizeLine:=by
 rcases h with h|⟨o,its,n,hk,hc,hd,hs,hz,r⟩
 .obtain⟨z,its,n,r,e⟩:=h.ok I.hok;exact⟨its,r,⟨_,n,e,rfl,rfl,rfl⟩,z⟩
 .refine⟨its.toList,r,⟨o,n,I.kIn a o hk,hc,hd,by simpa using hs⟩,?_⟩;have e:=r.length;simp only[dZ]at e;rfl'
theorem Inv.tuple(I:Inv X π σ H s)(h:SqT X.K H a xs):∃its:aF,Vals xs its/\IsTup s.heap a its.toArray/\xs.length<=sizeLine:=by
 rcases h with h|⟨o,its,n,hk,hc,hs,hz,r⟩
 .obtain⟨z,its,r,p⟩:=h.ok I.hok;exact⟨its,r,p,z⟩
 .refine⟨its.toList,r,⟨o,I.kIn a o hk,hc,n,by simpa using hs⟩,?_⟩;have e:=r.length;simp only[dZ]at e;rfl'
theorem Inv.list_inj(I:Inv X π σ H s)(h:SqL X.K H a xs)(h':SqL X.K H a ys):xs=ys:=by
 obtain⟨its,r,⟨o,n,e,_,_,d⟩,_⟩:=I.list h;obtain⟨its',r',⟨o',n',e',_,_,d'⟩,_⟩:=I.list h';rw[e]at e';cases e';rw[d]at d';injection d' with d1 _
 have:its=its':=by simpa using bI Array.toList d1
 subst this;exact r.inj r'
theorem Inv.tuple_inj(I:Inv X π σ H s)(h:SqT X.K H a xs)(h':SqT X.K H a ys):xs=ys:=by
 obtain⟨its,r,⟨o,e,_,n,d⟩,_⟩:=I.tuple h;obtain⟨its',r',⟨o',e',_,n',d'⟩,_⟩:=I.tuple h';rw[e]at e';cases e';rw[d]at d';injection d' with d1 _
 have:its=its':=by simpa using bI Array.toList d1
 subst this;exact r.inj r'
end
abbrev Cx.wish(X:Cx)(E:aC):Cx:={ X with xe:=E }
abbrev Cx.nox(X:Cx):Cx:=X.wish λ_ _=>False
theorem Cx.Ok.wish{X:Cx}(ok:X.Ok)(E:aC):(X.wish E).Ok:=
 ⟨ok.mod,ok.kind,ok.glob,ok.blt,ok.above,ok.inj,ok.has,ok.cab,ok.hd,ok.frames,ok.stk,ok.exf,ok.bs,ok.bsz,ok.noex,ok.exfs,ok.funs,ok.frf⟩
theorem Cx.Ok.unwish{X:Cx}{E:aC}(ok:(X.wish E).Ok):X.Ok:=
 ⟨ok.mod,ok.kind,ok.glob,ok.blt,ok.above,ok.inj,ok.has,ok.cab,ok.hd,ok.frames,ok.stk,ok.exf,ok.bs,ok.bsz,ok.noex,ok.exfs,ok.funs,ok.frf⟩
section
variable {X:Cx}{π:aB}{σ:St}{H:Hp}{s:am}{E:aC}
theorem Inv.wish(I:Inv X π σ H s)(E:aC):Inv (X.wish E) π σ H s:=⟨I.ok.wish E,I.os,I.bare,I.base,I.loc,I.cell,I.free,I.freeC,I.pin,I.hok,I.len⟩
theorem Inv.unwish(I:Inv (X.wish E) π σ H s):Inv X π σ H s:=⟨I.ok.unwish,I.os,I.bare,I.base,I.loc,I.cell,I.free,I.freeC,I.pin,I.hok,I.len⟩
theorem SP.unwish{D:Ends}{f:Flow}{s':am}(h:SP (X.wish E) π D f s'):SP X π D f s':=by
 cases f with
 |next=>obtain⟨σ',H',I,q⟩:=h;exact⟨σ',H',I.unwish,q⟩
 |brk=>obtain⟨σ',H',I,q⟩:=h;exact⟨σ',H',I.unwish,q⟩
 |cont=>obtain⟨σ',H',I,q⟩:=h;exact⟨σ',H',I.unwish,q⟩
 |ret u=>obtain⟨v,σ',H',I,r,q⟩:=h;exact⟨v,σ',H',I.unwish,r,q⟩
theorem PSs.nox{st:fT}{t:TS}(h:PSs X.nox st t):PSs X st t:=λπ s σ H D I hw=>
 bu (h π s σ H D (I.wish _) hw) (λ_ _ q=>q.unwish) λ_ _ z=>bR z
end
section
variable {X:Cx}{st:aJ}{rest:fT}{t u:TS}{e:aK}{te:TE}{pos:Pos}
def tNext:TS:=λD σ H=>D.nx σ H
def tSeq(t u:TS):TS:=λD σ H=>t { D with nx:=u D } σ H
theorem z4t:PSs X [] tNext:=λ_ _ σ H _ I h=>cM ⟨σ,H,I,h⟩
theorem J4(h1:PS X st t)(h2:PSs X rest u):PSs X (st::rest) (tSeq t u):=by
 intro π s σ H D I h;refine fG (thn (h1 π s σ H { D with nx:=u D } I h) λf s1 q=>?_);cases f with
 |next=>
  obtain⟨σ',H',I',q⟩:=q;exact h2 π s1 σ' H' D I' q
 |ret v=>exact q
 |brk=>exact q
 |cont=>exact q
theorem V3(h1:PS X st t):PSs X [st] t:=by
 intro π s σ H D I h;refine fG (thn (h1 π s σ H D I h) λf s1 q=>?_);cases f with
 |next=>exact cM q
 |ret v=>exact q
 |brk=>exact q
 |cont=>exact q
theorem Inv.quiet{π:aB}{σ:St}{H:Hp}{s:am}(I:Inv X π σ H s):interactive X.env=af:=by simp[interactive,I.ok.kind]
def tDrop(te:TE):TS:=λD σ H=>te σ H λ_ H1=>D.nx σ H1
theorem DX(he:PE X e te)(hs:bV e ag pos.line X.env=pure af:=by rfl):PS X (.Expr e pos) (tDrop te):=by
 intro π s σ H D I h;exact wpAny_Expr_any (thn (he π s σ H _ I h) λv s1⟨x,H1,I1,r1,q1⟩=>⟨σ,H1,I1,q1⟩) I.quiet hs
def tRet(te:TE):TS:=λD σ H=>te σ H D.rt
theorem Kc(he:PE X e te):PS X (.Return (aa e) pos) (tRet te):=by
 intro π s σ H D I h;exact wpAny_Return_some (thn (he π s σ H _ I h) λv s1⟨x,H1,I1,r1,q1⟩=>⟨x,σ,H1,I1,r1,q1⟩)
def tIfS(c:TT)(t u:TS):TS:=λD σ H=>c σ H λb H1=>if b=ac then t D σ H1 else u D σ H1
theorem Gh{c:aK}{a b:fT}{tc:TT}(hc:PT X c tc)(ha:PSs X a t)(hb:PSs X b u):PS X (.If c a b pos) (tIfS tc t u):=by
 intro π s σ H D I h;refine wpAny_If (thn (hc π s σ H _ I h) ?_);rintro d s1 ⟨H1,I1,q1⟩;cases d with
 |true=>exact ha π s1 σ H1 D I1 q1
 |false=>exact hb π s1 σ H1 D I1 q1
end
abbrev TG:=V->St->Hp->(St->Hp->Prop)->Prop
abbrev TGs:=gg->St->Hp->(St->Hp->Prop)->Prop
def PG(X:Cx)(target:aK)(t:TG):Prop:=
 ∀(π:aB)(s:am)(σ:St)(H:Hp)(v:V)(u:ao)(Q:St->Hp->Prop),Inv X π σ H s->RelV v u->t v σ H Q ->
  ay (model X.prog X.w) X.A (assign target X.env u) (λ_ s'=>∃σ' H',Inv X π σ' H' s'/\Q σ' H') X.xe s
def PGs(X:Cx)(ts:fR)(t:TGs):Prop:=
 ∀(π:aB)(s:am)(σ:St)(H:Hp)(vs:gg)(us:aF)(Q:St->Hp->Prop),Inv X π σ H s->Vals vs us->t vs σ H Q ->
  ay (model X.prog X.w) X.A (assignInOrder ((cb ts X.env).map (·.2)) us) (λ_ s'=>∃σ' H',Inv X π σ' H' s'/\Q σ' H') X.xe s
abbrev TSet:=V->V->V->Hp->(Hp->Prop)->Prop
def PSet(X:Cx)(t:TSet):Prop:=
 ∀(π:aB)(s:am)(σ:St)(H:Hp)(o i v:V)(ov iv u:ao)(Q:Hp->Prop),Inv X π σ H s->RelV o ov->RelV i iv->RelV v u->t o i v H Q ->
  ay (model X.prog X.w) X.A (setItem ov iv u) (λ_ s'=>∃H',Inv X π σ H' s'/\Q H') X.xe s
section
variable {X:Cx}{pos:Pos}
def Kd(i:Nat):TG:=λv σ H Q=>Q (σ.set i (aa v)) H
theorem B5{i:Nat}{x:Str}(hN:X.N.Nodup)(hi:X.N[i]?=aa x)(hx:Loc X.env.scope x)(hf:X.fn x=ac\/X.env.scope.names.lookup x=aa .local:=by first|exact .inl rfl|exact .inr rfl|assumption):PG X (.Name x pos) (Kd i):=by
 intro π s σ H v u Q I r h;exact wpAny_assign_Name (Kb I hN hi hx r (λs' I'=>⟨_,H,I',h⟩) hf)
def gNil:TGs:=λvs σ H Q=>vs=[]/\Q σ H
def gCons(t:TG)(u:TGs):TGs:=λvs σ H Q=>∃v r,vs=v::r/\t v σ H λσ' H'=>u r σ' H' Q
theorem z4u:PGs X [] gNil:=by
 intro π s σ H vs us Q I r h;obtain⟨e,h⟩:=h;subst e;cases r;exact assignInOrder_nil ⟨σ,H,I,h⟩
theorem z0Y{e:aK}{es:fR}{t:TG}{u:TGs}(h1:PG X e t)(h2:PGs X es u)
  (hs:(cb (e::es) X.env).map (·.2)=assign e X.env::(cb es X.env).map (·.2):=by rfl):PGs X (e::es) (gCons t u):=by
 intro π s σ H vs us Q I r h;obtain⟨v,vr,e1,h⟩:=h;subst e1;cases r with
 |cons r rr=>
  rw[hs];refine assignInOrder_cons (thn (h1 π s σ H _ _ _ I r h) ?_);rintro _ s1 ⟨σ1,H1,I1,q1⟩;exact h2 π s1 σ1 H1 _ _ Q I1 rr q1
def gTup(K:aD)(n:Nat)(t:TGs):TG:=λv σ H Q=>∃a xs,v=.ref a/\SqT K H a xs/\xs.length=n/\t xs σ H Q
theorem pg_tup{es:fR}{k:Nat}{t:TGs}{n:Nat}(hc:X.calm=ac)(h:PGs X es t)
  (hn:(cb es X.env).length=n:=by rfl) (hst:(cb es X.env).findIdx? (·.1)=ag:=by rfl):PG X (.Tuple es k pos) (gTup X.K n t):=by
 intro π s σ H v u Q I r hw;obtain⟨a,xs,e1,hq,hl,hw⟩:=hw;subst e1;cases r;obtain⟨its,rv,ht,hz⟩:=I.tuple hq;refine assign_Tuple_tuple (I.ok.hd hc) ht (by simp[hn,<-hl,rv.length]) hst λh' hx=>?_;have I1:Inv X π σ H { s with heap:=h' }:=I.kept (t':=s.toks) λb o e=>hx b o (wM (wt e)) e;exact h π _ σ H xs _ Q I1 (by simpa using rv) hw
def gSub(to ti:TE)(t:TSet):TG:=λv σ H Q=>to σ H λo H1=>ti σ H1 λi H2=>t o i v H2 λH3=>Q σ H3
theorem TK{o i:aK}{to ti:TE}{t:TSet}(ho:PE X o to)(hi:PE X i ti)(hs:PSet X t)
  (ha:∀ v,assign (.Subscript o i pos) X.env v=(do
   let ov <-holding [v] (eval o X.env);let iv <-holding [v,ov] (eval i X.env)
   eM pos
   holding [v,ov,iv] (setItem ov iv v)
   release [v,ov,iv] []):=by intro _;rfl):PG X (.Subscript o i pos) (gSub to ti t):=by
 intro π s σ H v u Q I r h;rw[ha];refine ah (cK (thn (ho π s σ H _ I h) ?_));rintro ov s1 ⟨x,H1,I1,r1,q1⟩;refine ah (cK (thn (hi π s1 σ H1 _ I1 q1) ?_));rintro iv s2 ⟨y,H2,I2,r2,q2⟩;refine ah (dM (ah (cK (thn (hs π s2 σ H2 x y v ov iv u _ I2 r1 r2 r q2) ?_))));rintro _ s3 ⟨H3,I3,q3⟩;exact wpAny_release ⟨σ,H3,I3,q3⟩
def tAsg(te:TE)(g:TG):TS:=λD σ H=>te σ H λx H1=>g x σ H1 D.nx
theorem TL{tg e:aK}{te:TE}{g:TG}(he:PE X e te)(hg:PG X tg g)(hs:swapsWithSole [tg] e pos.line X.env=pure af:=by rfl)(hw:swappedStores [tg] e X.env=pure ag:=by rfl)
  (h1:(cb [tg] X.env).map (·.2)=[assign tg X.env]:=by rfl):PS X (.Assign [tg] e pos) (tAsg te g):=by
 intro π s σ H D I h;refine wpAny_Assign_stores (thn (he π s σ H _ I h) λv s1⟨x,H1,I1,r1,q1⟩=>?_) hs hw;rw[h1];exact thn (hg π s1 σ H1 x v _ I1 r1 q1) λ_ s2 q=>q
theorem ps_set{i:Nat}{x:Str}{e:aK}{te:TE}{pos':Pos}(hN:X.N.Nodup)(hi:X.N[i]?=aa x)(hx:Loc X.env.scope x)(he:PE X e te)(hs:bV e (aa (.Name x pos')) pos.line X.env=pure af:=by rfl)(hf:X.fn x=ac\/X.env.scope.names.lookup x=aa .local:=by first|exact .inl rfl|exact .inr rfl|assumption):
  PS X (.Assign [.Name x pos'] e pos) (tAsg te (Kd i)):=by
 intro π s σ H D I h;refine wpAny_Assign_Name (thn (he π s σ H _ I h) λv s1⟨y,H1,I1,r1,q1⟩=>?_) hs;exact Kb I1 hN hi hx r1 (λs2 I2=>⟨_,H1,I2,q1⟩) hf
end
section
variable {X:Cx}{pos:Pos}
def tWhile(c:TT)(tb:TS):TS:=λD σ H=>∃W:Nat->St->Hp->Prop,(∃m,W m σ H)/\∀m σ H,W m σ H ->
 c σ H λb H1=>if b=ac then ∃N:St->Hp->Prop,(∀σ' H',N σ' H'->∃m',m'<m/\W m' σ' H')/\tb { D with nx:=N,ct:=N,bk:=D.nx } σ H1 else D.nx σ H1
theorem z0Z{c:aK}{body:fT}{tc:TT}{tb:TS}(hp:fJ (model X.prog X.w) X.A X.env X.xe)(hc:PT X c tc)(hb:PSs X body tb):PS X (.While c body [] pos) (tWhile tc tb):=by
 intro π s σ H D I h;obtain⟨W,⟨m0,w0⟩,turn⟩:=h;refine wpAny_While (codeAny_whileLoop (λn s'=>∃σ' H',Inv X π σ' H' s'/\W n σ' H') ?_ m0 ⟨σ,H,I,w0⟩);rintro n s1 ⟨σ1,H1,I1,w1⟩;refine ck hp (thn (hc π s1 σ1 H1 _ I1 (turn n σ1 H1 w1)) ?_);rintro b s2 ⟨H2,I2,q2⟩;cases b with
 | true =>
  obtain⟨N,hN,q2⟩:=q2;rw[ar rfl];refine ck hp (thn (hb π s2 σ1 H2 _ I2 q2) λf s3 q3=>?_);cases f with
  |next=>
   obtain⟨σ3,H3,I3,n3⟩:=q3;obtain⟨m',hm,w3⟩:=hN σ3 H3 n3;exact⟨m',hm,σ3,H3,I3,w3⟩
  |cont=>
   obtain⟨σ3,H3,I3,n3⟩:=q3;obtain⟨m',hm,w3⟩:=hN σ3 H3 n3;exact⟨m',hm,σ3,H3,I3,w3⟩
  |brk=>exact q3
  |ret v=>exact q3
 |false=>
  rw[aw wL];exact cM ⟨σ1,H2,I2,q2⟩
end
structure It where
 go:Nat->Hp->Prop
 yld:Nat->Hp->V->Hp->Prop
 stop:Nat->Hp->Prop
def FpOk(X:Cx)(π:aB)(H:Hp)(b:aj):Prop:=
 H b=ag/\b≠X.env.locals/\b∉X.fs/\(b∈X.ex\/X.s₀.heap.objs.size<=b)/\(∀x c,X.env.cells.lookup x=aa c->c≠b)/\∀p∈X.pn++π,p.1≠b
theorem Inv.fpOk{X:Cx}{π:aB}{σ:St}{H H':Hp}{s:am}{b:aj}(I:Inv X π σ H s)(hb:s.heap.objs.size<=b)(hn:H' b=ag):FpOk X π H' b:=by
 refine⟨hn,uF (ww I.lt hb),I.nofs hb,.inr (wF I.sz hb),λx c e z=>?_,λp hp z=>?_⟩
 .obtain⟨v,q⟩:=I.cell x c e;exact aN (ww q.lt (by rw[z];exact hb)) (vG _)
 .exact aN (ww (wt (I.pin p hp).1) (by rw[z];exact hb)) (vG _)
structure Turn(P:aL)(w:aH)(K:aD)(tg:aK)(J:It)(fp:fP)(it:aj)(tn:Nat->aV->Prop):Prop where
 mem:it∈fp
 obj:∀i h,tn i h->∀b∈fp,∃o,h.get? b=aa o/\∀v,o.data ≠ .cell v
 keep:∀i h h',tn i h->(∀b∈fp,∀o,h.get? b=aa o->h'.get? b=aa o)->tn i h'
 item:∀(X:Cx),X.prog=P->X.w=w->X.K=K->X.calm=ac->∀(i:Nat)(π:aB)(s:am)(σ:St)(H:Hp)(E:aC),Inv X π σ H s->(∀b∈fp,FpOk X π H b)->tn i s.heap->J.go i H ->
  ay (model P w) X.A (pyNext (.ref it)) (λr s1=>∃u,r=aa u /\
   ay (model P w) X.A (cN tg (.ref it) u) (λ_ s2=>∃x H',Inv X π σ H' s2/\RelV x u/\J.yld i H x H'/\tn (i+1) s2.heap/\∀b∈fp,H' b=ag) E s1) E s
 done:∀(X:Cx),X.prog=P->X.w=w->X.K=K->X.calm=ac->∀(i:Nat)(π:aB)(s:am)(σ:St)(H:Hp)(E:aC),Inv X π σ H s->(∀b∈fp,FpOk X π H b)->tn i s.heap->J.stop i H ->
  ay (model P w) X.A (pyNext (.ref it)) (λr s1=>r=ag/\Inv X π σ H s1) E s
 self:∀(A:bj)(i:Nat)(s:am)(Q:aC)(E:aC),tn i s.heap->Q (.ref it) s->ay (model P w) A (pyIter (.ref it)) Q E s
abbrev TI:=St->Hp->(It->Hp->Prop)->Prop
def PIE(X:Cx)(π:aB)(σ:St)(tg:aK)(R:It->Hp->Prop)(itv:ao)(s2:am):Prop:=
 ∃(it:aj)(fp:fP)(tn:Nat->aV->Prop)(J:It)(H':Hp),itv=.ref it/\Inv X π σ H' s2/\Turn X.prog X.w X.K tg J fp it tn/\tn 0 s2.heap/\(∀b∈fp,FpOk X π H' b)/\R J H'
def PI(X:Cx)(tg iter:aK)(wi:TI):Prop:=
 ∀(π:aB)(s:am)(σ:St)(H:Hp)(R:It->Hp->Prop),Inv X π σ H s->wi σ H R ->
  ay (model X.prog X.w) X.A (eval iter X.env) (λv s1=>ay (model X.prog X.w) X.A (pyIter v) (PIE X π σ tg R) X.xe s1) X.xe s
theorem Yd{M:Model}{A:Around}{E:Value→Shared→Prop}{s:Shared}{tg:Expr}{it:Addr}{u:Value}{o:Obj}{n:String}{vs:Array Value}{Q:Unit→Shared→Prop}(ho:s.heap.get? it=some o)(hc:o.cls = .type n)(hd:o.data = .fields vs)
    (hn:["enumerate","zip","dict_itemiterator","dict_reverseitemiterator","odict_iterator","itertools.zip_longest","itertools.pairwise"].contains n=af) (hQ:Q () s):ay M A (cN tg (.ref it) u) Q E s:=by
  unfold cN
  cases tg<;>first
    |exact aI hQ
    |(cases u<;>first
        |exact aI hQ
        | (refine wpAny_bind (wpAny_load ho ?_)
           rw[hc,hd];show ay M A (if(["enumerate","zip","dict_itemiterator","dict_reverseitemiterator","odict_iterator","itertools.zip_longest","itertools.pairwise"].contains n&&vs[0]?==aa (cS _))=ac then _ else _) Q E s;rw[aw (by intro h;rw[hn,Bool.false_and]at h;cases h)];exact aI hQ))
def Itl(K:aD)(a:aj):It:=
 ⟨λi H=>∃xs x,SqL K H a xs/\xs[i]?=aa x,λi H x H'=>H'=H/\∀xs,SqL K H a xs->xs[i]?=aa x,λi H=>∃xs,SqL K H a xs/\xs.length<=i⟩
def Itt(K:aD)(a:aj):It:=
 ⟨λi H=>∃xs x,SqT K H a xs/\xs[i]?=aa x,λi H x H'=>H'=H/\∀xs,SqT K H a xs->xs[i]?=aa x,λi H=>∃xs,SqT K H a xs/\xs.length<=i⟩
def Itr(lo:Int)(n:Nat):It:=⟨λi _=>i<n,λi H x H'=>H'=H/\x=.int (lo+i),λi _=>n<=i⟩
theorem ZT{P:aL}{w:aH}{K:aD}{tg:aK}(a it:aj):Turn P w K tg (Itl K a) [it] it (λi h=>h.IsListIter it a i) where
 mem:=by simp
 obj:=λi h st b hb=>by
  have e:b=it:=by simpa using hb
  subst e;obtain⟨o,e,c,d⟩:=st;exact⟨o,e,λv z=>by rw[d]at z;cases z⟩
 keep:=λi h h' st k=>st.at λo e=>k it (by simp) o e
 item:=by
  intro X hP hw hK hc i π s σ H E I hf st hg;subst hP hw hK;obtain⟨xs,x,hq,hx⟩:=hg;obtain⟨its,rv,p,hz⟩:=I.list hq;obtain⟨u,hu,ru⟩:=rv.get hx;obtain⟨f0,f1,f2,f3,f4,f5⟩:=hf it (by simp);refine wpAny_pyNext_list_item st p.isList (x:=u) (by simpa using hu) λh' st' sb=>?_;have I1:Inv X π σ H { s with heap:=h' }:=I.turned (t':=s.toks) (λb o hb e=>(sb.2 b hb).trans e) f0 f1 f3 f4 f5;obtain⟨o,e,c,d⟩:=id st';exact⟨u,rfl,Yd (s:={ s with heap:=h' }) e c d (by decide) ⟨x,H,I1,ru,⟨rfl,λys hy=>by rw[I.list_inj hy hq];exact hx⟩,st',λb hb=>(hf b hb).1⟩⟩
 done:=by
  intro X hP hw hK hc i π s σ H E I hf st hg;subst hP hw hK;obtain⟨xs,hq,hx⟩:=hg;obtain⟨its,rv,p,hz⟩:=I.list hq;obtain⟨f0,f1,f2,f3,f4,f5⟩:=hf it (by simp);have hl:=rv.length;exact wpAny_pyNext_list_end (I.ok.hd hc) st p.isList (by simp;rfl') λh' eb=>⟨rfl,I.turned (t':=s.toks) (λb o hb e=>eb b o hb e) f0 f1 f3 f4 f5⟩
 self:=λ_ _ _ _ _ st h=>wpAny_pyIter_listiter st h
theorem TM{P:aL}{w:aH}{K:aD}{tg:aK}(a it:aj):Turn P w K tg (Itt K a) [it] it (λi h=>h.IsTupleIter it a i) where
 mem:=by simp
 obj:=λi h st b hb=>by
  have e:b=it:=by simpa using hb
  subst e;obtain⟨o,e,c,d⟩:=st;exact⟨o,e,λv z=>by rw[d]at z;cases z⟩
 keep:=λi h h' st k=>st.at λo e=>k it (by simp) o e
 item:=by
  intro X hP hw hK hc i π s σ H E I hf st hg;subst hP hw hK;obtain⟨xs,x,hq,hx⟩:=hg;obtain⟨its,rv,p,hz⟩:=I.tuple hq;obtain⟨u,hu,ru⟩:=rv.get hx;obtain⟨f0,f1,f2,f3,f4,f5⟩:=hf it (by simp);refine wpAny_pyNext_tuple_item st (show s.heap.IsTuple a its.toArray from p) (x:=u) (by simpa using hu) λh' st' sb=>?_;have I1:Inv X π σ H { s with heap:=h' }:=I.turned (t':=s.toks) (λb o hb e=>(sb.2 b hb).trans e) f0 f1 f3 f4 f5;obtain⟨o,e,c,d⟩:=id st';exact⟨u,rfl,Yd (s:={ s with heap:=h' }) e c d (by decide) ⟨x,H,I1,ru,⟨rfl,λys hy=>by rw[I.tuple_inj hy hq];exact hx⟩,st',λb hb=>(hf b hb).1⟩⟩
 done:=by
  intro X hP hw hK hc i π s σ H E I hf st hg;subst hP hw hK;obtain⟨xs,hq,hx⟩:=hg;obtain⟨its,rv,p,hz⟩:=I.tuple hq;obtain⟨f0,f1,f2,f3,f4,f5⟩:=hf it (by simp);have hl:=rv.length;exact wpAny_pyNext_tuple_end (I.ok.hd hc) st (show s.heap.IsTuple a its.toArray from p) (by simp;rfl') λh' eb=>⟨rfl,I.turned (t':=s.toks) (λb o hb e=>eb b o hb e) f0 f1 f3 f4 f5⟩
 self:=λ_ _ _ _ _ st h=>wpAny_pyIter_tupleiter st h
theorem TN{P:aL}{w:aH}{K:aD}{tg:aK}(it:aj)(lo:Int)(n:Nat):Turn P w K tg (Itr lo n) [it] it (λi h=>IsRangeIter h it (lo+(i:Nat)*1) ((n:Int)-(i:Nat)) 1) where
 mem:=by simp
 obj:=λi h st b hb=>by
  have e:b=it:=by simpa using hb
  subst e;exact⟨_,st,λv z=>by
   have z':fM _=fK v:=z;cases z'⟩
 keep:=λi h h' st k=>k it (by simp) _ st
 item:=by
  intro X hP hw hK hc i π s σ H E I hf st hg;subst hP hw hK;obtain⟨f0,f1,f2,f3,f4,f5⟩:=hf it (by simp);have W:=Walks.range (prog:=X.prog) (w:=X.w) (I.ok.hd hc) it lo 1 n;refine W.item i s _ _ hg st λv h' tk hv st' kk=>?_;obtain⟨t,rfl⟩:=hv;have I1:Inv X π σ H { s with heap:=h',toks:=tk }:=I.turned (λb o hb e=>kk b o (by simpa using hb) e) f0 f1 f3 f4 f5;refine⟨_,rfl,Yd (s:={ s with heap:=h',toks:=tk }) (n :="range_iterator") st' rfl rfl (by decide) ⟨.int (lo+i),H,I1,⟨t,?_⟩,⟨rfl,rfl⟩,st',λb hb=>(hf b hb).1⟩⟩;rw[Int.mul_one]
 done:=by
  intro X hP hw hK hc i π s σ H E I hf st hg;subst hP hw hK;obtain⟨f0,f1,f2,f3,f4,f5⟩:=hf it (by simp);exact wpAny_pyNext_range_end (I.ok.hd hc) st (by have:n<=i:=hg;rfl') λh' eb=>⟨rfl,I.turned (t':=s.toks) (λb o hb e=>eb b o hb e) f0 f1 f3 f4 f5⟩
 self:=λ_ _ _ _ _ st h=>wpAny_pyIter_rangeiter st h
end L2
namespace L2
section
variable {X:Cx}{tg:aK}
theorem Rg{π:aB}{σ:St}{H:Hp}{s:am}{R:It->Hp->Prop}{E:aC}{lo hi:Int}{t u v:Tok}{tk:Nat}(I:Inv X π σ H s)(h1 : -(2^62)<=lo)(h2:lo<2^62)(h3 : -(2^62)<=hi)(h4:hi<2^62)
   (q:R (Itr lo (hi-lo).toNat) H):ay (model X.prog X.w) X.A (pyIter (.ref s.heap.objs.size)) (PIE X π σ tg R) E { s with heap:=s.heap.push { cls:=.type "range",data:=.fields #[.int lo t,.int hi u,.int 1 v] },toks:=tk }:=by
 refine wpAny_pyIter_range (IsRange.new ..) (small_one h1 h2 h3 h4) ?_;have I1:Inv X π σ H { s with heap:=s.heap.push { cls:=.type "range",data:=.fields #[.int lo t,.int hi u,.int 1 v] },toks:=tk }:=I.kept λb o e=>wf _ e;refine⟨(s.heap.push { cls:=.type "range",data:=.fields #[.int lo t,.int hi u,.int 1 v] }).objs.size,[(s.heap.push { cls:=.type "range",data:=.fields #[.int lo t,.int hi u,.int 1 v] }).objs.size],_,_,H,rfl,
   I1.kept (t':=tk) λb o e=>wf _ e,TN _ lo (hi-lo).toNat,?_,λb hb=>?_,q⟩
 .have e1:lo+((0:Nat):Int)*1=lo:=by simp
  have e2:(((hi-lo).toNat:Nat):Int)-((0:Nat):Int)=Builtin.Range.rangeSize lo hi 1:=by rw[rangeSize_one];split<;>rfl'
  show IsRangeIter _ _ (lo+((0:Nat):Int)*1) ((((hi-lo).toNat:Nat):Int)-((0:Nat):Int)) 1;rw[e1,e2];exact wx _ rfl
 .have e:b=(s.heap.push { cls:=.type "range",data:=.fields #[.int lo t,.int hi u,.int 1 v] }).objs.size:=by simpa using hb
  subst e;exact I1.fpOk (wv _) (I1.hok.fresh (wv _))
def iRng1(ta:TA):TI:=λσ H R=>ta σ H λvs H1=>∃j:Int,vs=[.int j] /\ -(2^62)<=j/\j<2^62/\R (Itr 0 j.toNat) H1
def iRng2(ta:TA):TI:=λσ H R=>ta σ H λvs H1=>∃i j:Int,vs=[.int i,.int j]/\(-(2^62)<=i/\i<2^62 /\ -(2^62)<=j/\j<2^62)/\R (Itr i (j-i).toNat) H1
theorem MY{a:aK}{ta:TA}{p pos:Pos}(hg:Gl X "range")(hm:X.mg "range"=ag)(ha:PA X [a] ta)(hs:aq [a] X.env=[(af,eval a X.env)]:=by rfl):PI X tg (.Call (.Name "range" p) [a] [] pos) (iRng1 ta):=by
 intro π s σ H R I h;refine Call_ (BO I hg hm boot_range (bN (thn (ha pos π s σ H _ I h) λus s1⟨vs,H1,I1,r1,q1⟩=>?_) hs rfl));obtain⟨j,e,q1,q2,q⟩:=q1;subst e;cases r1 with
 |cons r rr=>
  cases rr;obtain⟨t,rfl⟩:=r;exact call_range_1 (Rg I1 (by rfl') (by rfl') q1 q2 (by simpa using q))
theorem ZU{a b:aK}{ta:TA}{p pos:Pos}(hg:Gl X "range")(hm:X.mg "range"=ag)(ha:PA X [a,b] ta)(hs:aq [a,b] X.env=[(af,eval a X.env),(af,eval b X.env)]:=by rfl)(hs2:aq [b] X.env=[(af,eval b X.env)]:=by rfl):
  PI X tg (.Call (.Name "range" p) [a,b] [] pos) (iRng2 ta):=by
 intro π s σ H R I h;refine Call_ (BO I hg hm boot_range (bN (thn (ha pos π s σ H _ I h) λus s1⟨vs,H1,I1,r1,q1⟩=>?_) (by rw[hs,hs2]) (by rw[hs2];rfl)));obtain⟨i,j,e,⟨q1,q2,q3,q4⟩,q⟩:=q1;subst e;cases r1 with
 | cons r rr =>
  cases rr with
  |cons r' rr=>
   cases rr;obtain⟨t,rfl⟩:=r;obtain⟨t',rfl⟩:=r';exact call_range_2 (Rg I1 q1 q2 q3 q4 q)
def tFor(wi:TI)(g:TG)(tb:TS):TS:=λD σ H=>wi σ H λJ H1=>∃W:Nat->Nat->St->Hp->Prop,(∃m,W 0 m σ H1)/\∀i m σ H,W i m σ H ->
 (J.stop i H/\D.nx σ H)\/(J.go i H/\∃N:St->Hp->Prop,(∀σ' H',N σ' H'->∃m',m'<m/\W (i+1) m' σ' H')/\∀x H',J.yld i H x H'->g x σ H' λσ2 H2=>tb { D with nx:=N,ct:=N,bk:=D.nx } σ2 H2)
def Kf(fp:fP)(h:aV):aB:=fp.filterMap λb=>(h.get? b).map λo=>(b,o)
theorem BP{fp:fP}{h:aV}{b:aj}{o:Obj}(hb:b∈fp)(e:h.get? b=aa o):(b,o)∈Kf fp h:=vP.mpr ⟨b,hb,by rw[e];rfl⟩
theorem ZV{fp:fP}{h:aV}{p:aj×Obj}(hp:p∈Kf fp h):p.1∈fp/\h.get? p.1=aa p.2:=by
 obtain⟨b,hb,e⟩:=vP.mp hp;cases q:h.get? b with
 |none=>rw[q]at e;cases e
 |some o=>
  rw[q]at e;have e':(b,o)=p:=aP e;subst e';exact⟨hb,q⟩
theorem Inv.pinned{π:aB}{σ:St}{H:Hp}{s:am}{fp:fP}(I:Inv X π σ H s)(hf:∀b∈fp,FpOk X π H b)(ho:∀b∈fp,∃o,s.heap.get? b=aa o/\∀v,o.data ≠ .cell v):Inv X (π++Kf fp s.heap) σ H s:=
 I.pins_of λp hp=>(wu.mp hp).elim (λz=>I.pin p (wJ _ z)) λz=>by
  obtain⟨hb,e⟩:=ZV z;obtain⟨f0,f1,f2,_⟩:=hf p.1 hb;obtain⟨o,e',d⟩:=ho p.1 hb;rw[e]at e';cases e';exact⟨e,f0,f1,f2,d⟩
theorem Inv.unpinned{π pl:aB}{σ:St}{H:Hp}{s:am}(I:Inv X (π++pl) σ H s):Inv X π σ H s:=I.pins_of λp hp=>I.pin p (wJ _ (uB _ hp))
theorem z10{iter:aK}{body:fT}{wi:TI}{g:TG}{tb:TS}{pos:Pos}(hp:fJ (model X.prog X.w) X.A X.env X.xe)(hc:X.calm=ac)(hi:PI X tg iter wi)(hg:PG X tg g)(hb:PSs X body tb)
   (hs:∀x,bF iter X.env x=pure x:=by intro _;rfl):PS X (.For tg iter body [] pos) (tFor wi g tb):=by
 intro π s σ H D I h;refine wpAny_For (thn (hi π s σ H _ I h) λv s1 h1=>thn h1 λitv s2 h2=>?_) hs;obtain⟨it,fp,tn,J,H2,e,I2,T,st2,f2,W,⟨m0,w0⟩,turn⟩:=h2;subst e;have stat:∀{H':Hp},(∀b∈fp,H' b=ag)->∀b∈fp,FpOk X π H' b:=λhn b hb=>⟨hn b hb,(f2 b hb).2⟩;refine codeAny_forLoop_any (λn s'=>∃i σ' H',Inv X π σ' H' s'/\tn i s'.heap/\(∀b∈fp,H' b=ag)/\W i n σ' H') ?_ m0 ⟨0,σ,H2,I2,st2,λb hb=>(f2 b hb).1,w0⟩;rintro n s3 ⟨i,σ3,H3,I3,st3,fr3,w3⟩;rcases turn i n σ3 H3 w3 with⟨stop,qn⟩|⟨go,N,hN,step⟩
 .refine ck hp (thn (T.done X rfl rfl rfl hc i π s3 σ3 H3 X.xe I3 (stat fr3) st3 stop) ?_);rintro r s4 ⟨hr,I4⟩;subst hr;exact cM ⟨σ3,H3,I4,qn⟩
 .refine ck hp (thn (T.item X rfl rfl rfl hc i π s3 σ3 H3 X.xe I3 (stat fr3) st3 go) ?_);rintro r s4 ⟨u,hr,h4⟩;subst hr;refine ck hp (thn h4 ?_);rintro _ s5 ⟨x,H5,I5,r5,y5,st5,fr5⟩;have I5':=I5.pinned (stat fr5) (T.obj _ _ st5);refine ck hp (thn (hg _ s5 σ3 H5 x u _ I5' r5 (step x H5 y5)) ?_);rintro _ s6 ⟨σ6,H6,I6,q6⟩;refine ck hp (thn (hb _ s6 σ6 H6 _ I6 q6) λf s7 q7=>?_);have again:∀{σ7:St}{H7:Hp},Inv X (π++Kf fp s5.heap) σ7 H7 s7->N σ7 H7->∃m,m<n/\∃i σ' H',Inv X π σ' H' s7/\tn i s7.heap/\(∀b∈fp,H' b=ag)/\W i m σ' H':=λ{σ7 H7}I7 n7=>by
   obtain⟨m',hm,w7⟩:=hN σ7 H7 n7;refine⟨m',hm,i+1,σ7,H7,I7.unpinned,T.keep _ _ _ st5 λb hb o e=>(I7.pin (b,o) (wJ _ (wJ _ (BP hb e)))).1,λb hb=>?_,w7⟩;obtain⟨o,e,d⟩:=T.obj _ _ st5 b hb;exact(I7.pin (b,o) (wJ _ (wJ _ (BP hb e)))).2.1
  cases f with
  |next=>obtain⟨σ7,H7,I7,n7⟩:=q7;exact again I7 n7
  |cont=>obtain⟨σ7,H7,I7,n7⟩:=q7;exact again I7 n7
  |brk=>obtain⟨σ7,H7,I7,q7⟩:=q7;exact⟨σ7,H7,I7.unpinned,q7⟩
  |ret v=>obtain⟨x7,σ7,H7,I7,r7,q7⟩:=q7;exact⟨x7,σ7,H7,I7.unpinned,r7,q7⟩
end
end L2
namespace L2
abbrev R2:=V->V->Hp->VK->Prop
def OpR(X:Cx)(f:ao->ao->Sem ao)(r:R2):Prop:=
 ∀(π:aB)(s:am)(σ:St)(H:Hp)(x y:V)(v u:ao)(Q:VK),Inv X π σ H s->RelV x v->RelV y u->r x y H Q ->
  ay (model X.prog X.w) X.A (f v u) (EP X π σ Q) X.xe s
def UnR(X:Cx)(f:ao->Sem ao)(r:V->Hp->VK->Prop):Prop:=
 ∀(π:aB)(s:am)(σ:St)(H:Hp)(x:V)(v:ao)(Q:VK),Inv X π σ H s->RelV x v->r x H Q ->
  ay (model X.prog X.w) X.A (f v) (EP X π σ Q) X.xe s
def EG(X:Cx)(f:ao)(r:gg->Hp->VK->Prop):Prop:=
 ∀(π:aB)(s:am)(σ:St)(H:Hp)(xs:gg)(us:aF)(Q:VK),Inv X π σ H s->Vals xs us->r xs H Q ->
  ay (model X.prog X.w) X.A (call f us) (EP X π σ Q) X.xe s
def TruR(X:Cx)(r:V->Hp->(Bool->Hp->Prop)->Prop):Prop:=
 ∀(π:aB)(s:am)(σ:St)(H:Hp)(x:V)(v:ao)(Q:Bool->Hp->Prop),Inv X π σ H s->RelV x v->r x H Q ->
  ay (model X.prog X.w) X.A (truthy v) (TP X π σ Q) X.xe s
def tOp(r:R2)(ta tb:TE):TE:=λσ H Q=>ta σ H λx H1=>tb σ H1 λy H2=>r x y H2 Q
def tUn(r:V->Hp->VK->Prop)(ta:TE):TE:=λσ H Q=>ta σ H λx H1=>r x H1 Q
def rI(C:Int->Int->Prop)(g:Int->Int->V):R2:=λx y H Q=>∃i j,x=.int i/\y=.int j/\C i j/\Q (g i j) H
def rI0(g:Int->Int->V):R2:=λx y H Q=>∃i j,x=.int i/\y=.int j/\Q (g i j) H
def rU(g:Int->V):V->Hp->VK->Prop:=λx H Q=>∃i,x=.int i/\Q (g i) H
section
variable {X:Cx}{a b c:aK}{ta tb tc:TE}{pos:Pos}
theorem binT(ha:PE X a ta)(hb:PE X b tb){π:aB}{s:am}{σ:St}{H:Hp}{R:V->V->Hp->Prop}(I:Inv X π σ H s)
  (h:ta σ H λx H1=>tb σ H1 λy H2=>R x y H2) {Q:aC} {f:ao->ao->Sem ao}
  (hf:∀v u s2 x y H2,Inv X π σ H2 s2->RelV x v->RelV y u->R x y H2->ay (model X.prog X.w) X.A (f v u) Q X.xe s2) :
  ay (model X.prog X.w) X.A (eval a X.env) (λv s₁=>ay (model X.prog X.w) X.A (eval b X.env) (λu s₂=>ay (model X.prog X.w) X.A (f v u) Q X.xe s₂) X.xe s₁) X.xe s:=by
 refine thn (ha π s σ H _ I h) ?_;rintro v s1 ⟨x,H1,I1,r1,q1⟩;refine thn (hb π s1 σ H1 _ I1 q1) ?_;rintro u s2 ⟨y,H2,I2,r2,q2⟩;exact hf v u s2 x y H2 I2 r1 r2 q2
theorem pe_op{op:Operator}{r:R2}(ho:OpR X (bU op) r)(ha:PE X a ta)(hb:PE X b tb):PE X (.BinOp a op b pos) (tOp r ta tb):=by
 intro π s σ H Q I h;exact wpAny_BinOp (binT ha hb I h λv u s2 x y H2 I2 rx ry q=>ho π s2 σ H2 x y v u Q I2 rx ry q)
theorem pe_un{op:UnaryOp}{r:V->Hp->VK->Prop}(ho:UnR X (unaryOp op) r)(ha:PE X a ta):PE X (.UnaryOp op a pos) (tUn r ta):=by
 intro π s σ H Q I h;exact UnaryOp_ (thn (ha π s σ H _ I h) λv s1⟨x,H1,I1,r1,q1⟩=>ho π s1 σ H1 x v Q I1 r1 q1)
theorem opI{f:ao->ao->Sem ao}{C:Int->Int->Prop}{g:Int->Int->Int}
  (rule:∀(i j:Int)(t u:Tok)(s:am)(Q:aC)(E:aC),C i j->Q (.int (g i j) s.toks) { s with toks:=s.toks+1 }->ay (model X.prog X.w) X.A (f (.int i t) (.int j u)) Q E s) :
  OpR X f (rI C λi j=>.int (g i j)):=by
 intro π s σ H x y v u Q I rx ry h;obtain⟨i,j,rfl,rfl,hc,q⟩:=h;obtain⟨t,rfl⟩:=rx;obtain⟨t',rfl⟩:=ry;exact rule i j t t' s _ _ hc ⟨.int (g i j),H,I.tok _,⟨_,rfl⟩,q⟩
theorem opI0{f:ao->ao->Sem ao}{g:Int->Int->Int}
  (rule:∀(i j:Int)(t u:Tok)(s:am)(Q:aC)(E:aC),Q (.int (g i j) s.toks) { s with toks:=s.toks+1 }->ay (model X.prog X.w) X.A (f (.int i t) (.int j u)) Q E s) :
  OpR X f (rI0 λi j=>.int (g i j)):=by
 intro π s σ H x y v u Q I rx ry h;obtain⟨i,j,rfl,rfl,q⟩:=h;obtain⟨t,rfl⟩:=rx;obtain⟨t',rfl⟩:=ry;exact rule i j t t' s _ _ ⟨.int (g i j),H,I.tok _,⟨_,rfl⟩,q⟩
theorem opB0{f:ao->ao->Sem ao}{g:Int->Int->Bool}
  (rule:∀(i j:Int)(t u:Tok)(s:am)(Q:aC)(E:aC),Q (.bool (g i j)) s->ay (model X.prog X.w) X.A (f (.int i t) (.int j u)) Q E s) :
  OpR X f (rI0 λi j=>.bl (g i j)):=by
 intro π s σ H x y v u Q I rx ry h;obtain⟨i,j,rfl,rfl,q⟩:=h;obtain⟨t,rfl⟩:=rx;obtain⟨t',rfl⟩:=ry;exact rule i j t t' s _ _ ⟨.bl (g i j),H,I,rfl,q⟩
def CPow(i j:Int):Prop:=0<=j/\j<=1000000/\i.natAbs<2^64
def CMul(i j:Int):Prop:=(-(2^64)<i/\i<2^64)\/(-(2^64)<j/\j<2^64)
theorem CMul.ok{i j:Int}(h:CMul i j):IntMulOk i j:=by
 rcases h with⟨h1,h2⟩|⟨h1,h2⟩
 .exact .of_left (intBits_le_64 h1 h2)
 .exact .of_right (intBits_le_64 h1 h2)
theorem op_add:OpR X (bU .Add) (rI0 λi j=>.int (i+j)):=opI0 λ_ _ _ _ _ _ _ q=>add_int q
theorem op_sub:OpR X (bU .Sub) (rI0 λi j=>.int (i-j)):=opI0 λ_ _ _ _ _ _ _ q=>sub_int q
theorem z4v:OpR X (bU .Mod) (rI (λ_ j=>j≠0) λi j=>.int (i.fmod j)):=opI λ_ _ _ _ _ _ _ hc q=>mod_int' hc q
theorem op_pow:OpR X (bU .Pow) (rI CPow λi j=>.int (i^j.toNat)):=opI λ_ _ _ _ _ _ _ hc q=>pow_int_small hc.1 hc.2.1 hc.2.2 q
theorem unI{f:ao->Sem ao}{g:Int->Int}
  (rule:∀(i:Int)(t:Tok)(s:am)(Q:aC)(E:aC),Q (.int (g i) s.toks) { s with toks:=s.toks+1 }->ay (model X.prog X.w) X.A (f (.int i t)) Q E s) :
  UnR X f (rU λi=>.int (g i)):=by
 intro π s σ H x v Q I rx h;obtain⟨i,rfl,q⟩:=h;obtain⟨t,rfl⟩:=rx;exact rule i t s _ _ ⟨.int (g i),H,I.tok _,⟨_,rfl⟩,q⟩
theorem un_neg:UnR X (unaryOp .USub) (rU λi=>.int (-i)):=unI λ_ _ _ _ _ q=>neg_int q
end
def scal:V->V->Bool
 |.non,.non=>ac|.non,.int _=>ac|.int _,.non=>ac|.non,.bl _=>ac|.bl _,.non=>ac|.non,.str _=>ac|.str _,.non=>ac
 |.int _,.int _=>ac|.bl _,.bl _=>ac|.str _,.str _=>ac|.byt _,.byt _=>ac
 |.int _,.str _=>ac|.str _,.int _=>ac|.bl _,.str _=>ac|.str _,.bl _=>ac
 |_,_=>af
section
variable {X:Cx}{a b c:aK}{ta tb tc:TE}{pos:Pos}
theorem z11{π:aB}{σ:St}{H:Hp}{s:am}{Q:VK}{k k':Bool}(I:Inv X π σ H s)(q:Q (.bl k) H)(e:k=k'):EP X π σ Q (.bool k') s:=by
 subst e;exact⟨.bl k,H,I,rfl,q⟩
theorem op_lt:OpR X (bp .Lt) (rI0 λi j=>.bl (decide (i<j))):=opB0 λ_ _ _ _ _ _ _ q=>lt_int q
theorem op_le:OpR X (bp .LtE) (rI0 λi j=>.bl (decide (i<=j))):=opB0 λ_ _ _ _ _ _ _ q=>le_int q
theorem op_gt:OpR X (bp .Gt) (rI0 λi j=>.bl (decide (j<i))):=opB0 λ_ _ _ _ _ _ _ q=>gt_int q
theorem op_ge:OpR X (bp .GtE) (rI0 λi j=>.bl (decide (j<=i))):=opB0 λ_ _ _ _ _ _ _ q=>ge_int q
theorem op_isN:OpR X (bp .Is) (λx y H Q=>y=.non/\Q (.bl (decide (x=.non))) H):=by
 intro π s σ H x y v u Q I rx ry h;obtain⟨rfl,q⟩:=h;cases ry;refine is_none_gen (z11 I q ?_);cases x<;>first
  |(cases rx;rfl)
  |(obtain⟨t,rfl⟩:=rx;rfl)
theorem z4w:OpR X (bp .IsNot) (λx y H Q=>y=.non/\Q (.bl (!decide (x=.non))) H):=by
 intro π s σ H x y v u Q I rx ry h;obtain⟨rfl,q⟩:=h;cases ry;refine isnot_none_gen (z11 I q ?_);cases x<;>first
  |(cases rx;rfl)
  |(obtain⟨t,rfl⟩:=rx;rfl)
theorem z12(b:aK){op:CmpOp}(h:op ≠ .In:=by decide)(h2:op ≠ .NotIn:=by decide):cZ op b=af:=by
 have e1:(op==CmpOp.In)=af:=by cases op<;>first|rfl|exact aN rfl h
 have e2:(op==CmpOp.NotIn)=af:=by cases op<;>first|rfl|exact aN rfl h2
 cases b<;>simp[cZ,e1,e2]
theorem z4x{op:CmpOp}{r:R2}(ho:OpR X (bp op) r)(ha:PE X a ta)(hb:PE X b tb)(hm:cZ op b=af):PE X (.Compare a [op] [b] pos) (tOp r ta tb):=by
 intro π s σ H Q I h;exact wpAny_Compare1 (binT ha hb I h λv u s2 x y H2 I2 rx ry q=>ho π s2 σ H2 x y v u Q I2 rx ry q) hm
def tTest(t:TE):TT:=λσ H Q=>t σ H λx H'=>∃k,x=.bl k/\Q k H'
theorem z4y{op:CmpOp}{r:R2}(ho:OpR X (bp op) r)(ha:PE X a ta)(hb:PE X b tb)(hm:cZ op b=af):PT X (.Compare a [op] [b] pos) (tTest (tOp r ta tb)):=by
 intro π s σ H Q I h;refine wpAny_isTrue_Compare1 (thn (ha π s σ H _ I h) λv s1⟨x,H1,I1,r1,q1⟩=>thn (hb π s1 σ H1 _ I1 q1) λu s2⟨y,H2,I2,r2,q2⟩=>
  thn (ho π s2 σ H2 x y v u _ I2 r1 r2 q2) λc s3⟨z,H3,I3,r3,k,e,q3⟩=>?_) hm
 subst e;cases r3;exact bW ⟨H3,I3,q3⟩
def z13(r r':R2)(ta tb tc:TE):TE:=λσ H Q=>ta σ H λx H1=>tb σ H1 λy H2=>r x y H2 λz H3=>∃k,z=.bl k /\
 (if k=ac then tc σ H3 λw' H4=>r' y w' H4 Q else Q (.bl af) H3)
theorem z14{op op':CmpOp}{r r':R2}(ho:OpR X (bp op) r)(ho':OpR X (bp op') r')(ha:PE X a ta)(hb:PE X b tb)(hc:PE X c tc)
  (hm:lastMarks [op,op'] [b,c]=af:=by with_unfolding_all rfl):PE X (.Compare a [op,op'] [b,c] pos) (z13 r r' ta tb tc):=by
 intro π s σ H Q I h;refine Compare_chain (thn (ha π s σ H _ I h) λv s1⟨x,H1,I1,r1,q1⟩=>chain_link (thn (hb π s1 σ H1 _ I1 q1) λu s2⟨y,H2,I2,r2,q2⟩=>
  thn (ho π s2 σ H2 x y v u _ I2 r1 r2 q2) λd s3⟨z,H3,I3,r3,k,e,q3⟩=>?_)) hm
 subst e;cases r3;refine bW ?_;cases k with
 |false=>exact ite_ff ⟨.bl af,H3,I3,rfl,q3⟩
 |true=>exact ite_tt (chain_last (thn (hc π s3 σ H3 _ I3 q3) λw' s4⟨z',H4,I4,r4,q4⟩=>ho' π s4 σ H4 y z' u w' Q I4 r2 r4 q4))
def TruV(K:aD)(x:V)(H:Hp)(k:Bool):Prop:=
 match x with
 |.non=>k=af
 |.bl b=>k=b
 |.int i=>k=(i != 0)
 |.str y=>y.length<=sizeLine/\k=((y.length:Int) != 0)
 |.byt y=>y.size<=sizeLine/\k=((y.size:Int) != 0)
 |.ref p=>(∃xs,SqL K H p xs/\k=!xs.isEmpty)\/(∃xs,SqT K H p xs/\k=!xs.isEmpty)\/∃kvs,H p=aa (.dK kvs)/\k=!kvs.isEmpty
 |_=>False
theorem TQ{κ:Type}{kvs:List (κ×V)}{vs:List (κ×ao)}(r:KV kvs vs):(!vs.isEmpty)=!kvs.isEmpty:=by
 cases r<;>rfl
theorem Kg{xs:gg}{its:aF}(r:Vals xs its):(!its.toArray.isEmpty)=!xs.isEmpty:=by
 cases r<;>simp
theorem HB:(sizeLine:Nat)<2^63:=by rw[cA];decide
theorem tru_ok:TruR X (λx H Q=>∃k,TruV X.K x H k/\Q k H):=by
 intro π s σ H x v Q I rx h;obtain⟨k,e,q⟩:=h;have hl:=HB;have hs:sizeLine=16777216:=cA;cases x with
 |non=>
  cases rx;have e':k=af:=e;subst e';exact truthy_none ⟨H,I,q⟩
 |bl b=>
  cases rx;have e':k=b:=e;subst e';exact bW ⟨H,I,q⟩
 |int i=>
  obtain⟨t,rfl⟩:=rx;have e':k=(i != 0):=e;subst e';exact PySem.P.truthy_int ⟨H,I,q⟩
 |str y=>
  obtain⟨t,rfl⟩:=rx;obtain⟨hy,e'⟩:y.length<=sizeLine/\k=((y.length:Int) != 0):=e;subst e';exact PySem.P.truthy_str (by rfl') ⟨H,I.tok _,q⟩
 |byt y=>
  obtain⟨t,rfl⟩:=rx;obtain⟨hy,e'⟩:y.size<=sizeLine/\k=((y.size:Int) != 0):=e;subst e';exact PySem.W.truthy_bytes (by rfl') ⟨H,I.tok _,q⟩
 |ref p=>
  cases rx;have e':(∃xs,SqL X.K H p xs/\k=!xs.isEmpty)\/(∃xs,SqT X.K H p xs/\k=!xs.isEmpty)\/∃kvs,H p=aa (.dK kvs)/\k=!kvs.isEmpty:=e;rcases e' with⟨xs,hx,e'⟩|⟨xs,hx,e'⟩|⟨kvs,hx,e'⟩
  .subst e';obtain⟨its,r,pl,hz⟩:=I.list hx;have hlen:=r.length;exact wpAny_truthy_list pl.isList (by simp only[wD];rfl') ⟨H,I.tok _,by rw[Kg r];exact q⟩
  .subst e';obtain⟨its,r,pl,hz⟩:=I.tuple hx;have hlen:=r.length;exact truthy_tuple pl (by simp only[wD];rfl') ⟨H,I.tok _,by rw[Kg r];exact q⟩
  .subst e';obtain⟨hz,hS,vs,r,m⟩:kvs.length<=sizeLine/\(p==sysModules)=af/\∃vs,KV kvs vs/\s.heap.DictOf (OM X.prog X.w) p vs:=I.hok p _ hx;have hlen:kvs.length=vs.length:=Paired.length r;exact wpAny_truthy_dict hS m (by rfl') ⟨H,I.tok _,by rw[TQ r];exact q⟩
 |_=>exact(show False from e).elim
theorem z15(ha:PE X a ta)(he:∀whole,isTrue a X.env whole=(do let v <-whole;eM a.pos;holding [v] (truthy v))):
  PT X a (λσ H Q=>ta σ H λx H'=>∃k,TruV X.K x H' k/\Q k H'):=by
 intro π s σ H Q I h;exact isTrue_plain (thn (ha π s σ H _ I h) λv s1⟨x,H1,I1,r1,q1⟩=>tru_ok π s1 σ H1 x v Q I1 r1 q1) (he _)
theorem MZ{x:V}{us:aF}(r:Vals [x] us):∃u,us=[u]/\RelV x u:=by
 cases r with
 |cons r1 r2=>cases r2;exact⟨_,rfl,r1⟩
theorem vals2{x y:V}{us:aF}(r:Vals [x,y] us):∃u w',us=[u,w']/\RelV x u/\RelV y w':=by
 cases r with
 |cons r1 r2=>
  cases r2 with
  |cons r3 r4=>cases r4;exact⟨_,_,rfl,r1,r3⟩
theorem z16:EG X (.builtin "abs") (λxs H Q=>∃i,xs=[.int i]/\Q (.int (if i<0 then -i else i)) H):=by
 intro π s σ H xs us Q I r h;obtain⟨i,rfl,q⟩:=h;obtain⟨u,rfl,t,rfl⟩:=MZ r;exact call_abs_int λu tk=>⟨.int (if i<0 then -i else i),H,I.tok _,⟨_,rfl⟩,q⟩
theorem Na:EG X (.type "int") (λxs H Q=>(∃i,xs=[.int i]/\Q (.int i) H)\/∃k,xs=[.bl k]/\Q (.int (if k then 1 else 0)) H):=by
 intro π s σ H xs us Q I r h;rcases h with⟨i,rfl,q⟩|⟨k,rfl,q⟩
 .obtain⟨u,rfl,t,rfl⟩:=MZ r;exact call_int_int ⟨.int i,H,I,⟨_,rfl⟩,q⟩
 .obtain⟨u,rfl,r1⟩:=MZ r;cases r1;exact call_int_bool ⟨.int (if k then 1 else 0),H,I.tok _,⟨_,rfl⟩,q⟩
end
end L2
namespace L2
structure ObjM(h:aV)(x dx C:aj)(mA:aE):Prop where
 obj:h.get? x=aa (eS C dx)
 ns:h.Ns1 dx mA
 ne:dx≠x
theorem ZW{h:aV}{dx:aj}{mA:aE}(n:h.Ns1 dx mA):∃od,h.get? dx=aa od/\∀name,fg name od=aa (mA name):=by
 obtain⟨o,es,ep,ho,hd,hk,_,hm⟩:=n;refine⟨o,ho,λname=>?_⟩;have e:=hm name;unfold nsFind findBy at e;rw[<-Array.find?_toList]at e;unfold fg;rw[hd];dsimp only;split
 .rename_i y q;rw[q]at e;exact bI aa e
 .rename_i q;rw[q]at e;have a:es.toList.any (·.refKey)=af:=by
   rw[w0M];intro y hy;obtain⟨z,t,hkey⟩:=hk y (Array.mem_toList_iff.mp hy);simp[DictEntry.refKey,hkey]
  have a':¬es.toList.any (·.refKey)=ac:=by rw[a];exact wL
  rw[aw a'];exact bI aa e
theorem ObjM.look{h:aV}{x dx C:aj}{mA:aE}(I:ObjM h x dx C mA):∃od,PySem.W.InstAt h x (eS C dx) C (aa od)/\∀name,fg name od=aa (mA name):=
 let ⟨od,ho,hl⟩:=ZW I.ns
 ⟨od,⟨I.obj,rfl,rfl,ho⟩,hl⟩
section
variable {prog:aL}{w:aH}{A:bj}{E:aC}{s:am}{K:aD}{x dx C f:aj}{mA:aE}{name:Str}{v:ao}
end
section
variable {P:aL}{w:aH}{H H':Hp}{h h':aV}{a C dx:aj}{fs fs':List (Str×V)}
theorem z4z(hok:HOk P w H h)(e:H a=aa (.ins C dx fs)):∃mA,ObjM h a dx C mA/\(∀f,RelO (fs.lookup f) (mA f))/\PySem.Within mA (fs.map (·.1))/\fs.length<=1000/\H dx=aa (.own a):=by
 obtain⟨d,z,ne,ob,mA,n,r,q⟩:=(show ObjOk P w H h a (.ins C dx fs)from hok a _ e);exact⟨mA,⟨ob,n,ne⟩,r,q,z,d⟩
end
structure Cls(K:aD)(C:aj):Prop where
 pg:PySem.W.plainGet K C Str.empty=ac
 hd:PySem.W.hasDictIn K C=ac
 po:PySem.W.plainOver K C=ac
 sa:dO K (.ref C) "__setattr__"=aa (aa (.builtin "object.__setattr__"))
theorem Cls.get{K:aD}{C:aj}(c:Cls K C)(f:Str):PySem.W.plainGet K C f=ac:=c.pg
def TR(K:aD)(C:aj)(f:Str):Prop:=dO K (.ref C) f=aa ag
section
variable {X:Cx}{π:aB}{σ:St}{H:Hp}{s:am}{a C dx:aj}{fs:List (Str×V)}{f:Str}{v:V}{A:bj}{E:aC}
end
section
variable {X:Cx}{o e value:aK}{f:Str}{pos pos' tpos:Pos}{ta tv:TE}
end
section
variable {X:Cx}{π:aB}{σ:St}{H:Hp}{s:am}{A:bj}{E:aC}{Q:aC}{c:ao}{b:Bool}
inductive TyOf (K:aD) (H:Hp):V->ao->Prop where
 |non:TyOf K H .non (.type "NoneType")
 |bl (x:Bool):TyOf K H (.bl x) (.type "bool")
 |int (i:Int):TyOf K H (.int i) (.type "int")
 |str (x:Str):TyOf K H (.str x) (.type "str")
 |flt (x:UInt64):TyOf K H (.flt x) (.type "float")
 |lst {a:aj} {xs:gg} (e:H a=aa (.lst xs)):TyOf K H (.ref a) (.type "list")
 |frz {a:aj} {o:Obj} {xs:gg} (e:H a=aa (.frz o (.lst xs))):TyOf K H (.ref a) (.type "list")
 |tup {a:aj} {xs:gg} (e:H a=aa (.tup xs)):TyOf K H (.ref a) (.type "tuple")
 |dK {a:aj} {kvs:List (Key×V)} (e:H a=aa (.dK kvs)):TyOf K H (.ref a) (.type "dict")
 |dT {a:aj} {kvs:List (List Key×V)} (e:H a=aa (.dT kvs)):TyOf K H (.ref a) (.type "dict")
 |ins {a C dx:aj} {fs:List (Str×V)} (e:H a=aa (.ins C dx fs)) (cl:Cls K C) (ha:dO K (.ref C) "__class__"=aa (aa (.builtin "object.__class__")))
  (hn:PySem.W.specialIn K (.builtin "object.__class__") "__get__"=aa (aa (.builtin "getset_descriptor.__get__"))) (htk:PySem.W.takesIn K (.builtin "object.__class__")=aa ac)
  (hm:PySem.W.mroIn K C (.type "object")=aa ac):TyOf K H (.ref a) (.ref C)
theorem Bf{x:V}{u t:ao}(I:Inv X π σ H s)(rx:RelV x u)(ty:TyOf X.K H x t)(e:fh X.K t c=aa b)(h:∀tk,Q (.bool b) { s with toks:=tk }):
  ay (model X.prog X.w) A (call (.builtin "isinstance") [u,c]) Q E s:=by
 cases ty with
 |non=>cases (show u=bw from rx);exact bf PySem.W.kitx_none I.kIn eB e (λz=>nomatch z) h
 |bl y=>cases (show u=eV y from rx);exact bf PySem.W.kitx_bool I.kIn eB e (λz=>nomatch z) h
 |int i=>obtain⟨t,q⟩:=(show ∃t,u=dQ i t from rx);cases q;exact bf PySem.W.kitx_int I.kIn eB e (λz=>nomatch z) h
 |str y=>obtain⟨t,q⟩:=(show ∃t,u=Value.str y t from rx);cases q;exact bf PySem.W.kitx_str I.kIn eB e (λz=>nomatch z) h
 |flt y=>obtain⟨t,q⟩:=(show ∃t,u=Value.float y t from rx);cases q;exact bf PySem.W.kitx_float I.kIn eB e (λz=>nomatch z) h
 | @lst a xs ea=>
  cases (show u=bq a from rx);obtain⟨_,_,n,_,h1⟩:=(show ObjOk X.prog X.w H s.heap a (.lst xs)from I.hok a _ ea);exact bf dw I.kIn ⟨_,h1,rfl⟩ e (λz=>nomatch z) h
 | @frz a ob xs ea=>
  cases (show u=bq a from rx);obtain⟨_,_,_,n,_,h1⟩:=(show ObjOk X.prog X.w H s.heap a (.frz ob (.lst xs))from I.hok a _ ea);exact bf dw I.kIn ⟨_,h1,rfl⟩ e (λz=>nomatch z) h
 | @tup a xs ea=>
  cases (show u=bq a from rx);obtain⟨_,_,_,p⟩:=(show ObjOk X.prog X.w H s.heap a (.tup xs)from I.hok a _ ea);obtain⟨o,h1,h2,_⟩:=p;exact bf PySem.W.kitx_tuple I.kIn ⟨o,h1,h2⟩ e (λz=>nomatch z) h
 | @dK a kvs ea=>
  cases (show u=bq a from rx);obtain⟨_,_,vs,_,p⟩:=(show ObjOk X.prog X.w H s.heap a (.dK kvs)from I.hok a _ ea);obtain⟨o,es,ep,h1,h2,_⟩:=p;exact bf eJ I.kIn ⟨o,h1,h2.1⟩ e (λz=>nomatch z) h
 | @dT a kvs ea=>
  cases (show u=bq a from rx);obtain⟨_,_,xs,_,o,es,ep,h1,h2,_⟩:=(show ObjOk X.prog X.w H s.heap a (.dT kvs)from I.hok a _ ea);exact bf eJ I.kIn ⟨o,h1,h2.1⟩ e (λz=>nomatch z) h
 | @ins a C dx fs ea cl ha hn htk hm=>
  cases (show u=bq a from rx);obtain⟨mA,O,_⟩:=z4z I.hok ea;obtain⟨od,J,_⟩:=O.look;exact bf (PySem.W.kitx_own (cl.get _) cl.hd ha hn htk hm) I.kIn J e (λz=>nomatch z) h
end
end L2
namespace L2
structure Room(k:Nat)(A:bj):Prop where
 hd:A.handled=ag
 dp:A.depth+3*k+5<recursionLimit
 un:A.units+16*k+200<cLine
theorem Room.mono{j k:Nat}{A:bj}(r:Room k A)(h:j<=k):Room j A:=⟨r.hd,by have:=r.dp;rfl',by have:=r.un;rfl'⟩
theorem Room.deeper{k:Nat}{A:bj}(r:Room (k+1) A)(env:Env):Room k (A.deeper env):=
 ⟨r.hd,by have:=r.dp;show A.depth+1+3*k+5<_;rfl',by have:=r.un;show A.units+3+16*k+200<_;rfl'⟩
theorem Room.in1{k:Nat}{A:bj}(r:Room (k+1) A):Room k A.in1:=
 ⟨r.hd,by have:=r.dp;show A.depth+3*k+5<_;rfl',by have:=r.un;show A.units+1+16*k+200<_;rfl'⟩
theorem Room.depth{k:Nat}{A:bj}(r:Room k A):A.depth<recursionLimit:=by have:=r.dp;rfl'
theorem Room.units{k:Nat}{A:bj}(r:Room k A):A.units+64<cLine:=by have:=r.un;rfl'
def tNil:TA:=λ_ H Q=>Q [] H
def z17(ta:TE)(tr:TA):TA:=λσ H Q=>ta σ H λx H1=>tr σ H1 λxs H2=>Q (x::xs) H2
section
variable {X:Cx}{e:aK}{es:fR}{te:TE}{t:TA}{pos:Pos}
theorem CM:PA X [] tNil:=λ_ _ _ _ H Q I h=>Calls.spliced_nil ⟨[],H,I,.nil,h⟩
theorem L9(ha:PE X e te)(hr:PA X es t)(hs:aq (e::es) X.env=(af,eval e X.env)::aq es X.env:=by rfl):PA X (e::es) (z17 te t):=by
 intro pos π s σ H Q I h;rw[hs];show ay _ _ (spliced ((af,eval e X.env)::bH pos (aq es X.env))) _ _ s;refine Calls.spliced_cons (thn (ha π s σ H _ I h) ?_);rintro u s1 ⟨x,H1,I1,r1,q1⟩;exact thn (hr pos π s1 σ H1 _ I1 q1) λus s2⟨xs,H2,I2,r2,q2⟩=>⟨x::xs,H2,I2,.cons r1 r2,q2⟩
def tTup(t:TA):TE:=λσ H Q=>t σ H λxs H1=>xs.length<=sizeLine/\∀p,H1 p=ag->Q (.ref p) (upd H1 p (.tup xs))
def tLst(t:TA):TE:=λσ H Q=>t σ H λxs H1=>xs.length<=sizeLine/\∀p,H1 p=ag->Q (.ref p) (upd H1 p (.lst xs))
theorem pe_tup{x1}(h:PA X es t):PE X (.Tuple es x1 pos) (tTup t):=by
 intro π s σ H Q I hq;refine wpAny_Tuple_spliced (thn (h pos π s σ H _ I hq) λus s1⟨xs,H1,I1,r,z,q⟩=>⟨by rw[<-r.length];exact z,?_⟩);have hf:H1 s1.heap.objs.size=ag:=I1.hok.fresh (wv _);refine⟨.ref s1.heap.objs.size,upd H1 s1.heap.objs.size (.tup xs),I1.laid (t':=s1.toks) (λb u e=>wf _ e) (wv _) ?_,rfl,q _ hf⟩;exact⟨z,us,r,⟨_,wx _ rfl,rfl,_,rfl⟩⟩
theorem pe_lst(h:PA X es t):PE X (.List es pos) (tLst t):=by
 intro π s σ H Q I hq;refine wpAny_List_spliced (thn (h pos π s σ H _ I hq) λus s1⟨xs,H1,I1,r,z,q⟩=>⟨by rw[<-r.length];exact z,?_⟩);have hf:H1 s1.heap.objs.size=ag:=I1.hok.fresh (wv _);refine⟨.ref s1.heap.objs.size,upd H1 s1.heap.objs.size (.lst xs),I1.laid (t':=s1.toks) (λb u e=>wf _ e) (wv _) ?_,rfl,q _ hf⟩;exact⟨z,us,0,r,wx _ rfl⟩
end
abbrev Sp:=gg->Hp->VK->XK->Prop
abbrev CXT:=fU->Hp->am->XK->aC
structure Env0(P:aL)(w:aH)(K:aD)(mg:aE)(base:aV)(A:bj)(outer:fU)(s:am)(H:Hp):Prop where
 frames:A.frames=aa outer
 mod:Mod K mg base
 bs:∀b o,base.get? b=aa o->s.heap.get? b=aa o/\H b=ag
 bsz:base.objs.size<=s.heap.objs.size
 funs:s.heap.FunFrames base outer
 frf:∀b∈frs outer,H b=ag
 hok:HOk P w H s.heap
 bare:eE s.gens
def CE(outer:fU)(P:aL)(w:aH)(H:Hp)(s:am)(Q:VK)(u:ao)(s':am):Prop:=
 ∃v H',s'.os=s.os/\eE s'.gens/\Un (frs outer) [] H H' s.heap s'.heap/\HOk P w H' s'.heap/\RelV v u/\Q v H'
def CR(CX:CXT)(outer:fU)(P:aL)(w:aH)(H:Hp)(s:am)(Q:VK)(E:XK)(r:Result)(s':am):Prop:=
 match r with
 |.ok (.ret u)=>CE outer P w H s Q u s'
 |.ok _=>False
 |.error e=>CX outer H s E e s'
structure FnOk(P:aL)(w:aH)(K:aD)(mg:aE)(base:aV)(CX:CXT)(k:Nat)(f:aj)(fd:ak)(ps:fO)(sp:Sp):Prop where
 len:∀vs H Q E,sp vs H Q E->vs.length=ps.length
 run:∀(A:bj)(outer:fU)(s:am)(H:Hp)(args:Args)(us:aF)(vs:gg)(Q:VK)(E:XK),Room k A->Env0 P w K mg base A outer s H->fw s fd args (ps.zip us)->Vals vs us->sp vs H Q E ->
  eZ (model P w) A (.call (.ref f) args) (CR CX outer P w H s Q E) s
theorem Env0.in1{P:aL}{w:aH}{K:aD}{mg:aE}{base:aV}{A:bj}{outer:fU}{s:am}{H:Hp}(e:Env0 P w K mg base A outer s H):
 Env0 P w K mg base A.in1 outer s H:=⟨e.frames,e.mod,e.bs,e.bsz,e.funs,e.frf,e.hok,e.bare⟩
section
variable {X:Cx}{π:aB}{σ:St}{H:Hp}{s s':am}
theorem Inv.env0(I:Inv X π σ H s):Env0 X.prog X.w X.K X.mg X.base X.A X.stack s H:=
 ⟨I.ok.frames,I.ok.mod,I.bs,wF I.ok.bsz I.sz,I.stack,I.stkFree,I.hok,I.bare⟩
theorem Inv.after{Q:VK}{u:ao}(I:Inv X π σ H s)(h:CE X.stack X.prog X.w H s Q u s'):EP X π σ Q u s':=by
 obtain⟨v,H',os,bare,un,hok,r,q⟩:=h;obtain⟨hh,g,d,t,os'⟩:=s';obtain rfl:os'=s.os:=os;exact⟨v,H',I.call (h':=hh) (g':=g) (d':=d) (t':=t) (ch:=[]) un hok bare (λb z=>aN z (by simp)),r,q⟩
end
def tCall(sp:Sp)(dvs:gg)(E:XK)(t:TA):TE:=λσ H Q=>t σ H λvs H1=>sp (vs++dvs) H1 Q E
def Binds(K:aD)(fd:ak)(ps:fO)(ds:aF):Prop:=
 ∀(s:am)(us:aF),K.In s.heap->(us++ds).length=ps.length->fw s fd ⟨us,[]⟩ (ps.zip (us++ds))
theorem Binds.all{K:aD}{fd:ak}{ps:fO}(h:∀us:aF,us.length=ps.length->fe fd ⟨us,[]⟩=pure (ps.zip us)):Binds K fd ps []:=λs us _ hl=>by
 rw[vn]at hl|-;exact .of_eq (h us hl)
def BQ(CX:CXT)(X:Cx)(E:XK):Prop:=∀(π:aB)(σ:St)(H:Hp)(s:am)(e:ao)(s':am),Inv X π σ H s->CX X.stack H s E e s'->X.xe e s'
section
variable {X:Cx}{CX:CXT}{k:Nat}{f C:aj}{fd:ak}{ps:fO}{sp:Sp}{dvs:gg}{ds:aF}{E:XK}{x m:Str}{p pos apos:Pos}{e o:aK}{es:fR}{ta:TE}{t:TA}
theorem run_fn{π:aB}{σ:St}{H:Hp}{s:am}{Q:VK}{us:aF}{vs:gg}(F:FnOk X.prog X.w X.K X.mg X.base CX k f fd ps sp)(hr:Room k X.A)(hb:Binds X.K fd ps ds)(hd:Vals dvs ds)(hx:BQ CX X E)
  (I:Inv X π σ H s) (r:Vals vs us) (h:sp (vs++dvs) H Q E):ay (model X.prog X.w) X.A (call (.ref f) us) (EP X π σ Q) X.xe s:=by
 have r2:Vals (vs++dvs) (us++ds):=r.append hd;have hl:(us++ds).length=ps.length:=by rw[<-r2.length];exact F.len _ _ _ _ h
 refine wpAny_call (cT (F.run X.A X.stack s H ⟨us,[]⟩ (us++ds) (vs++dvs) Q E hr I.env0 (hb s us I.kIn hl) r2 h) λr s' hq=>?_);cases r with
 |error e=>exact hx π σ H s e s' I hq
 |ok fl=>
  cases fl with
  |ret u=>exact I.after hq
  |next=>exact bR hq
  |brk=>exact bR hq
  |cont=>exact bR hq
theorem AD(F:FnOk X.prog X.w X.K X.mg X.base CX k f fd ps sp)(hr:Room k X.A)(hg:Gl X x)(hm:X.mg x=aa (.ref f))(hk:bQ X.K (.ref f)=ac)(hb:Binds X.K fd ps ds)(hd:Vals dvs ds)(hx:BQ CX X E)
  (ha:PA X (e::es) t) (hdb:(x==("__debug__":Str))=af:=by decide) (he:aq (e::es) X.env=(af,eval e X.env)::aq es X.env:=by rfl) (hpl:(bH pos (aq es X.env)).any (·.1)=af:=by rfl) :
  PE X (.Call (.Name x p) (e::es) [] pos) (tCall sp dvs E t):=by
 intro π s σ H Q I h;refine bK (Gg I hg hm ?_ hdb);refine PySem.W.callWith_K (h₀:=X.base) I.ok.mod.kin hk (thn (ha pos π s σ H _ I h) λus s1⟨vs,H1,I1,r,q⟩=>⟨I1.kIn,?_⟩) he hpl;exact run_fn F hr hb hd hx I1 r q
end
def PK(X:Cx)(kws:List dX)(t:TA):Prop:=
 ∀(pos:Pos)(π:aB)(s:am)(σ:St)(H:Hp)(Q:gg->Hp->Prop),Inv X π σ H s->t σ H Q->ay (model X.prog X.w) X.A (evalAll ((cU pos (bZ kws X.env)).map (·.2))) (AP X π σ Q) X.xe s
section
variable {X:Cx}{CX:CXT}{k:Nat}{f C:aj}{fd:ak}{ps ks:fO}{sp:Sp}{E:XK}{x m:Str}{p pos apos kpos:Pos}{e o:aK}{es:fR}{kws:List dX}{te ta:TE}{t tk:TA}{nm:Option Str}
theorem z18:PK X [] tNil:=λ_ _ _ _ H Q I h=>wpAny_evalAll_nil ⟨[],H,I,.nil,h⟩
theorem Ye(ha:PE X e te)(hr:PK X kws t):PK X (⟨nm,e,kpos⟩::kws) (z17 te t):=by
 intro pos π s σ H Q I h;show ay _ _ (evalAll ((do let v <-eval e X.env;eM pos;pure v)::(cU pos (bZ kws X.env)).map (·.2))) _ _ s;refine wpAny_evalAll_cons (ah (thn (ha π s σ H _ I h) λu s1⟨x,H1,I1,r1,q1⟩=>ah (dM (aI ?_))));exact thn (hr pos π s1 σ H1 _ I1 q1) λus s2⟨xs,H2,I2,r2,q2⟩=>⟨x::xs,H2,I2,.cons r1 r2,q2⟩
variable {g:aF->aF->aF}{gV:gg->gg->gg}
end
structure FnScope(N P:fO)(sc:Scope):Prop where
 kind:sc.kind=.function
 co:sc.isCoroutine=af
 gen:sc.isGenerator=af
 nd:N.Nodup
 pre:N.take P.length=P
 par:∀x∈P,sc.names.lookup x=aa .local\/sc.names.lookup x=aa .cell
 nofree:∀y∈sc.names,y.2 ≠ .free
theorem Nb{kindOf:Str->Option bA}{x:Str}:∀{binds:List (Str×ao)}{m:aE},(∀v,(x,v)∉binds)->bindL kindOf binds m x=m x
 |[],_,_=>rfl
 | (n,v)::r,m,h=>by
  unfold bindL;rw[Nb λw hw=>h w (wc _ hw)];split
  .have:x≠n:=by rintro rfl;exact h v we
   simp[this]
  .rfl
theorem Nc{kindOf:Str->Option bA}{x:Str}:∀{binds:List (Str×ao)}{m:aE},(∀v,(x,v)∉binds)->bindC kindOf binds m x=m x
 |[],_,_=>rfl
 | (n,v)::r,m,h=>by
  unfold bindC;rw[Nc λw hw=>h w (wc _ hw)];split
  .rfl
  .have:x≠n:=by rintro rfl;exact h v we
   simp[this]
theorem Nd{kindOf:Str->Option bA}{x:Str}{v:ao}:∀{P:fO}{vs:aF}{i:Nat}{m:aE},P.Nodup->P[i]?=aa x->vs[i]?=aa v->kindOf x=aa .local ->
  bindL kindOf (P.zip vs) m x=aa v
 |[],_,_,_,_,h,_,_=>by simp at h
 |_::_,[],_,_,_,_,h,_=>by simp at h
 |p::P,w::vs,0,m,nd,h1,h2,hk=>by
  simp at h1 h2;subst h1;subst h2;show bindL kindOf ((p,w)::P.zip vs) m p=_;unfold bindL;rw[Nb λv hv=>(vD.mp nd).1 (vU hv).1,ar hk];simp
 |p::P,w::vs,i+1,m,nd,h1,h2,hk=>by
  show bindL kindOf ((p,w)::P.zip vs) m x=_;unfold bindL;exact Nd (i:=i) (vD.mp nd).2 (by simpa using h1) (by simpa using h2) hk
theorem Nf{kindOf:Str->Option bA}{x:Str}{v:ao}:∀{P:fO}{vs:aF}{i:Nat}{m:aE},P.Nodup->P[i]?=aa x->vs[i]?=aa v->kindOf x≠aa .local ->
  bindC kindOf (P.zip vs) m x=aa v
 |[],_,_,_,_,h,_,_=>by simp at h
 |_::_,[],_,_,_,_,h,_=>by simp at h
 |p::P,w::vs,0,m,nd,h1,h2,hk=>by
  simp at h1 h2;subst h1;subst h2;show bindC kindOf ((p,w)::P.zip vs) m p=_;unfold bindC;rw[Nc λv hv=>(vD.mp nd).1 (vU hv).1,aw hk];simp
 |p::P,w::vs,i+1,m,nd,h1,h2,hk=>by
  show bindC kindOf ((p,w)::P.zip vs) m x=_;unfold bindC;exact Nf (i:=i) (vD.mp nd).2 (by simpa using h1) (by simpa using h2) hk
def start(N:fO)(vs:gg):St:=vs.map aa++bg (N.length-vs.length) ag
def cxOf(CX:CXT)(P:aL)(w:aH)(K:aD)(mg:aE)(base:aV)(N:fO)(qual:Str)(scope:Scope)(f:aj)(cd:ao)(A:bj)(outer:fU)(s:am)(H:Hp)(E:XK):Cx where
 prog:=P
 w:=w
 K:=K
 mg:=mg
 base:=base
 A:=A.deeper (ci qual scope s.heap.objs.size f cd)
 N:=N
 s₀:=s
 H₀:=H
 env:=ci qual scope s.heap.objs.size f cd
 outer:=outer
 stack:=ci qual scope s.heap.objs.size f cd::outer
 ex:=[]
 calm:=ac
 fn:=λ_=>ac
 pn:=[]
 xe:=λe s'=>ay (model P w) (A.deeper (ci qual scope s.heap.objs.size f cd)) (leaving (ci qual scope s.heap.objs.size f cd) e) (λ_ s''=>CX outer H s E e s'') (λe' s''=>CX outer H s E e' s'') s'
theorem Rh{sc:Scope}{n:Nat}{x:Str}(h:sc.names.lookup x=aa .cell):∃c,(aX n sc.names []).lookup x=aa c:=by
 have q:=dH sc.names n [] (.inl h);exact uJ.mp q
theorem ZX{CX:CXT}{P:aL}{w:aH}{K:aD}{mg:aE}{base:aV}{N ps:fO}{qual:Str}{scope:Scope}{f:aj}{cd:ao}{A:bj}{outer:fU}{s s1:am}{H:Hp}{E:XK}{us:aF}{vs:gg}
   (S:FnScope N ps scope) (hd:A.handled=ag) (e0:Env0 P w K mg base A outer s H) (hl:vs.length=ps.length) (r:Vals vs us)
   (x:InCallC s s.heap.objs.size (bindL (ci qual scope s.heap.objs.size f cd).kindOf (ps.zip us) λ_=>ag) (aX (s.heap.objs.size+1) scope.names []) (bindC (ci qual scope s.heap.objs.size f cd).kindOf (ps.zip us) λ_=>ag) s1) :
   Inv (cxOf CX P w K mg base N qual scope f cd A outer s H E) [] (start N vs) H s1:=by
 have hpl:ps.length<=N.length:=by have:=bI dB S.pre;rw[vI]at this;rfl'
 obtain⟨h1,tk,rfl,hk⟩:=x.done;have noA:∀b:aj,b∉(cxOf CX P w K mg base N qual scope f cd A outer s H E).ex:=λb z=>aN (show b∈([]:fP)from z) (by simp);refine⟨⟨e0.mod,S.kind,rfl,rfl,wv _,λy z c h1 h2=>?_,λy hy=>?_,λy c _ h=>?_,λ_=>hd,Around.frames_deeper e0.frames,.inr ⟨rfl,rfl⟩,λb z=>aN z (noA b),e0.bs,e0.bsz,λb _ _=>noA b,λb z=>aN z (noA b),e0.funs,e0.frf⟩,
   rfl,e0.bare,Un.kept hk,⟨_,x.toInCall.ns,λi y v h1 h2 h3=>?_⟩,λy c h=>⟨_,x.cell y c h⟩,e0.hok.fresh (wv _),λy c h=>?_,λp hp=>aN (show p∈([]:aB)from hp) (by simp),e0.hok.kept hk,?_⟩
 .exact name_of_addr x.apart (bi h1) (bi h2)
 .have hy:scope.names.lookup y=aa .cell\/scope.names.lookup y=aa .free:=hy;rcases hy with hy|hy
  .exact Rh hy
  .exact aN rfl (S.nofree _ (bi hy))
 .exact vX (x.above y c (bi h))
 .have hi:i<vs.length:=by
    unfold start at h2;by_cases hi:i<vs.length
    .exact hi
    .rw[vv (by simpa using hi)]at h2;rw[vx]at h2;split at h2<;>cases h2
  have ha:vs[i]?=aa v:=by
    unfold start at h2;rw[wV (by simpa using hi),wy]at h2;cases e:vs[i]? with
    |none=>rw[e]at h2;cases h2
    |some a=>rw[e]at h2;cases h2;rfl
  obtain⟨u,hu,rv⟩:=r.get ha;have hp:ps[i]?=aa y:=by
    rw[<-S.pre,List.getElem?_take_of_lt (by rfl')];exact h1
  have ndP:ps.Nodup:=by rw[<-S.pre];exact S.nd.sublist (List.take_sublist _ _)
  refine⟨u,rv,?_⟩;rcases S.par y (vJ hp)with k|k
  .exact .inl ⟨k,Nd ndP hp hu k⟩
  .obtain⟨c,e⟩:=Rh (n:=s.heap.objs.size+1) k;refine .inr ⟨.inl k,c,e,?_⟩;have q:=x.cell y c e;rw[Nf ndP hp hu (by show scope.names.lookup y≠_;rw[k];decide)]at q;exact q
 .exact e0.hok.fresh (vX (x.above y c (bi h)))
 .unfold start;show _=N.length;rw[wB,wj,vO];rfl'
theorem fn_of{CX:CXT}{P:aL}{w:aH}{K:aD}{mg:aE}{base:aV}{k:Nat}{f:aj}{name qual:Str}{params:Arguments}{body:fT}{scope:Scope}{dV kV doc pm cdv ct oc:ao}{an od:fZ}
  {osl:Array (fY)} {N ps:fO} {sp:Sp} (lk:K.lookup f=aa ⟨oc,od,.func (bB name qual params body scope dV kV doc pm an cdv ct),osl⟩) (hcd:cq K cdv qual=ac) (S:FnScope N ps scope)
  (len:∀vs H Q E,sp vs H Q E->vs.length=ps.length)
  (hbody:∀(A:bj)(outer:fU)(s:am)(H:Hp)(vs:gg)(Q:VK)(E:XK),Room k (A.deeper (ci qual scope s.heap.objs.size f cdv))->sp vs H Q E ->
    ∃t,PSs (cxOf CX P w K mg base N qual scope f cdv A outer s H E) body t/\t { nx:=λ_ H'=>Q .non H',rt:=Q } (start N vs) H) :
  FnOk P w K mg base CX (k+1) f (bB name qual params body scope dV kV doc pm an cdv ct) ps sp:=by
 refine⟨len,λA outer s H args us vs Q E hr e0 hb r hsp=>?_⟩;have hl:=len _ _ _ _ hsp;have KX:K.In s.heap:=e0.mod.kin.keeps λb o e=>(e0.bs b o e).1;have lim:s.heap.NoLimit:=e0.mod.nolimit.keeps λb o e=>(e0.bs b o e).1;have hkind:∀y∈ps.zip us,scope.names.lookup y.1=aa .local\/(scope.names.lookup y.1=aa .cell/\((aX (s.heap.objs.size+1) scope.names []).lookup y.1).isSome=ac):=λ⟨n,v⟩hy=>by
  rcases S.par n (vU hy).1 with q|q
  .exact .inl q
  .exact .inr ⟨q,dH _ _ _ (.inl q)⟩
 refine codeAny_call_function hr.depth (KX _ _ lk) rfl S.co S.gen rfl (PySem.W.codeRec_of KX hcd) (hb _ _ _ _ ?_);refine wpAny_newFunctionEnv_cells S.kind hkind λenv he s1 x=>?_;subst he;refine⟨lim.keeps x.toInCall.keep,codeAny_func ?_⟩;obtain⟨t,ht,hq⟩:=hbody A outer s H vs Q E (hr.deeper _) hsp;have I:Inv (cxOf CX P w K mg base N qual scope f cdv A outer s H E) [] (start N vs) H s1:=ZX S hr.hd e0 hl r x;refine bu (ht [] s1 (start N vs) H _ I hq) (λfl s' hs=>?_) λe s' hs=>hs;have fin:∀{σ':St}{H':Hp}{v:V}{u:ao},Inv (cxOf CX P w K mg base N qual scope f cdv A outer s H E) [] σ' H' s'->RelV v u->Q v H'->CE outer P w H s Q u s':=
  λ{σ' H' v u}J rv q=>⟨v,H',J.os,J.bare,J.base,J.hok,rv,q⟩
 cases fl with
 |ret u=>
  obtain⟨v,σ',H',J,rv,q⟩:=hs;exact fin J rv q
 |next=>
  obtain⟨σ',H',J,q⟩:=hs;exact fin (v:=V.non) (u:=bw) J rfl q
 |brk=>
  obtain⟨_,_,_,q⟩:=hs;exact bR q
 |cont=>
  obtain⟨_,_,_,q⟩:=hs;exact bR q
end L2
namespace L2
section
variable {X:Cx}{x:Str}{p pos:Pos}{e:aK}{es:fR}{t:TA}{id T:String}{r:gg->Hp->VK->Prop}
def tCB(r:gg->Hp->VK->Prop)(t:TA):TE:=λσ H Q=>t σ H λvs H1=>r vs H1 Q
theorem Kh(hc:EG X (.builtin id) r)(hg:Gl X x)(hm:X.mg x=ag)(hv:bz x=aa (.builtin id))(ha:PA X (e::es) t)(hn:x ≠ "__name__":=by decide)(hdb:(x==("__debug__":Str))=af:=by decide)
  (he:aq (e::es) X.env=(af,eval e X.env)::aq es X.env:=by rfl) (hpl:(bH pos (aq es X.env)).any (·.1)=af:=by rfl):PE X (.Call (.Name x p) (e::es) [] pos) (tCB r t):=by
 intro π s σ H Q I h;refine bK (BO I hg hm hv ?_ hn hdb);exact PyProof.Rows.callWith_builtin1 (thn (ha pos π s σ H _ I h) λus s1⟨vs,H1,I1,r1,q1⟩=>hc π s1 σ H1 vs us Q I1 r1 q1) he hpl
theorem ZY(hc:EG X (.type T) r)(hg:Gl X x)(hm:X.mg x=ag)(hv:bz x=aa (.type T))(ha:PA X (e::es) t)(hn:x ≠ "__name__":=by decide)(hdb:(x==("__debug__":Str))=af:=by decide)
  (he:aq (e::es) X.env=(af,eval e X.env)::aq es X.env:=by rfl) (hpl:(bH pos (aq es X.env)).any (·.1)=af:=by rfl):PE X (.Call (.Name x p) (e::es) [] pos) (tCB r t):=by
 intro π s σ H Q I h;refine bK (BO I hg hm hv ?_ hn hdb);exact bN (thn (ha pos π s σ H _ I h) λus s1⟨vs,H1,I1,r1,q1⟩=>hc π s1 σ H1 vs us Q I1 r1 q1) he hpl
end
end L2
namespace HT
section
open PySem.SeqAt
open PySem.AutoSeq1 (wpAny_loadPart')
open PySem.MeetsSeq PySem.MeetsSeq2 PySem.MeetsSeq3
end
section
variable {prog:aL}{w:aH}{A:bj}{E:aC}{s:am}
def sIx(n d:Nat):fX->Nat
 |none=>d
 |some v=>if v<0 then(v+(n:Int)).toNat else min v.toNat n
theorem sIx_none(n d:Nat):sIx n d ag=d:=rfl
theorem sIx_nat(n d k:Nat):sIx n d (aa (k:Int))=min k n:=by
 show(if(k:Int)<0 then((k:Int)+(n:Int)).toNat else min (k:Int).toNat n)=min k n;rw[aw (by rfl'),w0d]
end
end HT
namespace L2
abbrev TO:=St->Hp->(fX->Hp->Prop)->Prop
def PO(X:Cx)(e:Option aK)(t:TO):Prop:=
 ∀(π:aB)(s:am)(σ:St)(H:Hp)(Q:fX->Hp->Prop),Inv X π σ H s->t σ H Q ->
  ay (model X.prog X.w) X.A (evalPart e X.env) (λu s'=>∃o H',Inv X π σ H' s'/\IsPart u o/\Q o H') X.xe s
def z4A:TO:=λ_ H Q=>Q ag H
def tPart(t:TE):TO:=λσ H Q=>t σ H λx H1=>∃i,x=.int i/\Q (aa i) H1
section
variable {X:Cx}{e:aK}{te:TE}{lo hi:Option aK}{tl th:TO}{pos p2:Pos}
theorem z4B:PO X ag z4A:=by
 intro π s σ H Q I h;rw[evalPart_none];exact aI ⟨ag,H,I,.none,h⟩
theorem z4C(h:PE X e te):PO X (aa e) (tPart te):=by
 intro π s σ H Q I hw;rw[evalPart_some];refine thn (h π s σ H _ I hw) ?_;rintro u s1 ⟨x,H1,I1,r1,q1⟩;obtain⟨i,rfl,q⟩:=q1;obtain⟨t,rfl⟩:=r1;exact⟨aa i,H1,I1,.int i t,q⟩
def SlR(X:Cx)(r:V->fX->fX->Hp->VK->Prop):Prop:=
 ∀(π:aB)(s:am)(σ:St)(H:Hp)(x:V)(v vl vu:ao)(lo hi:fX)(sl:aj)(Q:VK),Inv X π σ H s->RelV x v->s.heap.IsSliceOf sl vl vu .none->IsPart vl lo->IsPart vu hi->r x lo hi H Q ->
  ∃T id,typeLookup (.type T) "__getitem__"=pure (aa (.builtin id))/\s.TypeIs v T/\ay (model X.prog X.w) X.A (getItem v (.ref sl)) (EP X π σ Q) X.xe s
def tSl(r:V->fX->fX->Hp->VK->Prop)(te:TE)(tl th:TO):TE:=λσ H Q=>te σ H λx H1=>tl σ H1 λl H2=>th σ H2 λu H3=>r x l u H3 Q
theorem z19{r:V->fX->fX->Hp->VK->Prop}(hr:SlR X r)(he:PE X e te)(hl:PO X lo tl)(hu:PO X hi th):PE X (.Subscript e (.Slice lo hi ag p2) pos) (tSl r te tl th):=by
 intro π s σ H Q I h;refine Subscript_ (thn (he π s σ H _ I h) ?_);rintro v s1 ⟨x,H1,I1,r1,q1⟩;refine wpAny_Slice (thn (hl π s1 σ H1 _ I1 q1) λvl s2⟨l,H2,I2,pl,q2⟩=>thn (hu π s2 σ H2 _ I2 q2) ?_);rintro vu s3 ⟨u,H3,I3,pu,q3⟩;rw[evalPart_none];refine aI ?_;have I4:Inv X π σ H3 { s3 with heap:=s3.heap.push { cls:=.type "slice",data:=.fields #[vl,vu,.none] } }:=I3.kept (t':=s3.toks) λb ob q=>wf _ q;obtain⟨T,id,hT,ht,hg⟩:=hr π { s3 with heap:=s3.heap.push { cls:=.type "slice",data:=.fields #[vl,vu,.none] } } σ H3 x v vl vu l u s3.heap.objs.size Q I4 r1 (Heap.IsSliceOf.new ..) pl pu q3;show ay (model X.prog X.w) X.A (subscriptTail e (.Slice lo hi ag p2) v (.ref s3.heap.objs.size)) (EP X π σ Q) X.xe { s3 with heap:=s3.heap.push { cls:=.type "slice",data:=.fields #[vl,vu,.none] } };exact tail_any (ops:=[.ref s3.heap.objs.size,v]) ht hT hg (by with_unfolding_all rfl)
def cutV(xs:gg)(lo hi:fX):gg:=(xs.drop (HT.sIx xs.length 0 lo)).take (HT.sIx xs.length xs.length hi-HT.sIx xs.length 0 lo)
theorem Ri(xs:gg)(lo hi:fX):(cutV xs lo hi).length<=xs.length:=by
 unfold cutV;rw[vI,vd];rfl'
end
end L2
namespace L2
def ixN(n:Nat)(i:Int):Option Nat:=if 0<=i then(if i<n then aa i.toNat else ag) else if -(n:Int)<=i then aa (i+n).toNat else ag
def atI{α:Type}(xs:List α)(i:Int):Option α:=(ixN xs.length i).bind λj=>xs[j]?
theorem Yg{n:Nat}{i:Int}{j:Nat}(h:ixN n i=aa j):seqIndex? i n=aa j/\j<n /\ -(n:Int)<=i/\i<n:=by
 unfold ixN at h;by_cases h0:0<=i
 .rw[ar h0]at h;by_cases h1:i<n
  .rw[ar h1]at h;have e:i.toNat=j:=aP h;exact⟨by rw[seqIndex_of h0 h1,e],by rfl',by rfl',h1⟩
  .rw[aw h1]at h;cases h
 .rw[aw h0]at h;by_cases h1 : -(n:Int)<=i
  .rw[ar h1]at h;have e:(i+n).toNat=j:=aP h;exact⟨by rw[seqIndex_neg (by rfl') h1,e],by rfl',h1,by rfl'⟩
  .rw[aw h1]at h;cases h
theorem ON{α:Type}{xs:List α}{i:Int}{v:α}(h:atI xs i=aa v):∃j,seqIndex? i xs.length=aa j/\xs[j]?=aa v/\j<xs.length /\ -(xs.length:Int)<=i/\i<xs.length:=by
 unfold atI at h;cases e:ixN xs.length i with
 |none=>rw[e]at h;cases h
 |some j=>
  rw[e]at h;obtain⟨h1,h2,h3,h4⟩:=Yg e;exact⟨j,h1,h,h2,h3,h4⟩
theorem BR{α:Type}{xs:List α}{j:Nat}{v:α}(h:xs[j]?=aa v):atI xs (j:Int)=aa v:=by
 have hj:j<xs.length:=(vF.mp h).1;have e:ixN xs.length (j:Int)=aa j:=by
  unfold ixN;rw[ar (by rfl'),ar (by rfl')];simp
 unfold atI;rw[e];exact h
def OO(b:aK):Prop:=∀o i,subscripted b af o i=operate [o,i] (getItem o i)
def IxR(X:Cx)(r:R2):Prop:=
 ∀(value slice:aK)(π:aB)(s:am)(σ:St)(H:Hp)(x y:V)(v u:ao)(Q:VK),Inv X π σ H s->RelV x v->RelV y u->r x y H Q ->
  subscripted slice af v u=operate [v,u] (getItem v u)->ay (model X.prog X.w) X.A (subscriptTail value slice v u) (EP X π σ Q) X.xe s
def MtR(X:Cx)(id:String)(r:V->gg->Hp->VK->Prop):Prop:=
 ∀(π:aB)(s:am)(σ:St)(H:Hp)(x:V)(xs:gg)(v:ao)(us:aF)(Q:VK),Inv X π σ H s->RelV x v->Vals xs us->r x xs H Q ->
  ay (model X.prog X.w) X.A (call (.builtin id) (v::us)) (EP X π σ Q) X.xe s
section
variable {X:Cx}{a b:aK}{ta tb:TE}{pos:Pos}
theorem IxR.or{r r':R2}(h:IxR X r)(h':IxR X r'):IxR X (λx y H Q=>r x y H Q\/r' x y H Q):=by
 intro value slice π s σ H x y v u Q I rx ry q hs;rcases q with q|q
 .exact h value slice π s σ H x y v u Q I rx ry q hs
 .exact h' value slice π s σ H x y v u Q I rx ry q hs
theorem z1a{r:R2}(hr:IxR X r)(ha:PE X a ta)(hb:PE X b tb)(hs:OO b):PE X (.Subscript a b pos) (tOp r ta tb):=by
 intro π s σ H Q I h;exact Subscript_ (binT ha hb I h λv u s2 x y H2 I2 rx ry q=>hr a b π s2 σ H2 x y v u Q I2 rx ry q (hs _ _))
def rIxL(K:aD):R2:=λx y H Q=>∃p xs i v,x=.ref p/\y=.int i/\SqL K H p xs/\atI xs i=aa v/\Q v H
def rIxT(K:aD):R2:=λx y H Q=>∃p xs i v,x=.ref p/\y=.int i/\SqT K H p xs/\atI xs i=aa v/\Q v H
def rIxS:R2:=λx y H Q=>∃z i c,x=.str z/\y=.int i/\z.length<=sizeLine/\atI z.cps.toList i=aa c/\Q (.str ⟨#[c]⟩) H
theorem OP:IxR X (rIxL X.K):=by
 intro value slice π s σ H x y v u Q I rx ry h hs;obtain⟨p,xs,i,z,rfl,rfl,hq,he,q⟩:=h;cases rx;obtain⟨t,rfl⟩:=ry;obtain⟨its,r,pl,hz⟩:=I.list hq;obtain⟨j,h1,h2,h3,h4,h5⟩:=ON he;obtain⟨w,ew,rw'⟩:=r.get h2;have hl:=r.length;have hn:=HB;have fin:EP X π σ Q w s:=⟨z,H,I,rw',q⟩;by_cases h0:0<=i
 .have hj:i.toNat=j:=by
   rw[seqIndex_of h0 h5]at h1;exact aP h1
  exact item_listR pl.isList h0 (by rfl') (by rw[hj];simpa using ew) fin hs
 .have hj:(i+(its.toArray.size:Int)).toNat=j:=by
   rw[seqIndex_neg (by rfl') h4]at h1;rw[wD,<-hl];exact aP h1
  exact subscriptTail_builtinR (x:=w) pl.isList.typeIs slot_list_getitem.lookup
   (wpAny_getItem_list_neg (Q:=λr s'=>r=w/\EP X π σ Q r s') pl.isList (by rfl') (by rw[wD]<;>rfl') (by rfl') (by rw[hj];simpa using ew) ⟨rfl,fin⟩) hs
theorem ix_tup:IxR X (rIxT X.K):=by
 intro value slice π s σ H x y v u Q I rx ry h hs;obtain⟨p,xs,i,z,rfl,rfl,hq,he,q⟩:=h;cases rx;obtain⟨t,rfl⟩:=ry;obtain⟨its,r,pl,hz⟩:=I.tuple hq;obtain⟨j,h1,h2,h3,h4,h5⟩:=ON he;obtain⟨w,ew,rw'⟩:=r.get h2;have hl:=r.length;have hn:=HB;have fin:EP X π σ Q w s:=⟨z,H,I,rw',q⟩;exact subscriptTail_builtinR (x:=w) pl.typeIs slot_tuple_getitem.lookup
  (getItem_tuple (j:=j) (Q:=λr s'=>r=w/\EP X π σ Q r s') pl (by rfl') (by rfl') (by rw[wD,<-hl];exact h1) (by simpa using ew) ⟨rfl,fin⟩) hs
theorem ix_str:IxR X rIxS:=by
 intro value slice π s σ H x y v u Q I rx ry h hs;obtain⟨z,i,c,rfl,rfl,hz,he,q⟩:=h;obtain⟨t,rfl⟩:=rx;obtain⟨t',rfl⟩:=ry;obtain⟨j,h1,h2,h3,h4,h5⟩:=ON he;have hl:z.cps.toList.length=z.length:=by simp[Str.length]
 rw[hl]at h1 h4 h5;have hn:=HB;exact tail_any (typeIs_str s z t) slot_str_getitem.lookup (getItem_str (c:=c) (by
  have e1:decide (i < -(2^63:Int))=af:=aU (by rfl');have e2:decide (i≥2^63)=af:=aU (by rfl');rw[e1,e2,Bool.or_false]) (by rw[h1];simpa using h2) ⟨.str ⟨#[c]⟩,H,I.tok _,⟨_,rfl⟩,q⟩) hs
def rIx(K:aD):R2:=λx y H Q=>rIxL K x y H Q\/rIxT K x y H Q\/rIxS x y H Q
theorem ix_seq:IxR X (rIx X.K):=OP.or (ix_tup.or ix_str)
theorem TU(its:aF)(n j:Nat)(u:ao):cB (·.setIfInBounds j u) { cls:=.type "list",data:=.seq its.toArray n }={ cls:=.type "list",data:=.seq (its.set j u).toArray n }:=by
 simp[cB]
theorem Inv.lst{π:aB}{σ:St}{H:Hp}{s:am}{p:aj}{xs:gg}(I:Inv X π σ H s)(h:H p=aa (.lst xs)):
  ∃(its:aF)(n:Nat),Vals xs its/\s.heap.get? p=aa { cls:=.type "list",data:=.seq its.toArray n }/\xs.length<=sizeLine:=by
 obtain⟨z,its,n,r,e⟩:=I.hok p _ h;exact⟨its,n,r,e,z⟩
theorem Inv.lstUpd{π:aB}{σ:St}{H:Hp}{s:am}{p:aj}{xs ys:gg}{its its':aF}{n n':Nat}{f:Obj->Obj}(I:Inv X π σ H s)(h:H p=aa (.lst xs))
  (ho:s.heap.get? p=aa { cls:=.type "list",data:=.seq its.toArray n }) (hf:f { cls:=.type "list",data:=.seq its.toArray n }={ cls:=.type "list",data:=.seq its'.toArray n' }) (r:Vals ys its') (hz:ys.length<=sizeLine) (t:Nat) :
  Inv X π σ (upd H p (.lst ys)) { s with heap:=s.heap.update p f,toks:=t }:=by
 have e:(s.heap.update p f).get? p=aa { cls:=.type "list",data:=.seq its'.toArray n' }:=by
  rw[uw f ho (by rw[hf]<;>rfl),hf]
 refine I.write (x:=p) (e:=p) (by rw[h];trivial) (.inl rfl) (λb u hb q=>(vL _ _ (bL hb)).trans q) ⟨_,e⟩ ?_;exact⟨hz,its',n',r,e⟩
def rSetL:V->V->V->Hp->(Hp->Prop)->Prop:=λo i v H Q=>∃p xs k j,o=.ref p/\i=.int k/\H p=aa (.lst xs)/\ixN xs.length k=aa j/\Q (upd H p (.lst (xs.set j v)))
theorem Ki:PSet X rSetL:=by
 intro π s σ H o i v ov iv u Q I ro ri rv h;obtain⟨p,xs,k,j,rfl,rfl,hp,hj,q⟩:=h;cases ro;obtain⟨t,rfl⟩:=ri;obtain⟨its,n,r,ho,hz⟩:=I.lst hp;obtain⟨h1,h2,h3,h4⟩:=Yg hj;have hl:=r.length;have hn:=HB;have I':Inv X π σ (upd H p (.lst (xs.set j v))) { s with heap:=s.heap.update p (cB (·.setIfInBounds j u)) }:=
   I.lstUpd hp ho (TU its n j u) (r.set rv j) (by rw[vq];exact hz) s.toks
 by_cases h0:0<=k
 .have hk:k.toNat=j:=by
   rw[seqIndex_of h0 h4]at h1;exact aP h1
  exact PySem.W.ki_setAt ho h0 (by rfl') (by rw[wD,<-hl];exact h4) (by rw[hk];exact⟨_,I',q⟩)
 .have hk:(k+(its.toArray.size:Int)).toNat=j:=by
   rw[seqIndex_neg (by rfl') h3]at h1;rw[wD,<-hl];exact aP h1
  exact PySem.W.ki_setBack ho (by rfl') (by rw[wD,<-hl];exact h3) (by rfl') (by rw[hk];exact⟨_,I',q⟩)
theorem OQ(lo hi:fX)(n:Nat):(dg lo hi ag n).1=((HT.sIx n 0 lo:Nat):Int)/\(dg lo hi ag n).2.1=((HT.sIx n n hi:Nat):Int)/\(dg lo hi ag n).2.2=1:=by
 refine⟨?_,?_,rfl⟩
 .cases lo with
  |none=>simp[dg,HT.sIx]
  |some i=>
   simp only[dg,HT.sIx,w0Z,show(1:Int) > 0 by decide,if_true];by_cases h:i<0
   .simp only[h,if_true]<;>rfl'
   .simp only[h,if_false]<;>rfl'
 .cases hi with
  |none=>simp[dg,HT.sIx]
  |some i=>
   simp only[dg,HT.sIx,w0Z,show(1:Int) > 0 by decide,if_true];by_cases h:i<0
   .simp only[h,if_true]<;>rfl'
   .simp only[h,if_false]<;>rfl'
theorem MR(its:aF)(lo hi:fX):slicePick its.toArray lo hi ag=((its.drop (HT.sIx its.length 0 lo)).take (HT.sIx its.length its.length hi-HT.sIx its.length 0 lo)).toArray:=by
 obtain⟨h1,h2,h3⟩:=OQ lo hi its.toArray.size;unfold slicePick;rw[h1,h2,h3];simp only[sliceRange_one,pick_run,wD]<;>rfl
def rSlL(K:aD):V->fX->fX->Hp->VK->Prop:=λx lo hi H Q=>∃a xs,x=.ref a/\SqL K H a xs/\∀p,H p=ag->Q (.ref p) (upd H p (.lst (cutV xs lo hi)))
theorem z4D:SlR X (rSlL X.K):=by
 intro π s σ H x v vl vu lo hi sl Q I rx hs pl pu h;obtain⟨a,xs,rfl,hx,q⟩:=h;cases rx;obtain⟨its,r,ht,hz⟩:=I.list hx;have hlen:=r.length;refine⟨"list",_,slot_list_getitem.lookup,ht.isList.typeIs,?_⟩;refine wpAny_getItem_list_slice ht.isList hs pl pu .none (by simp) ?_ (by rw[wD]<;>rfl');rw[MR,<-hlen];refine⟨.ref s.heap.objs.size,_,I.laid (t':=s.toks) (o:=.lst (cutV xs lo hi)) (λb ob q=>wf _ q) (wv _) ?_,rfl,q _ (I.hok.fresh (wv _))⟩;exact⟨wF (Ri xs lo hi) hz,_,0,(r.drop (HT.sIx xs.length 0 lo)).take (HT.sIx xs.length xs.length hi-HT.sIx xs.length 0 lo),wx _ rfl⟩
theorem BS:EG X (.builtin "len") (λxs H Q=>∃p ys,xs=[.ref p]/\(SqL X.K H p ys\/SqT X.K H p ys)/\Q (.int ys.length) H):=by
 intro π s σ H xs us Q I r h;obtain⟨p,ys,rfl,hq,q⟩:=h;obtain⟨u,rfl,rx⟩:=MZ r;cases rx;have hn:=HB;rcases hq with hq|hq
 .obtain⟨its,r',pl,hz⟩:=I.list hq;have hlen:=r'.length;exact Calls.call_len_list pl.isList (by simp only[wD]<;>rfl') ⟨.int ys.length,H,I.tok _,⟨s.toks+1,by rw[wD,hlen]⟩,q⟩
 .obtain⟨its,r',pl,hz⟩:=I.tuple hq;have hlen:=r'.length;exact len_tuple pl (by simp only[wD]<;>rfl') ⟨.int ys.length,H,I.tok _,⟨s.toks+1,by rw[wD,hlen]⟩,q⟩
theorem Gi:EG X (.type "list") (λxs H Q=>∃p ys,xs=[.ref p]/\(SqL X.K H p ys\/SqT X.K H p ys)/\∀l,H l=ag->Q (.ref l) (upd H l (.lst ys))):=by
 intro π s σ H xs us Q I r h;obtain⟨p,ys,rfl,hq,q⟩:=h;obtain⟨u,rfl,rx⟩:=MZ r;cases rx;have fin:∀(its:aF),Vals ys its->ys.length<=sizeLine->∀(h':aV)(c':Nat),(∀b o',s.heap.get? b=aa o'->h'.get? b=aa o') ->
    h'.get? s.heap.objs.size=aa { cls:=.type "list",dict:=ag,data:=.seq its.toArray c',slots:=#[] }->EP X π σ Q (.ref s.heap.objs.size) { s with heap:=h' }:=λits r' hz h' c' kp e=>
   ⟨.ref s.heap.objs.size,_,I.laid (t':=s.toks) kp (wv _) (show ObjOk X.prog X.w _ h' _ (.lst ys) from⟨hz,its,c',r',e⟩),rfl,q _ (I.hok.fresh (wv _))⟩
 rcases hq with hq|hq
 .obtain⟨its,r',pl,hz⟩:=I.list hq;have hlen:=r'.length;obtain⟨o,ho,hc,n,hd⟩:=pl.isList;exact call_list_seq p (.inl rfl) ho hc hd (λh' c' kp e=>fin its r' hz h' c' kp e) (by simp only[wD]<;>rfl')
 .obtain⟨its,r',pl,hz⟩:=I.tuple hq;have hlen:=r'.length;obtain⟨o,ho,hc,n,hd⟩:=pl;exact call_list_seq p (.inr rfl) ho hc hd (λh' c' kp e=>fin its r' hz h' c' kp e) (by simp only[wD]<;>rfl')
theorem EH:EG X (.type "tuple") (λxs H Q=>∃p ys,xs=[.ref p]/\((SqL X.K H p ys/\∀l,H l=ag->Q (.ref l) (upd H l (.tup ys)))\/(SqT X.K H p ys/\Q (.ref p) H))):=by
 intro π s σ H xs us Q I r h;obtain⟨p,ys,rfl,h⟩:=h;obtain⟨u,rfl,rx⟩:=MZ r;cases rx;rcases h with⟨hq,q⟩|⟨hq,q⟩
 .obtain⟨its,r',pl,hz⟩:=I.list hq;have hlen:=r'.length;refine call_tuple_list pl.isList (λh' kp=>?_) (by simp only[wD]<;>rfl');have I1:Inv X π σ H { s with heap:=h' }:=I.kept (t':=s.toks) kp;have I2:Inv X π σ (upd H h'.objs.size (.tup ys)) { s with heap:=h'.push { cls:=.type "tuple",data:=.seq its.toArray } }:=
   I1.laid (t':=s.toks) (λb o e=>wf _ e) (wv _) (show ObjOk X.prog X.w _ _ _ (.tup ys) from⟨hz,its,r',IsTup.new _ _⟩)
  exact⟨.ref h'.objs.size,_,I2,rfl,q _ (I1.hok.fresh (wv _))⟩
 .obtain⟨its,r',pl,hz⟩:=I.tuple hq;exact call_tuple_same pl ⟨.ref p,H,I,rfl,q⟩
def tyV(K:aD)(T:String)(x:V)(H:Hp):Prop:=match x with
 |.str _=>T ="str"
 |.int _=>T ="int"
 |.ref p=>(T ="list" /\ ∃xs,SqL K H p xs)\/(T ="tuple" /\ ∃o,K.lookup p=aa o/\o.cls=.type "tuple" /\ o.dict=ag) \/
  (T ="dict" /\ ((∃kvs,H p=aa (.dK kvs))\/∃kvs,H p=aa (.dT kvs)))\/(T ="set" /\ ∃S n,H p=aa (.set S n))
 |_=>False
theorem tyV_is{π:aB}{σ:St}{H:Hp}{s:am}{T:String}{x:V}{v:ao}(I:Inv X π σ H s)(r:RelV x v)(ty:tyV X.K T x H):
  s.TypeIs v T/\∀a,v=.ref a->∃ob,s.heap.get? a=aa ob/\ob.dict=ag:=by
 cases x with
 |str z=>
  obtain⟨t,rfl⟩:=r;cases (show T ="str" from ty);exact⟨typeIs_str s z t,λ_ e=>nomatch e⟩
 |int i=>
  obtain⟨t,rfl⟩:=r;cases (show T ="int" from ty);exact⟨typeIs_int s i t,λ_ e=>nomatch e⟩
 |ref p=>
  cases r;rcases ty with⟨rfl,xs,hq⟩|⟨rfl,o,hk,hc,hd⟩|⟨rfl,hk⟩|⟨rfl,S,n,hk⟩
  .obtain⟨its,_,pl,_⟩:=I.list hq;refine⟨pl.isList.typeIs,λa e=>?_⟩;cases e;obtain⟨o,n,e,c,hd,_⟩:=pl;exact⟨o,e,hd⟩
  .refine⟨⟨o,I.kIn p o hk,hc⟩,λa e=>?_⟩;cases e;exact⟨o,I.kIn _ o hk,hd⟩
  .have z:∃o,s.heap.get? p=aa o/\o.ExactDict:=by
    rcases hk with⟨kvs,hk⟩|⟨kvs,hk⟩
    .obtain⟨_,_,_,_,o,_,_,e,ex,_⟩:=I.hok p _ hk;exact⟨o,e,ex⟩
    .obtain⟨_,_,_,_,o,_,_,e,ex,_⟩:=I.hok p _ hk;exact⟨o,e,ex⟩
   obtain⟨o,e,ex⟩:=z;refine⟨⟨o,e,ex.1⟩,λa e2=>?_⟩;cases e2;exact⟨o,e,ex.2.1⟩
  .obtain⟨o,_,_,_,e,ex,_⟩:=I.hok p _ hk;refine⟨⟨o,e,ex.1⟩,λa e2=>?_⟩;cases e2;exact⟨o,e,ex.2.1⟩
 |_=>exact bR ty
def tBM(K:aD)(T:String)(r:V->gg->Hp->VK->Prop)(to:TE)(t:TA):TE:=λσ H Q=>to σ H λx H1=>tyV K T x H1/\t σ H1 λxs H2=>r x xs H2 Q
variable {o e:aK}{es:fR}{to:TE}{t:TA}{name:Str}{apos cpos:Pos}{T id:String}{r:V->gg->Hp->VK->Prop}
theorem z1b(pa:PlainAttrs T)(slot:Slot T name id)(hty:typeOf (.builtin id)=pure (.type "method_descriptor"))(hm:MtR X id r)(ho:PE X o to)(ha:PA X (e::es) t)
  (hbase:attributeBase o name X.env (eval o X.env)=eval o X.env:=by rfl)
  (hfew:((backTo cpos (starEach (e::es) X.env)).all (fun x=>!x.1)&&(backToKw cpos (keywordEach [] X.env)).all (fun x=>x.1.isSome)
   && decide ((e::es).length+([]:List dX).length+(if([]:List dX).isEmpty then 0 else 1)<30))=ac:=by rfl)
  (hline:(apos.endLine==cpos.line)=ac:=by rfl) (hs:aq (e::es) X.env=(af,eval e X.env)::aq es X.env:=by rfl) (hplain:(bH cpos (aq es X.env)).any (·.1)=af:=by rfl) :
  PE X (.Call (.Attribute o name apos) (e::es) [] cpos) (tBM X.K T r to t):=by
 intro π s σ H Q I h;refine wpAny_Call_method_late hbase hfew hline rfl (thn (ho π s σ H _ I h) ?_);rintro v s1 ⟨x,H1,I1,r1,ty,q1⟩;obtain⟨h1,h2⟩:=tyV_is I1 r1 ty;refine⟨T,id,pa,slot,hty,h1,h2,?_⟩;have hA:=ha cpos π s1 σ H1 _ I1 q1;rw[hs]at hA|-;refine Calls.callWith_builtin (by show(af||(bH cpos (aq es X.env)).any (·.1))=af;rw[hplain]<;>rfl) (Calls.evalArgs_plain ?_);exact thn hA λus s2⟨vs,H2,I2,r2,q2⟩=>hm π s2 σ H2 x vs v us Q I2 r1 r2 q2
end
end L2
namespace L2
def MtM(X:Cx)(id:String)(r:V->gg->Hp->VK->Prop):Prop:=
 ∀(π:aB)(s:am)(σ:St)(H:Hp)(x:V)(xs:gg)(v:ao)(us:aF)(Q:VK),Inv X π σ H s->RelV x v->Vals xs us->r x xs H Q ->
  ay (model X.prog X.w) X.A (call (.builtin id) (v::us)) (EP X π σ Q) X.xe s
theorem Vals.zero:∀{us:aF},Vals [] us->us=[]
 |_,.nil=>rfl
theorem Vals.uncons{x:V}{xs:gg}{us:aF}(h:Vals (x::xs) us):∃u vs,us=u::vs/\RelV x u/\Vals xs vs:=by
 cases h with
 |cons r t=>exact⟨_,_,rfl,r,t⟩
theorem Vals.one{x:V}{us:aF}(h:Vals [x] us):∃u,us=[u]/\RelV x u:=by
 obtain⟨u,vs,e,r,t⟩:=h.uncons;rw[t.zero]at e;exact⟨u,e,r⟩
theorem Vals.two{x y:V}{us:aF}(h:Vals [x,y] us):∃u v,us=[u,v]/\RelV x u/\RelV y v:=by
 obtain⟨u,vs,e,r,t⟩:=h.uncons;obtain⟨v,e2,q⟩:=t.one;rw[e2]at e;exact⟨u,v,e,r,q⟩
section
variable {X:Cx}{π:aB}{σ:St}{H:Hp}{s:am}{l b:aj}{xs ys zs:gg}
theorem Inv.lset{its its':aF}{n:Nat}{f:fV->fV}{t':Nat}(I:Inv X π σ H s)(hH:H l=aa (.lst xs))
  (e:s.heap.get? l=aa { cls:=.type "list",data:=.seq its.toArray n }) (hf:f its.toArray=its'.toArray) (hv:Vals ys its') (hz:ys.length<=sizeLine) :
  Inv X π σ (upd H l (.lst ys)) { s with heap:=s.heap.update l (cB f),toks:=t' }:=by
 have q:=PySem.IsL.update e f;rw[hf]at q;refine I.write (x:=l) (e:=l) (by rw[hH];exact trivial) (.inl rfl) (λb' u hb hu=>(vL s.heap (cB f) (bL hb)).trans hu) ⟨_,q⟩ ?_;exact⟨hz,its',_,hv,q⟩
theorem Inv.lnew{its:aF}{t':Nat}(I:Inv X π σ H s)(hv:Vals ys its)(hz:ys.length<=sizeLine):
  Inv X π σ (upd H s.heap.objs.size (.lst ys)) { s with heap:=s.heap.push { cls:=.type "list",data:=.seq its.toArray },toks:=t' }:=
 I.laid (λ_ _ q=>wf _ q) (wv _) ⟨hz,its,0,hv,wx _ rfl⟩
theorem Inv.fresh(I:Inv X π σ H s):H s.heap.objs.size=ag:=I.hok.fresh (wv _)
theorem Inv.lstM(I:Inv X π σ H s)(hH:H l=aa (.lst xs)):xs.length<=sizeLine/\∃(its:aF)(n:Nat),Vals xs its/\xs.length=its.length/\s.heap.get? l=aa { cls:=.type "list",data:=.seq its.toArray n }:=by
 obtain⟨z,its,n,r,e⟩:=I.hok l _ hH;exact⟨z,its,n,r,r.length,e⟩
end
section
variable {X:Cx}
def Yh:V->gg->Hp->VK->Prop:=λx vs H Q=>∃l xs y,x=.ref l/\vs=[y]/\H l=aa (.lst xs)/\xs.length<sizeLine/\Q .non (upd H l (.lst (xs++[y])))
theorem HC:MtM X "list.append" Yh:=by
 intro π s σ H x vs v us Q I rx rv h;obtain⟨l,xs,y,rfl,rfl,hH,hz,q⟩:=h;cases rx;obtain⟨u,rfl,ru⟩:=rv.one;obtain⟨z,its,n,r,hl,e⟩:=I.lstM hH;refine call_meets eX ⟨_,e,rfl⟩ F.entry_list_append (F.args_list_append_2 _ _) (PySem.list_append l its.toArray n u (by rw[wD];rfl')) ⟨e,?_⟩;refine⟨.non,_,I.lset (its':=its++[u]) hH e (by simp) (r.append (.cons ru .nil)) ?_,rfl,q⟩;rw[wB,List.length_singleton];rfl'
def rCat:R2:=λx y H Q=>∃l b xs zs,x=.ref l/\y=.ref b/\H l=aa (.lst xs)/\H b=aa (.lst zs)/\xs.length+zs.length<=sizeLine/\∀p,H p=ag->Q (.ref p) (upd H p (.lst (xs++zs)))
theorem op_cat:OpR X (bU .Add) rCat:=by
 intro π s σ H x y v u Q I rx ry h;obtain⟨l,b,xs,zs,rfl,rfl,hH,hB,hz,q⟩:=h;cases rx;cases ry;obtain⟨z,its,n,r,hl,e⟩:=I.lstM hH;obtain⟨z2,its2,n2,r2,hl2,e2⟩:=I.lstM hB;refine PySem.P.add_list e e2 ?_ (by rw[wD,wD];rfl');have ea:its.toArray++its2.toArray=(its++its2).toArray:=by simp
 rw[ea];exact⟨.ref _,_,I.lnew (t':=s.toks) (r.append r2) (by rw[wB];rfl'),rfl,q _ I.fresh⟩
end
section
variable {prog:aL}{w:aH}{A:bj}{E:aC}{s:am}
end
section
variable {X:Cx}
end
end L2
namespace Att
open PySem.W PySem.Calls
theorem JG{P:aQ}{h:aV}:∀(ns:aG)(vs:aF),WellAll P h vs (ns.map WData.int)->IntsAre vs ns:=by
 intro ns
 induction ns with
 |nil=>
  intro vs w;rw[w0N]at w;cases w;exact .nil
 | cons n ns ih =>
  intro vs w;rw[wq]at w;cases w with
  |cons a b=>
   cases a;exact .cons _ _ (ih _ b)
theorem ZZ{l:OpenLaw}{n:Nat}(hn:l.most=aa n){P:aQ}{h:aV}{args:List WData}{vals:aF}
  (hpre:l.row.toRowW.claim.pre args=ac) (hwl:WellAll P h vals args) :
  ∃a vs ns,vals=[bq a]/\args=[WData.list (ns.map WData.int)]/\h.get? a=aa { cls:=.type "list",data:=.seq vs.toArray }/\IntsAre vs ns/\ns.length<=n:=by
 have hsh:WShape.hasAll [] args [.list .int]=ac:=(pre_splitW hpre).1;have hc:l.pre.holds [] { args:=args }=ac:=(pre_splitW hpre).2;obtain⟨d,r,rfl,h1,h2⟩:=hasAllW_cons hsh;obtain rfl:=hasAllW_nil h2;obtain⟨xs,rfl,h3⟩:=hasW_list h1;obtain⟨ns,rfl⟩:=items_int h3;have hlen:ns.length<=n:=by
  unfold OpenLaw.pre at hc;have h4:(WTm.not (.lt (.lit (.int (n:Int))) (.len (.arg 0)))).holds [] { args:=[.list (ns.map .int)] }=ac:=by
   have h4:=(holds_andW hc).1;rw[hn]at h4;exact h4
  have h5:=condW_of h4 (w_not (w_lt w_lit (w_len_list (w_arg rfl))));rw[wj]at h5;refine ud λq=>?_;have q':(n:Int)<((ns.length:Nat):Int):=by rfl'
  first
   |(rw[aM q']at h5;exact aN h5 (by decide))
   |(simp at h5;rfl')
 cases hwl with
 |cons w1 w2=>
  cases w2;cases w1 with
  |list ho hall=>exact⟨_,_,ns,rfl,rfl,ho,JG ns _ hall,hlen⟩
theorem z00(l:OpenLaw)(args:List WData):l.row.toRowW.claim.post args (.bool ac) args=ac:=
 postW_of (r:=l.row.toRowW) (X:=(ac==ac))
  (show WShape.has [] (.bool ac) .bool=ac by first|rfl|decide|simp[WShape.has,WShape.arms,WShape.armsAll])
  (show(WTm.eq .res (.lit (.bool ac))).value [] { args:=args,res:=aa (.bool ac),after:=args }=aa (.bool (ac==ac))from w_eq_bool (w_res rfl) w_lit) rfl
theorem attach_call{l:OpenLaw}{n:Nat}{q:aL}{loose:fO}{XP:(aE)->aV->Prop}{YP:aH->aV->Prop}{d:DefRec}
  (hn:l.most=aa n) (hdf:d.params.defaults=[])
  (call:∀(w:World) (s₀ s₁:Shared) (mg mb:Str→Option Value) (fa:Addr) (o:Obj) (pm cd doc:Value) (a:Addr) (vs:List Value) (ns:List Int),
   Ground q loose [] XP w s₀ mg mb s₁.heap->YP w s₁.heap ->
   s₁.heap.get? fa=aa o->o.data=.func (docDef d.name d.params d.body d.scope pm cd doc)->s₁.heap.CodeRec cd d.name->mg d.name=aa (.ref fa) ->
   s₁.heap.get? a=aa { cls:=.type "list",data:=.seq vs.toArray }->IntsAre vs ns->ns.length<=n->s₁.gens=#[] ->
   eZ (model l.prog w) eN (.call (.ref fa) ⟨[.ref a],[]⟩) (λr s'=>r=.ok (.ret (.bool ac))/\OldK s₁.heap s'.heap/\s'.os=s₁.os/\eE s'.gens) s₁) :
  WalkO q loose XP YP l.row.toRowW d [] (λf vs=>PySem.call f vs):=by
 intro w s₀ s₁ mg mb G Y fa o pm cd doc dV kV ho hd hcd hD hmg hg args vals as hpre hlay hrd hwl hlo;obtain rfl:dV=.none:=Dflts.none hD hdf;obtain rfl:kV=.none:=Dflts.noKw hD;obtain⟨a,vs,ns,rfl,rfl,hobj,hints,hlen⟩:=ZZ hn hpre hwl;refine enter_call (cT (call w s₀ s₁ mg mb fa o pm cd doc a vs ns G Y ho (fd_plain hd) hcd hmg hobj hints hlen hg) λr s' hq=>?_);obtain⟨rfl,h2,h3,h4⟩:=hq;exact⟨.inl ⟨.bool ac,.bool ac,[],rfl,λ_=>rfl,.bool ac,z00 l _,λ_=>⟨dC,λ_ hm=>(nomatch hm)⟩⟩,h2,h3,h4⟩
section
variable {prog:aL}{w:aH}{A:bj}{E:aC}{s:am}{K:Frag}
end
end Att
namespace L2
theorem Ng:∀{vs:aF}{ns:aG},IntsAre vs ns->Vals (ns.map V.int) vs
 |_,_,.nil=>.nil
 |_,_,.cons n t h=>.cons ⟨t,rfl⟩ (Ng h)
def Only(H:Hp):Prop:=∀b,H b=ag\/∃o xs,H b=aa (.frz o (.lst xs))
theorem z1c{P:aL}{w:aH}{K:aD}{mg mb:aE}{CX:CXT}{k:Nat}{fa a:aj}{fd:ak}{x:Str}{sp:Sp}{s₁:am}{vs:aF}{ns:aG}
  (KX:K.In s₁.heap) (hns:s₁.heap.Ns az mg) (hb:s₁.heap.Ns dU mb) (hbb:∀x:Str,x ≠ "__name__" -> mb x=bz x) (hlim:s₁.heap.NoLimit) (hg:s₁.gens=#[])
  (ha:s₁.heap.get? a=aa { cls:=.type "list",data:=.seq vs.toArray }) (hi:IntsAre vs ns) (hl:ns.length<=sizeLine) (hr:Room k eN)
  (F:∀base:aV,K.In base->base.Ns az mg->FnOk P w K mg base CX k fa fd [x] sp) (hbind:∀(s:am)(u:ao),fw s fd ⟨[u],[]⟩ [(x,u)])
  (hsp:∀H:Hp,Only H->SqL K H a (ns.map V.int)->sp [.ref a] H (λv _=>v=.bl ac) λ_ _ _=>False)
  (hCX:∀H e s',CX [] H s₁ (λ_ _ _=>False) e s'->False) :
  eZ (model P w) eN (.call (.ref fa) ⟨[.ref a],[]⟩) (λr s'=>r=.ok (.ret (.bool ac))/\OldK s₁.heap s'.heap/\s'.os=s₁.os/\eE s'.gens) s₁:=by
 have rv:=Ng hi;have lenV:=hi.length
 have core:∀ H:Hp,Only H→SqL K H a (ns.map V.int)→HOk P w H s₁.heap→(∀ b,H b≠none→b=a)→(H a≠none→K.lookup a=none) →
    eZ (model P w) eN (.call (.ref fa) ⟨[.ref a],[]⟩) (λr s'=>r=.ok (.ret (.bool ac))/\OldK s₁.heap s'.heap/\s'.os=s₁.os/\eE s'.gens) s₁:=by
  intro H hO hS hok hA hK;have base_of:∀{b:aj}{o:Obj},s₁.heap.get? b=aa o->H b=ag->(hidT s₁.heap H).get? b=aa o:=λe n=>z0U e n;have noA:∀{b:aj}{o:Obj}{es:Array bt}{ep:Nat},s₁.heap.get? b=aa o->o.data=.dict es ep->H b=ag:=λ{b o es ep}e d=>by
    cases q:H b with
    |none=>rfl
    | some u =>
      have e':b=a:=hA b (by rw[q];simp);subst e';rw[ha]at e;cases e;have d':Data.seq vs.toArray _=Data.dict es ep:=d;cases d'
  have nsK:∀{b:aj}{m:aE},s₁.heap.Ns b m->(hidT s₁.heap H).Ns b m:=λ{b m}⟨o,es,ep,e,d,r⟩=>⟨o,es,ep,base_of e (noA e d),d,r⟩;have hKb:K.In (hidT s₁.heap H):=λb o e=>base_of (KX b o e) (by
    cases q:H b with
    |none=>rfl
    | some u =>
      have e':b=a:=hA b (by rw[q];simp);subst e';rw[hK (by rw[q];simp)]at e;cases e)
  have hM:Mod K mg (hidT s₁.heap H):=⟨hKb,nsK hns,⟨mb,nsK hb,hbb⟩,let ⟨mc,h1,h2⟩:=hlim;⟨mc,nsK h1,h2⟩⟩;have e0:Env0 P w K mg (hidT s₁.heap H) eN [] s₁ H:=⟨rfl,hM,λb o e=>z4p e,Nat.le_of_eq (ZS _ _),trivial,λb hb=>aN (show b∈([]:fP)from hb) (by simp),hok,.of_eq hg⟩;refine cT ((F _ hKb (nsK hns)).run eN [] s₁ H ⟨[.ref a],[]⟩ [.ref a] [.ref a] _ _ hr e0 (hbind s₁ (.ref a)) (.cons rfl .nil) (hsp H hO hS)) λr s' h=>?_;cases r with
  |error e=>exact(hCX H e s' h).elim
  | ok fl =>
    cases fl with
    |next=>exact bR h
    |brk=>exact bR h
    |cont=>exact bR h
    | ret u =>
      obtain⟨v,H',os,bare,un,hok',r',q⟩:=h;have q':v=.bl ac:=q;subst q';obtain rfl:u=eV ac:=r';refine⟨rfl,OldK.of_keep λb o e=>?_,os,bare⟩;cases q:H b with
      |none=>exact un.keep b o e q (by intro z;exact aN (show b∈([]:fP)from z) (by simp)) (by simp)
      |some u=>
       rcases hO b with z|⟨ob,xs,z⟩
       .rw[q]at z;cases z
       .have z2:=un.frzs b ob _ z;obtain⟨e1,_⟩:=hok b _ z;obtain⟨e2,_⟩:=hok' b _ z2;rw[e]at e1;cases e1;exact e2
 cases hk:K.lookup a with
 |some o=>
  have e:=KX a o hk;rw[ha]at e;cases e;refine core (λ_=>ag) (λ_=>.inl rfl) (.inr ⟨_,vs.toArray,_,hk,rfl,rfl,rfl,by rw[wD,lenV];exact hl,by simpa using rv⟩) (λb u z=>by have z':(ag:Option HO)=aa u:=z;cases z') (λb z=>aN rfl z) λz=>aN rfl z
 |none=>
  refine core (λb=>if b=a then aa (.frz { cls:=.type "list",data:=.seq vs.toArray } (.lst (ns.map V.int))) else ag) (λb=>?_) (.inl (.inr ⟨{ cls:=.type "list",data:=.seq vs.toArray },ar rfl⟩)) (λb u z=>?_) (λb z=>?_) λ_=>hk
  .by_cases hb:b=a
   .exact .inr ⟨_,_,ar hb⟩
   .exact .inl (aw hb)
  .by_cases hb:b=a
   .have z':=(ar hb).symm.trans z;cases z';subst hb;exact⟨ha,by rw[wj];exact hl,vs,_,rv,ha⟩
   .have z':=(aw hb).symm.trans z;cases z'
  .by_cases hb:b=a
   .exact hb
   .exact aN (aw hb) z
end L2
namespace L2
theorem z4E{l:eU}{n k:Nat}{q:aL}{loose:fO}{XP:(aE)->aV->Prop}{YP:aH->aV->Prop}{d:DefRec}{K:aQ->aD}{CX:aH->CXT}{sp:aH->Sp}{x:Str}
  (hn:l.most=aa n) (hn2:n<=sizeLine) (hdf:d.params.defaults=[]) (hr:Room k eN)
  (hY:∀(w:aH)(h:aV),YP w h->(K w.params).In h)
  (F:∀(w:World) (mg:Str→Option Value) (fa:Addr) (h:Heap),(K w.params).In h→h.Ns mainGlobals mg→mg d.name=some (.ref fa) →
   ∃fd:ak,(∀(s:am)(u:ao),fw s fd ⟨[u],[]⟩ [(x,u)]) /\
    ∀base:aV,(K w.params).In base->base.Ns az mg->FnOk l.prog w (K w.params) mg base (CX w) k fa fd [x] (sp w))
  (hsp:∀(w:aH)(H:Hp)(a:aj)(ns:aG),ns.length<=n->Only H->SqL (K w.params) H a (ns.map V.int)->sp w [.ref a] H (λv _=>v=.bl ac) λ_ _ _=>False)
  (hCX:∀(w:aH)(H:Hp)(s:am)(e:ao)(s':am),CX w [] H s (λ_ _ _=>False) e s'->False) :
  PySem.W.WalkO q loose XP YP l.row.toRowW d [] (λf vs=>PySem.call f vs):=by
 refine Att.attach_call hn hdf λw s₀ s₁ mg mb fa o pm cd doc a vs ns G Y ho hd hcd hmg hobj hints hlen hg=>?_;have KX:=hY w _ Y;obtain⟨fd,hb,hF⟩:=F w mg fa _ KX G.T.g hmg;exact z1c KX G.T.g G.T.b G.T.builtins G.T.nolimit hg hobj hints (wF hlen hn2) hr hF hb (λH hO hS=>hsp w H a ns hlen hO hS) λH e s'=>hCX w H s₁ e s'
end L2
namespace L2
def O9(s:aJ):Arguments:=match s with
 |.FunctionDef _ a _ _ _ _ _ _ _ _=>a
 |_=>{ posonlyargs:=[],args:=[],vararg:=ag,kwonlyargs:=[],kw_defaults:=[],kwarg:=ag,defaults:=[] }
def G3(s:aJ):fT:=match s with
 |.FunctionDef _ _ b _ _ _ _ _ _ _=>b
 |_=>[]
def b9(s:aJ):Scope:=match s with
 |.FunctionDef _ _ _ _ _ _ sc _ _ _=>sc
 |_=>{ kind:=.function,names:=[],isGenerator:=af,isCoroutine:=af }
abbrev CX0:CXT:=λ_ _ _ _ _ _=>False
abbrev E0:XK:=λ_ _ _=>False
theorem z1d{X:Cx}:BQ CX0 X E0:=λ_ _ _ _ _ _ _ h=>h.elim
structure Fun(K:aD)(x qual:Str)(st:aJ)(f:aj)(fd:ak):Prop where
 ex:∃(oc:ao)(od:fZ)(kV doc pm:ao)(an:fZ)(cdv ct:ao)(osl:Array (fY)),
  fd=bB x qual (O9 st) (G3 st) (b9 st) .none kV doc pm an cdv ct/\K.lookup f=aa ⟨oc,od,.func fd,osl⟩/\cq K cdv qual=ac
 kp:bQ K (.ref f)=ac
section
variable {P:aL}{w:aH}{K:aD}{mg:aE}{base:aV}
theorem Fun.ok{x qual:Str}{st:aJ}{f:aj}{fd:ak}{N ps:fO}{k:Nat}{sp:Sp}(F:Fun K x qual st f fd)(S:FnScope N ps (b9 st))(len:∀vs H Q E,sp vs H Q E->vs.length=ps.length)
  (hbody:∀(cdv:Value) (A:Around) (outer:List Env) (s:Shared) (H:Hp) (vs:List V) (Q:VK) (E:XK),Room k (A.deeper (envOfC qual (b9 st) s.heap.objs.size f cdv))→sp vs H Q E →
   ∃t,PSs (cxOf CX0 P w K mg base N qual (b9 st) f cdv A outer s H E).nox (G3 st) t/\t { nx:=λ_ H'=>Q .non H',rt:=Q } (start N vs) H):FnOk P w K mg base CX0 (k+1) f fd ps sp:=by
 obtain⟨oc,od,kV,doc,pm,an,cdv,ct,osl,rfl,lk,hcd⟩:=F.ex;refine fn_of lk hcd S len λA outer s H vs Q E hr hsp=>?_;obtain⟨t,h,q⟩:=hbody cdv A outer s H vs Q E hr hsp;exact⟨t,h.nox,q⟩
theorem Fun.binds{x qual:Str}{st:aJ}{f:aj}{fd:ak}{ps:fO}(F:Fun K x qual st f fd)
  (h:∀(kV doc pm:ao)(an:fZ)(cdv ct:ao)(us:aF),us.length=ps.length->fe (bB x qual (O9 st) (G3 st) (b9 st) .none kV doc pm an cdv ct) ⟨us,[]⟩=pure (ps.zip us)):Binds K fd ps []:=by
 obtain⟨oc,od,kV,doc,pm,an,cdv,ct,osl,rfl,lk,hcd⟩:=F.ex;exact .all (h kV doc pm an cdv ct)
theorem z1e{x qual:Str}{st:aJ}{f:aj}{oc:ao}{od an:fZ}{osl:Array (fY)}{kV doc pm cdv ct:ao}(l:K.lookup f=aa ⟨oc,od,.func (bB x qual (O9 st) (G3 st) (b9 st) .none kV doc pm an cdv ct),osl⟩)
 (c:cq K cdv qual=ac) (k:bQ K (.ref f)=ac):Fun K x qual st f (bB x qual (O9 st) (G3 st) (b9 st) .none kV doc pm an cdv ct):=⟨⟨oc,od,kV,doc,pm,an,cdv,ct,osl,rfl,l,c⟩,k⟩
end
section
variable {X:Cx}
end
def Same(H H':Hp):Prop:=∀b o,H b=aa o->H' b=aa o
theorem Same.refl(H:Hp):Same H H:=λ_ _ h=>h
theorem Same.trans{H H1 H2:Hp}(a:Same H H1)(b:Same H1 H2):Same H H2:=λc o h=>b c o (a c o h)
theorem Same.free{H H':Hp}(e:Same H H'){l:aj}(h:H' l=ag):H l=ag:=by
 cases q:H l with
 |none=>rfl
 |some o=>
  rw[e l o q]at h;cases h
theorem Same.seq{K:aD}{H H':Hp}{a:aj}{xs:gg}(e:Same H H')(h:SqL K H a xs):SqL K H' a xs:=by
 rcases h with(h|⟨o,h⟩)|h
 .exact .inl (.inl (e _ _ h))
 .exact .inl (.inr ⟨o,e _ _ h⟩)
 .exact .inr h
end L2
end
section
namespace L2
theorem z1f{x:Str}{lo:Nat}:∀(names:List (Str×bA))(n:Nat)(acc:List (Str×aj))(c:aj),lo<=n->(∀c,acc.lookup x=aa c->lo<=c)->(aX n names acc).lookup x=aa c->lo<=c
 |[],_,_,_,_,h,e=>h _ e
 | (y,k)::r,n,acc,c,hn,h,e=>by
  unfold aX at e;split at e
  .refine z1f r (n+1) _ c (w0e hn) (λc' e'=>?_) e;rw[wR]at e';split at e'
   .cases e';exact hn
   .exact h c' e'
  .exact z1f r n acc c hn h e
theorem TV{x:Str}:∀(names:List (Str×bA))(n:Nat)(acc:List (Str×aj))(c:aj),names.lookup x=aa .cell->(aX n names acc).lookup x=aa c->n<=c
 |[],_,_,_,h,_=>by cases h
 | (y,k)::r,n,acc,c,h,e=>by
  rw[wR]at h;unfold aX at e;cases hb:x==y with
  |true=>
   rw[hb]at h;have hk:k=.cell:=by cases h;rfl
   subst hk;rw[ar (show(cu==cu)=ac from rfl)]at e;refine z1f r (n+1) _ c (Nat.le_succ _) (λc' e'=>?_) e;rw[wR,hb]at e';cases e';exact wv _
  |false=>
   rw[hb]at h;split at e
   .exact uP (TV r (n+1) _ c h e)
   .exact TV r n acc c h e
theorem TW{x:Str}:∀(names:List (Str×bA))(n:Nat)(acc:List (Str×aj)),(∀y∈names,y.1=x->y.2 ≠ .cell)->(aX n names acc).lookup x=acc.lookup x
 |[],_,_,_=>rfl
 | (y,k)::r,n,acc,h=>by
  unfold aX;have hr:∀y∈r,y.1=x->y.2 ≠ .cell:=λz hz=>h z (wc _ hz);split
  .rename_i hk;rw[TW r (n+1) _ hr,wR];have hne:(x==y)=af:=by
    cases hb:x==y with
    |false=>rfl
    |true=>exact aN (beq_iff_eq.mp hk) (h (y,k) we (beq_iff_eq.mp hb).symm)
   rw[hne]
  .exact TW r n acc hr
theorem TX:∀(names:List (Str×bA))(n:Nat)(acc:List (Str×aj))(p:Str×aj),p∈aX n names acc->n<=p.2\/p∈acc
 |[],_,_,_,e=>.inr e
 | (y,k)::r,n,acc,p,e=>by
  unfold aX at e;split at e
  .rcases TX r (n+1) _ p e with q|q
   .exact .inl (uP q)
   .rcases wn.mp q with q|q
    .subst q;exact .inl (wv _)
    .exact .inr q
  .exact TX r n acc p e
theorem Kj:∀(names:List (Str×bA))(n:Nat)(acc:List (Str×aj)),(∀p∈acc,p.2<n)->(acc.Pairwise λx y=>x.2≠y.2)->(aX n names acc).Pairwise λx y=>x.2≠y.2
 |[],_,_,_,h=>h
 | (y,k)::r,n,acc,hl,h=>by
  unfold aX;split
  .refine Kj r (n+1) _ (λp hp=>?_) (vi.mpr ⟨λp hp e=>?_,h⟩)
   .rcases wn.mp hp with q|q
    .subst q;exact vE _
    .exact w0O (hl p q)
   .have e':n=p.2:=e;have q:=hl p hp;rw[<-e']at q;exact aN q (vG _)
  .exact Kj r n acc hl h
theorem Kk:∀(names:List (Str×bA))(n:Nat)(acc:List (Str×aj)),aX n names acc=aX n names []++acc
 |[],_,_=>rfl
 |(y,k)::r,n,acc=>by
  unfold aX;split
  .rw[Kk r (n+1) ((y,n)::acc),Kk r (n+1) [(y,n)],ui];rfl
  .exact Kk r n acc
def B6(env:Env):List (Str×bA)->List (Str×aj)->List (Str×aj)
 |[],acc=>acc
 |(y,k)::r,acc=>if k==.free then B6 env r (match env.cells.lookup y with|some c=>(y,c)::acc|none=>acc) else B6 env r acc
theorem AW{env:Env}{x:Str}:∀(names:List (Str×bA))(acc:List (Str×aj)),(∀c,acc.lookup x=aa c->env.cells.lookup x=aa c)->∀c,(B6 env names acc).lookup x=aa c->env.cells.lookup x=aa c
 |[],_,h=>h
 | (y,k)::r,acc,h=>by
  unfold B6;split
  .refine AW r _ λc e=>?_;cases hy:env.cells.lookup y with
   |none=>rw[hy]at e;exact h c e
   |some d=>
    rw[hy]at e;dsimp only at e;rw[wR]at e;split at e
    .rename_i hb;cases e;rw[beq_iff_eq.mp hb];exact hy
    .exact h c e
  .exact AW r acc h
theorem EQ{env:Env}:∀(names:List (Str×bA))(acc:List (Str×aj))(p:Str×aj),p∈B6 env names acc->p∈acc\/env.cells.lookup p.1=aa p.2
 |[],_,_,h=>.inl h
 | (y,k)::r,acc,p,h=>by
  unfold B6 at h;split at h
  .rcases EQ r _ p h with q|q
   .cases hy:env.cells.lookup y with
    |none=>rw[hy]at q;exact .inl q
    |some d=>
     rw[hy]at q;rcases wn.mp q with q|q
     .subst q;exact .inr hy
     .exact .inl q
   .exact .inr q
  .exact EQ r acc p h
theorem BU{env:Env}{x:Str}:∀(names:List (Str×bA))(acc:List (Str×aj)),(acc.lookup x).isSome=ac->((B6 env names acc).lookup x).isSome=ac
 |[],_,h=>h
 | (y,k)::r,acc,h=>by
  unfold B6;split
  .refine BU r _ ?_;cases hy:env.cells.lookup y with
   |none=>exact h
   |some d=>
    show(eR x ((y,d)::acc)).isSome=ac;rw[wR];split
    .rfl
    .exact h
  .exact BU r acc h
theorem ER{env:Env}{x:Str}{c:aj}:∀(names:List (Str×bA))(acc:List (Str×aj)),names.lookup x=aa .free->env.cells.lookup x=aa c->((B6 env names acc).lookup x).isSome=ac
 |[],_,h,_=>by cases h
 | (y,k)::r,acc,h,hc=>by
  rw[wR]at h;unfold B6;cases hb:x==y with
  |true=>
   rw[hb]at h;have hk:k=.free:=by cases h;rfl
   subst hk;rw[ar (show(bM==bM)=ac from rfl)];refine BU r _ ?_;have hxy:x=y:=beq_iff_eq.mp hb;subst hxy;rw[hc];show(eR x ((x,c)::acc)).isSome=ac;rw[wR,hb];rfl
  |false=>
   rw[hb]at h;split
   .exact ER r _ h hc
   .exact ER r _ h hc
theorem ES{env:Env}:∀(names:List (Str×bA))(acc:List (Str×aj))(f:Str×bA->List (Str×aj)->Sem (ForInStep (List (Str×aj)))),
  (∀name kind cs,f (name,kind) cs=if kind==.free then(do let a <-cellOf env name;pure (.yield ((name,a)::cs))) else pure (.yield cs)) ->
  (∀y∈names,y.2=.free->∃c,env.cells.lookup y.1=aa c)->forIn names acc f=(pure (B6 env names acc):Sem _)
 |[],acc,f,hf,h=>by rw[uQ];rfl
 | (y,k)::r,acc,f,hf,h=>by
  have hr:∀z∈r,z.2=.free->∃c,env.cells.lookup z.1=aa c:=λz hz=>h z (wc _ hz);rw[w03,hf];unfold B6;by_cases hk:(k==bM)=ac
  .rw[ar hk,ar hk];obtain⟨c,hc⟩:=h (y,k) we (beq_iff_eq.mp hk);have hc':env.cells.lookup y=aa c:=hc;have e:cellOf env y=(pure c:Sem aj):=by unfold cellOf;rw[hc']
   rw[e,hc'];simp only[pure_bind];exact ES r _ f hf hr
  .rw[aw hk,aw hk];simp only[pure_bind];exact ES r _ f hf hr
theorem TY{scope:Scope}{env:Env}(h:∀y∈scope.names,y.2=.free->∃c,env.cells.lookup y.1=aa c):closureFor scope env=pure (B6 env scope.names []):=by
 unfold closureFor;simp only[];rw[ES scope.names [] _ (λname kind cs=>by cases hk:kind==bM<;>simp[hk]) h];rfl
end L2
end
section
namespace L2
section
variable {prog:aL}{w:aH}{A:bj}{R:Result->am->Prop}{s:am}
theorem OR{elt target iter:aK}{ifs:fR}{scope:Scope}{pos:Pos}{it acc:ao}{env:Env}(I:Nat->am->Prop)
  (turn:∀ n s,I n s→wpAny (model prog w) A (pyNext it) (fun r s₁=>match r with
   |none=>R (.ok .next) s₁
   | some v=>wpAny (model prog w) A (letOwnedTupleGo target it v) (fun _ s₁'=>wpAny (model prog w) A (assign target env v) (fun _ s₂ =>
    ay (model prog w) A (forIn ifs ac λc r=>if r=ac then do let ok <-isTrue c env (eval c env);pure (dJ ok) else pure (dJ r)) (λok s₃=>
     if ok=ac then ay (model prog w) A (eval elt env) (λx s₄=>
      ay (model prog w) A (call (.builtin "list.append") [acc,x]) (λ_ s₅=>∃m,m<n/\I m s₅) (notedBy (model prog w) A env λe s'=>R (.error e) s') s₄) (notedBy (model prog w) A env λe s'=>R (.error e) s') s₃
     else ∃m,m<n/\I m s₃) (notedBy (model prog w) A env λe s'=>R (.error e) s') s₂) (notedBy (model prog w) A env λe s'=>R (.error e) s') s₁')
    (notedBy (model prog w) A env λe s'=>R (.error e) s') s₁) (notedBy (model prog w) A env λe s'=>R (.error e) s') s)
  (n:Nat) (h:I n s) :
  eZ (model prog w) A (.compLoop (.ListComp elt [⟨target,iter,ifs,0⟩] scope pos) 0 it acc env) R s:=by
 refine codeAny_loop rfl I (λn s hI=>?_) n h;show ay _ A ((compTurn (.ListComp elt [⟨target,iter,ifs,0⟩] scope pos) 0 it acc env).onRaise (λx=>do fH x env;theTreesLotGoes x)) _ _ s;refine wpAny_noted ?_;rw[compTurn_list];refine ah (dM (ah (bu (turn n s hI) (λr s₁ h₁=>?_) λ_ _ h'=>h')));cases r with
 |none=>exact aI h₁
 | some v =>
  refine ah (bu h₁ (λ_ s₁' h₁'=>?_) λ_ _ h'=>h');refine ah (bu h₁' (λ_ s₂ h₂=>ah (bu h₂ (λok s₃ h₃=>?_) λ_ _ h'=>h')) λ_ _ h'=>h');cases ok with
  |false=>exact aI ⟨rfl,h₃⟩
  |true=>
   exact ah (ah (bu h₃ (λx s₄ h₄=>ah (bu h₄ (λ_ s₅ h₅=>aI (aI ⟨rfl,h₅⟩)) λ_ _ h'=>h')) λ_ _ h'=>h'))
theorem z1g{M:Model}{E:aC}{scope:Scope}{globals:aj}{cl:List (Str×aj)}{qual:Str}{func:fZ}{code:ao}{env:Env}{Q:Env->am->Prop}
  (hQ:∀ h',h'.Ns s.heap.objs.size (fun _=>none)→(∀ b o,s.heap.get? b=some o→h'.get? b=some o)→(∀ n c,(n,c)∈cellsFrom (s.heap.objs.size+1) scope.names []→h'.IsCell c none) →
   Q (newEnv scope s.heap.objs.size globals (aX (s.heap.objs.size+1) scope.names cl) qual func code (aa env) dU) { s with heap:=h' }) :
  ay M A (newFunctionEnv scope globals cl [] qual func code (aa env)) Q E s:=by
 simp only[newFunctionEnv,Option.isSome_some,if_true];refine ah (wpAny_alloc ?_);refine ah (wpAny_layCells _ (λname kind cells=>by cases hkc:kind==cu<;>simp[hkc]) _ _ _ _ ?_);have ok:=cellsFrom_ok scope.names (s.heap.push { cls:=.type "dict",data:=.dict #[] }) (s.heap.objs.size+1) [] ⟨λ_ _ hm=>(nomatch hm),dC⟩ (by rw[vM];exact wv _);rw[vM]at ok;rw[show({ s with heap:=s.heap.push { cls:=.type "dict",data:=.dict #[] } }:am).heap.objs.size=s.heap.objs.size+1 from vM ..];refine ah ?_;rw[uQ];refine aI (aI ?_);exact hQ _ ((Heap.Ns.new s.heap (.type "dict")).keeps (pushCells_keeps _ _)) (λb o e=>pushCells_keeps _ _ b o (wf _ e)) λn c hm=>(ok.empty n c hm).1
end
end L2
end
section
namespace L2
def C1(X:Cx)(N:fO)(scope:Scope)(cl:List (Str×aj))(C:aj)(fp:fP)(s:am)(H:Hp):Cx where
 prog:=X.prog
 w:=X.w
 K:=X.K
 mg:=X.mg
 base:=X.base
 A:=X.A
 N:=N
 s₀:=s
 H₀:=H
 env:=compEnvC scope cl C X.env
 outer:=X.stack
 stack:=X.stack
 ex:=fp
 fn:=λx=>scope.names.lookup x==aa .cell
 calm:=X.calm
 pn:=[]
 xe:=λ_ _=>False
structure CompScope(X:Cx)(N:fO)(scope:Scope)(nt:Nat)(js:fQ):Prop where
 kind:scope.kind=.function
 nd:(scope.names.map (·.1)).Nodup
 loc:∀x∈scope.names,x.2=.local->scope.names.lookup x.1=aa .local
 len:N.length=nt+js.length
 names:∀k j,js[k]?=aa j->∃x,N[nt+k]?=aa x/\X.N[j]?=aa x/\scope.names.lookup x=aa .free
 fre:∀x∈scope.names,x.2=.free->X.env.kindOf x.1=aa .cell\/X.env.kindOf x.1=aa .free
def sig(nt:Nat)(js:fQ)(σ:St):St:=bg nt ag++js.map λj=>(σ[j]?).join
def PTs(X:Cx)(ifs:fR)(t:TT):Prop:=
 ∀(π:aB)(s:am)(σ:St)(H:Hp)(Q:Bool->Hp->Prop),Inv X π σ H s->t σ H Q ->
  ay (model X.prog X.w) X.A (forIn ifs ac λc r=>if r=ac then do let ok <-isTrue c X.env (eval c X.env);pure (dJ ok) else pure (dJ r)) (TP X π σ Q) X.xe s
def tYes:TT:=λ_ H Q=>Q ac H
theorem z4F{X:Cx}:PTs X [] tYes:=λπ s σ H Q I h=>wpAny_tests_nil ⟨H,I,h⟩
theorem z4G{X:Cx}{c:aK}{t:TT}(hc:PT X c t):PTs X [c] t:=λπ s σ H Q I h=>wpAny_tests_one (hc π s σ H Q I h)
theorem nlt{a b:Nat}(h1:a+1<=b)(h2:b<a):False:=by rfl'
theorem W8{α:Type}:∀{l:List (Str×α)}{p:Str×α},(l.map (·.1)).Nodup->p∈l->l.lookup p.1=aa p.2
 |[],_,_,h=>by cases h
 | (y,k)::r,p,nd,h=>by
  have nd:(y::r.map (·.1)).Nodup:=nd;obtain⟨n1,n2⟩:=vD.mp nd;rw[wR];rcases wn.mp h with e|e
  .subst e;show(match y==y with|true=>aa k|false=>_)=aa k;rw[beq_self_eq_true]
  .cases hb:p.1==y with
   |true=>
    rw[<-beq_iff_eq.mp hb]at n1;exact aN (wg.mpr ⟨p,e,rfl⟩) n1
   |false=>exact W8 n2 e
theorem CN{env:Env}{x:Str}:∀{names:List (Str×bA)}{k:bA},names.lookup x=aa k ->
  (names.map λ(n,k)=>if(k==bM&&env.scope.kind==.function&&env.kindOf n==aa .cell) then(n,cu) else(n,k)).lookup x=aa (if(k==bM&&env.scope.kind==.function&&env.kindOf x==aa .cell)=ac then .cell else k)
 |[],_,h=>by cases h
 | (y,k')::r,k,h=>by
  rw[wR]at h;show eR x ((if(k'==bM&&env.scope.kind==.function&&env.kindOf y==aa .cell)=ac then(y,cu) else(y,k'))::_)=_;cases hb:x==y with
  |true=>
   rw[hb]at h;have hk:k'=k:=by cases h;rfl
   have hxy:x=y:=beq_iff_eq.mp hb;subst hk;subst hxy;split<;>(rw[wR];rw[hb])
  |false=>
   rw[hb]at h;have ih:=@CN env x r k h;split<;>(rw[wR];rw[hb];exact ih)
theorem BV{env:Env}{x:Str}{k:bA}:∀{names:List (Str×bA)},
  (names.map λ(n,k)=>if(k==bM&&env.scope.kind==.function&&env.kindOf n==aa .cell) then(n,cu) else(n,k)).lookup x=aa k->∃k',names.lookup x=aa k'/\(k=k'\/(k'=.free/\k=.cell))
 |[],h=>by cases h
 | (y,k')::r,h=>by
  have h:eR x ((if(k'==bM&&env.scope.kind==.function&&env.kindOf y==aa .cell)=ac then(y,cu) else(y,k'))::r.map λ(n,k)=>if(k==bM&&env.scope.kind==.function&&env.kindOf n==aa .cell) then(n,cu) else(n,k))=aa k:=h;rw[wR];cases hb:x==y with
  |true=>
   split at h
   .rename_i hc;rw[wR,hb]at h;have hf:(k'==bM)=ac:=by
     rw[wG,wG]at hc;exact hc.1.1
    cases h;exact⟨k',rfl,.inr ⟨beq_iff_eq.mp hf,rfl⟩⟩
   .rw[wR,hb]at h;cases h;exact⟨k,rfl,.inl rfl⟩
  |false=>
   split at h
   all_goals
     rw[wR,hb]at h;exact BV h
section
variable {X:Cx}{N:fO}{scope:Scope}{nt:Nat}{js:fQ}{π:aB}{σ:St}{H:Hp}{s:am}{fp:fP}
theorem z1h{s2:am}{H2:Hp}(S:CompScope X N scope nt js)(I2:Inv X π σ H2 s2)(I:Inv X π σ H s)(hu:Un (frs X.stack) fp H2 H s2.heap s.heap)(hos:s.os=s2.os)(hz:s2.heap.objs.size<=s.heap.objs.size)
   (hf:∀b∈fp,FpOk X π H b) (ho:∀b∈fp,∃o,s.heap.get? b=aa o) {h':aV}
   (ns:h'.Ns s.heap.objs.size (λ_=>ag)) (k:∀b o,s.heap.get? b=aa o->h'.get? b=aa o) (nc:∀n c,(n,c)∈aX (s.heap.objs.size+1) scope.names []->h'.IsCell c ag) :
   Inv (C1 X N scope (aX (s.heap.objs.size+1) scope.names (B6 X.env scope.names [])) s.heap.objs.size fp s2 H2) [] (sig nt js σ) H { s with heap:=h' }:=by
 have ok:=I.ok;have hcl:∀p∈B6 X.env scope.names [],X.env.cells.lookup p.1=aa p.2:=λp hp=>(EQ _ _ p hp).resolve_left (by simp);have hlt:∀x c,X.env.cells.lookup x=aa c->c<s.heap.objs.size:=λx c e=>by
   obtain⟨v,o,ho,_⟩:=I.cell x c e;exact wt ho
 have mem:∀x c,(aX (s.heap.objs.size+1) scope.names (B6 X.env scope.names [])).lookup x=aa c->s.heap.objs.size+1<=c\/X.env.cells.lookup x=aa c:=λx c e=>by
   rcases TX _ _ _ _ (bi e)with q|q
   .exact .inl q
   .exact .inr (hcl _ q)
 have frec:∀x,scope.names.lookup x=aa .free->∃c,X.env.cells.lookup x=aa c/\(aX (s.heap.objs.size+1) scope.names (B6 X.env scope.names [])).lookup x=aa c:=λx hx=>by
   obtain⟨c,hc⟩:=ok.has x (S.fre (x,.free) (bi hx) rfl);refine⟨c,hc,?_⟩;rw[TW _ _ _ λy hy e=>?_]
   .obtain⟨d,hd⟩:=uJ.mp (ER (env:=X.env) scope.names [] hx hc);have:=AW (env:=X.env) (x:=x) scope.names [] (λc e=>by simp at e) d hd;rw[hc]at this;cases this;exact hd
   .have q:=W8 S.nd hy;rw[e,hx]at q;intro z;rw[z]at q;cases q
 refine⟨⟨ok.mod,S.kind,ok.glob,ok.blt,hz,λx y c hx hy=>?_,λx hx=>?_,λx c hx e=>?_,ok.hd,ok.frames,.inl rfl,λb hb=>⟨?_,λx c e=>?_⟩,λb o e=>?_,?_,λb o e hb=>?_,λb hb=>?_,I2.stack,I2.stkFree⟩,
   hos,I.bare,hu.trans (Un.kept k),⟨_,ns,λi x v h1 h2 h3=>?_⟩,λx c e=>?_,?_,λx c e=>?_,λp hp=>aN (show p∈([]:aB)from hp) (by simp),I.hok.kept k,?_⟩
 ·
   rcases mem x c hx with q|q
   .rcases mem y c hy with q'|q'
    .have in1:∀z:Str,(z,c)∈aX (s.heap.objs.size+1) scope.names (B6 X.env scope.names [])->(z,c)∈aX (s.heap.objs.size+1) scope.names []:=λz hz=>by
       rw[Kk]at hz;rcases wu.mp hz with hz|hz
       .exact hz
       .exact(nlt q (hlt _ _ (hcl _ hz))).elim
     exact name_of_addr (Kj scope.names (s.heap.objs.size+1) [] (λp hp=>by simp at hp) dC) (in1 x (bi hx)) (in1 y (bi hy))
    .exact(nlt q (hlt _ _ q')).elim
   .rcases mem y c hy with q'|q'
    .exact(nlt q' (hlt _ _ q)).elim
    .exact ok.inj x y c q q'
 ·
   have hx:(relabel scope X.env).names.lookup x=aa .cell\/(relabel scope X.env).names.lookup x=aa .free:=hx;have cs:scope.names.lookup x=aa .cell\/scope.names.lookup x=aa .free:=by
     rcases hx with q|q
     .obtain⟨k',e1,e2⟩:=BV q;rcases e2 with e2|⟨e2,_⟩
      .rw[<-e2]at e1;exact .inl e1
      .rw[e2]at e1;exact .inr e1
     .obtain⟨k',e1,e2⟩:=BV q;rcases e2 with e2|⟨_,e2⟩
      .rw[<-e2]at e1;exact .inr e1
      .cases e2
   rcases cs with q|q
   .exact uJ.mp (dH scope.names _ _ (.inl q))
   .obtain⟨c,_,e⟩:=frec x q;exact⟨c,e⟩
 ·
   have hx:(scope.names.lookup x==aa .cell)=ac:=hx;exact wF hz (uP (TV scope.names _ _ c (beq_iff_eq.mp hx) e))
 ·
   intro e;obtain⟨o,hb'⟩:=ho b hb;exact aN (wt hb') (by rw[e];exact vG _)
 .rcases mem x c e with q|q
  .intro z;obtain⟨o,hb'⟩:=ho b hb;have:=wt hb';rw[<-z]at this;exact nlt q this
  .exact(hf b hb).2.2.2.2.1 x c q
 .exact I2.bs b o e
 .exact wF ok.bsz I2.sz
 ·
   rcases(hf b hb).2.2.2.1 with q|q
   .exact ok.noex b o e q
   .exact aN (ww (wt e) (wF ok.bsz q)) (vG _)
 ·
   intro z;rcases wn.mp (I.stkSub b z)with q|q
   .exact(hf b hb).2.1 q
   .exact(hf b hb).2.2.1 q
 ·
   have hi:nt<=i:=by
     by_cases hi:i<nt
     .unfold sig at h2;rw[wV (by simpa using hi),vx]at h2;split at h2<;>cases h2
     .rfl'
   unfold sig at h2;rw[vv (by simpa using hi),vO,wy]at h2;cases ej:js[i-nt]? with
   |none=>rw[ej]at h2;cases h2
   | some j =>
     rw[ej]at h2;have h2:(σ[j]?).join=aa v:=aP h2;obtain⟨y,n1,n2,n3⟩:=S.names _ _ ej;have hxy:x=y:=by
       have e:nt+(i-nt)=i:=by rfl'
       rw[e]at n1;have h1:N[i]?=aa x:=h1;rw[h1]at n1;exact aP n1
     subst hxy;have h2':σ[j]?=aa (aa v):=by
       cases eσ:σ[j]? with
       |none=>rw[eσ]at h2;cases h2
       | some a =>
         rw[eσ]at h2;have h2:a=aa v:=h2;rw[h2]
     obtain⟨m,hn,hl⟩:=I.loc;have kd:=S.fre (x,.free) (bi n3) rfl;obtain⟨u,ru,lk⟩:=hl j x v n2 h2' (.inr kd);refine⟨u,ru,?_⟩;obtain⟨c,c1,c2⟩:=frec x n3;rcases lk with⟨z,_⟩|⟨_,d,d1,d2⟩
     .have kd':X.env.kindOf x=aa .cell\/X.env.kindOf x=aa .free:=kd;rw[z]at kd';rcases kd' with q|q<;>cases q
     .rw[c1]at d1;cases d1;refine .inr ⟨?_,c,c2,d2.keeps k⟩;have:=CN (env:=X.env) n3;show(relabel scope X.env).names.lookup x=aa .cell\/(relabel scope X.env).names.lookup x=aa .free;unfold relabel;dsimp only;rw[this];split
      .exact .inl rfl
      .exact .inr rfl
 ·
   have e:(aX (s.heap.objs.size+1) scope.names (B6 X.env scope.names [])).lookup x=aa c:=e;have hm:=bi e;rw[Kk]at hm;rcases wu.mp hm with q|q
   .exact⟨ag,nc x c q⟩
   .obtain⟨v,hv⟩:=I.cell x c (hcl _ q);exact⟨v,hv.keeps k⟩
 .exact I.hok.fresh (wv _)
 .rcases mem x c e with q|q
  .exact I.hok.fresh (uP q)
  .exact I.freeC x c q
 .show(sig nt js σ).length=N.length;unfold sig;rw[wB,vO,wj,S.len]
end
end L2
end
section
namespace L2
def Yi(nt:Nat)(js:fQ)(wi:TI)(g:TG)(tc:Hp->TT)(te:Hp->TE):TE:=λσ H Q=>wi σ H λJ H1=>∀D,H1 D=ag ->
 ∃ W:Nat→Nat→List V→Hp→Prop,(∃ m,W 0 m [] (upd H1 D (.lst [])))∧∀ i m ys H,W i m ys H →
  (J.stop i H∧Q (.ref D) H)∨(J.go i H∧∀ x H',J.yld i H x H'→g x (sig nt js σ) H' fun σ2 H2=>tc H1 σ2 H2 fun b H3 =>
   if b=ac then te H1 σ2 H3 λv H4=>H4 D=aa (.lst ys)/\ys.length<sizeLine/\∃m',m'<m/\W (i+1) m' (ys++[v]) (upd H4 D (.lst (ys++[v])))
   else ∃m',m'<m/\W (i+1) m' ys H3)
section
variable {X:Cx}{N:fO}{scope:Scope}{nt:Nat}{js:fQ}{tg elt iter:aK}{ifs:fR}{wi:TI}{g:TG}{tc:Hp->TT}{te:Hp->TE}{pos:Pos}
theorem z1i{σ σ2:St}(hl:σ2.length=(sig nt js σ).length)(h:∀i,nt<=i->σ2[i]?=(sig nt js σ)[i]?):∀(i:Nat)v,(sig nt js σ)[i]?=aa (aa v)->σ2[i]?=aa (aa v):=λi v e=>by
 by_cases hi:nt<=i
 .rw[h i hi];exact e
 .unfold sig at e;rw[wV (by rw[vO];rfl'),vx]at e;split at e<;>cases e
def TgOk(nt:Nat)(g:TG):Prop:=∀x σ H(Q:St->Hp->Prop),g x σ H Q->g x σ H λσ2 H2=>(σ2.length=σ.length/\∀i,nt<=i->σ2[i]?=σ[i]?)/\Q σ2 H2
theorem Rj(S:CompScope X N scope nt js)(hc:X.calm=ac)(hi:PI X tg iter wi)
  (hg:∀cl C fp s H,PG (C1 X N scope cl C fp s H) tg g) (ht:TgOk nt g) (hcs:∀cl C fp s H,PTs (C1 X N scope cl C fp s H) ifs (tc H)) (he:∀cl C fp s H,PE (C1 X N scope cl C fp s H) elt (te H))
  {use:Option (ao->Sem Unit)} {π:aB} {s:am} {σ:St} {H:Hp} {Q:VK} {Q':aC} (I:Inv X π σ H s) (h:Yi nt js wi g tc te σ H Q)
  (hs:∀x,bF iter X.env x=pure x)
  (fin:∀(D C:aj)(H':Hp)(s':am),Inv X π σ H' s'->Q (.ref D) H'->H' C=ag->C≠X.env.locals->(X.s₀.heap.objs.size<=C)->(∀x c,X.env.cells.lookup x=aa c->c≠C)->(∀p∈X.pn++π,p.1≠C)->(∃m,s'.heap.Ns C m) ->
    compPost (model X.prog X.w) X.A X.xe use Q' (.ref D) C (.ok .next) s') :
  ay (model X.prog X.w) X.A (comprehension (.ListComp elt [⟨tg,iter,ifs,0⟩] scope pos) scope X.env (firstIterPos [⟨tg,iter,ifs,0⟩] pos) (newList []) af (eval iter X.env) use) Q' X.xe s:=by
 have clo:closureFor scope X.env=pure (B6 X.env scope.names []):=TY λy hy e=>I.ok.has y.1 (S.fre y hy e);refine wpAny_comprehension_free (cl:=B6 X.env scope.names []) rfl hs clo S.kind S.loc (thn (hi π s σ H _ I h) λxv s1 h1=>thn h1 λitv s2 h2=>?_);obtain⟨it,fp,tn,J,H2,rfl,I2,T,st2,f2,q2⟩:=h2;refine cw (hd:=by size_fits) ?_;have fresh2:H2 s2.heap.objs.size=ag:=I2.fresh;have I3:=I2.lnew (ys:=[]) (its:=[]) (t':=s2.toks) .nil (wQ _);obtain⟨W,⟨m0,w0⟩,turn⟩:=q2 s2.heap.objs.size fresh2;have ltf:∀b∈fp,b<s2.heap.objs.size:=λb hb=>by
  obtain⟨o,e,_⟩:=T.obj 0 _ st2 b hb;exact wt e
 have ned:∀b∈fp,b≠s2.heap.objs.size:=λb hb=>wM (ltf b hb);have f3:∀b∈fp,FpOk X π (upd H2 s2.heap.objs.size (.lst [])) b:=λb hb=>⟨by rw[u6 (ned b hb)];exact(f2 b hb).1,(f2 b hb).2⟩;generalize e3:({ s2 with heap:=s2.heap.push { cls:=.type "list",dict:=ag,data:=.seq ([]:aF).toArray } }:am)=s3 at *;have k3:∀b o,s2.heap.get? b=aa o->s3.heap.get? b=aa o:=λb o e=>by rw[<-e3];exact wf _ e
 have os3:s3.os=s2.os:=by rw[<-e3]
 have sz3:s2.heap.objs.size<s3.heap.objs.size:=by rw[<-e3];show _<(s2.heap.push _).objs.size;rw[vM];exact vE _
 refine z1g λh4 ns4 k4 nc4=>?_;have I4:=z1h S I2 I3 (Un.laid k3 (wv _) fresh2) os3 (vX sz3) f3 (λb hb=>by obtain⟨o,e,_⟩:=T.obj 0 _ st2 b hb;exact⟨o,k3 b o e⟩) ns4 k4 nc4;have st4:tn 0 h4:=T.keep _ _ _ st2 λb _ o e=>k4 b o (k3 b o e);generalize eC:s3.heap.objs.size=C at *;have stat:∀{H':Hp},(∀b∈fp,H' b=ag)->∀b∈fp,FpOk (C1 X N scope (aX (C+1) scope.names (B6 X.env scope.names [])) C fp s2 H2) [] H' b:=λhn b hb=>
  ⟨hn b hb,(I4.ok.exf b hb).1,I4.ok.exfs b hb,.inl hb,(I4.ok.exf b hb).2,λp hp=>aN (show p∈([]:aB)from hp) (by simp)⟩
 have loop:∀ s4:Shared,s4={ s3 with heap:=h4 }→codeAny (model X.prog X.w) X.A (.compLoop (.ListComp elt [⟨tg,iter,ifs,0⟩] scope pos) 0 (.ref it) (.ref s2.heap.objs.size) (compEnvC scope (cellsFrom (C+1) scope.names (B6 X.env scope.names [])) C X.env))
    (compPost (model X.prog X.w) X.A X.xe use Q' (.ref s2.heap.objs.size) C) s4:=by
  rintro s4 rfl;refine OR (λn s'=>∃i ys H',Inv (C1 X N scope (aX (C+1) scope.names (B6 X.env scope.names [])) C fp s2 H2) [] (sig nt js σ) H' s'/\tn i s'.heap/\(∀b∈fp,H' b=ag)/\W i n ys H') ?_ m0
    ⟨0,[],_,I4,st4,λb hb=>(f3 b hb).1,w0⟩
  rintro n s5 ⟨i,ys,H5,I5,st5,fr5,w5⟩;rcases turn i n ys H5 w5 with⟨stop,q⟩|⟨go,step⟩
  .refine bu (T.done (C1 X N scope (aX (C+1) scope.names (B6 X.env scope.names [])) C fp s2 H2) rfl rfl rfl hc i [] s5 _ H5 _ I5 (stat fr5) st5 stop) (λr s6⟨hr,I6⟩=>?_) λ_ _ z=>z;subst hr;have u:Un (frs X.stack) fp H2 H5 s2.heap s6.heap:=I6.base;have J6:Inv X π σ H5 s6:=I2.call' I6.os u I6.hok I6.bare λb hb=>⟨(f2 b hb).2.2.2.1,(f2 b hb).2.1,(f2 b hb).2.2.2.2.1,(f2 b hb).2.2.2.2.2⟩;have hCs:s2.heap.objs.size<=C:=vX sz3;refine fin _ C H5 s6 J6 q I6.free (λz=>?_) (wF I2.sz hCs) (λx c e z=>?_) (λp hp z=>?_) ?_
   .exact aN I2.lt (by rw[<-z];exact w1m.mpr hCs)
   .obtain⟨v,o,ho,_⟩:=I2.cell x c e;exact aN (wt ho) (by rw[z];exact w1m.mpr hCs)
   .exact aN (wt (I2.pin p hp).1) (by rw[z];exact w1m.mpr hCs)
   .obtain⟨m,hm,_⟩:=I6.loc;exact⟨m,hm⟩
  .refine bu (T.item (C1 X N scope (aX (C+1) scope.names (B6 X.env scope.names [])) C fp s2 H2) rfl rfl rfl hc i [] s5 _ H5 _ I5 (stat fr5) st5 go) (λr s6⟨u,hr,h6⟩=>?_) λ_ _ z=>z;subst hr;refine bu h6 (λ_ s7⟨x,H7,I7,r7,y7,st7,fr7⟩=>?_) λ_ _ z=>z;have I7':=I7.pinned (stat fr7) (T.obj _ _ st7);refine bu (hg _ _ _ _ _ _ s7 _ H7 x u _ I7' r7 (ht _ _ _ _ (step x H7 y7))) (λ_ s8⟨σ8,H8,I8,⟨l8,o8⟩,q8⟩=>?_) λ_ _ z=>z.elim;have again:∀{s9:am}{H9:Hp}{ys9:gg},Inv (C1 X N scope (aX (C+1) scope.names (B6 X.env scope.names [])) C fp s2 H2) ([]++Kf fp s7.heap) σ8 H9 s9->(∃m',m'<n/\W (i+1) m' ys9 H9) ->
      ∃m,m<n/\∃i ys H',Inv (C1 X N scope (aX (C+1) scope.names (B6 X.env scope.names [])) C fp s2 H2) [] (sig nt js σ) H' s9/\tn i s9.heap/\(∀b∈fp,H' b=ag)/\W i m ys H':=λ{s9 H9 ys9}I9⟨m',hm,w9⟩=>by
     refine⟨m',hm,i+1,ys9,H9,I9.unpinned.weak l8.symm (z1i l8 o8),T.keep _ _ _ st7 λb hb o e=>(I9.pin (b,o) (wJ _ (wJ _ (BP hb e)))).1,λb hb=>?_,w9⟩;obtain⟨o,e,_⟩:=T.obj _ _ st7 b hb;exact(I9.pin (b,o) (wJ _ (wJ _ (BP hb e)))).2.1
   refine bu (hcs _ _ _ _ _ _ s8 σ8 H8 _ I8 q8) (λok s9⟨H9,I9,q9⟩=>?_) λ_ _ z=>z.elim;cases ok with
   | false =>
     rw[aw wL]at q9|-;exact again I9 q9
   | true =>
     rw[ar rfl]at q9|-;refine bu (he _ _ _ _ _ _ s9 σ8 H9 _ I9 q9) (λy s10⟨v,H10,I10,r10,d10,l10,w10⟩=>?_) λ_ _ z=>z.elim;refine bu (HC (X:=C1 X N scope (aX (C+1) scope.names (B6 X.env scope.names [])) C fp s2 H2) _ s10 σ8 H10 (.ref s2.heap.objs.size) [v] (.ref s2.heap.objs.size) [y] (λz H'=>∃m',m'<n/\W (i+1) m' (ys++[v]) H') I10 rfl (.cons r10 .nil) ⟨_,ys,v,rfl,rfl,d10,l10,w10⟩) (λ_ s11⟨_,H11,I11,_,w11⟩=>?_) λ_ _ z=>z.elim;exact again I11 w11
 exact codeAny_compStart_list (loop _ rfl) (T.self _ _ _ _ _ st4 (loop _ rfl))
theorem z4H(S:CompScope X N scope nt js)(hc:X.calm=ac)(hi:PI X tg iter wi)
  (hg:∀cl C fp s H,PG (C1 X N scope cl C fp s H) tg g) (ht:TgOk nt g) (hcs:∀cl C fp s H,PTs (C1 X N scope cl C fp s H) ifs (tc H)) (he:∀cl C fp s H,PE (C1 X N scope cl C fp s H) elt (te H))
  (hs:∀x,bF iter X.env x=pure x:=by intro _;rfl):PE X (.ListComp elt [⟨tg,iter,ifs,0⟩] scope pos) (Yi nt js wi g tc te):=by
 intro π s σ H Q I h;rw[eval_ListComp];refine Rj (use:=ag) S hc hi hg ht hcs he I h hs ?_;rintro D C H' s' I' q hC hL hz hcl hpn ⟨m,hm⟩;exact⟨m,hm,λh' sb=>⟨.ref D,H',I'.turned (λb o hb e=>sb.extBut b o hb e) hC hL (.inr hz) hcl hpn,rfl,q⟩⟩
theorem z4I{i:Nat}{x:Str}{pos' spos:Pos}(hN:X.N.Nodup)(hix:X.N[i]?=aa x)(hx:X.env.scope.names.lookup x=aa .local)(S:CompScope X N scope nt js)(hc:X.calm=ac)(hi:PI X tg iter wi)
  (hg:∀cl C fp s H,PG (C1 X N scope cl C fp s H) tg g) (ht:TgOk nt g) (hcs:∀cl C fp s H,PTs (C1 X N scope cl C fp s H) ifs (tc H)) (he:∀cl C fp s H,PE (C1 X N scope cl C fp s H) elt (te H))
  (hsw:bV (.ListComp elt [⟨tg,iter,ifs,0⟩] scope pos) (aa (.Name x pos')) spos.line X.env=pure ac)
  (hs:∀x,bF iter X.env x=pure x:=by intro _;rfl):PS X (.Assign [.Name x pos'] (.ListComp elt [⟨tg,iter,ifs,0⟩] scope pos) spos) (tAsg (Yi nt js wi g tc te) (Kd i)):=by
 intro π s σ H D0 I h;rw[exec_Assign_Name_used _ _ _ _ hsw];refine ah (dM (ah ?_));show ay _ X.A (do let _ <-comprehension (.ListComp elt [⟨tg,iter,ifs,0⟩] scope pos) scope X.env _ (newList []) af (eval iter X.env) (aa (assign (.Name x pos') X.env))) _ _ s;refine ah (bu (Rj (use:=aa (assign (.Name x pos') X.env)) (Q':=λ_ s'=>SP X π D0 .next s') S hc hi hg ht hcs he I h hs λD C H' s' I' q hC hL hz hcl hpn⟨m,hm⟩=>?_) (λ_ s' hq=>aI (aI hq)) λ_ _ e=>e);show ay _ X.A (assign (.Name x pos') X.env (.ref D)) _ _ s';refine wpAny_assign_Name (MX (v:=.ref D) I' hN hix (.inl hx) rfl (λs'' I''⟨a,sb,ha⟩=>?_) (.inr hx));have hCa:C≠a:=by
  rintro rfl;rcases ha with ha|ha
  .exact hL ha
  .exact hcl x C ha rfl
 refine⟨m,hm.sameBut sb hCa,λh' sb'=>⟨_,H',I''.turned (λb o hb e=>sb'.extBut b o hb e) hC hL (.inr hz) hcl hpn,q⟩⟩
end
end L2
end
section
namespace L2
section
variable {X:Cx}
def CDivG(_ j:Int):Prop:=j≠0/\j.natAbs.log2<9000
theorem z1j:OpR X (bU .FloorDiv) (rI CDivG λi j=>.int (i.fdiv j)):=opI λ_ _ _ _ _ _ _ hc q=>floordiv_int hc.1 q (.inl (PyProof.noPylong_of_log2 hc.2))
theorem OS{i:Int}{k:Nat}(h:i.natAbs<2^k):bC i<=k:=by
 unfold bC;split
 .exact wQ _
 .rename_i h0;have h1:i.natAbs≠0:=by
   intro e;apply h0;have:i=0:=w0J.mp e;subst this;rfl
  exact Nat.succ_le_of_lt ((w1b h1).mpr h)
theorem pe_ty{x:Str}{T:String}{pos:Pos}(hg:Gl X x)(hm:X.mg x=ag)(hv:bz x=aa (.type T))(hn:x ≠ "__name__":=by decide)(hd:(x==("__debug__":Str))=af:=by decide):PE X (.Name x pos) (tC (.ty T)):=z4r (v:=V.ty T) hg hm hv rfl hn hd
end
end L2
end
section
namespace L2
def hidL(A:fP)(H:Hp):Hp:=λb=>if b∈A then ag else H b
def J5(A:fP)(H H':Hp):Hp:=λb=>if b∈A then H b else H' b
section
variable {A:fP}{H H' H1:Hp}{a b:aj}{o:HO}
theorem K9(h:b∈A):hidL A H b=ag:=ar h
theorem r9(h:b∉A):hidL A H b=H b:=aw h
theorem P0(h:hidL A H b=aa o):b∉A/\H b=aa o:=by
 unfold hidL at h;split at h
 .cases h
 .rename_i q;exact⟨q,h⟩
theorem w8:Same (hidL A H) H:=λb o e=>(P0 e).2
theorem Rk:hidL [] H=H:=funext λb=>by unfold hidL;simp
theorem DY(h:b∈A):J5 A H H' b=H b:=ar h
theorem G4(h:b∉A):J5 A H H' b=H' b:=aw h
theorem Same.glue(h:Same (hidL A H) H')(hn:∀a∈A,H' a=ag):Same H (J5 A H H'):=λb o e=>by
 by_cases q:b∈A
 .rw[DY q];exact e
 .rw[G4 q];exact h b o (by rw[r9 q];exact e)
theorem Z9(hn:∀a∈A,H' a=ag):hidL A (J5 A H H')=H':=funext λb=>by
 by_cases q:b∈A
 .rw[K9 q,hn b q]
 .rw[r9 q,G4 q]
end
def OwnL(X:Cx)(A:fP)(H:Hp):Prop:=∀a∈A,(∃vs,H a=aa (.lst vs))/\X.H₀ a=ag
section
variable {X:Cx}{A:fP}{π:aB}{σ:St}{H H':Hp}{s s':am}
def Rl(h:aV)(A:fP):aB:=A.filterMap λa=>(h.get? a).map λo=>(a,o)
theorem Nh{h:aV}{a:aj}{o:Obj}(ha:a∈A)(e:h.get? a=aa o):(a,o)∈Rl h A:=vP.mpr ⟨a,ha,by rw[e];rfl⟩
theorem z1k{h:aV}{p:aj×Obj}(hp:p∈Rl h A):p.1∈A/\h.get? p.1=aa p.2:=by
 obtain⟨a,ha,e⟩:=vP.mp hp;cases q:h.get? a with
 |none=>rw[q]at e;cases e
 |some o=>rw[q]at e;cases e;exact⟨ha,q⟩
theorem Inv.fsFree(I:Inv X π σ H s){b:aj}(hb:b∈X.fs):H b=ag:=by
 obtain⟨_,o,ho,_⟩:=I.ok.funs.mem hb;exact I.base.free b o ho (I.ok.frf b hb) λz=>I.ok.exfs b z hb
theorem Inv.hide(I:Inv X π σ H s)(hA:OwnL X A H):Inv X (π++Rl s.heap A) σ (hidL A H) s:=by
 have nl:∀b o,H b=aa o->(∀vs,o ≠ .lst vs)->b∉A:=λb o e n hb=>by
   obtain⟨⟨vs,q⟩,_⟩:=hA b hb;rw[e]at q;exact n vs (aP q)
 refine⟨I.ok,I.os,I.bare,⟨I.base.keep,I.base.slot,λb o e n hx=>?_,I.base.there,λb xs e=>?_,λb o u e=>?_,λb ps e=>?_⟩,I.loc,I.cell,?_,λx c e=>?_,λp hp=>?_,λa o e=>?_,I.len⟩
 .have:=I.base.free b o e n hx;unfold hidL;split
  .rfl
  .exact this
 .have:=I.base.tups b xs e;rw[r9 (nl b _ this λ_ z=>by cases z)];exact this
 .have:=I.base.frzs b o u e;rw[r9 (nl b _ this λ_ z=>by cases z)];exact this
 .obtain⟨more,this⟩:=I.base.tbls b ps e;exact⟨more,by rw[r9 (nl b _ this λ_ z=>by cases z)];exact this⟩
 .have:=I.free;unfold hidL;split
  .rfl
  .exact this
 .have:=I.freeC x c e;unfold hidL;split
  .rfl
  .exact this
 .rw[<-ui]at hp;rcases wu.mp hp with hp|hp
  .obtain⟨q1,q2,q3⟩:=I.pin p hp;refine⟨q1,?_,q3⟩;unfold hidL;split
   .rfl
   .exact q2
  .obtain⟨q1,q2⟩:=z1k hp;obtain⟨⟨vs,q⟩,_⟩:=hA _ q1;refine⟨q2,K9 q1,λz=>?_,λz=>?_,λv z=>?_⟩
   .rw[z,I.free]at q;cases q
   .rw[I.fsFree z]at q;cases q
   .obtain⟨_,its,n,_,e⟩:=I.hok _ _ q;rw[q2]at e;have e:=aP e;rw[e]at z;cases z
 .obtain⟨q1,q2⟩:=P0 e;refine(I.hok a o q2).stay (λb u _ z=>z) (λb z=>?_) (λb xs z=>?_)
  .rw[r9 (nl b _ z λ_ z=>by cases z)];exact z
  .rw[r9 (nl b _ z λ_ z=>by cases z)];exact z
theorem Inv.unhide{σ':St}(I:Inv X π σ H s)(hA:OwnL X A H)(J:Inv X (π++Rl s.heap A) σ' H' s'):(∀a∈A,H' a=ag)/\Inv X π σ' (J5 A H H') s':=by
 have pn:∀a∈A,∃o,s.heap.get? a=aa o/\s'.heap.get? a=aa o/\H' a=ag:=λa ha=>by
   obtain⟨⟨vs,q⟩,_⟩:=hA a ha;obtain⟨_,its,n,_,e⟩:=I.hok _ _ q;have:=J.pin _ (wJ _ (wJ _ (Nh ha e)));exact⟨_,e,this.1,this.2.1⟩
 have hn:∀a∈A,H' a=ag:=λa ha=>by obtain⟨o,_,_,q⟩:=pn a ha;exact q
 have out:∀b,H b=ag->b∉A:=λb e hb=>by
   obtain⟨⟨vs,q⟩,_⟩:=hA b hb;rw[e]at q;cases q
 have tr:∀b o,H' b=aa o->b∉A:=λb o e hb=>by rw[hn b hb]at e;cases e
 refine⟨hn,J.ok,J.os,J.bare,⟨J.base.keep,J.base.slot,λb o e n hx=>?_,J.base.there,λb xs e=>?_,λb o u e=>?_,λb ps e=>?_⟩,J.loc,J.cell,?_,λx c e=>?_,λp hp=>?_,λa o e=>?_,J.len⟩
 .rw[G4 (out b (I.base.free b o e n hx))];exact J.base.free b o e n hx
 .have:=J.base.tups b xs e;rw[G4 (tr b _ this)];exact this
 .have:=J.base.frzs b o u e;rw[G4 (tr b _ this)];exact this
 .obtain⟨more,this⟩:=J.base.tbls b ps e;exact⟨more,by rw[G4 (tr b _ this)];exact this⟩
 .rw[G4 (out _ I.free)];exact J.free
 .rw[G4 (out _ (I.freeC x c e))];exact J.freeC x c e
 .have hp':p∈X.pn++(π++Rl s.heap A):=by
    rw[<-ui];exact uB _ hp
  obtain⟨q1,q2,q3⟩:=J.pin p hp';refine⟨q1,?_,q3⟩;rw[G4 (out _ (I.pin p hp).2.1)];exact q2
 .by_cases ha:a∈A
  .rw[DY ha]at e;obtain⟨⟨vs,q⟩,_⟩:=hA a ha;rw[q]at e;cases e;obtain⟨hz,its,n,r,e1⟩:=I.hok _ _ q;obtain⟨o,e2,e3,_⟩:=pn a ha;rw[e1]at e2;cases e2;exact⟨hz,its,n,r,e3⟩
  .rw[G4 ha]at e;refine(J.hok a o e).stay (λb u _ z=>z) (λb z=>?_) (λb xs z=>?_)
   .rw[G4 (tr b _ z)];exact z
   .rw[G4 (tr b _ z)];exact z
theorem PE.frame{e:aK}{t:TE}(h:PE X e t):PE X e (λσ H Q=>∃A,OwnL X A H/\t σ (hidL A H) λv H'=>(∀a∈A,H' a=ag)->Q v (J5 A H H')):=by
 intro π s σ H Q I ⟨A,hA,z⟩;refine thn (h _ s σ _ _ (I.hide hA) z) ?_;rintro u s' ⟨v,H',J,r,q⟩;obtain⟨hn,J'⟩:=I.unhide hA J;exact⟨v,_,J',r,q hn⟩
theorem PA.frame{es:fR}{t:TA}(h:PA X es t):PA X es (λσ H Q=>∃A,OwnL X A H/\t σ (hidL A H) λv H'=>(∀a∈A,H' a=ag)->Q v (J5 A H H')):=by
 intro pos π s σ H Q I ⟨A,hA,z⟩;refine thn (h pos _ s σ _ _ (I.hide hA) z) ?_;rintro u s' ⟨v,H',J,r,q⟩;obtain⟨hn,J'⟩:=I.unhide hA J;exact⟨v,_,J',r,q hn⟩
def hidD(A:fP)(H:Hp)(D:Ends):Ends where
 nx:=λσ H'=>(∀a∈A,H' a=ag)->D.nx σ (J5 A H H')
 rt:=λv H'=>(∀a∈A,H' a=ag)->D.rt v (J5 A H H')
 bk:=λσ H'=>(∀a∈A,H' a=ag)->D.bk σ (J5 A H H')
 ct:=λσ H'=>(∀a∈A,H' a=ag)->D.ct σ (J5 A H H')
theorem PS.frame{st:aJ}{t:TS}(h:PS X st t):PS X st (λD σ H=>∃A,OwnL X A H/\t (hidD A H D) σ (hidL A H)):=by
 intro π s σ H D I ⟨A,hA,z⟩;refine thn (h _ s σ _ _ (I.hide hA) z) λf s' q=>?_;cases f with
 |next=>obtain⟨σ',H',J,q⟩:=q;obtain⟨hn,J'⟩:=I.unhide hA J;exact⟨_,_,J',q hn⟩
 |brk=>obtain⟨σ',H',J,q⟩:=q;obtain⟨hn,J'⟩:=I.unhide hA J;exact⟨_,_,J',q hn⟩
 |cont=>obtain⟨σ',H',J,q⟩:=q;obtain⟨hn,J'⟩:=I.unhide hA J;exact⟨_,_,J',q hn⟩
 |ret u=>obtain⟨v,σ',H',J,r,q⟩:=q;obtain⟨hn,J'⟩:=I.unhide hA J;exact⟨_,_,_,J',r,q hn⟩
theorem PI.frame{tg e:aK}{t:TI}(h:PI X tg e t):PI X tg e (λσ H R=>∃A,OwnL X A H/\t σ (hidL A H) λJ H'=>(∀a∈A,H' a=ag)->R J (J5 A H H')):=by
 intro π s σ H R I ⟨A,hA,z⟩;refine thn (h _ s σ _ _ (I.hide hA) z) λv s1 q=>thn q ?_;rintro itv s2 ⟨it,fp,tn,J,H',e,I2,T,st,hf,r⟩;obtain⟨hn,I3⟩:=I.unhide hA I2;refine⟨it,fp,tn,J,_,e,I3,T,st,λb hb=>?_,r hn⟩;obtain⟨f1,f2,f3,f4,f5,f6⟩:=hf b hb;have hbA:b∉A:=λha=>by
  obtain⟨⟨vs,q⟩,_⟩:=hA b ha;obtain⟨_,its,n,_,e⟩:=I.hok _ _ q;exact f6 _ (wJ _ (wJ _ (Nh ha e))) rfl
 refine⟨by rw[G4 hbA];exact f1,f2,f3,f4,f5,λp hp=>f6 p ?_⟩;rw[<-ui];exact uB _ hp
end
end L2
end
section
namespace L2
inductive Dt where
 |non|bl (b:Bool)|int (i:Int)|str (x:Str)|lst (xs:List Dt)|tup (xs:List Dt)|scr (ns:aG)|dic|obj (C:aj) (k b:Dt) (es:List Dt)
abbrev gf:=List Dt
structure Bk(K:aD)(C:aj):Prop where
 cls:Cls K C
 n1:TR K C "kinds"
 n2:TR K C "bills"
 n3:TR K C "earlier"
 ha:dO K (.ref C) "__class__"=aa (aa (.builtin "object.__class__"))
 hn:PySem.W.specialIn K (.builtin "object.__class__") "__get__"=aa (aa (.builtin "getset_descriptor.__get__"))
 tk:PySem.W.takesIn K (.builtin "object.__class__")=aa ac
 hm:PySem.W.mroIn K C (.type "object")=aa ac
 is:∀T∈["int","bool","str","list","tuple","dict"],fh K (.ref C) (.type T)=aa af
def emp:Hp:=λ_=>ag
def SqF(K:aD)(H:Hp)(a:aj)(xs:gg):Prop:=
 (∃ q,H a=some (.frz q (.lst xs))) ∨
  ∃(o:Obj)(its:fV)(n:Nat),K.lookup a=aa o/\o.cls=.type "list" /\ o.dict=ag/\o.data=.seq its n/\its.size<=sizeLine/\Vals xs its.toList
section
variable {K:aD}{H H':Hp}{a:aj}{xs:gg}
theorem SqF.sq(h:SqF K H a xs):SqL K H a xs:=h.elim (λh=>.inl (.inr h)) .inr
theorem SqF.mono(h:SqF K H a xs)(e:Same H H'):SqF K H' a xs:=h.elim (λ⟨q,h⟩=>.inl ⟨q,e _ _ h⟩) .inr
theorem SqF.hid{A:fP}(h:SqF K H a xs)(n:a∉A):SqF K (hidL A H) a xs:=h.elim (λ⟨q,h⟩=>.inl ⟨q,by rw[r9 n];exact h⟩) .inr
theorem SqF.of(h:SqL K H a xs)(o:Only H):SqF K H a xs:=by
 rcases h with(h|h)|h
 .rcases o a with z|⟨q,ys,z⟩<;>rw[h]at z<;>cases z
 .exact .inl h
 .exact .inr h
end
theorem Gj{A C:fP}{H:Hp}:hidL A (hidL C H)=hidL C (hidL A H):=funext λb=>by
 unfold hidL;by_cases p:b∈A<;>by_cases q:b∈C<;>simp[p,q]
theorem A7{A:fP}{H H':Hp}(h:Same H H'):Same (hidL A H) (hidL A H'):=λb o e=>by
 obtain⟨q1,q2⟩:=P0 e;rw[r9 q1];exact h b o q2
theorem V5{A B:fP}{H:Hp}(h:∀a∈B,a∈A):Same (hidL A H) (hidL B H):=λb o e=>by
 obtain⟨q1,q2⟩:=P0 e;rw[r9 λz=>q1 (h b z)];exact q2
theorem Same.seqT{K:aD}{H H':Hp}{a:aj}{xs:gg}(e:Same H H')(h:SqT K H a xs):SqT K H' a xs:=by
 rcases h with(h|⟨o,h⟩)|h
 .exact .inl (.inl (e _ _ h))
 .exact .inl (.inr ⟨o,e _ _ h⟩)
 .exact .inr h
theorem Same.emp{H:Hp}:Same emp H:=λ_ _ e=>by cases e
def z1l(a:aj)(h:aV):Prop:=h.get? a=aa { cls:=.type "dict",data:=.dict #[] }
mutual
def Rp(K:aD)(B:Hp):Dt->Hp->V->Prop
 |.non,_,v=>v=.non
 |.bl b,_,v=>v=.bl b
 |.int i,_,v=>v=.int i
 |.str x,_,v=>v=.str x
 |.dic,H,v=>∃a,v=.ref a/\H a=aa (.ext (z1l a))
 |.lst ds,H,v=>∃a vs,v=.ref a/\B a=ag/\H a=aa (.lst vs)/\Rps K B ds (hidL [a] H) vs
 |.tup ds,H,v=>∃a vs,v=.ref a/\SqT K H a vs/\Rps K B ds H vs
 |.scr ns,H,v=>∃a,v=.ref a/\B a=ag/\SqF K H a (ns.map V.int)
 |.obj C k b es,H,v=>∃a dx vk vb e vs,v=.ref a/\B a=ag/\H a=aa (.ins C dx [("kinds",vk),("bills",vb),("earlier",.ref e)])/\H dx=aa (.own a)/\B e=ag/\H e=aa (.lst vs)/\Bk K C/\Rp K B k (hidL [a,e] H) vk/\Rp K B b (hidL [a,e] H) vb/\Rps K B es (hidL [a,e] H) vs
def Rps(K:aD)(B:Hp):gf->Hp->gg->Prop
 |[],_,vs=>vs=[]
 |d::ds,H,vs=>∃v r,vs=v::r/\Rp K B d H v/\Rps K B ds H r
end
section
variable {K:aD}{B B' H H':Hp}
theorem Rp.int_{i:Int}{v:V}:Rp K B (.int i) H v↔v=.int i:=by unfold Rp;exact Iff.rfl
theorem Rp.bl_{b:Bool}{v:V}:Rp K B (.bl b) H v↔v=.bl b:=by unfold Rp;exact Iff.rfl
theorem Rp.non_{v:V}:Rp K B .non H v↔v=.non:=by unfold Rp;exact Iff.rfl
theorem Rp.str_{x:Str}{v:V}:Rp K B (.str x) H v↔v=.str x:=by unfold Rp;exact Iff.rfl
theorem Rp.dic_{v:V}:Rp K B .dic H v↔∃a,v=.ref a/\H a=aa (.ext (z1l a)):=by unfold Rp;exact Iff.rfl
theorem Rp.lst_{ds:gf}{v:V}:Rp K B (.lst ds) H v↔∃a vs,v=.ref a/\B a=ag/\H a=aa (.lst vs)/\Rps K B ds (hidL [a] H) vs:=by rw[Rp]
theorem Rp.tup_{ds:gf}{v:V}:Rp K B (.tup ds) H v↔∃a vs,v=.ref a/\SqT K H a vs/\Rps K B ds H vs:=by rw[Rp]
theorem Rp.obj_{C:aj}{k b:Dt}{es:gf}{v:V}:Rp K B (.obj C k b es) H v↔∃a dx vk vb e vs,v=.ref a/\B a=ag/\H a=aa (.ins C dx [("kinds",vk),("bills",vb),("earlier",.ref e)])/\H dx=aa (.own a)/\B e=ag/\H e=aa (.lst vs)/\Bk K C/\Rp K B k (hidL [a,e] H) vk/\Rp K B b (hidL [a,e] H) vb/\Rps K B es (hidL [a,e] H) vs:=by rw[Rp]
theorem Rp.scr_{ns:aG}{v:V}:Rp K B (.scr ns) H v↔∃a,v=.ref a/\B a=ag/\SqF K H a (ns.map V.int):=by rw[Rp]
theorem Rps.nil_{vs:gg}:Rps K B [] H vs↔vs=[]:=by rw[Rps]
theorem Rps.cons_{d:Dt}{ds:gf}{vs:gg}:Rps K B (d::ds) H vs↔∃v r,vs=v::r/\Rp K B d H v/\Rps K B ds H r:=by rw[Rps]
mutual
theorem Rp.mono:∀(d:Dt){H H':Hp}{v:V},Same H H'->Rp K B d H v->Rp K B d H' v
 |.non,_,_,v,e,h=>by unfold Rp at h|-;exact h
 |.bl b,_,_,v,e,h=>by unfold Rp at h|-;exact h
 |.int i,_,_,v,e,h=>by unfold Rp at h|-;exact h
 |.str x,_,_,v,e,h=>by unfold Rp at h|-;exact h
 |.dic,_,_,v,e,h=>by unfold Rp at h|-;obtain⟨a,q,r⟩:=h;exact⟨a,q,e _ _ r⟩
 |.lst ds,_,_,v,e,h=>by
  unfold Rp at h|-;obtain⟨a,vs,rfl,h0,h1,h2⟩:=h;exact⟨a,vs,rfl,h0,e _ _ h1,Rps.mono ds (A7 e) h2⟩
 |.tup ds,_,_,v,e,h=>by
  unfold Rp at h|-;obtain⟨a,vs,rfl,h1,h2⟩:=h;exact⟨a,vs,rfl,e.seqT h1,Rps.mono ds e h2⟩
 |.scr ns,_,_,v,e,h=>by
  unfold Rp at h|-;obtain⟨a,rfl,h0,h1⟩:=h;exact⟨a,rfl,h0,h1.mono e⟩
 |.obj C k b es,_,_,v,e,h=>by
  unfold Rp at h|-;obtain⟨a,dx,vk,vb,l,vs,rfl,h0,h1,h2,h3,h4,h5,h6,h7,h8⟩:=h;exact⟨a,dx,vk,vb,l,vs,rfl,h0,e _ _ h1,e _ _ h2,h3,e _ _ h4,h5,Rp.mono k (A7 e) h6,Rp.mono b (A7 e) h7,Rps.mono es (A7 e) h8⟩
theorem Rps.mono:∀(ds:gf){H H':Hp}{vs:gg},Same H H'->Rps K B ds H vs->Rps K B ds H' vs
 |[],_,_,vs,e,h=>by unfold Rps at h|-;exact h
 |d::ds,_,_,vs,e,h=>by
  unfold Rps at h|-;obtain⟨v,r,rfl,h1,h2⟩:=h;exact⟨v,r,rfl,Rp.mono d e h1,Rps.mono ds e h2⟩
end
mutual
theorem Rp.anti(e:Same B' B):∀(d:Dt){H:Hp}{v:V},Rp K B d H v->Rp K B' d H v
 |.non,_,v,h=>by unfold Rp at h|-;exact h
 |.bl b,_,v,h=>by unfold Rp at h|-;exact h
 |.int i,_,v,h=>by unfold Rp at h|-;exact h
 |.str x,_,v,h=>by unfold Rp at h|-;exact h
 |.dic,_,v,h=>by unfold Rp at h|-;exact h
 |.lst ds,_,v,h=>by
  unfold Rp at h|-;obtain⟨a,vs,rfl,h0,h1,h2⟩:=h;exact⟨a,vs,rfl,e.free h0,h1,Rps.anti e ds h2⟩
 |.tup ds,_,v,h=>by
  unfold Rp at h|-;obtain⟨a,vs,rfl,h1,h2⟩:=h;exact⟨a,vs,rfl,h1,Rps.anti e ds h2⟩
 |.scr ns,_,v,h=>by
  unfold Rp at h|-;obtain⟨a,rfl,h0,h1⟩:=h;exact⟨a,rfl,e.free h0,h1⟩
 |.obj C k b es,_,v,h=>by
  unfold Rp at h|-;obtain⟨a,dx,vk,vb,l,vs,rfl,h0,h1,h2,h3,h4,h5,h6,h7,h8⟩:=h;exact⟨a,dx,vk,vb,l,vs,rfl,e.free h0,h1,h2,e.free h3,h4,h5,Rp.anti e k h6,Rp.anti e b h7,Rps.anti e es h8⟩
theorem Rps.anti(e:Same B' B):∀(ds:gf){H:Hp}{vs:gg},Rps K B ds H vs->Rps K B' ds H vs
 |[],_,vs,h=>by unfold Rps at h|-;exact h
 |d::ds,_,vs,h=>by
  unfold Rps at h|-;obtain⟨v,r,rfl,h1,h2⟩:=h;exact⟨v,r,rfl,Rp.anti e d h1,Rps.anti e ds h2⟩
end
theorem SqT.hid{A:fP}{a:aj}{xs:gg}(hA:∀b∈A,∀o,H b=aa o->∃vs,o=.lst vs)(h:SqT K H a xs):SqT K (hidL A H) a xs:=by
 rcases h with(h|⟨o,h⟩)|h
 .refine .inl (.inl ?_);rw[r9 λz=>by obtain⟨vs,e⟩:=hA a z _ h;cases e];exact h
 .refine .inl (.inr ⟨o,?_⟩);rw[r9 λz=>by obtain⟨vs,e⟩:=hA a z _ h;cases e];exact h
 .exact .inr h
mutual
theorem Rp.hid{A:fP}(hB:∀b∈A,B b≠ag):∀(d:Dt){H:Hp}{v:V},(∀b∈A,∀o,H b=aa o->∃vs,o=.lst vs)->Rp K B d H v->Rp K B d (hidL A H) v
 |.non,_,v,_,h=>by unfold Rp at h|-;exact h
 |.bl b,_,v,_,h=>by unfold Rp at h|-;exact h
 |.int i,_,v,_,h=>by unfold Rp at h|-;exact h
 |.str x,_,v,_,h=>by unfold Rp at h|-;exact h
 |.dic,_,v,hA,h=>by unfold Rp at h|-;obtain⟨a,q,r⟩:=h;exact⟨a,q,by rw[r9 λz=>by obtain⟨vs,e⟩:=hA a z _ r;cases e];exact r⟩
 |.lst ds,H,v,hA,h=>by
  unfold Rp at h|-;obtain⟨a,vs,rfl,h0,h1,h2⟩:=h;refine⟨a,vs,rfl,h0,by rw[r9 λz=>hB a z h0];exact h1,?_⟩;rw[Gj];exact Rps.hid hB ds (λb hb o e=>hA b hb o (P0 e).2) h2
 |.tup ds,H,v,hA,h=>by
  unfold Rp at h|-;obtain⟨a,vs,rfl,h1,h2⟩:=h;exact⟨a,vs,rfl,h1.hid hA,Rps.hid hB ds hA h2⟩
 |.scr ns,H,v,hA,h=>by
  unfold Rp at h|-;obtain⟨a,rfl,h0,h1⟩:=h;exact⟨a,rfl,h0,h1.hid λz=>hB a z h0⟩
 |.obj C k b es,H,v,hA,h=>by
  unfold Rp at h|-;obtain⟨a,dx,vk,vb,l,vs,rfl,h0,h1,h2,h3,h4,h5,h6,h7,h8⟩:=h;refine⟨a,dx,vk,vb,l,vs,rfl,h0,by rw[r9 λz=>hB a z h0];exact h1,by rw[r9 λz=>by obtain⟨vs,e⟩:=hA dx z _ h2;cases e];exact h2,h3,by rw[r9 λz=>hB l z h3];exact h4,h5,?_⟩;rw[Gj];exact⟨Rp.hid hB k (λb hb o e=>hA b hb o (P0 e).2) h6,Rp.hid hB b (λb hb o e=>hA b hb o (P0 e).2) h7,Rps.hid hB es (λb hb o e=>hA b hb o (P0 e).2) h8⟩
theorem Rps.hid{A:fP}(hB:∀b∈A,B b≠ag):∀(ds:gf){H:Hp}{vs:gg},(∀b∈A,∀o,H b=aa o->∃vs,o=.lst vs)->Rps K B ds H vs->Rps K B ds (hidL A H) vs
 |[],_,vs,_,h=>by unfold Rps at h|-;exact h
 |d::ds,_,vs,hA,h=>by
  unfold Rps at h|-;obtain⟨v,r,rfl,h1,h2⟩:=h;exact⟨v,r,rfl,Rp.hid hB d hA h1,Rps.hid hB ds hA h2⟩
end
end
mutual
def Dt.flat:Dt->Bool
 |.lst _=>af
 |.scr _=>af
 |.obj _ _ _ _=>af
 |.tup ds=>J7 ds
 |_=>ac
def J7:gf->Bool
 |[]=>ac
 |d::ds=>d.flat&&J7 ds
end
section
variable {K:aD}{B B' H H':Hp}
mutual
theorem Rp.flat:∀(d:Dt){H:Hp}{v:V},d.flat=ac->Rp K B d H v->Rp K B' d H v
 |.non,_,v,_,h=>by unfold Rp at h|-;exact h
 |.bl b,_,v,_,h=>by unfold Rp at h|-;exact h
 |.int i,_,v,_,h=>by unfold Rp at h|-;exact h
 |.str x,_,v,_,h=>by unfold Rp at h|-;exact h
 |.dic,_,v,_,h=>by unfold Rp at h|-;exact h
 |.lst ds,_,v,f,h=>by unfold Dt.flat at f;cases f
 |.tup ds,_,v,f,h=>by
  unfold Dt.flat at f;unfold Rp at h|-;obtain⟨a,vs,rfl,h1,h2⟩:=h;exact⟨a,vs,rfl,h1,Rps.flat ds f h2⟩
 |.scr ns,_,v,f,h=>by unfold Dt.flat at f;cases f
 |.obj C k b es,_,v,f,h=>by unfold Dt.flat at f;cases f
theorem Rps.flat:∀(ds:gf){H:Hp}{vs:gg},J7 ds=ac->Rps K B ds H vs->Rps K B' ds H vs
 |[],_,vs,_,h=>by unfold Rps at h|-;exact h
 |d::ds,_,vs,f,h=>by
  unfold J7 at f;rw[wG]at f;unfold Rps at h|-;obtain⟨v,r,rfl,h1,h2⟩:=h;exact⟨v,r,rfl,Rp.flat d f.1 h1,Rps.flat ds f.2 h2⟩
end
theorem Rps.length:∀{ds:gf}{vs:gg},Rps K B ds H vs->vs.length=ds.length
 |[],vs,h=>by rw[Rps.nil_.mp h];rfl
 |d::ds,vs,h=>by
  obtain⟨v,r,rfl,_,h2⟩:=Rps.cons_.mp h;rw[wo,wo,Rps.length h2]
theorem Rps.get:∀{ds:gf}{vs:gg}{i:Nat}{d:Dt},Rps K B ds H vs->ds[i]?=aa d->∃v,vs[i]?=aa v/\Rp K B d H v
 |[],vs,i,d,_,e=>by simp at e
 |c::ds,vs,0,d,h,e=>by
  obtain⟨v,r,rfl,h1,_⟩:=Rps.cons_.mp h;simp at e;subst e;exact⟨v,rfl,h1⟩
 |c::ds,vs,i+1,d,h,e=>by
  obtain⟨v,r,rfl,_,h2⟩:=Rps.cons_.mp h;have e:ds[i]?=aa d:=by simpa using e
  obtain⟨u,q1,q2⟩:=Rps.get h2 e;exact⟨u,by simpa using q1,q2⟩
theorem Rps.append:∀{ds ds':gf}{vs vs':gg},Rps K B ds H vs->Rps K B ds' H vs'->Rps K B (ds++ds') H (vs++vs')
 |[],ds',vs,vs',h,h'=>by rw[Rps.nil_.mp h];exact h'
 |d::ds,ds',vs,vs',h,h'=>by
  obtain⟨v,r,rfl,h1,h2⟩:=Rps.cons_.mp h;exact Rps.cons_.mpr ⟨v,r++vs',rfl,h1,Rps.append h2 h'⟩
theorem Rps.one{d:Dt}{v:V}(h:Rp K B d H v):Rps K B [d] H [v]:=Rps.cons_.mpr ⟨v,[],rfl,h,Rps.nil_.mpr rfl⟩
theorem Rps.take:∀{ds:gf}{vs:gg}(n:Nat),Rps K B ds H vs->Rps K B (ds.take n) H (vs.take n)
 |ds,vs,0,_=>by rw[w1n,w1n];exact Rps.nil_.mpr rfl
 |[],vs,n+1,h=>by rw[Rps.nil_.mp h];exact Rps.nil_.mpr rfl
 |d::ds,vs,n+1,h=>by
  obtain⟨v,r,rfl,h1,h2⟩:=Rps.cons_.mp h;exact Rps.cons_.mpr ⟨v,r.take n,rfl,h1,Rps.take n h2⟩
theorem Rps.drop:∀{ds:gf}{vs:gg}(n:Nat),Rps K B ds H vs->Rps K B (ds.drop n) H (vs.drop n)
 |ds,vs,0,h=>h
 |[],vs,n+1,h=>by rw[Rps.nil_.mp h];exact Rps.nil_.mpr rfl
 |d::ds,vs,n+1,h=>by
  obtain⟨v,r,rfl,h1,h2⟩:=Rps.cons_.mp h;exact Rps.drop n h2
theorem Rps.set:∀{ds:gf}{vs:gg}(i:Nat){d:Dt}{v:V},Rps K B ds H vs->Rp K B d H v->Rps K B (ds.set i d) H (vs.set i v)
 |[],vs,i,d,v,h,_=>by rw[Rps.nil_.mp h];exact Rps.nil_.mpr rfl
 |c::ds,vs,0,d,v,h,q=>by
  obtain⟨u,r,rfl,h1,h2⟩:=Rps.cons_.mp h;exact Rps.cons_.mpr ⟨v,r,rfl,q,h2⟩
 |c::ds,vs,i+1,d,v,h,q=>by
  obtain⟨u,r,rfl,h1,h2⟩:=Rps.cons_.mp h;exact Rps.cons_.mpr ⟨u,r.set i v,rfl,h1,Rps.set i h2 q⟩
theorem Rm{p:aj}{o:HO}(h:H p=ag):hidL [p] (upd H p o)=H:=funext λb=>by
 by_cases q:b=p
 .subst q;rw[K9 (by simp),h]
 .rw[r9 (by simpa using q),u6 q]
theorem E5{p:aj}{o:HO}(h:H p=ag):Same H (upd H p o):=λb u e=>by rw[u6 (T4 e h)];exact e
theorem Rp.new{ds:gf}{vs:gg}{p:aj}(hp:H p=ag)(hB:B p=ag)(r:Rps K B ds H vs):Rp K B (.lst ds) (upd H p (.lst vs)) (.ref p):=
 Rp.lst_.mpr ⟨p,vs,rfl,hB,A0,by rw[Rm hp];exact r⟩
end
inductive Fl where
 |sh|tn|fr|nw
def Fl.isNw:Fl->Bool
 |.nw=>ac
 |_=>af
def Fl.isFr:Fl->Bool
 |.nw=>ac
 |.fr=>ac
 |_=>af
abbrev Dv:=Fl×Dt
abbrev gh:=List Dv
def nrm(f:Fl)(d:Dt):Dv:=(if d.flat then .nw else f,d)
structure Ky where
 K:aD
 H₀:Hp
abbrev Cx.ky(X:Cx):Ky:=⟨X.K,X.H₀⟩
def RpF(X:Ky)(H:Hp)(f:Fl)(d:Dt)(H':Hp)(v:V):Prop:=match f with
 |.sh=>Rp X.K emp d H' v
 |.tn=>Rp X.K emp d H' v/\(∃ds,d=.lst ds)/\∀a,v=.ref a->H a=ag
 |.fr=>Rp X.K X.H₀ d H' v
 |.nw=>Rp X.K H d H' v
section
variable {X:Ky}{H H' H1:Hp}{f:Fl}{d:Dt}{v:V}
theorem RpF.sh(h:RpF X H f d H' v):Rp X.K emp d H' v:=by
 cases f with
 |sh=>exact h
 |tn=>exact h.1
 |fr=>exact Rp.anti Same.emp d h
 |nw=>exact Rp.anti Same.emp d h
theorem RpF.fr(h0:Same X.H₀ H)(e:f.isFr=ac)(h:RpF X H f d H' v):Rp X.K X.H₀ d H' v:=by
 cases f with
 |sh=>cases e
 |tn=>cases e
 |fr=>exact h
 |nw=>exact Rp.anti h0 d h
theorem RpF.mono(h:RpF X H f d H' v)(s:Same H' H1):RpF X H f d H1 v:=by
 cases f with
 |sh=>exact Rp.mono d s h
 |tn=>exact⟨Rp.mono d s h.1,h.2⟩
 |fr=>exact Rp.mono d s h
 |nw=>exact Rp.mono d s h
theorem RpF.early(s:Same H H1)(h:RpF X H1 f d H' v):RpF X H f d H' v:=by
 cases f with
 |sh=>exact h
 |tn=>exact⟨h.1,h.2.1,λa e=>s.free (h.2.2 a e)⟩
 |fr=>exact h
 |nw=>exact Rp.anti s d h
theorem RpF.nrm(h:RpF X H f d H' v):RpF X H (nrm f d).1 d H' v:=by
 unfold L2.nrm;by_cases q:d.flat=ac
 .rw[ar q];exact Rp.flat d q h.sh
 .rw[aw q];exact h
theorem RpF.scal(q:d.flat=ac)(h:Rp X.K emp d H' v):RpF X H .nw d H' v:=Rp.flat d q h
end
inductive Cell where
 |no|sh (f:Bool) (d:Dt)|ow (f:Bool) (ds:gf)|ex
abbrev Rho:=List Cell
def flOf(f:Bool):Fl:=if f then .fr else .sh
def Cell.val:Cell->Option Dv
 |.no=>ag
 |.ex=>ag
 |.sh f d=>aa (nrm (flOf f) d)
 |.ow f ds=>aa (flOf f,.lst ds)
def Rn(ρ:Rho)(i:Nat):Option Dv:=(ρ[i]?).bind Cell.val
def bsOf(X:Ky)(f:Bool):Hp:=if f then X.H₀ else emp
def z1m(K:aD)(a:aj)(h:aV):Prop:=∃oe C,h.get? a=aa oe/\oe.cls=.ref C/\fk K (.ref C) (.type "ValueError")=aa ac
def RpC(X:Ky)(H:Hp):Cell->Option V->Prop
 |.no,_=>True
 |.ex,o=>∃a φ,o=aa (.ref a)/\H a=aa (.ext φ)/\∀h,φ h->z1m X.K a h
 |.sh f d,o=>∃v,o=aa v/\Rp X.K (bsOf X f) d H v
 |.ow f ds,o=>∃v,o=aa v/\Rp X.K (bsOf X f) (.lst ds) H v
structure RepS(X:Ky)(H:Hp)(ρ:Rho)(σ:St):Prop where
 len:ρ.length=σ.length
 base:Same X.H₀ H
 at_:∀(i:Nat)(c:Cell),ρ[i]?=aa c->∃o,σ[i]?=aa o/\RpC X H c o
section
variable {X:Ky}{H H':Hp}{ρ:Rho}{σ:St}
theorem RpC.mono(e:Same H H'){c:Cell}{o:Option V}(h:RpC X H c o):RpC X H' c o:=by
 cases c with
 |no=>trivial
 |ex=>obtain⟨a,φ,q,r,z⟩:=h;exact⟨a,φ,q,e _ _ r,z⟩
 |sh f d=>obtain⟨v,q,r⟩:=h;exact⟨v,q,Rp.mono d e r⟩
 |ow f ds=>obtain⟨v,q,r⟩:=h;exact⟨v,q,Rp.mono _ e r⟩
theorem RepS.mono(h:RepS X H ρ σ)(e:Same H H'):RepS X H' ρ σ:=⟨h.len,h.base.trans e,λi c q=>by obtain⟨o,q1,q2⟩:=h.at_ i c q;exact⟨o,q1,q2.mono e⟩⟩
theorem z1n{f:Bool}{d:Dt}{v:V}(h:Rp X.K (bsOf X f) d H v):RpF X H (flOf f) d H v:=by
 cases f with
 |false=>exact h
 |true=>exact h
theorem RepS.val(h:RepS X H ρ σ){i:Nat}{f:Fl}{d:Dt}(e:Rn ρ i=aa (f,d)):∃v,σ[i]?=aa (aa v)/\RpF X H f d H v:=by
 unfold Rn at e;cases q:ρ[i]? with
 |none=>rw[q]at e;cases e
 | some c =>
  rw[q]at e;obtain⟨o,q1,q2⟩:=h.at_ i c q;cases c with
  |no=>cases e
  |ex=>cases e
  |sh f' d'=>
   obtain⟨v,rfl,r⟩:=q2;have e:nrm (flOf f') d'=(f,d):=aP e;have r':=(z1n r).nrm;refine⟨v,q1,?_⟩;have e1:d'=d:=bI Prod.snd e;subst e1;rw[e]at r';exact r'
  |ow f' ds=>
   obtain⟨v,rfl,r⟩:=q2;cases e;exact⟨v,q1,z1n r⟩
end
end L2
end
section
namespace L2
theorem PE.imp{X:Cx}{e:aK}{t t':TE}(h:PE X e t)(q:∀σ H Q,t' σ H Q->t σ H Q):PE X e t':=λπ s σ H Q I z=>h π s σ H Q I (q σ H Q z)
theorem PT.imp{X:Cx}{e:aK}{t t':TT}(h:PT X e t)(q:∀σ H Q,t' σ H Q->t σ H Q):PT X e t':=λπ s σ H Q I z=>h π s σ H Q I (q σ H Q z)
theorem PW.imp{X:Cx}{e:aK}{t t':TT}(h:PW X e t)(q:∀σ H Q,t' σ H Q->t σ H Q):PW X e t':=λwhole π s σ H Q I z=>h whole π s σ H Q I (q σ H Q z)
theorem PA.imp{X:Cx}{es:fR}{t t':TA}(h:PA X es t)(q:∀σ H Q,t' σ H Q->t σ H Q):PA X es t':=λpos π s σ H Q I z=>h pos π s σ H Q I (q σ H Q z)
theorem i0{α β:Type}{o:Option α}{f:α->Option β}{b:β}(h:o.bind f=aa b):∃a,o=aa a/\f a=aa b:=by
 cases o with
 |none=>cases h
 |some a=>exact⟨a,rfl,h⟩
section
variable {X:Ky}{H H':Hp}
theorem RpF.i_{i:Int}:RpF X H .nw (.int i) H' (.int i):=(Rp.int_ (K:=X.K) (B:=H) (H:=H')).mpr rfl
theorem RpF.b_{i:Bool}:RpF X H .nw (.bl i) H' (.bl i):=(Rp.bl_ (K:=X.K) (B:=H) (H:=H')).mpr rfl
theorem RpF.s_{i:Str}:RpF X H .nw (.str i) H' (.str i):=(Rp.str_ (K:=X.K) (B:=H) (H:=H')).mpr rfl
theorem RpF.n_:RpF X H .nw .non H' .non:=(Rp.non_ (K:=X.K) (B:=H) (H:=H')).mpr rfl
end
abbrev FE:=Rho->Option Dv
abbrev FT:=Rho->Option Bool
abbrev FA:=Rho->Option (gh)
def upK(Y:Ky)(F:FE):TE:=λσ H Q=>∃ρ f d,RepS Y H ρ σ/\F ρ=aa (f,d)/\∀v H',Same H H'->RpF Y H f d H' v->Q v H'
abbrev upF(X:Cx)(F:FE):TE:=upK X.ky F
def PF(X:Cx)(e:aK)(F:FE):Prop:=PE X e (upF X F)
def upBK(Y:Ky)(F:FT):TT:=λσ H Q=>∃ρ b,RepS Y H ρ σ/\F ρ=aa b/\∀H',Same H H'->Q b H'
abbrev upB(X:Cx)(F:FT):TT:=upBK X.ky F
def PFT(X:Cx)(e:aK)(F:FT):Prop:=PT X e (upB X F)
def PFW(X:Cx)(e:aK)(F:FT):Prop:=PW X e (upB X F)
theorem PFW.pt{X:Cx}{e:aK}{F:FT}(h:PFW X e F):PFT X e F:=PW.pt h
section
variable {X:Cx}{a b c e:aK}{Fa Fb Fc:FE}{pos:Pos}
def fN(i:Nat):FE:=λρ=>Rn ρ i
theorem b8(i:Nat){x:Str}{pos:Pos}(hN:X.N[i]?=aa x:=by rfl)(hv:Vis X.env.scope x:=by first|exact ax rfl|exact aW (ax rfl)|exact aW (aW rfl))(hd:(x==("__debug__":Str))=af:=by decide)
  (hcd:(x==("__classdict__":Str))=af:=by decide):PF X (.Name x pos) (fN i):=
 (AV hN hv hd hcd).imp fun σ H Q ⟨ρ,f,d,rs,e,k⟩=>by
  obtain⟨v,e1,e2⟩:=rs.val e;exact⟨v,e1,k v H (Same.refl H) e2⟩
def fC(d:Dt):FE:=λ_=>aa (.nw,d)
theorem i8{i:Int}{j:Nat}:PF X (.Constant (.int i) j pos) (fC (.int i)):=z0V.imp (by rintro σ H Q ⟨ρ,f,d,rs,e,k⟩;cases e;exact k _ H (Same.refl H) RpF.i_)
theorem p_bl{v:Bool}{j:Nat}:PF X (.Constant (.bool v) j pos) (fC (.bl v)):=pe_bl.imp (by rintro σ H Q ⟨ρ,f,d,rs,e,k⟩;cases e;exact k _ H (Same.refl H) RpF.b_)
theorem Bg{j:Nat}:PF X (.Constant .none j pos) (fC .non):=pe_non.imp (by rintro σ H Q ⟨ρ,f,d,rs,e,k⟩;cases e;exact k _ H (Same.refl H) RpF.n_)
theorem Yj{x:Str}{j:Nat}:PF X (.Constant (.str x) j pos) (fC (.str x)):=pe_str.imp (by rintro σ H Q ⟨ρ,f,d,rs,e,k⟩;cases e;exact k _ H (Same.refl H) RpF.s_)
theorem p_dic:PF X (.Dict [] [] pos) (fC .dic):=λπ s σ H Q I⟨ρ,f,d,rs,e,k⟩=>by
 cases e;have hf:H s.heap.objs.size=ag:=I.hok.fresh (wv _);refine wpAny_Dict_empty ⟨.ref s.heap.objs.size,upd H s.heap.objs.size (.ext (z1l s.heap.objs.size)),I.laid (t':=s.toks) (λb u e=>wf _ e) (wv _) ?_,rfl,k _ _ (E5 hf) ((Rp.dic_ (K:=X.K) (B:=H)).mpr ⟨_,rfl,A0⟩)⟩;exact⟨wx _ rfl,⟨_,wx _ rfl⟩,λh1 h2 z w=>w _ z⟩
theorem z1o{x:Str}{i:Int}{t:Tok}(hg:Gl X x)(hm:X.mg x=aa (.int i t))(hd:(x==("__debug__":Str))=af:=by decide):PF X (.Name x pos) (fC (.int i)):=
 (Yc (v:=V.int i) hg hm ⟨t,rfl⟩ hd).imp (by rintro σ H Q ⟨ρ,f,d,rs,e,k⟩;cases e;exact k _ H (Same.refl H) RpF.i_)
abbrev FO:=Dt->Dt->Option Dv
def OpF(X:Cx)(f:ao->ao->Sem ao)(r:FO):Prop:=
 OpR X f (λx y H Q=>∃dx dy f d,Rp X.K emp dx H x/\Rp X.K emp dy H y/\r dx dy=aa (f,d)/\∀v H',Same H H'->RpF X.ky H f d H' v->Q v H')
def fOp(r:FO)(Fa Fb:FE):FE:=λρ=>(Fa ρ).bind λx=>(Fb ρ).bind λy=>r x.2 y.2
theorem TZ{r:FO}{σ:St}{H:Hp}{Q:VK}(h:upF X (fOp r Fa Fb) σ H Q):
  upF X Fa σ H λx H1=>upF X Fb σ H1 λy H2=>∃dx dy f d,Rp X.K emp dx H2 x/\Rp X.K emp dy H2 y/\r dx dy=aa (f,d)/\∀v H',Same H2 H'->RpF X.ky H2 f d H' v->Q v H':=by
 obtain⟨ρ,f,d,rs,e,k⟩:=h;obtain⟨⟨fa,da⟩,ea,e⟩:=i0 e;obtain⟨⟨fb,db⟩,eb,e⟩:=i0 e;exact⟨ρ,fa,da,rs,ea,λv H1 s1 r1=>⟨ρ,fb,db,rs.mono s1,eb,λu H2 s2 r2=>⟨da,db,f,d,Rp.mono _ s2 r1.sh,r2.sh,e,λw H' s' r'=>k w H' (s1.trans (s2.trans s')) (r'.early (s1.trans s2))⟩⟩⟩
theorem p_op{op:Operator}{r:FO}(ho:OpF X (bU op) r)(ha:PF X a Fa)(hb:PF X b Fb):PF X (.BinOp a op b pos) (fOp r Fa Fb):=(pe_op ho ha hb).imp λσ H Q h=>TZ h
theorem p_cmp{op:CmpOp}{r:FO}(ho:OpF X (bp op) r)(ha:PF X a Fa)(hb:PF X b Fb)(hm:cZ op b=af):PF X (.Compare a [op] [b] pos) (fOp r Fa Fb):=(z4x ho ha hb hm).imp λσ H Q h=>TZ h
def rII(C:Int->Int->Bool)(g:Int->Int->Dt):FO
 |.int i,.int j=>if C i j then aa (.nw,g i j) else ag
 |_,_=>ag
theorem OT{f:ao->ao->Sem ao}{P:Int->Int->Prop}{C:Int->Int->Bool}{g:Int->Int->V}{g':Int->Int->Dt}(ho:OpR X f (rI P g))(hP:∀i j,C i j=ac->P i j)(hf:∀i j,(g' i j).flat=ac)(hg:∀i j H,Rp X.K emp (g' i j) H (g i j)):OpF X f (rII C g'):=
 λπ s σ H x y v u Q I r1 r2 ⟨d1,d2,f,d,q1,q2,e,k⟩=>by
  unfold rII at e;split at e
  .rename_i i j;split at e
   .rename_i hc;cases e;rw[Rp.int_]at q1 q2;exact ho π s σ H x y v u Q I r1 r2 ⟨i,j,q1,q2,hP i j hc,k _ H (Same.refl H) (RpF.scal (hf i j) (hg i j H))⟩
   .cases e
  .cases e
theorem DZ{f:ao->ao->Sem ao}{g:Int->Int->V}{g':Int->Int->Dt}(ho:OpR X f (rI0 g))(hf:∀i j,(g' i j).flat=ac)(hg:∀i j H,Rp X.K emp (g' i j) H (g i j)):OpF X f (rII (λ_ _=>ac) g'):=
 λπ s σ H x y v u Q I r1 r2⟨d1,d2,f,d,q1,q2,e,k⟩=>by
  unfold rII at e;split at e
  .rename_i i j;rw[ar rfl]at e;cases e;rw[Rp.int_]at q1 q2;exact ho π s σ H x y v u Q I r1 r2 ⟨i,j,q1,q2,k _ H (Same.refl H) (RpF.scal (hf i j) (hg i j H))⟩
  .cases e
def OpF.or{f:ao->ao->Sem ao}{r r':FO}(h:OpF X f r)(h':OpF X f r'):OpF X f (λx y=>(r x y).orElse λ_=>r' x y):=
 λπ s σ H x y v u Q I r1 r2⟨d1,d2,f,d,q1,q2,e,k⟩=>by
  replace e:((r d1 d2).orElse λ_=>r' d1 d2)=aa (f,d):=e;cases q:r d1 d2 with
  |some z=>
   rw[q]at e;cases e;exact h π s σ H x y v u Q I r1 r2 ⟨d1,d2,_,_,q1,q2,q,k⟩
  |none=>
   rw[q]at e;exact h' π s σ H x y v u Q I r1 r2 ⟨d1,d2,_,_,q1,q2,e,k⟩
def G5(i j:Int):Bool:=decide (bC i+bC j<=134217728)||(decide (i.natAbs<2^64)||decide (j.natAbs<2^64))
def E7(_ j:Int):Bool:=decide (j≠0)&&decide (j.natAbs.log2<9000)
def N9(_ j:Int):Bool:=decide (j≠0)
def Kl(i j:Int):Bool:=decide (0<=j)&&decide (j<=1000000)&&decide (i.natAbs<2^64)
theorem z4J:OpR X (bU .Mult) (rI (λi j=>G5 i j=ac) λi j=>.int (i*j)):=opI λi j _ _ _ _ _ hc q=>by
 refine mul_int q ?_;unfold G5 at hc;rw[ug,ug]at hc;rcases hc with hc|hc|hc
 .exact IntMulOk.of_le (wv _) (wv _) (bo hc)
 .have:=bo hc;exact CMul.ok (.inl ⟨by rfl',by rfl'⟩)
 .have:=bo hc;exact CMul.ok (.inr ⟨by rfl',by rfl'⟩)
def z1p:FO:=rII (λ_ _=>ac) λi j=>.int (i+j)
def IY:FO:=rII (λ_ _=>ac) λi j=>.int (i-j)
def D9:FO:=rII G5 λi j=>.int (i*j)
def L5:FO:=rII E7 λi j=>.int (i.fdiv j)
def B3:FO:=rII N9 λi j=>.int (i.fmod j)
def Ni:FO:=rII Kl λi j=>.int (i^j.toNat)
def opLt:FO:=rII (λ_ _=>ac) λi j=>.bl (decide (i<j))
def opLe:FO:=rII (λ_ _=>ac) λi j=>.bl (decide (i<=j))
def opGt:FO:=rII (λ_ _=>ac) λi j=>.bl (decide (j<i))
def opGe:FO:=rII (λ_ _=>ac) λi j=>.bl (decide (j<=i))
theorem o_addI:OpF X (bU .Add) z1p:=DZ op_add (λ_ _=>rfl) λ_ _ _=>Rp.int_.mpr rfl
theorem z1q:OpF X (bU .Sub) IY:=DZ op_sub (λ_ _=>rfl) λ_ _ _=>Rp.int_.mpr rfl
theorem Bh:OpF X (bU .Mult) D9:=OT z4J (λ_ _ h=>h) (λ_ _=>rfl) λ_ _ _=>Rp.int_.mpr rfl
theorem O0:OpF X (bU .FloorDiv) L5:=OT z1j (λi j h=>by unfold E7 at h;rw[wG]at h;exact⟨bo h.1,bo h.2⟩) (λ_ _=>rfl) λ_ _ _=>Rp.int_.mpr rfl
theorem E8:OpF X (bU .Mod) B3:=OT z4v (λi j h=>bo h) (λ_ _=>rfl) λ_ _ _=>Rp.int_.mpr rfl
theorem z1r:OpF X (bU .Pow) Ni:=OT op_pow (λi j h=>by unfold Kl at h;rw[wG,wG]at h;exact⟨bo h.1.1,bo h.1.2,bo h.2⟩) (λ_ _=>rfl) λ_ _ _=>Rp.int_.mpr rfl
theorem o_lt:OpF X (bp .Lt) opLt:=DZ op_lt (λ_ _=>rfl) λ_ _ _=>Rp.bl_.mpr rfl
theorem o_le:OpF X (bp .LtE) opLe:=DZ op_le (λ_ _=>rfl) λ_ _ _=>Rp.bl_.mpr rfl
theorem o_gt:OpF X (bp .Gt) opGt:=DZ op_gt (λ_ _=>rfl) λ_ _ _=>Rp.bl_.mpr rfl
theorem o_ge:OpF X (bp .GtE) opGe:=DZ op_ge (λ_ _=>rfl) λ_ _ _=>Rp.bl_.mpr rfl
def lfl(ds:gf):Fl:=if J7 ds then .nw else .tn
def newL(ds:gf):Dv:=(lfl ds,.lst ds)
theorem Gk{X:Ky}{H:Hp}{ds:gf}{vs:gg}{p:aj}(hp:H p=ag)(r:Rps X.K emp ds H vs):RpF X H (lfl ds) (.lst ds) (upd H p (.lst vs)) (.ref p):=by
 unfold lfl;by_cases q:J7 ds=ac
 .rw[ar q];exact Rp.new hp hp (Rps.flat ds q r)
 .rw[aw q];exact⟨Rp.new hp rfl r,⟨ds,rfl⟩,λa e=>by cases e;exact hp⟩
def Gm:FO
 |.lst xs,.lst ys=>if xs.length+ys.length<=1000000 then aa (newL (xs++ys)) else ag
 |_,_=>ag
theorem Rp.items{K:aD}{B H:Hp}{ds:gf}{v:V}(h:Rp K B (.lst ds) H v):∃a vs,v=.ref a/\B a=ag/\H a=aa (.lst vs)/\Rps K B ds H vs:=by
 obtain⟨a,vs,e,h0,h1,h2⟩:=Rp.lst_.mp h;exact⟨a,vs,e,h0,h1,Rps.mono _ w8 h2⟩
theorem o_cat:OpF X (bU .Add) Gm:=by
 rintro π s σ H x y v u Q I r1 r2 ⟨d1,d2,f,d,q1,q2,e,k⟩;unfold Gm at e;split at e
 .rename_i xs ys;split at e
  .rename_i hc;cases e;obtain⟨a,vs,rfl,_,ha,ra⟩:=q1.items;obtain⟨b,ws,rfl,_,hb,rb⟩:=q2.items;exact op_cat π s σ H _ _ v u Q I r1 r2 ⟨a,b,vs,ws,rfl,rfl,ha,hb,wF (by rw[ra.length,rb.length];exact hc) (by decide),λp hp=>k _ _ (E5 hp) (Gk hp (ra.append rb))⟩
  .cases e
 .cases e
def u9:FO:=λx y=>(z1p x y).orElse λ_=>Gm x y
theorem J8:OpF X (bU .Add) u9:=o_addI.or o_cat
def truD:Dt->Option Bool
 |.non=>aa af
 |.bl b=>aa b
 |.int i=>aa (i != 0)
 |.lst ds=>aa (!ds.isEmpty)
 |.tup ds=>aa (!ds.isEmpty)
 |_=>ag
theorem Rps.isEmpty{K:aD}{B H:Hp}{ds:gf}{vs:gg}(h:Rps K B ds H vs):(!vs.isEmpty)=!ds.isEmpty:=by
 have:=h.length;cases ds<;>cases vs<;>first|rfl|(simp at this)
theorem z4K{H:Hp}{d:Dt}{v:V}{k:Bool}(r:Rp X.K emp d H v)(e:truD d=aa k):TruV X.K v H k:=by
 cases d with
 |non=>rw[Rp.non_.mp r];cases e;rfl
 |bl b=>rw[Rp.bl_.mp r];cases e;rfl
 |int i=>rw[Rp.int_.mp r];cases e;rfl
 |str x=>cases e
 |dic=>cases e
 |obj _ _ _ _=>cases e
 |scr x=>cases e
 |lst ds=>
  obtain⟨p,vs,rfl,_,h1,h2⟩:=r.items;cases e;exact .inl ⟨vs,SqL.of h1,h2.isEmpty.symm⟩
 |tup ds=>
  obtain⟨p,vs,rfl,h1,h2⟩:=Rp.tup_.mp r;cases e;exact .inr (.inl ⟨vs,h1,h2.isEmpty.symm⟩)
def blD:Dt->Option Bool
 |.bl b=>aa b
 |_=>ag
def j8(F:FE):FT:=λρ=>(F ρ).bind λx=>blD x.2
def fTru(F:FE):FT:=λρ=>(F ρ).bind λx=>truD x.2
theorem t_cmp{op:CmpOp}{r:FO}(ho:OpF X (bp op) r)(ha:PF X a Fa)(hb:PF X b Fb)(hm:cZ op b=af):PFT X (.Compare a [op] [b] pos) (j8 (fOp r Fa Fb)):=
 (z4y ho ha hb hm).imp fun σ H Q hZ=>hZ.elim fun ρ hZ=>hZ.elim fun k hZ=>hZ.elim fun rs hZ=>hZ.elim fun e q=>by
  obtain⟨⟨f,d⟩,e1,e2⟩:=i0 e;refine TZ ⟨ρ,f,d,rs,e1,λv H' s r=>?_⟩;cases d<;>first|cases e2|skip
  exact⟨k,Rp.bl_.mp r.sh,q H' s⟩
theorem T1(ha:PF X a Fa)(he:∀whole,isTrue a X.env whole=(do let v <-whole;eM a.pos;holding [v] (truthy v))):PFT X a (fTru Fa):=
 (z15 ha he).imp fun σ H Q hZ=>hZ.elim fun ρ hZ=>hZ.elim fun k hZ=>hZ.elim fun rs hZ=>hZ.elim fun e q=>by
  obtain⟨⟨f,d⟩,e1,e2⟩:=i0 e;exact⟨ρ,f,d,rs,e1,λv H' s r=>⟨k,z4K r.sh e2,q H' s⟩⟩
def fNot(F:FT):FT:=λρ=>(F ρ).map not
theorem V6{F:FT}(ha:PFT X a F):PFT X (.UnaryOp .Not a pos) (fNot F):=(z0W ha).imp λσ H Q⟨ρ,k,rs,e,q⟩=>by
 unfold fNot at e;cases h:F ρ with
 |none=>rw[h]at e;cases e
 |some b=>rw[h]at e;cases e;exact⟨ρ,b,rs,h,q⟩
def fAnd(F G:FT):FT:=λρ=>(F ρ).bind λb=>if b then G ρ else aa af
def fOr(F G:FT):FT:=λρ=>(F ρ).bind λb=>if b then aa ac else G ρ
theorem z1s{F:FT}(ha:PFT X a F):PFW X (.BoolOp .And [a] pos) F:=z4s ha
theorem Gn{F:FT}(ha:PFT X a F):PFW X (.BoolOp .Or [a] pos) F:=pw_or1 ha
theorem z1t{rest:fR}{F G:FT}(ha:PFT X a F)(hb:PFW X (.BoolOp .And (b::rest) pos) G):PFW X (.BoolOp .And (a::b::rest) pos) (fAnd F G):=
 (pw_and ha hb).imp fun σ H Q hZ=>hZ.elim fun ρ hZ=>hZ.elim fun k hZ=>hZ.elim fun rs hZ=>hZ.elim fun e q=>by
  obtain⟨z,e1,e2⟩:=i0 e;refine⟨ρ,z,rs,e1,λH' s=>?_⟩;dsimp only;cases z with
  |true=>rw[ar rfl]at e2|-;exact⟨ρ,k,rs.mono s,e2,λH'' s'=>q H'' (s.trans s')⟩
  |false=>rw[aw wL]at e2|-;cases e2;exact q H' s
theorem w_or{rest:fR}{F G:FT}(ha:PFT X a F)(hb:PFW X (.BoolOp .Or (b::rest) pos) G):PFW X (.BoolOp .Or (a::b::rest) pos) (fOr F G):=
 (pw_or ha hb).imp fun σ H Q hZ=>hZ.elim fun ρ hZ=>hZ.elim fun k hZ=>hZ.elim fun rs hZ=>hZ.elim fun e q=>by
  obtain⟨z,e1,e2⟩:=i0 e;refine⟨ρ,z,rs,e1,λH' s=>?_⟩;dsimp only;cases z with
  |true=>rw[ar rfl]at e2|-;cases e2;exact q H' s
  |false=>rw[aw wL]at e2|-;exact⟨ρ,k,rs.mono s,e2,λH'' s'=>q H'' (s.trans s')⟩
def vAnd(F G:FE):FE:=λρ=>(j8 F ρ).bind λb=>if b then G ρ else aa (.nw,.bl af)
def vNot(F:FE):FE:=λρ=>(j8 F ρ).map λb=>(.nw,.bl (!b))
theorem Nj{op}(h:PF X a Fa):PF X (.BoolOp op [a] pos) Fa:=pe_one h
theorem Nk{rest:fR}(ha:PF X a Fa)(hb:PF X (.BoolOp .And (b::rest) pos) Fb):PF X (.BoolOp .And (a::b::rest) pos) (vAnd Fa Fb):=
 (pe_and ha hb).imp fun σ H Q hZ=>hZ.elim fun ρ hZ=>hZ.elim fun f hZ=>hZ.elim fun d hZ=>hZ.elim fun rs hZ=>hZ.elim fun e k=>by
  obtain⟨z,e1,e2⟩:=i0 e;obtain⟨⟨f1,d1⟩,e3,e4⟩:=i0 e1;refine⟨ρ,f1,d1,rs,e3,λv H' s r=>?_⟩;cases d1<;>first|cases e4|skip
  refine⟨z,Rp.bl_.mp r.sh,?_⟩;cases z with
  |true=>rw[ar rfl]at e2|-;exact⟨ρ,f,d,rs.mono s,e2,λv H'' s' r=>k v H'' (s.trans s') (r.early s)⟩
  |false=>rw[aw wL]at e2|-;cases e2;exact k _ H' s RpF.b_
theorem p_not(ha:PF X a Fa):PF X (.UnaryOp .Not a pos) (vNot Fa):=(pe_not ha).imp λσ H Q⟨ρ,f,d,rs,e,k⟩=>by
 unfold vNot at e;cases h:j8 Fa ρ with
 |none=>rw[h]at e;cases e
 |some z=>
  rw[h]at e;cases e;obtain⟨⟨f1,d1⟩,e3,e4⟩:=i0 h;refine⟨ρ,f1,d1,rs,e3,λv H' s r=>?_⟩;cases d1<;>first|cases e4|skip
  exact⟨z,Rp.bl_.mp r.sh,k _ H' s RpF.b_⟩
def fIf(F:FT)(Fa Fb:FE):FE:=λρ=>(F ρ).bind λb=>if b then Fa ρ else Fb ρ
theorem p_if{F:FT}(hc:PFT X c F)(ha:PF X a Fa)(hb:PF X b Fb):PF X (.IfExp c a b pos) (fIf F Fa Fb):=
 (z0X hc ha hb).imp fun σ H Q hZ=>hZ.elim fun ρ hZ=>hZ.elim fun f hZ=>hZ.elim fun d hZ=>hZ.elim fun rs hZ=>hZ.elim fun e k=>by
  obtain⟨z,e1,e2⟩:=i0 e;refine⟨ρ,z,rs,e1,λH' s=>?_⟩;dsimp only;cases z with
  |true=>rw[ar rfl]at e2|-;exact⟨ρ,f,d,rs.mono s,e2,λv H'' s' r=>k v H'' (s.trans s') (r.early s)⟩
  |false=>rw[aw wL]at e2|-;exact⟨ρ,f,d,rs.mono s,e2,λv H'' s' r=>k v H'' (s.trans s') (r.early s)⟩
def fNeg(F:FE):FE:=λρ=>(F ρ).bind λx=>match x.2 with|.int i=>aa (.nw,.int (-i))|_=>ag
theorem Nl(ha:PF X a Fa):PF X (.UnaryOp .USub a pos) (fNeg Fa):=(pe_un un_neg ha).imp λσ H Q⟨ρ,f,d,rs,e,k⟩=>by
 obtain⟨⟨f1,d1⟩,e1,e2⟩:=i0 e;refine⟨ρ,f1,d1,rs,e1,λv H' s r=>?_⟩;cases d1<;>first|cases e2|skip
 rename_i i;exact⟨i,Rp.int_.mp r.sh,k _ H' s RpF.i_⟩
def OU(r r':FO)(Fa Fb Fc:FE):FE:=λρ=>(Fa ρ).bind λx=>(Fb ρ).bind λy=>(r x.2 y.2).bind λz=>(blD z.2).bind λk=>if k then(Fc ρ).bind λw=>r' y.2 w.2 else aa (.nw,.bl af)
theorem z01{r r':FO}{σ:St}{H:Hp}{Q:VK}(h:upF X (OU r r' Fa Fb Fc) σ H Q):
  z13 (λx y H Q=>∃dx dy f d,Rp X.K emp dx H x/\Rp X.K emp dy H y/\r dx dy=aa (f,d)/\∀v H',Same H H'->RpF X.ky H f d H' v->Q v H') (λx y H Q=>∃dx dy f d,Rp X.K emp dx H x/\Rp X.K emp dy H y/\r' dx dy=aa (f,d)/\∀v H',Same H H'->RpF X.ky H f d H' v->Q v H')
   (upF X Fa) (upF X Fb) (upF X Fc) σ H Q:=by
 obtain⟨ρ,f,d,rs,e0,k⟩:=h;obtain⟨⟨fa,da⟩,ea,e1⟩:=i0 e0;obtain⟨⟨fb,db⟩,eb,e2⟩:=i0 e1;obtain⟨⟨fz,dz⟩,ez,e3⟩:=i0 e2;obtain⟨z,ek,e⟩:=i0 e3;clear e3 e2 e1 e0;refine⟨ρ,fa,da,rs,ea,λv H1 s1 r1=>⟨ρ,fb,db,rs.mono s1,eb,λu H2 s2 r2=>⟨da,db,fz,dz,Rp.mono _ s2 r1.sh,r2.sh,ez,λw H3 s3 r3=>?_⟩⟩⟩;cases dz<;>first|cases ek|skip
 refine⟨z,Rp.bl_.mp r3.sh,?_⟩;cases z with
 |true=>
  rw[ar rfl]at e|-;obtain⟨⟨fc,dc⟩,ec,e⟩:=i0 e;exact⟨ρ,fc,dc,rs.mono (s1.trans (s2.trans s3)),ec,λw' H4 s4 r4=>⟨db,dc,f,d,Rp.mono _ (s3.trans s4) r2.sh,r4.sh,e,λy H' s' r'=>k y H' (s1.trans (s2.trans (s3.trans (s4.trans s')))) (r'.early (s1.trans (s2.trans (s3.trans s4))))⟩⟩
 |false=>
  rw[aw wL]at e|-;cases e;exact k _ _ (s1.trans (s2.trans s3)) RpF.b_
theorem z4L{op op':CmpOp}{r r':FO}(ho:OpF X (bp op) r)(ho':OpF X (bp op') r')(ha:PF X a Fa)(hb:PF X b Fb)(hc:PF X c Fc)
 (hm:lastMarks [op,op'] [b,c]=af:=by with_unfolding_all rfl):PF X (.Compare a [op,op'] [b,c] pos) (OU r r' Fa Fb Fc):=(z14 ho ho' ha hb hc hm).imp λσ H Q h=>z01 h
def isN:Dt->Bool
 |.non=>ac
 |_=>af
def EI:FO:=λx y=>match y with|.non=>aa (.nw,.bl (isN x))|_=>ag
def Km:FO:=λx y=>match y with|.non=>aa (.nw,.bl (!isN x))|_=>ag
theorem isNon{H:Hp}{d:Dt}{v:V}(r:Rp X.K emp d H v):decide (v=V.non)=isN d:=by
 cases d with
 |non=>rw[Rp.non_.mp r];rfl
 |bl b=>rw[Rp.bl_.mp r];rfl
 |int i=>rw[Rp.int_.mp r];rfl
 |str x=>rw[Rp.str_.mp r];rfl
 |lst ds=>obtain⟨a,_,rfl,_⟩:=Rp.lst_.mp r;rfl
 |tup ds=>obtain⟨a,_,rfl,_⟩:=Rp.tup_.mp r;rfl
 |scr ds=>obtain⟨a,rfl,_⟩:=Rp.scr_.mp r;rfl
 |dic=>obtain⟨a,rfl,_⟩:=Rp.dic_.mp r;rfl
 |obj _ _ _ _=>obtain⟨a,_,_,_,_,_,rfl,_⟩:=Rp.obj_.mp r;rfl
theorem z1u:OpF X (bp .Is) EI:=by
 rintro π s σ H x y v u Q I r1 r2 ⟨d1,d2,f,d,q1,q2,e,k⟩;unfold EI at e;split at e
 .cases e;refine op_isN π s σ H x y v u Q I r1 r2 ⟨Rp.non_.mp q2,?_⟩;rw[isNon q1];exact k _ H (Same.refl H) RpF.b_
 .cases e
theorem o_notN:OpF X (bp .IsNot) Km:=by
 rintro π s σ H x y v u Q I r1 r2 ⟨d1,d2,f,d,q1,q2,e,k⟩;unfold Km at e;split at e
 .cases e;refine z4w π s σ H x y v u Q I r1 r2 ⟨Rp.non_.mp q2,?_⟩;rw[isNon q1];exact k _ H (Same.refl H) RpF.b_
 .cases e
theorem BW{K:aD}{B H:Hp}{ds:gf}{vs:gg}{i:Int}{d:Dt}(h:Rps K B ds H vs)(e:atI ds i=aa d):∃v,atI vs i=aa v/\Rp K B d H v:=by
 unfold atI at e|-;rw[h.length];cases q:ixN ds.length i with
 |none=>rw[q]at e;cases e
 |some j=>
  rw[q]at e;exact h.get e
def Fl.item:Fl->Fl
 |.tn=>.sh
 |f=>f
def opAt(x:Dv)(y:Dv):Option Dv:=match x.2,y.2 with
 |.lst ds,.int i=>(atI ds i).map (nrm x.1.item)
 |.tup ds,.int i=>(atI ds i).map (nrm x.1.item)
 |.scr ns,.int i=>(atI ns i).map λn=>(.nw,.int n)
 |_,_=>ag
def fAt(Fa Fb:FE):FE:=λρ=>(Fa ρ).bind λx=>(Fb ρ).bind λy=>opAt x y
theorem RpF.item{X:Ky}{H H':Hp}{f:Fl}{ds:gf}{v:V}{i:Int}{d:Dt}(h:RpF X H f (.lst ds) H' v)(e:atI ds i=aa d):∃a vs w,v=.ref a/\SqL X.K H' a vs/\atI vs i=aa w/\RpF X H f.item d H' w:=by
 cases f with
 |sh=>obtain⟨a,vs,rfl,_,h1,h2⟩:=Rp.items h;obtain⟨w,e1,e2⟩:=BW h2 e;exact⟨a,vs,w,rfl,SqL.of h1,e1,e2⟩
 |tn=>obtain⟨a,vs,rfl,_,h1,h2⟩:=Rp.items h.1;obtain⟨w,e1,e2⟩:=BW h2 e;exact⟨a,vs,w,rfl,SqL.of h1,e1,e2⟩
 |fr=>obtain⟨a,vs,rfl,_,h1,h2⟩:=Rp.items h;obtain⟨w,e1,e2⟩:=BW h2 e;exact⟨a,vs,w,rfl,SqL.of h1,e1,e2⟩
 |nw=>obtain⟨a,vs,rfl,_,h1,h2⟩:=Rp.items h;obtain⟨w,e1,e2⟩:=BW h2 e;exact⟨a,vs,w,rfl,SqL.of h1,e1,e2⟩
theorem RpF.itemT{X:Ky}{H H':Hp}{f:Fl}{ds:gf}{v:V}{i:Int}{d:Dt}(h:RpF X H f (.tup ds) H' v)(e:atI ds i=aa d):∃a vs w,v=.ref a/\SqT X.K H' a vs/\atI vs i=aa w/\RpF X H f.item d H' w:=by
 cases f with
 |sh=>obtain⟨a,vs,rfl,h1,h2⟩:=Rp.tup_.mp h;obtain⟨w,e1,e2⟩:=BW h2 e;exact⟨a,vs,w,rfl,h1,e1,e2⟩
 |tn=>obtain⟨⟨_,h2⟩,_⟩:=h.2;cases h2
 |fr=>obtain⟨a,vs,rfl,h1,h2⟩:=Rp.tup_.mp h;obtain⟨w,e1,e2⟩:=BW h2 e;exact⟨a,vs,w,rfl,h1,e1,e2⟩
 |nw=>obtain⟨a,vs,rfl,h1,h2⟩:=Rp.tup_.mp h;obtain⟨w,e1,e2⟩:=BW h2 e;exact⟨a,vs,w,rfl,h1,e1,e2⟩
theorem z4M{α β:Type}{g:α->β}{xs:List α}{i:Int}{x:α}(h:atI xs i=aa x):atI (xs.map g) i=aa (g x):=by
 unfold atI at h|-;rw[wj];cases q:ixN xs.length i with
 |none=>rw[q]at h;cases h
 |some j=>rw[q]at h;have h:xs[j]?=aa x:=h;show(xs.map g)[j]?=_;rw[wy,h];rfl
theorem p_ix(ha:PF X a Fa)(hb:PF X b Fb)(hs:OO b):PF X (.Subscript a b pos) (fAt Fa Fb):=
 (z1a ix_seq ha hb hs).imp fun σ H Q hZ=>hZ.elim fun ρ hZ=>hZ.elim fun f hZ=>hZ.elim fun d hZ=>hZ.elim fun rs hZ=>hZ.elim fun e0 k=>by
  obtain⟨⟨fa,da⟩,ea,e1⟩:=i0 e0;obtain⟨⟨fb,db⟩,eb,e⟩:=i0 e1;clear e1 e0;refine⟨ρ,fa,da,rs,ea,λv H1 s1 r1=>⟨ρ,fb,db,rs.mono s1,eb,λu H2 s2 r2=>?_⟩⟩;have r1:=r1.mono s2;unfold opAt at e;split at e
  .rename_i ds i ed ei;cases ed;cases ei;cases q:atI ds i with
   |none=>rw[q]at e;cases e
   |some d0=>
    rw[q]at e;obtain⟨p,vs,w,rfl,h1,h2,h3⟩:=r1.item q;have e:nrm fa.item d0=(f,d):=aP e;have h4:=h3.nrm;have e1:d0=d:=bI Prod.snd e;subst e1;rw[e]at h4;exact .inl ⟨p,vs,i,w,rfl,Rp.int_.mp r2.sh,h1,h2,k _ _ (s1.trans s2) h4⟩
  .rename_i ds i ed ei;cases ed;cases ei;cases q:atI ds i with
   |none=>rw[q]at e;cases e
   |some d0=>
    rw[q]at e;obtain⟨p,vs,w,rfl,h1,h2,h3⟩:=r1.itemT q;have e:nrm fa.item d0=(f,d):=aP e;have h4:=h3.nrm;have e1:d0=d:=bI Prod.snd e;subst e1;rw[e]at h4;exact .inr (.inl ⟨p,vs,i,w,rfl,Rp.int_.mp r2.sh,h1,h2,k _ _ (s1.trans s2) h4⟩)
  .rename_i ns i ed ei;cases ed;cases ei;cases q:atI ns i with
   |none=>rw[q]at e;cases e
   |some n=>
    rw[q]at e;cases e;obtain⟨p,rfl,_,h1⟩:=Rp.scr_.mp r1.sh;exact .inl ⟨p,_,i,_,rfl,Rp.int_.mp r2.sh,h1.sq,z4M q,k _ _ (s1.trans s2) RpF.i_⟩
  .cases e
end
end L2
end
section
local macro_rules|`(tactic|rfl')=>`(tactic|first|lia|omega +splitDisjunctions)
namespace L2
mutual
def Dt.py:Dt->PyData
 |.non=>.none
 |.bl b=>.bool b
 |.int i=>.int i
 |.str x=>.str x
 |.lst ds=>.list (pys ds)
 |.tup ds=>.tuple (pys ds)
 |.scr ns=>.list (ns.map .int)
 |.dic=>.dict []
 |.obj _ _ _ _=>.none
def pys:gf->List PyData
 |[]=>[]
 |d::ds=>d.py::pys ds
end
mutual
def Dt.okN:Nat->Dt->Bool
 |_,.str x=>PyData.strOk x
 |0,.lst _=>af
 |0,.tup _=>af
 |n+1,.lst ds=>oksN n ds
 |n+1,.tup ds=>oksN n ds
 |0,.scr _=>af
 |_,.dic=>af
 |_,.obj _ _ _ _=>af
 |_,_=>ac
def oksN:Nat->gf->Bool
 |_,[]=>ac
 |n,d::ds=>d.okN n&&oksN n ds
end
theorem OV:∀ns:aG,dI (ns.map dW)=ac/\du (ns.map dW)=0
 |[]=>⟨rfl,rfl⟩
 |n::ns=>⟨by rw[wq,dI,(OV ns).1];rfl,by rw[wq,du,(OV ns).2];rfl⟩
mutual
theorem Yk:∀(n:Nat)(d:Dt),d.okN n=ac->d.py.canLay0=ac/\d.py.depth<=n
 |n,.non,_=>⟨rfl,by rw[Dt.py,cV];exact wQ _⟩
 |n,.bl b,_=>⟨rfl,by rw[Dt.py,cV];exact wQ _⟩
 |n,.int i,_=>⟨rfl,by rw[Dt.py,cV];exact wQ _⟩
 |n,.str x,h=>by
  have h:PyData.strOk x=ac:=by cases n<;>simpa[Dt.okN]using h
  exact⟨by rw[Dt.py,eK];exact h,by rw[Dt.py,cV];exact wQ _⟩
 |0,.lst ds,h=>by rw[Dt.okN]at h;cases h
 |0,.tup ds,h=>by rw[Dt.okN]at h;cases h
 |0,.scr ds,h=>by rw[Dt.okN]at h;cases h
 |n,.dic,h=>by cases n<;>(unfold Dt.okN at h;cases h)
 |n,.obj _ _ _ _,h=>by cases n<;>(unfold Dt.okN at h;cases h)
 |n+1,.lst ds,h=>by
  rw[Dt.okN]at h;obtain⟨h1,h2⟩:=Kn n ds h;exact⟨by rw[Dt.py,eK];exact h1,by rw[Dt.py,cV];rfl'⟩
 |n+1,.tup ds,h=>by
  rw[Dt.okN]at h;obtain⟨h1,h2⟩:=Kn n ds h;exact⟨by rw[Dt.py,eK];exact h1,by rw[Dt.py,cV];rfl'⟩
 |n+1,.scr ns,h=>by
  obtain⟨h1,h2⟩:=OV ns;exact⟨by rw[Dt.py,eK];exact h1,by rw[Dt.py,cV];rfl'⟩
theorem Kn:∀(n:Nat)(ds:gf),oksN n ds=ac->dI (pys ds)=ac/\du (pys ds)<=n
 |n,[],_=>⟨rfl,by rw[pys,du];exact wQ _⟩
 |n,d::ds,h=>by
  rw[oksN,wG]at h;obtain⟨h1,h2⟩:=Yk n d h.1;obtain⟨h3,h4⟩:=Kn n ds h.2;refine⟨by rw[pys,dI,h1,h3];rfl,?_⟩;rw[pys,du];exact Nat.max_le.mpr ⟨h2,h4⟩
end
theorem Ea{d:Dt}{n:Nat}(h:d.okN n=ac)(hn:n<=64):SeqAt.shaped d.py=ac:=by
 obtain⟨h1,h2⟩:=Yk n d h;unfold SeqAt.shaped;rw[h1,w0H];exact aM (wF h2 hn)
section
variable {X:Cx}{π:aB}{σ:St}{H:Hp}{s:am}
theorem Ko{h:aV}:∀{ns:aG}{us:aF},Vals (ns.map V.int) us->∃as,ReadsAll h us (ns.map dW) as
 |[],us,r=>by cases r;exact⟨_,.nil⟩
 | n::ns,us,r=>by
  rw[wq]at r;cases r with
  |cons r1 r2=>
   obtain⟨t,rfl⟩:=r1;obtain⟨as,q⟩:=Ko r2;exact⟨_,.cons (.int n t) q⟩
mutual
theorem CO(I:Inv X π σ H s):∀(n:Nat)(d:Dt){v:V}{u:ao},d.okN n=ac->Rp X.K emp d H v->RelV v u->∃as,Reads s.heap u d.py as
 |n,.non,v,u,_,h,r=>by rw[Rp.non_]at h;subst h;cases r;exact⟨_,.none⟩
 |n,.bl b,v,u,_,h,r=>by rw[Rp.bl_]at h;subst h;cases r;exact⟨_,.bool b⟩
 |n,.int i,v,u,_,h,r=>by rw[Rp.int_]at h;subst h;obtain⟨t,rfl⟩:=r;exact⟨_,.int i t⟩
 |n,.str x,v,u,_,h,r=>by rw[Rp.str_]at h;subst h;obtain⟨t,rfl⟩:=r;exact⟨_,.str x t⟩
 |n,.dic,v,u,o,h,r=>by cases n<;>(unfold Dt.okN at o;cases o)
 |n,.obj _ _ _ _,v,u,o,h,r=>by cases n<;>(unfold Dt.okN at o;cases o)
 |0,.lst ds,v,u,o,h,r=>by rw[Dt.okN]at o;cases o
 |0,.tup ds,v,u,o,h,r=>by rw[Dt.okN]at o;cases o
 |n+1,.lst ds,v,u,o,h,r=>by
  rw[Dt.okN]at o;obtain⟨a,vs,rfl,_,h1,h2⟩:=Rp.lst_.mp h;cases r;obtain⟨its,rv,⟨o,n,e,c,dd,dt⟩,_⟩:=I.list (SqL.of (K:=X.K) h1);obtain⟨as,q⟩:=CP I _ ds (by assumption) (Rps.mono ds w8 h2) rv;exact⟨_,by rw[Dt.py];exact .list e c dt q⟩
 |n+1,.tup ds,v,u,o,h,r=>by
  rw[Dt.okN]at o;obtain⟨a,vs,rfl,h1,h2⟩:=Rp.tup_.mp h;cases r;obtain⟨its,rv,⟨o,e,c,n,dt⟩,_⟩:=I.tuple h1;obtain⟨as,q⟩:=CP I _ ds (by assumption) h2 rv;exact⟨_,by rw[Dt.py];exact .tuple e c dt q⟩
 |n,.scr ns,v,u,_,h,r=>by
  obtain⟨a,rfl,_,h1⟩:=Rp.scr_.mp h;cases r;obtain⟨its,rv,⟨o,n,e,c,dd,dt⟩,_⟩:=I.list h1.sq;obtain⟨as,q⟩:=Ko (h:=s.heap) rv;exact⟨_,by rw[Dt.py];exact .list e c dt q⟩
theorem CP(I:Inv X π σ H s):∀(n:Nat)(ds:gf){vs:gg}{us:aF},oksN n ds=ac->Rps X.K emp ds H vs->Vals vs us->∃as,ReadsAll s.heap us (pys ds) as
 |n,[],vs,us,_,h,r=>by rw[Rps.nil_]at h;subst h;cases r;exact⟨_,by rw[pys];exact .nil⟩
 | n,d::ds,vs,us,o,h,r=>by
  rw[oksN,wG]at o;obtain⟨v,ws,rfl,h1,h2⟩:=Rps.cons_.mp h;cases r with
  |cons r1 r2=>
   obtain⟨as,q1⟩:=CO I n d o.1 h1 r1;obtain⟨bs,q2⟩:=CP I n ds o.2 h2 r2;exact⟨_,by rw[pys];exact .cons q1 q2⟩
end
end
def eqD(x y:Dt):Bool:=dG x.py y.py
section
variable {X:Cx}{a b c e:aK}{Fa Fb Fc:FE}{pos:Pos}
def opEq:FO:=λx y=>if x.okN 8&&y.okN 8 then aa (.nw,.bl (eqD x y)) else ag
def opNe:FO:=λx y=>if x.okN 8&&y.okN 8 then aa (.nw,.bl (!eqD x y)) else ag
theorem o_eq(hu:X.A.units+64<cLine):OpF X (bp .Eq) opEq:=by
 rintro π s σ H x y v u Q I r1 r2 ⟨d1,d2,f,d,q1,q2,e,k⟩;unfold opEq at e;split at e
 .rename_i h;rw[wG]at h;cases e;obtain⟨as,ra⟩:=CO I _ d1 h.1 q1 r1;obtain⟨bs,rb⟩:=CO I _ d2 h.2 q2 r2;exact eq_dataH ra rb (Ea h.1 (by decide)) (Ea h.2 (by decide)) hu ⟨.bl _,H,I,rfl,k _ H (Same.refl H) RpF.b_⟩
 .cases e
theorem o_ne(hu:X.A.units+64<cLine):OpF X (bp .NotEq) opNe:=by
 rintro π s σ H x y v u Q I r1 r2 ⟨d1,d2,f,d,q1,q2,e,k⟩;unfold opNe at e;split at e
 .rename_i h;rw[wG]at h;cases e;obtain⟨as,ra⟩:=CO I _ d1 h.1 q1 r1;obtain⟨bs,rb⟩:=CO I _ d2 h.2 q2 r2;exact ne_dataH ra rb (Ea h.1 (by decide)) (Ea h.2 (by decide)) hu ⟨.bl _,H,I,rfl,k _ H (Same.refl H) RpF.b_⟩
 .cases e
end
def RpFs(X:Ky)(H:Hp):gh->Hp->gg->Prop
 |[],_,vs=>vs=[]
 |x::xs,H',vs=>∃v r,vs=v::r/\RpF X H x.1 x.2 H' v/\RpFs X H xs H' r
def upAs(X:Cx)(F:FA):TA:=λσ H Q=>∃ρ xs,RepS X.ky H ρ σ/\F ρ=aa xs/\∀vs H',Same H H'->RpFs X.ky H xs H' vs->Q vs H'
def PFA(X:Cx)(es:fR)(F:FA):Prop:=PA X es (upAs X F)
def sndL:gh->gf
 |[]=>[]
 |x::xs=>x.2::sndL xs
def Go:gh->Bool
 |[]=>ac
 |x::xs=>x.1.isNw&&Go xs
def AF:gh->Bool
 |[]=>ac
 |x::xs=>x.1.isFr&&AF xs
section
variable {X:Ky}{H H' H1:Hp}
theorem RpFs.sh:∀{xs:gh}{vs:gg},RpFs X H xs H' vs->Rps X.K emp (sndL xs) H' vs
 |[],vs,h=>Rps.nil_.mpr h
 |x::xs,vs,⟨v,r,e,h1,h2⟩=>Rps.cons_.mpr ⟨v,r,e,h1.sh,RpFs.sh h2⟩
theorem RpFs.nw:∀{xs:gh}{vs:gg},Go xs=ac->RpFs X H xs H' vs->Rps X.K H (sndL xs) H' vs
 |[],vs,_,h=>Rps.nil_.mpr h
 |⟨f,d⟩::xs,vs,q,⟨v,r,e,h1,h2⟩=>by
  unfold Go at q;rw[wG]at q;cases f<;>first|(exact aN q.1 wL)|exact Rps.cons_.mpr ⟨v,r,e,h1,RpFs.nw q.2 h2⟩
theorem RpFs.fr(h0:Same X.H₀ H):∀{xs:gh}{vs:gg},AF xs=ac->RpFs X H xs H' vs->Rps X.K X.H₀ (sndL xs) H' vs
 |[],vs,_,h=>Rps.nil_.mpr h
 |⟨f,d⟩::xs,vs,q,⟨v,r,e,h1,h2⟩=>by
  unfold AF at q;rw[wG]at q;exact Rps.cons_.mpr ⟨v,r,e,h1.fr h0 q.1,RpFs.fr h0 q.2 h2⟩
theorem RpFs.mono:∀{xs:gh}{vs:gg},RpFs X H xs H' vs->Same H' H1->RpFs X H xs H1 vs
 |[],vs,h,_=>h
 |x::xs,vs,⟨v,r,e,h1,h2⟩,s=>⟨v,r,e,h1.mono s,RpFs.mono h2 s⟩
theorem RpFs.early(s:Same H H1):∀{xs:gh}{vs:gg},RpFs X H1 xs H' vs->RpFs X H xs H' vs
 |[],vs,h=>h
 |x::xs,vs,⟨v,r,e,h1,h2⟩=>⟨v,r,e,h1.early s,RpFs.early s h2⟩
end
section
variable {X:Cx}{a b c e:aK}{es:fR}{Fa Fb Fe:FE}{Fs:FA}{pos:Pos}
def fNil:FA:=λ_=>aa []
def b6(Fa:FE)(Fs:FA):FA:=λρ=>(Fa ρ).bind λx=>(Fs ρ).bind λxs=>aa (x::xs)
theorem f9:PFA X [] fNil:=CM.imp (by rintro σ H Q ⟨ρ,xs,rs,e,k⟩;cases e;exact k [] H (Same.refl H) rfl)
theorem i7(ha:PF X e Fe)(hr:PFA X es Fs)(hs:aq (e::es) X.env=(af,eval e X.env)::aq es X.env:=by rfl):PFA X (e::es) (b6 Fe Fs):=
 (L9 ha hr hs).imp fun σ H Q hZ=>hZ.elim fun ρ hZ=>hZ.elim fun xs hZ=>hZ.elim fun rs hZ=>hZ.elim fun e0 k=>by
  obtain⟨⟨f,d⟩,e1,e2⟩:=i0 e0;obtain⟨ys,e3,e4⟩:=i0 e2;cases e4;exact⟨ρ,f,d,rs,e1,λv H1 s1 r1=>⟨ρ,ys,rs.mono s1,e3,λvs H2 s2 r2=>k _ _ (s1.trans s2) ⟨v,vs,rfl,r1.mono s2,r2.early s1⟩⟩⟩
theorem RpFs.length{X:Ky}{H H':Hp}:∀{xs:gh}{vs:gg},RpFs X H xs H' vs->vs.length=xs.length
 |[],vs,h=>by rw[show vs=[]from h];rfl
 |x::xs,vs,⟨v,r,e,_,h2⟩=>by rw[e,wo,wo,RpFs.length h2]
def fLst(Fs:FA):FE:=λρ=>(Fs ρ).bind λxs=>if xs.length<=1000 then aa (if Go xs then .nw else .tn,.lst (sndL xs)) else ag
def fTup(Fs:FA):FE:=λρ=>(Fs ρ).bind λxs=>if xs.length<=1000 then aa (if Go xs then .nw else if AF xs then .fr else .sh,.tup (sndL xs)) else ag
theorem T2(h:PFA X es Fs):PF X (.List es pos) (fLst Fs):=(pe_lst h).imp λσ H Q⟨ρ,f,d,rs,e0,k⟩=>by
 obtain⟨xs,e1,e2⟩:=i0 e0;split at e2
 .rename_i hl;cases e2;refine⟨ρ,xs,rs,e1,λvs H1 s1 r1=>⟨wF (by rw[r1.length];exact hl) (by decide),λp hp=>k _ _ (s1.trans (E5 hp)) ?_⟩⟩;have hp0:H p=ag:=s1.free hp;by_cases q:Go xs=ac
  .rw[ar q];exact Rp.new (K:=X.K) (B:=H) hp hp0 (r1.nw q)
  .rw[aw q];exact⟨Rp.new hp rfl r1.sh,⟨_,rfl⟩,λa e=>by cases e;exact hp0⟩
 .cases e2
theorem CH{x1}(h:PFA X es Fs):PF X (.Tuple es x1 pos) (fTup Fs):=(pe_tup h).imp λσ H Q⟨ρ,f,d,rs,e0,k⟩=>by
 obtain⟨xs,e1,e2⟩:=i0 e0;split at e2
 .rename_i hl;cases e2;refine⟨ρ,xs,rs,e1,λvs H1 s1 r1=>⟨wF (by rw[r1.length];exact hl) (by decide),λp hp=>k _ _ (s1.trans (E5 hp)) ?_⟩⟩;have r2:=r1.mono (E5 (o:=.tup vs) hp);by_cases q:Go xs=ac
  .rw[ar q];exact(Rp.tup_ (K:=X.K) (B:=H)).mpr ⟨p,vs,rfl,SqT.of A0,r2.nw q⟩
  .rw[aw q];by_cases q2:AF xs=ac
   .rw[ar q2];exact(Rp.tup_ (K:=X.K) (B:=X.H₀)).mpr ⟨p,vs,rfl,SqT.of A0,r2.fr rs.base q2⟩
   .rw[aw q2];exact(Rp.tup_ (K:=X.K) (B:=emp)).mpr ⟨p,vs,rfl,SqT.of A0,r2.sh⟩
 .cases e2
abbrev FC:=gf->Option Dt
def spc(K:aD)(fr:Bool)(c:FC):Sp:=λvs H Q _=>∃ds d,Rps K emp ds H vs/\c ds=aa d/\∀v H',Same H H'->Rp K (if fr then H else emp) d H' v->Q v H'
def i6(fr:Bool)(c:FC)(Fs:FA):FE:=λρ=>(Fs ρ).bind λxs=>(c (sndL xs)).map (nrm (if fr then .nw else .sh))
theorem Ro{X:Ky}{fr:Bool}{H H1 H':Hp}{d:Dt}{v:V}(s:Same H H1)(r:Rp X.K (if fr then H1 else emp) d H' v):RpF X H (nrm (if fr then .nw else .sh) d).1 d H' v:=by
 cases fr with
 |true=>exact RpF.nrm (f:=.nw) (RpF.early s (show RpF X H1 .nw d H' v from r))
 |false=>exact RpF.nrm (f:=.sh) r
theorem p_call{fr:Bool}{k:Nat}{f:aj}{fd:ak}{ps:fO}{ct:FC}{x:Str}{p:Pos}(F:FnOk X.prog X.w X.K X.mg X.base CX0 k f fd ps (spc X.K fr ct))(hr:Room k X.A)(hg:Gl X x)(hm:X.mg x=aa (.ref f))(hk:bQ X.K (.ref f)=ac)(hb:Binds X.K fd ps [])
  (ha:PFA X (e::es) Fs) (hdb:(x==("__debug__":Str))=af:=by decide) (hst:aq (e::es) X.env=(af,eval e X.env)::aq es X.env:=by rfl) (hpl:(bH pos (aq es X.env)).any (·.1)=af:=by rfl):PF X (.Call (.Name x p) (e::es) [] pos) (i6 fr ct Fs):=
 (AD (E:=E0) (dvs:=[]) F hr hg hm hk hb .nil z1d ha hdb hst hpl).imp fun σ H Q hZ=>hZ.elim fun ρ hZ=>hZ.elim fun f hZ=>hZ.elim fun d hZ=>hZ.elim fun rs hZ=>hZ.elim fun e0 k=>by
  obtain⟨xs,e1,e2⟩:=i0 e0;cases q:ct (sndL xs) with
  |none=>rw[q]at e2;cases e2
  |some d0=>
   rw[q]at e2;have e2:nrm (if fr then .nw else .sh) d0=(f,d):=aP e2;have e3:d0=d:=bI Prod.snd e2;subst e3;refine⟨ρ,xs,rs,e1,λvs H1 s1 r1=>?_⟩;dsimp only;rw[vn];refine⟨_,d0,r1.sh,q,λv H' s' r'=>k v H' (s1.trans s') ?_⟩;have:=Ro (X:=X.ky) s1 r';rw[e2]at this;exact this
abbrev FB:=gf->Option Dv
def CI(X:Cx)(f:ao)(r:FB):Prop:=EG X f (λxs H Q=>∃ds f d,Rps X.K emp ds H xs/\r ds=aa (f,d)/\∀v H',Same H H'->RpF X.ky H f d H' v->Q v H')
def fBlt(r:FB)(Fs:FA):FE:=λρ=>(Fs ρ).bind λxs=>r (sndL xs)
theorem Yl{r:FB}{σ:St}{H:Hp}{Q:VK}(h:upF X (fBlt r Fs) σ H Q):upAs X Fs σ H λvs H1=>∃ds f d,Rps X.K emp ds H1 vs/\r ds=aa (f,d)/\∀v H',Same H1 H'->RpF X.ky H1 f d H' v->Q v H':=by
 obtain⟨ρ,f,d,rs,e0,k⟩:=h;obtain⟨xs,e1,e2⟩:=i0 e0;exact⟨ρ,xs,rs,e1,λvs H1 s1 r1=>⟨_,f,d,r1.sh,e2,λv H' s' r'=>k v H' (s1.trans s') (r'.early s1)⟩⟩
theorem z4N{id:String}{r:FB}{x:Str}{p:Pos}(hc:CI X (.builtin id) r)(hg:Gl X x)(hm:X.mg x=ag)(hv:bz x=aa (.builtin id))(ha:PFA X (e::es) Fs)(hn:x ≠ "__name__":=by decide)(hdb:(x==("__debug__":Str))=af:=by decide)(hst:aq (e::es) X.env=(af,eval e X.env)::aq es X.env:=by rfl)(hpl:(bH pos (aq es X.env)).any (·.1)=af:=by rfl):
 PF X (.Call (.Name x p) (e::es) [] pos) (fBlt r Fs):=(Kh hc hg hm hv ha hn hdb hst hpl).imp λσ H Q h=>Yl h
theorem z1v{T:String}{r:FB}{x:Str}{p:Pos}(hc:CI X (.type T) r)(hg:Gl X x)(hm:X.mg x=ag)(hv:bz x=aa (.type T))(ha:PFA X (e::es) Fs)(hn:x ≠ "__name__":=by decide)(hdb:(x==("__debug__":Str))=af:=by decide)(hst:aq (e::es) X.env=(af,eval e X.env)::aq es X.env:=by rfl)(hpl:(bH pos (aq es X.env)).any (·.1)=af:=by rfl):
 PF X (.Call (.Name x p) (e::es) [] pos) (fBlt r Fs):=(ZY hc hg hm hv ha hn hdb hst hpl).imp λσ H Q h=>Yl h
end
section
variable {X:Cx}
theorem Rps.one'{K:aD}{B H:Hp}{d:Dt}{vs:gg}(h:Rps K B [d] H vs):∃v,vs=[v]/\Rp K B d H v:=by
 obtain⟨v,r,rfl,h1,h2⟩:=Rps.cons_.mp h;rw[Rps.nil_.mp h2];exact⟨v,rfl,h1⟩
def bLen:FB
 |[.lst xs]=>aa (.nw,.int xs.length)
 |[.tup xs]=>aa (.nw,.int xs.length)
 |[.scr xs]=>aa (.nw,.int xs.length)
 |_=>ag
theorem J9:CI X (.builtin "len") bLen:=by
 rintro π s σ H xs us Q I r ⟨ds,f,d,rs,e,k⟩;unfold bLen at e;split at e
 .cases e;obtain⟨v,rfl,h⟩:=rs.one';obtain⟨p,vs,rfl,_,q1,q2⟩:=h.items;exact BS π s σ H _ us Q I r ⟨p,vs,rfl,.inl (SqL.of q1),by rw[q2.length];exact k _ H (Same.refl H) RpF.i_⟩
 .cases e;obtain⟨v,rfl,h⟩:=rs.one';obtain⟨p,vs,rfl,q1,q2⟩:=Rp.tup_.mp h;exact BS π s σ H _ us Q I r ⟨p,vs,rfl,.inr q1,by rw[q2.length];exact k _ H (Same.refl H) RpF.i_⟩
 .cases e;obtain⟨v,rfl,h⟩:=rs.one';obtain⟨p,rfl,_,q1⟩:=Rp.scr_.mp h;exact BS π s σ H _ us Q I r ⟨p,_,rfl,.inl q1.sq,by rw[wj];exact k _ H (Same.refl H) RpF.i_⟩
 .cases e
def bTup:FB
 |[.lst xs]=>aa (if J7 xs then .nw else .sh,.tup xs)
 |[.tup xs]=>aa (if J7 xs then .nw else .sh,.tup xs)
 |_=>ag
theorem Ym{X:Ky}{H H':Hp}{xs:gf}{v:V}(h:Rp X.K emp (.tup xs) H' v):RpF X H (if J7 xs then .nw else .sh) (.tup xs) H' v:=by
 by_cases q:J7 xs=ac
 .rw[ar q];exact RpF.scal (by rw[Dt.flat];exact q) h
 .rw[aw q];exact h
theorem Rq:CI X (.type "tuple") bTup:=by
 rintro π s σ H xs us Q I r ⟨ds,f,d,rs,e,k⟩;unfold bTup at e;split at e
 .cases e;obtain⟨v,rfl,h⟩:=rs.one';obtain⟨p,vs,rfl,_,q1,q2⟩:=h.items;exact EH π s σ H _ us Q I r ⟨p,vs,rfl,.inl ⟨SqL.of q1,λl hl=>k _ _ (E5 hl) (Ym (Rp.tup_.mpr ⟨l,vs,rfl,SqT.of A0,Rps.mono _ (E5 hl) q2⟩))⟩⟩
 .cases e;obtain⟨v,rfl,h⟩:=rs.one';obtain⟨p,vs,rfl,q1,q2⟩:=Rp.tup_.mp h;exact EH π s σ H _ us Q I r ⟨p,vs,rfl,.inr ⟨q1,k _ H (Same.refl H) (Ym h)⟩⟩
 .cases e
def bLst:FB
 |[.lst xs]=>aa (newL xs)
 |[.tup xs]=>aa (newL xs)
 |_=>ag
theorem Aa:CI X (.type "list") bLst:=by
 rintro π s σ H xs us Q I r ⟨ds,f,d,rs,e,k⟩;unfold bLst at e;split at e
 .cases e;obtain⟨v,rfl,h⟩:=rs.one';obtain⟨p,vs,rfl,_,q1,q2⟩:=h.items;exact Gi π s σ H _ us Q I r ⟨p,vs,rfl,.inl (SqL.of q1),λl hl=>k _ _ (E5 hl) (Gk hl q2)⟩
 .cases e;obtain⟨v,rfl,h⟩:=rs.one';obtain⟨p,vs,rfl,q1,q2⟩:=Rp.tup_.mp h;exact Gi π s σ H _ us Q I r ⟨p,vs,rfl,.inr q1,λl hl=>k _ _ (E5 hl) (Gk hl q2)⟩
 .cases e
def bAbs:FB
 |[.int i]=>aa (.nw,.int (if i<0 then -i else i))
 |_=>ag
theorem c_abs:CI X (.builtin "abs") bAbs:=by
 rintro π s σ H xs us Q I r ⟨ds,f,d,rs,e,k⟩;unfold bAbs at e;split at e
 .rename_i i;cases e;obtain⟨v,rfl,h⟩:=rs.one';rw[Rp.int_]at h;subst h;exact z16 π s σ H _ us Q I r ⟨i,rfl,k _ H (Same.refl H) RpF.i_⟩
 .cases e
def bInt:FB
 |[.int i]=>aa (.nw,.int i)
 |[.bl b]=>aa (.nw,.int (if b then 1 else 0))
 |_=>ag
theorem c_int:CI X (.type "int") bInt:=by
 rintro π s σ H xs us Q I r ⟨ds,f,d,rs,e,k⟩;unfold bInt at e;split at e
 .rename_i i;cases e;obtain⟨v,rfl,h⟩:=rs.one';rw[Rp.int_]at h;subst h;exact Na π s σ H _ us Q I r (.inl ⟨i,rfl,k _ H (Same.refl H) RpF.i_⟩)
 .rename_i b;cases e;obtain⟨v,rfl,h⟩:=rs.one';rw[Rp.bl_]at h;subst h;exact Na π s σ H _ us Q I r (.inr ⟨b,rfl,k _ H (Same.refl H) RpF.i_⟩)
 .cases e
def CQ:gf->Option (List Bool)
 |[]=>aa []
 |.bl b::ds=>(CQ ds).map (b::·)
 |_=>ag
def BX:gf->Option (aG)
 |[]=>aa []
 |.int i::ds=>(BX ds).map (i::·)
 |_=>ag
theorem HD{K:aD}{B H:Hp}:∀{ds:gf}{bs:List Bool}{vs:gg},CQ ds=aa bs->Rps K B ds H vs->vs=bs.map V.bl
 |[],bs,vs,e,r=>by cases e;exact Rps.nil_.mp r
 |.bl b::ds,bs,vs,e,r=>by
  obtain⟨v,ws,rfl,h1,h2⟩:=Rps.cons_.mp r;unfold CQ at e;cases q:CQ ds with
  |none=>rw[q]at e;cases e
  |some cs=>rw[q]at e;cases e;rw[Rp.bl_.mp h1,HD q h2];rfl
 |.non::ds,bs,vs,e,r=>by cases e
 |.int _::ds,bs,vs,e,r=>by cases e
 |.str _::ds,bs,vs,e,r=>by cases e
 |.lst _::ds,bs,vs,e,r=>by cases e
 |.tup _::ds,bs,vs,e,r=>by cases e
 |.scr _::ds,bs,vs,e,r=>by cases e
 |.dic::ds,bs,vs,e,r=>by cases e
 |.obj _ _ _ _::ds,bs,vs,e,r=>by cases e
theorem Kp{K:aD}{B H:Hp}:∀{ds:gf}{bs:aG}{vs:gg},BX ds=aa bs->Rps K B ds H vs->vs=bs.map V.int
 |[],bs,vs,e,r=>by cases e;exact Rps.nil_.mp r
 |.int b::ds,bs,vs,e,r=>by
  obtain⟨v,ws,rfl,h1,h2⟩:=Rps.cons_.mp r;unfold BX at e;cases q:BX ds with
  |none=>rw[q]at e;cases e
  |some cs=>rw[q]at e;cases e;rw[Rp.int_.mp h1,Kp q h2];rfl
 |.non::ds,bs,vs,e,r=>by cases e
 |.bl _::ds,bs,vs,e,r=>by cases e
 |.str _::ds,bs,vs,e,r=>by cases e
 |.lst _::ds,bs,vs,e,r=>by cases e
 |.tup _::ds,bs,vs,e,r=>by cases e
 |.scr _::ds,bs,vs,e,r=>by cases e
 |.dic::ds,bs,vs,e,r=>by cases e
 |.obj _ _ _ _::ds,bs,vs,e,r=>by cases e
def bAll:FB
 |[.lst xs]=>(CQ xs).map λbs=>(.nw,.bl (bs.all id))
 |_=>ag
def bAny:FB
 |[.lst xs]=>(CQ xs).map λbs=>(.nw,.bl (bs.any id))
 |_=>ag
def bSum:FB
 |[.lst xs]=>(BX xs).map λns=>(.nw,.int ns.sum)
 |_=>ag
theorem z02(bs:List Bool):(av bs.length).all (λi=>bs.getD i af)=bs.all id:=by
 rw[w0s,vy,vy];constructor
 .intro h b hb;obtain⟨i,hi,e⟩:=wH hb;have:=h i (wO.mpr hi);simp[au,wa hi,e]at this;exact this
 .intro h i hi;have hi:=wO.mp hi;have:=h _ (vA hi);simpa[au,wa hi]using this
theorem z03(bs:List Bool):(av bs.length).any (λi=>bs.getD i af)=bs.any id:=by
 rw[w0s,w12,w12];constructor
 .rintro⟨i,hi,h⟩;have hi:=wO.mp hi;exact⟨_,vA hi,by simpa[au,wa hi]using h⟩
 .rintro⟨b,hb,h⟩;obtain⟨i,hi,e⟩:=wH hb;exact⟨i,wO.mpr hi,by simp[au,wa hi,e];exact h⟩
theorem IZ(ns:aG):∀k,k<=ns.length->preSum (λi=>ns.getD i 0) k=(ns.take k).sum
 |0,_=>by simp[preSum]
 |k+1,h=>by
  have hk:k<ns.length:=h;rw[preSum,IZ ns k (by rfl'),List.take_succ,wa hk,List.sum_append];simp[au,wa hk]
theorem Yn{bs:List Bool}{us:aF}(r:Vals (bs.map V.bl) us){prog:aL}{w:aH}{A:bj}:TruthOf prog w A (λi v=>us.toArray[i]?=aa v) (λi=>bs.getD i af):=by
 intro i v s Q E hP hQ;have e:us[i]?=aa v:=by simpa using hP
 cases q:bs[i]? with
 |none=>
  have:=r.none_of (i:=i) (by rw[wy,q];rfl);rw[this]at e;cases e
 |some b=>
  obtain⟨u,h1,h2⟩:=r.get (i:=i) (x:=V.bl b) (by rw[wy,q];rfl);rw[e]at h1;cases h1;cases h2;have hQ':Q b s:=by simpa[au,q]using hQ
  exact bW hQ'
theorem Yo(hc:X.calm=ac):CI X (.builtin "all") bAll:=by
 rintro π s σ H xs us Q I r ⟨ds,f,d,rs,e,k⟩;unfold bAll at e;split at e
 .rename_i ys;cases q:CQ ys with
  |none=>rw[q]at e;cases e
  |some bs=>
   rw[q]at e;cases e;obtain⟨v,rfl,h⟩:=rs.one';obtain⟨p,vs,rfl,_,q1,q2⟩:=h.items;obtain⟨u,rfl,ru⟩:=r.one;cases ru;have ev:=HD q q2;subst ev;obtain⟨its,rv,pl,hz⟩:=I.list (SqL.of (K:=X.K) q1);have hlen:its.toArray.size=bs.length:=by rw[wD,<-rv.length,wj]
   refine call_all_walk (cR pl.isList ?_);have hne:p≠s.heap.objs.size:=wM (by obtain⟨o,e,_⟩:=pl.isList;exact wt e);refine⟨_,_,_,_,_,_,λi=>bs.getD i af,rfl,Walks.list (A:=X.A.in1) (I.ok.hd hc) s.heap.objs.size p hne its.toArray,⟨⟨_,wx _ rfl,rfl,rfl⟩,pl.isList.at λo e=>wf _ e⟩,Yn rv,λh' tk hk=>?_⟩;rw[hlen,z02];exact⟨.bl _,H,I.kept λb o e=>hk b o (by simp;exact wM (wt e)) (wf _ e),rfl,k _ H (Same.refl H) RpF.b_⟩
 .cases e
theorem c_any(hc:X.calm=ac):CI X (.builtin "any") bAny:=by
 rintro π s σ H xs us Q I r ⟨ds,f,d,rs,e,k⟩;unfold bAny at e;split at e
 .rename_i ys;cases q:CQ ys with
  |none=>rw[q]at e;cases e
  |some bs=>
   rw[q]at e;cases e;obtain⟨v,rfl,h⟩:=rs.one';obtain⟨p,vs,rfl,_,q1,q2⟩:=h.items;obtain⟨u,rfl,ru⟩:=r.one;cases ru;have ev:=HD q q2;subst ev;obtain⟨its,rv,pl,hz⟩:=I.list (SqL.of (K:=X.K) q1);have hlen:its.toArray.size=bs.length:=by rw[wD,<-rv.length,wj]
   refine call_any_walk (cR pl.isList ?_);have hne:p≠s.heap.objs.size:=wM (by obtain⟨o,e,_⟩:=pl.isList;exact wt e);refine⟨_,_,_,_,_,_,λi=>bs.getD i af,rfl,Walks.list (A:=X.A.in1) (I.ok.hd hc) s.heap.objs.size p hne its.toArray,⟨⟨_,wx _ rfl,rfl,rfl⟩,pl.isList.at λo e=>wf _ e⟩,Yn rv,λh' tk hk=>?_⟩;rw[hlen,z03];exact⟨.bl _,H,I.kept λb o e=>hk b o (by simp;exact wM (wt e)) (wf _ e),rfl,k _ H (Same.refl H) RpF.b_⟩
 .cases e
theorem c_sum(hc:X.calm=true):CI X (.builtin "sum") bSum:=by
 rintro π s σ H xs us Q I r ⟨ds,f,d,rs,e,k⟩;unfold bSum at e;split at e
 .rename_i ys;cases q:BX ys with
  |none=>rw[q]at e;cases e
  |some ns=>
   rw[q]at e;cases e;obtain⟨v,rfl,h⟩:=rs.one';obtain⟨p,vs,rfl,_,q1,q2⟩:=h.items;obtain⟨u,rfl,ru⟩:=r.one;cases ru;have ev:=Kp q q2;subst ev;obtain⟨its,rv,pl,hz⟩:=I.list (SqL.of (K:=X.K) q1);have hlen:its.toArray.size=ns.length:=by rw[wD,<-rv.length,wj]
   refine call_sum_walkG (cR pl.isList ?_);have hlt:p<s.heap.objs.size:=by obtain⟨o,e,_⟩:=pl.isList;exact wt e
   have hne:p≠s.heap.objs.size:=wM hlt;refine⟨_,_,_,_,_,_,λi=>ns.getD i 0,rfl,Walks.list (A:=X.A.in1) (I.ok.hd hc) s.heap.objs.size p hne its.toArray,⟨⟨_,wx _ rfl,rfl,rfl⟩,pl.isList.at λo e=>wf _ e⟩,λb hb=>?_,λi v hP=>?_,λh' tk t' hk=>?_⟩
   .show b<(s.heap.push _).objs.size;rw[vM];rcases wn.mp hb with e|hb
    .rw[e];exact vE _
    .rw[wI.mp hb];exact w0O hlt
   .have e:its[i]?=aa v:=by simpa using hP
    cases q:ns[i]? with
    | none =>
      have:=rv.none_of (i:=i) (by rw[wy,q];rfl);rw[this]at e;cases e
    | some n =>
      obtain⟨u,h1,h2⟩:=rv.get (i:=i) (x:=V.int n) (by rw[wy,q];rfl);rw[e]at h1;cases h1;obtain⟨t,rfl⟩:=h2;exact⟨t,by simp[au,q]⟩
   .rw[hlen,IZ ns ns.length (wv _),w13];exact⟨.int _,H,I.kept λb o e=>hk b o (by simp;exact wM (wt e)) (wf _ e),⟨t',rfl⟩,k _ H (Same.refl H) RpF.i_⟩
 .cases e
def tyN:Dt->String
 |.non=>"NoneType"
 |.bl _=>"bool"
 |.int _=>"int"
 |.str _=>"str"
 |.lst _=>"list"
 |.scr _=>"list"
 |.tup _=>"tuple"
 |.dic=>"dict"
 |.obj _ _ _ _=>"Book"
def Rr(t T:String):Bool:=t==T||(t=="bool"&&T=="int")
def okT(T:String):Bool:=T=="int"||T=="bool"||T=="str"||T=="list"||T=="tuple"||T=="dict"
theorem HE{T:String}(h:okT T=ac):T ="int" \/ T ="bool" \/ T ="str" \/ T ="list" \/ T ="tuple" \/ T ="dict":=by
 unfold okT at h;simp only[ug,beq_iff_eq]at h;rcases h with((((h|h)|h)|h)|h)|h
 .exact .inl h
 .exact .inr (.inl h)
 .exact .inr (.inr (.inl h))
 .exact .inr (.inr (.inr (.inl h)))
 .exact .inr (.inr (.inr (.inr (.inl h))))
 .exact .inr (.inr (.inr (.inr (.inr h))))
def Dt.isO:Dt->Bool
 |.obj _ _ _ _=>ac
 |_=>af
theorem kit_D{K:aD}{d:Dt}{T:String}(h:okT T=ac)(ho:d.isO=af):fh K (.type (tyN d)) (.type T)=aa (Rr (tyN d) T):=by
 rcases HE h with rfl|rfl|rfl|rfl|rfl|rfl<;>cases d<;>first|rfl|cases ho
def fIsi(T:String)(F:FE):FE:=λρ=>(F ρ).map λx=>(.nw,.bl (Rr (tyN x.2) T))
theorem z4O{T:String}(hT:okT T=ac):EG X (.builtin "isinstance") (λxs H Q=>∃d v,xs=[v,.ty T]/\Rp X.K emp d H v/\Q (.bl (Rr (tyN d) T)) H):=by
 intro π s σ H xs us Q I r ⟨d,v,ex,h1,fin⟩;subst ex;obtain⟨u,u',rfl,r1,r2⟩:=vals2 r;cases r2;have e:d.isO=af->_:=λho=>kit_D (K:=X.K) (d:=d) hT ho;cases d with
 |obj C k b es=>
  obtain⟨a,dx,vk,vb,l,vs,rfl,_,q,_,_,_,bk,_⟩:=Rp.obj_.mp h1;cases r1;have sub:Rr (tyN (.obj C k b es)) T=af:=by rcases HE hT with rfl|rfl|rfl|rfl|rfl|rfl<;>rfl
  have mem:T∈["int","bool","str","list","tuple","dict"]:=by rcases HE hT with rfl|rfl|rfl|rfl|rfl|rfl<;>decide
  refine Bf (x:=.ref a) I rfl (.ins q bk.cls bk.ha bk.hn bk.tk bk.hm) (bk.is T mem) λtk=>⟨.bl _,H,I.tok tk,rfl,?_⟩;rw[sub]at fin;exact fin
 |non=>rw[Rp.non_.mp h1]at r1;exact Bf I r1 .non (e rfl) λtk=>⟨.bl _,H,I.tok tk,rfl,fin⟩
 |bl b=>rw[Rp.bl_.mp h1]at r1;exact Bf I r1 (.bl b) (e rfl) λtk=>⟨.bl _,H,I.tok tk,rfl,fin⟩
 |int i=>rw[Rp.int_.mp h1]at r1;exact Bf I r1 (.int i) (e rfl) λtk=>⟨.bl _,H,I.tok tk,rfl,fin⟩
 |str x=>rw[Rp.str_.mp h1]at r1;exact Bf I r1 (.str x) (e rfl) λtk=>⟨.bl _,H,I.tok tk,rfl,fin⟩
 |dic=>
  obtain⟨a,rfl,q⟩:=Rp.dic_.mp h1;cases r1;exact bf eJ I.kIn ⟨_,(I.hok a _ q).1,rfl⟩ (e rfl) (λz=>nomatch z) λtk=>⟨.bl _,H,I.tok tk,rfl,fin⟩
 |lst ys=>
  obtain⟨p,vs,rfl,_,q1,q2⟩:=h1.items;cases r1;obtain⟨its,_,pl,_⟩:=I.list (SqL.of (K:=X.K) q1);obtain⟨o,ho,hc,_⟩:=pl.isList;exact bf dw I.kIn ⟨o,ho,hc⟩ (e rfl) (λz=>nomatch z) λtk=>⟨.bl _,H,I.tok tk,rfl,fin⟩
 |scr ys=>
  obtain⟨p,rfl,_,q1⟩:=Rp.scr_.mp h1;cases r1;obtain⟨its,_,pl,_⟩:=I.list q1.sq;obtain⟨o,ho,hc,_⟩:=pl.isList;exact bf dw I.kIn ⟨o,ho,hc⟩ (e rfl) (λz=>nomatch z) λtk=>⟨.bl _,H,I.tok tk,rfl,fin⟩
 |tup ys=>
  obtain⟨p,vs,rfl,q1,q2⟩:=Rp.tup_.mp h1;cases r1;obtain⟨its,_,pl,_⟩:=I.tuple q1;obtain⟨o,ho,hc,_⟩:=pl;exact bf PySem.W.kitx_tuple I.kIn ⟨o,ho,hc⟩ (e rfl) (λz=>nomatch z) λtk=>⟨.bl _,H,I.tok tk,rfl,fin⟩
theorem EJ{a:aK}{Fa:FE}{x:Str}{T:String}{p q pos:Pos}(hT:okT T=ac)(hg:Gl X "isinstance")(hm:X.mg "isinstance"=ag)(hgT:Gl X x)(hmT:X.mg x=ag)(hvT:bz x=aa (.type T))(ha:PF X a Fa)
  (hn:x ≠ "__name__":=by decide) (hd:(x==("__debug__":Str))=af:=by decide) (hs1:aq [.Name x q] X.env=[(af,eval (.Name x q) X.env)]:=by rfl)
  (hs:aq [a,.Name x q] X.env=(af,eval a X.env)::aq [.Name x q] X.env:=by rfl):PF X (.Call (.Name "isinstance" p) [a,.Name x q] [] pos) (fIsi T Fa):=
 (Kh (z4O hT) hg hm boot_isinstance (L9 ha (L9 (pe_ty hgT hmT hvT hn hd) CM hs1) hs) (by decide) (by decide) hs (by rw[hs1];rfl)).imp fun σ H Q hZ=>hZ.elim fun ρ hZ=>hZ.elim fun f hZ=>hZ.elim fun d hZ=>hZ.elim fun rs hZ=>hZ.elim fun e0 k=>by
  unfold fIsi at e0;cases h:Fa ρ with
  |none=>rw[h]at e0;cases e0
  |some z=>
   rw[h]at e0;cases e0;exact⟨ρ,z.1,z.2,rs,h,λv H1 s1 r1=>⟨z.2,v,rfl,r1.sh,k _ H1 s1 RpF.b_⟩⟩
abbrev FP:=Rho->Option (fX)
def upP(X:Cx)(F:FP):TO:=λσ H Q=>∃ρ o,RepS X.ky H ρ σ/\F ρ=aa o/\∀H',Same H H'->Q o H'
def PFP(X:Cx)(e:Option aK)(F:FP):Prop:=PO X e (upP X F)
def z9:FP:=λ_=>aa ag
def intD:Dt->fX
 |.int i=>aa i
 |_=>ag
def J2(F:FE):FP:=λρ=>(F ρ).bind λx=>(intD x.2).map aa
theorem PO.imp{e:Option aK}{t t':TO}(h:PO X e t)(q:∀σ H Q,t' σ H Q->t σ H Q):PO X e t':=λπ s σ H Q I z=>h π s σ H Q I (q σ H Q z)
theorem W9:PFP X ag z9:=z4B.imp (by rintro σ H Q ⟨ρ,o,rs,e,k⟩;cases e;exact k H (Same.refl H))
theorem X0{e:aK}{F:FE}(h:PF X e F):PFP X (aa e) (J2 F):=(z4C h).imp λσ H Q⟨ρ,o,rs,e,k⟩=>by
 obtain⟨⟨f,d⟩,e1,e2⟩:=i0 e;refine⟨ρ,f,d,rs,e1,λv H1 s1 r1=>?_⟩;cases d<;>first|cases e2|skip
 rename_i i;exact⟨i,Rp.int_.mp r1.sh,k H1 s1⟩
def cutD{α:Type}(xs:List α)(lo hi:fX):List α:=(xs.drop (HT.sIx xs.length 0 lo)).take (HT.sIx xs.length xs.length hi-HT.sIx xs.length 0 lo)
def fSl(F:FE)(L U:FP):FE:=λρ=>(F ρ).bind λx=>(L ρ).bind λlo=>(U ρ).bind λhi=>match x.2 with|.lst ds=>aa (newL (cutD ds lo hi))|_=>ag
theorem P1{e:aK}{F:FE}{lo hi:Option aK}{L U:FP}{pos p2:Pos}(he:PF X e F)(hl:PFP X lo L)(hu:PFP X hi U):PF X (.Subscript e (.Slice lo hi ag p2) pos) (fSl F L U):=
 (z19 z4D he hl hu).imp fun σ H Q hZ=>hZ.elim fun ρ hZ=>hZ.elim fun f hZ=>hZ.elim fun d hZ=>hZ.elim fun rs hZ=>hZ.elim fun e0 k=>by
  obtain⟨⟨fx,dx⟩,e1,e2⟩:=i0 e0;obtain⟨l,e3,e4⟩:=i0 e2;obtain⟨u,e5,e6⟩:=i0 e4;clear e0 e2 e4;refine⟨ρ,fx,dx,rs,e1,λv H1 s1 r1=>⟨ρ,l,rs.mono s1,e3,λH2 s2=>⟨ρ,u,rs.mono (s1.trans s2),e5,λH3 s3=>?_⟩⟩⟩;have ex:∃ds,dx=.lst ds/\newL (cutD ds l u)=(f,d):=by
   cases dx<;>first|(rename_i ds;exact⟨ds,rfl,aP e6⟩)|cases e6
  obtain⟨ds,rfl,e7⟩:=ex;cases e7;obtain⟨p,vs,rfl,_,q1,q2⟩:=(Rp.mono _ (s2.trans s3) r1.sh).items;refine⟨p,vs,rfl,SqL.of q1,λa ha=>k _ _ ((s1.trans (s2.trans s3)).trans (E5 ha)) ?_⟩;have h1:Rps X.K emp (cutD ds l u) H3 (cutV vs l u):=by
   unfold cutD cutV;rw[q2.length];exact Rps.take _ (Rps.drop _ q2)
  exact(Gk ha h1).early (s1.trans (s2.trans s3))
end
end L2
end
section
local macro_rules|`(tactic|rfl')=>`(tactic|first|lia|omega +splitDisjunctions)
namespace L2
def Walk(K:aD)(J:It)(items:gf)(H1:Hp):Prop:=∀(A:fP)(H:Hp),Same H1 (hidL A H)->(∀a∈A,∃o,H a=aa o) ->
 (∀(i:Nat)(d:Dt),items[i]?=aa d->J.go i H/\∀x H',J.yld i H x H'->Same (hidL A H) (hidL A H')/\(∀a∈A,H' a=H a)/\Rp K emp d (hidL A H') x)/\∀i,items.length<=i->J.stop i H
abbrev FI:=Rho->Option (gf)
def upIK(Y:Ky)(F:FI):TI:=λσ H R=>∃ρ items,RepS Y H ρ σ/\F ρ=aa items/\∀J H',Same H H'->items.length<=sizeLine->Walk Y.K J items H'->R J H'
abbrev upI(X:Cx)(F:FI):TI:=upIK X.ky F
def PFI(X:Cx)(tg e:aK)(F:FI):Prop:=PI X tg e (upI X F)
theorem PI.imp{X:Cx}{tg e:aK}{t t':TI}(h:PI X tg e t)(q:∀σ H Q,t' σ H Q->t σ H Q):PI X tg e t':=λπ s σ H Q I z=>h π s σ H Q I (q σ H Q z)
section
variable {X:Cx}{tg a b e:aK}{Fa Fb Fe:FE}{pos:Pos}
theorem z04{K:aD}{p:aj}{ds:gf}{vs:gg}{H1:Hp}(h1:SqL K H1 p vs)(h2:Rps K emp ds H1 vs):Walk K (Itl K p) ds H1:=by
 intro A H sm hA;have s2:Same H1 H:=sm.trans w8;refine⟨λi d e=>?_,λi hi=>⟨vs,s2.seq h1,by rw[h2.length];exact hi⟩⟩;obtain⟨v,e1,e2⟩:=h2.get e;refine⟨⟨vs,v,s2.seq h1,e1⟩,?_⟩;rintro x H' ⟨z,y⟩;subst z;have hx:=y vs (s2.seq h1);rw[e1]at hx;cases hx;exact⟨Same.refl _,λ_ _=>rfl,Rp.mono _ sm e2⟩
theorem z1w{K:aD}{p:aj}{ds:gf}{vs:gg}{H1:Hp}(h1:SqT K H1 p vs)(h2:Rps K emp ds H1 vs):Walk K (Itt K p) ds H1:=by
 intro A H sm hA;have s2:Same H1 H:=sm.trans w8;refine⟨λi d e=>?_,λi hi=>⟨vs,s2.seqT h1,by rw[h2.length];exact hi⟩⟩;obtain⟨v,e1,e2⟩:=h2.get e;refine⟨⟨vs,v,s2.seqT h1,e1⟩,?_⟩;rintro x H' ⟨z,y⟩;subst z;have hx:=y vs (s2.seqT h1);rw[e1]at hx;cases hx;exact⟨Same.refl _,λ_ _=>rfl,Rp.mono _ sm e2⟩
def P6(lo:Int)(n:Nat):gf:=(av n).map λ(k:Nat)=>.int (lo+(k:Int))
theorem ET{K:aD}{lo:Int}{n:Nat}{H1:Hp}:Walk K (Itr lo n) (P6 lo n) H1:=by
 intro A H sm hA;refine⟨λi d e=>?_,λi hi=>by unfold P6 at hi;rw[wj,uz]at hi;exact hi⟩;unfold P6 at e;rw[wy]at e;have hi:i<n:=by
  by_cases hi:i<n
  .exact hi
  .rw[wK (by simp;rfl')]at e;cases e
 rw[w05 hi]at e;cases e;refine⟨hi,λx H'⟨z,y⟩=>?_⟩;subst z;subst y;exact⟨Same.refl _,λ_ _=>rfl,Rp.int_.mpr rfl⟩
def seqD:Dt->Option (gf)
 |.lst ds=>aa ds
 |.tup ds=>aa ds
 |_=>ag
def iSeq(F:FE):FI:=λρ=>(F ρ).bind λx=>seqD x.2
theorem E3(ha:PF X a Fa):PFI X tg a (iSeq Fa):=by
 intro π s σ H R I ⟨ρ,items,rs,e0,k⟩;obtain⟨⟨f,d⟩,e1,e2⟩:=i0 e0;refine thn (ha π s σ H (λx H1=>Same H H1/\Rp X.K emp d H1 x) I ⟨ρ,f,d,rs,e1,λv H1 s1 r1=>⟨s1,r1.sh⟩⟩) λv s1⟨x,H1,I1,r1,sm,rd⟩=>?_;cases d<;>first|cases e2|skip
 .rename_i ds;obtain⟨p,vs,rfl,_,h1,h2⟩:=rd.items;cases r1;obtain⟨its,rv,pl,hz⟩:=I1.list (SqL.of (K:=X.K) h1);refine cR pl.isList ?_;refine⟨s1.heap.objs.size,[s1.heap.objs.size],_,_,H1,rfl,I1.kept (t':=s1.toks) λb o e=>wf _ e,ZT p _,⟨_,wx _ rfl,rfl,rfl⟩,λb hb=>?_,k _ H1 sm (by rw[<-h2.length];exact hz) (z04 (SqL.of h1) h2)⟩;have e:b=s1.heap.objs.size:=by simpa using hb
  subst e;exact I1.fpOk (wv _) (I1.hok.fresh (wv _))
 .rename_i ds;obtain⟨p,vs,rfl,h1,h2⟩:=Rp.tup_.mp rd;cases r1;obtain⟨its,rv,pl,hz⟩:=I1.tuple h1;refine wpAny_pyIter_tuple (show s1.heap.IsTuple p its.toArray from pl) ?_;refine⟨s1.heap.objs.size,[s1.heap.objs.size],_,_,H1,rfl,I1.kept (t':=s1.toks) λb o e=>wf _ e,TM p _,⟨_,wx _ rfl,rfl,rfl⟩,λb hb=>?_,k _ H1 sm (by rw[<-h2.length];exact hz) (z1w h1 h2)⟩;have e:b=s1.heap.objs.size:=by simpa using hb
  subst e;exact I1.fpOk (wv _) (I1.hok.fresh (wv _))
def V7(i:Int):Bool:=decide (-1000000<=i)&&decide (i<=1000000)
theorem OW{i:Int}(h:V7 i=ac): -1000000<=i/\i<=1000000:=by
 unfold V7 at h;rw[wG]at h;exact⟨bo h.1,bo h.2⟩
def o0(F:FE):FI:=λρ=>(F ρ).bind λx=>(intD x.2).bind λj=>if V7 j then aa (P6 0 j.toNat) else ag
theorem EU{lo:Int}{n:Nat}:(P6 lo n).length=n:=by unfold P6;simp
theorem BY{d:Dt}{i:Int}(h:intD d=aa i):d=.int i:=by
 cases d<;>first|cases h|skip
 rfl
theorem D8{p:Pos}(hg:Gl X "range")(hm:X.mg "range"=ag)(ha:PF X a Fa)(hs:aq [a] X.env=[(af,eval a X.env)]:=by rfl):PFI X tg (.Call (.Name "range" p) [a] [] pos) (o0 Fa):=
 (MY hg hm (L9 ha CM hs) hs).imp fun σ H R hZ=>hZ.elim fun ρ hZ=>hZ.elim fun items hZ=>hZ.elim fun rs hZ=>hZ.elim fun e0 k=>by
  obtain⟨⟨f,d⟩,e1,e2⟩:=i0 e0;obtain⟨j,e3,e4⟩:=i0 e2;clear e0 e2;have ed:=BY e3;cases (show d=.int j from ed);split at e4
  .rename_i hr;cases e4;obtain⟨h1,h2⟩:=OW hr;refine⟨ρ,f,_,rs,e1,λv H1 s1 r1=>⟨j,by rw[Rp.int_.mp r1.sh],by rfl',by rfl',k _ H1 s1 ?_ ET⟩⟩;rw[EU];have:sizeLine=16777216:=rfl;rfl'
  .cases e4
def JJ(F G:FE):FI:=λρ=>(F ρ).bind λx=>(G ρ).bind λy=>(intD x.2).bind λi=>(intD y.2).bind λj=>if V7 i&&V7 j then aa (P6 i (j-i).toNat) else ag
end
inductive Tg where
 |one (i:Nat)|many (is:fQ)
def R8:fQ->TGs
 |[]=>gNil
 |i::is=>gCons (Kd i) (R8 is)
def Tg.low(K:aD):Tg->TG
 |.one i=>Kd i
 |.many is=>gTup K is.length (R8 is)
def AX:Rho->fQ->gf->Rho
 |ρ,i::is,d::ds=>AX (ρ.set i (.sh af d)) is ds
 |ρ,_,_=>ρ
def Tg.put:Tg->Dt->Rho->Option Rho
 |.one i,d,ρ=>aa (ρ.set i (.sh af d))
 |.many is,.tup ds,ρ=>if ds.length=is.length then aa (AX ρ is ds) else ag
 |.many _,_,_=>ag
def Tg.below(nt:Nat):Tg->Prop
 |.one i=>i<nt
 |.many is=>∀i∈is,i<nt
def KeepS(nt:Nat)(σ σ':St):Prop:=σ'.length=σ.length/\∀i,nt<=i->σ'[i]?=σ[i]?
theorem KeepS.refl{nt:Nat}{σ:St}:KeepS nt σ σ:=⟨rfl,λ_ _=>rfl⟩
theorem KeepS.set{nt i:Nat}{σ:St}{v:V}(h:i<nt):KeepS nt σ (σ.set i (aa v)):=⟨vq,λj hj=>vg (by rfl')⟩
theorem KeepS.trans{nt:Nat}{a b c:St}(h:KeepS nt a b)(k:KeepS nt b c):KeepS nt a c:=⟨k.1.trans h.1,λi hi=>(k.2 i hi).trans (h.2 i hi)⟩
theorem Ja:∀{is:fQ}{vs:gg}{σ:St}{H:Hp}{Q Q':St->Hp->Prop},R8 is vs σ H Q->(∀σ H,Q σ H->Q' σ H)->R8 is vs σ H Q':=by
 intro is
 induction is with
 |nil=>intro vs σ H Q Q' ⟨e,q⟩ k;exact⟨e,k _ _ q⟩
 |cons j js ih=>intro vs σ H Q Q' ⟨v,r,e,q⟩ k;exact⟨v,r,e,ih q k⟩
theorem Nm{nt:Nat}:∀{is:fQ}{vs:gg}{σ:St}{H:Hp}{Q:St->Hp->Prop},(∀i∈is,i<nt)->R8 is vs σ H Q->R8 is vs σ H λσ2 H2=>KeepS nt σ σ2/\Q σ2 H2
 |[],vs,σ,H,Q,_,⟨e,q⟩=>⟨e,KeepS.refl,q⟩
 |i::is,vs,σ,H,Q,hi,⟨v,r,e,q⟩=>by
  refine⟨v,r,e,?_⟩;have q:R8 is r (σ.set i (aa v)) H Q:=q;have z:=Nm (nt:=nt) (λj hj=>hi j (wc _ hj)) q;show R8 is r (σ.set i (aa v)) H _;exact Ja z λσ2 H2⟨k1,k2⟩=>⟨(KeepS.set (hi i we)).trans k1,k2⟩
theorem Tg.ok{K:aD}{nt:Nat}{g:Tg}(h:g.below nt):TgOk nt (g.low K):=by
 intro x σ H Q q;cases g with
 |one i=>exact⟨KeepS.set h,q⟩
 |many is=>
  obtain⟨a,xs,e,hq,hl,q⟩:=q;exact⟨a,xs,e,hq,hl,Nm h q⟩
theorem Tg.low_mono{K:aD}{g:Tg}{v:V}{σ:St}{H:Hp}{Q Q':St->Hp->Prop}(h:g.low K v σ H Q)(k:∀σ H,Q σ H->Q' σ H):g.low K v σ H Q':=by
 cases g with
 |one i=>exact k _ _ h
 |many is=>
  obtain⟨a,xs,e,hq,hl,q⟩:=h;exact⟨a,xs,e,hq,hl,Ja q k⟩
section
variable {Y:Ky}{H H':Hp}{ρ:Rho}{σ:St}
theorem RepS.set(h:RepS Y H ρ σ){i:Nat}{f:Bool}{d:Dt}{v:V}(r:Rp Y.K (bsOf Y f) d H v):RepS Y H (ρ.set i (.sh f d)) (σ.set i (aa v)):=by
 refine⟨by rw[vq,vq];exact h.len,h.base,λj c q=>?_⟩;by_cases e:i=j
 .subst e;rw[vz]at q|-;rw[ar rfl]at q|-;split at q
  .rename_i hl;cases q;rw[ar (by rw[<-h.len];exact hl)];exact⟨_,rfl,v,rfl,r⟩
  .cases q
 .rw[vg e]at q|-;exact h.at_ j c q
theorem Kq{Hh:Hp}{ρ':Rho}:∀{is:fQ}{ds:gf}{vs:gg}{ρ:Rho}{σ:St},RepS Y Hh ρ σ->Rps Y.K emp ds Hh vs->ds.length=is.length->AX ρ is ds=ρ' ->
  R8 is vs σ H λσ' H'=>H'=H/\RepS Y Hh ρ' σ'
 |[],[],vs,ρ,σ,rs,r,hl,q=>⟨Rps.nil_.mp r,rfl,by rw[<-q];exact rs⟩
 |[],d::ds,vs,ρ,σ,rs,r,hl,q=>by cases hl
 |i::is,[],vs,ρ,σ,rs,r,hl,q=>by cases hl
 |i::is,d::ds,vs,ρ,σ,rs,r,hl,q=>by
  obtain⟨v,r',rfl,h1,h2⟩:=Rps.cons_.mp r;exact⟨v,r',rfl,Kq (rs.set (f:=af) h1) h2 (by simpa using hl) q⟩
theorem Tg.sim{Hh:Hp}{g:Tg}{d:Dt}{v:V}{ρ':Rho}(sm:Same Hh H)(rs:RepS Y Hh ρ σ)(r:Rp Y.K emp d Hh v)(h:g.put d ρ=aa ρ'):
  g.low Y.K v σ H λσ' H'=>H'=H/\RepS Y Hh ρ' σ':=by
 cases g with
 |one i=>cases h;exact⟨rfl,rs.set (f:=af) r⟩
 |many is=>
  cases d<;>first|cases h|skip
  rename_i ds;replace h:(if ds.length=is.length then aa (AX ρ is ds) else ag)=aa ρ':=h;split at h
  .rename_i hl;obtain⟨a,vs,rfl,h1,h2⟩:=Rp.tup_.mp r;exact⟨a,vs,rfl,sm.seqT h1,by rw[h2.length];exact hl,Kq rs h2 hl (aP h)⟩
  .cases h
end
section
variable {X:Cx}{pos:Pos}
theorem T3{i:Nat}{x:Str}(hN:X.N.Nodup)(hi:X.N[i]?=aa x)(hx:Loc X.env.scope x)(hf:X.fn x=ac\/X.env.scope.names.lookup x=aa .local):PG X (.Name x pos) ((Tg.one i).low X.K):=B5 hN hi hx hf
theorem Ac:PGs X [] (R8 []):=z4u
theorem C4{e:aK}{es:fR}{i:Nat}{is:fQ}(h1:PG X e (Kd i))(h2:PGs X es (R8 is))(hs:(cb (e::es) X.env).map (·.2)=assign e X.env::(cb es X.env).map (·.2):=by rfl):PGs X (e::es) (R8 (i::is)):=z0Y h1 h2 hs
theorem Ad{es:fR}{k:Nat}{is:fQ}(hc:X.calm=ac)(h:PGs X es (R8 is))(hn:(cb es X.env).length=is.length:=by rfl)(hst:(cb es X.env).findIdx? (·.1)=ag:=by rfl):PG X (.Tuple es k pos) ((Tg.many is).low X.K):=pg_tup hc h hn hst
end
def CS(g:Tg)(Fc:FT)(Fe:FE)(ρ0:Rho):gf->Option (gh)
 |[]=>aa []
 |x::xs=>(g.put x ρ0).bind λρ1=>(Fc ρ1).bind λb=>if b then(Fe ρ1).bind λv=>(CS g Fc Fe ρ0 xs).bind λr=>aa (v::r) else CS g Fc Fe ρ0 xs
def Jb:Cell->Cell
 |.no=>.no
 |.ex=>.no
 |.sh _ d=>.sh af d
 |.ow _ ds=>.sh af (.lst ds)
def sigD(nt:Nat)(js:fQ)(ρ:Rho):Rho:=bg nt Cell.no++js.map λj=>match ρ[j]? with|some c=>Jb c|none=>.no
def j6(nt:Nat)(js:fQ)(Fi:FI)(g:Tg)(Fc:FT)(Fe:FE):FE:=λρ=>(Fi ρ).bind λitems=>(CS g Fc Fe (sigD nt js ρ) items).bind λvs=>aa (if AF vs then .nw else .tn,.lst (sndL vs))
theorem HG{g:Tg}{Fc:FT}{Fe:FE}{ρ0:Rho}:∀{xs:gf}{vs:gh},CS g Fc Fe ρ0 xs=aa vs->vs.length<=xs.length
 |[],vs,h=>by cases h;exact wv _
 |x::xs,vs,h=>by
  unfold CS at h;obtain⟨ρ1,_,h⟩:=i0 h;obtain⟨b,_,h⟩:=i0 h;split at h
  .obtain⟨v,_,h⟩:=i0 h;obtain⟨r,h1,h⟩:=i0 h;cases h;have:=HG h1;rw[wo,wo];rfl'
  .have:=HG h;rw[wo];rfl'
def PFTs(X:Cx)(ifs:fR)(F:FT):Prop:=PTs X ifs (upB X F)
def fYes:FT:=λ_=>aa ac
theorem Ae{X:Cx}:PFTs X [] fYes:=λπ s σ H Q I⟨ρ,b,rs,e,k⟩=>by cases e;exact z4F π s σ H Q I (k H (Same.refl H))
theorem Ua{X:Cx}{c:aK}{F:FT}(h:PFT X c F):PFTs X [c] F:=z4G h
theorem RpC.shS{Y:Ky}{H H1:Hp}{c:Cell}{o:Option V}(h:RpC Y H c o):RpC ⟨Y.K,H1⟩ H (Jb c) o:=by
 cases c with
 |no=>trivial
 |ex=>trivial
 |sh f d=>obtain⟨v,q,r⟩:=h;exact⟨v,q,Rp.anti Same.emp d r⟩
 |ow f ds=>obtain⟨v,q,r⟩:=h;exact⟨v,q,Rp.anti Same.emp _ r⟩
theorem RepS.sigs{Y:Ky}{H H1:Hp}{ρ:Rho}{σ:St}{nt:Nat}{js:fQ}(h:RepS Y H ρ σ)(hj:∀j∈js,j<σ.length)(h1:Same H1 H):RepS ⟨Y.K,H1⟩ H (sigD nt js ρ) (sig nt js σ):=by
 unfold sigD sig;refine⟨by simp,h1,λi c q=>?_⟩;by_cases hi:i<nt
 .rw[wV (by simpa using hi),vx,ar hi]at q;cases q;exact⟨ag,by rw[wV (by simpa using hi),vx,ar hi],trivial⟩
 .rw[vv (by simp;rfl'),vO,wy]at q;rw[vv (by simp;rfl'),vO,wy];cases ej:js[i-nt]? with
  |none=>rw[ej]at q;cases q
  |some j=>
   rw[ej]at q;have hlt:=hj j (vJ ej);have hlt':j<ρ.length:=by rw[h.len];exact hlt
   rw[w1h,wa hlt']at q;cases q;obtain⟨o,e1,e2⟩:=h.at_ j _ (wa hlt');refine⟨o,?_,e2.shS⟩;rw[w1h,e1];rfl
def frE(t:Hp->TE)(H1:Hp):TE:=λσ H Q=>∃A:fP,(∀a∈A,(∃vs,H a=aa (.lst vs))/\H1 a=ag)/\t H1 σ (hidL A H) λv H'=>(∀a∈A,H' a=ag)->Q v (J5 A H H')
def frT(t:Hp->TT)(H1:Hp):TT:=λσ H Q=>∃A:fP,(∀a∈A,(∃vs,H a=aa (.lst vs))/\H1 a=ag)/\t H1 σ (hidL A H) λv H'=>(∀a∈A,H' a=ag)->Q v (J5 A H H')
theorem PTs.frame{Y:Cx}{ifs:fR}{t:Hp->TT}(h:PTs Y ifs (t Y.H₀)):PTs Y ifs (frT t Y.H₀):=by
 intro π s σ H Q I ⟨A,hA,z⟩;refine thn (h _ s σ _ _ (I.hide hA) z) ?_;rintro u s' ⟨H',J,q⟩;obtain⟨hn,J'⟩:=I.unhide hA J;exact⟨_,J',q hn⟩
theorem JK{D:aj}{H:Hp}{o:HO}:hidL [D] (upd H D o)=hidL [D] H:=funext λb=>by
 by_cases q:b=D
 .subst q;rw[K9 (by simp),K9 (by simp)]
 .rw[r9 (by simpa using q),r9 (by simpa using q),u6 q]
theorem z1x{D:aj}{H:Hp}(h:H D=ag):hidL [D] H=H:=funext λb=>by
 by_cases q:b=D
 .subst q;rw[K9 (by simp),h]
 .rw[r9 (by simpa using q)]
section
variable {X:Cx}{N:fO}{scope:Scope}{nt:Nat}{js:fQ}{tg elt iter:aK}{ifs:fR}{Fi:FI}{g:Tg}{Fc:FT}{Fe:FE}{pos:Pos}
def RpE(Y:Ky)(x:Dv)(H':Hp)(v:V):Prop:=if x.1.isFr then Rp Y.K Y.H₀ x.2 H' v else Rp Y.K emp x.2 H' v
def RpEs(Y:Ky):gh->Hp->gg->Prop
 |[],_,vs=>vs=[]
 |x::xs,H',vs=>∃v r,vs=v::r/\RpE Y x H' v/\RpEs Y xs H' r
theorem RpE.of{Y:Ky}{H H':Hp}{x:Dv}{v:V}(h0:Same Y.H₀ H)(h:RpF Y H x.1 x.2 H' v):RpE Y x H' v:=by
 unfold RpE;by_cases q:x.1.isFr=ac
 .rw[ar q];exact h.fr h0 q
 .rw[aw q];exact h.sh
theorem RpE.mono{Y:Ky}{H H':Hp}{x:Dv}{v:V}(h:RpE Y x H v)(s:Same H H'):RpE Y x H' v:=by
 unfold RpE at h|-;by_cases q:x.1.isFr=ac
 .rw[ar q]at h|-;exact Rp.mono _ s h
 .rw[aw q]at h|-;exact Rp.mono _ s h
theorem RpEs.mono{Y:Ky}{H H':Hp}(s:Same H H'):∀{xs:gh}{vs:gg},RpEs Y xs H vs->RpEs Y xs H' vs
 |[],vs,h=>h
 |x::xs,vs,⟨v,r,e,h1,h2⟩=>⟨v,r,e,h1.mono s,RpEs.mono s h2⟩
theorem RpEs.append{Y:Ky}{H':Hp}:∀{xs ys:gh}{vs ws:gg},RpEs Y xs H' vs->RpEs Y ys H' ws->RpEs Y (xs++ys) H' (vs++ws)
 |[],ys,vs,ws,h,h'=>by rw[show vs=[]from h];exact h'
 |x::xs,ys,vs,ws,⟨v,r,e,h1,h2⟩,h'=>⟨v,r++ws,by rw[e];rfl,h1,RpEs.append h2 h'⟩
theorem RpEs.length{Y:Ky}{H':Hp}:∀{xs:gh}{vs:gg},RpEs Y xs H' vs->vs.length=xs.length
 |[],vs,h=>by rw[show vs=[]from h];rfl
 |x::xs,vs,⟨v,r,e,_,h2⟩=>by rw[e,wo,wo,RpEs.length h2]
theorem RpEs.sh{Y:Ky}{H':Hp}:∀{xs:gh}{vs:gg},RpEs Y xs H' vs->Rps Y.K emp (sndL xs) H' vs
 |[],vs,h=>Rps.nil_.mpr h
 |x::xs,vs,⟨v,r,e,h1,h2⟩=>by
  refine Rps.cons_.mpr ⟨v,r,e,?_,RpEs.sh h2⟩;unfold RpE at h1;split at h1
  .exact Rp.anti Same.emp _ h1
  .exact h1
theorem RpEs.fr{Y:Ky}{H':Hp}:∀{xs:gh}{vs:gg},AF xs=ac->RpEs Y xs H' vs->Rps Y.K Y.H₀ (sndL xs) H' vs
 |[],vs,_,h=>Rps.nil_.mpr h
 |x::xs,vs,q,⟨v,r,e,h1,h2⟩=>by
  unfold AF at q;rw[wG]at q;refine Rps.cons_.mpr ⟨v,r,e,?_,RpEs.fr q.2 h2⟩;unfold RpE at h1;rw[ar q.1]at h1;exact h1
theorem Yp{σ:St}{H:Hp}{Q:VK}(hj:∀j∈js,j<σ.length)(h:upF X (j6 nt js Fi g Fc Fe) σ H Q):
   Yi nt js (upI X Fi) (g.low X.K) (frT λH1=>upBK ⟨X.K,H1⟩ Fc) (frE λH1=>upK ⟨X.K,H1⟩ Fe) σ H Q:=by
 obtain⟨ρ,f,d,rs,e0,k⟩:=h;obtain⟨items,ei,e1⟩:=i0 e0;obtain⟨vs0,ec,e2⟩:=i0 e1;cases e2;clear e0 e1;refine⟨ρ,items,rs,ei,λJ H1 sm hsz wk D hD=>?_⟩;have nD:H D=ag:=sm.free hD;refine⟨λi m ys H2=>m=items.length-i/\H2 D=aa (.lst ys)/\Same H1 (hidL [D] H2)/\∃ds rest,RpEs ⟨X.K,H1⟩ ds (hidL [D] H2) ys/\CS g Fc Fe (sigD nt js ρ) (items.drop i)=aa rest/\ds++rest=vs0,⟨_,rfl,A0,?_,[],vs0,rfl,ec,rfl⟩,?_⟩
 .rw[JK,z1x hD];exact Same.refl _
 rintro i m ys H2 ⟨rfl,e2,s2,ds,rest,r2,c2,es⟩;obtain⟨w1,w2⟩:=wk [D] H2 s2 (λa ha=>by rw[wI.mp ha];exact⟨_,e2⟩);by_cases hlt:i<items.length
 .obtain⟨x,hx⟩:∃x,items[i]?=aa x:=⟨_,wa hlt⟩;have hdrop:items.drop i=x::items.drop (i+1):=by
    rw[uH hlt];rw[wa hlt]at hx;cases hx;rfl
  rw[hdrop]at c2;unfold CS at c2;obtain⟨ρ1,p1,c3⟩:=i0 c2;obtain⟨b,p2,c4⟩:=i0 c3;obtain⟨go,yl⟩:=w1 i x hx;refine .inr ⟨go,λxv H3 y3=>?_⟩;obtain⟨s3,k3,r3⟩:=yl xv H3 y3;have e3:H3 D=aa (.lst ys):=by rw[k3 D (by simp)];exact e2
  have s13:Same H1 (hidL [D] H3):=s2.trans s3;refine Tg.low_mono (Tg.sim (Y:=⟨X.K,H1⟩) (Hh:=hidL [D] H3) w8 ((rs.mono (sm.trans s13)).sigs hj s13) r3 p1) ?_;rintro σ4 H4 ⟨eH,rs4⟩;subst eH;have own:∀{H':Hp},H' D=aa (.lst ys)->∀a∈[D],(∃vs,H' a=aa (.lst vs))/\H1 a=ag:=λ{H'}z a ha=>by
    rw[wI.mp ha];exact⟨⟨ys,z⟩,hD⟩
  refine⟨[D],own e3,ρ1,b,rs4,p2,λH5 s5 n5=>?_⟩;have h5:hidL [D] (J5 [D] H4 H5)=H5:=Z9 n5;have e5:J5 [D] H4 H5 D=aa (.lst ys):=by rw[DY (by simp)];exact e3
  have m5:items.length-(i+1)<items.length-i:=by rfl'
  dsimp only;cases b with
  | true =>
    rw[ar rfl]at c4|-;obtain⟨⟨fv,dv⟩,p3,c5⟩:=i0 c4;obtain⟨rest',p4,c6⟩:=i0 c5;cases c6;have rs5:RepS ⟨X.K,H1⟩ H5 ρ1 σ4:=rs4.mono s5;refine⟨[D],own e5,ρ1,fv,dv,by rw[h5];exact rs5,p3,λv H6 s6 r6 n6=>?_⟩;rw[h5]at s6 r6;have h6:hidL [D] (J5 [D] (J5 [D] H4 H5) H6)=H6:=Z9 n6;have r2':RpEs ⟨X.K,H1⟩ ds H6 ys:=r2.mono (s3.trans (s5.trans s6));have hlen:ys.length<sizeLine:=by
      have a1:=HG ec;have a2:=r2.length;rw[<-es,wB,wo]at a1;rfl'
    refine⟨by rw[DY (by simp)];exact e5,hlen,_,m5,rfl,A0,?_,ds++[(fv,dv)],rest',?_,p4,by rw[ui];exact es⟩
    .rw[JK,h6];exact s13.trans (s5.trans s6)
    .rw[JK,h6];exact r2'.append ⟨v,[],rfl,RpE.of rs5.base r6,rfl⟩
  | false =>
    rw[aw wL]at c4|-;refine⟨_,m5,rfl,e5,?_,ds,rest,?_,c4,es⟩
    .rw[h5];exact s13.trans s5
    .rw[h5];exact r2.mono (s3.trans s5)
 .have hd:items.drop i=[]:=uR (by rfl');rw[hd]at c2;cases c2;rw[vn]at es;subst es;refine .inl ⟨w2 i (by rfl'),k _ H2 (sm.trans (s2.trans w8)) ?_⟩;by_cases q:AF ds=ac
  .rw[ar q];exact(Rp.lst_ (K:=X.K) (B:=H)).mpr ⟨D,ys,rfl,nD,e2,Rps.anti (show Same H H1 from sm) _ (r2.fr q)⟩
  .rw[aw q];exact⟨Rp.lst_.mpr ⟨D,ys,rfl,rfl,e2,r2.sh⟩,⟨_,rfl⟩,λa e=>by cases e;exact nD⟩
theorem X1(S:CompScope X N scope nt js)(hc:X.calm=ac)(hi:PFI X tg iter Fi)(hg:∀cl C fp s H,PG (C1 X N scope cl C fp s H) tg (g.low X.K))(hb:g.below nt)
  (hcs:∀cl C fp s H,PFTs (C1 X N scope cl C fp s H) ifs Fc) (he:∀cl C fp s H,PF (C1 X N scope cl C fp s H) elt Fe) (hj:∀j∈js,j<X.N.length)
  (hs:∀x,bF iter X.env x=pure x:=by intro _;rfl):PF X (.ListComp elt [⟨tg,iter,ifs,0⟩] scope pos) (j6 nt js Fi g Fc Fe):=by
 intro π s σ H Q I h;exact z4H S hc hi hg (Tg.ok hb) (λcl C fp s H=>PTs.frame (t:=λH1=>upBK ⟨X.K,H1⟩ Fc) (hcs cl C fp s H)) (λcl C fp s H=>PE.frame (he cl C fp s H)) hs π s σ H Q I (Yp (λj z=>by rw[I.len];exact hj j z) h)
end
end L2
end
section
namespace L2
open PySem.W
def C2(h:aV)(e:aj)(c:ao):Prop:=∃oe vs,h.get? e=aa oe/\oe.data=.fields vs/\vs[2]?=aa c
section
variable {M:Model}{A:bj}{E:aC}{s:am}{base:aV}{env:Env}{outer l:fU}{L e:aj}{cls a0:ao}{Q:Unit->am->Prop}
theorem Yq{oe:Obj}{vs:fV}{head:ao}{hn:Bool}(hfr:A.frames=aa (env::outer))(hl:s.heap.FunFrames base (env::outer))(hf:env.frame=aa L)(g0:s.heap.get? e=aa oe)(sb:base.StaysIn s.heap)(en:base.get? e=ag)(gd:oe.data=.fields vs)(gs:1<vs.size)(ga:vs[0]?=aa a0)
   (k:∀h',Heap.NotedW base (env::outer) e oe.cls a0 (cS L) s.heap h'->(∀c,vs[2]?=aa c->C2 h' e c)->Q () { s with heap:=h' }) :
   ay M A (do let a <-frameOf env;let pl <-entryPlaceOf L hn;let b <-EntryCells.newEntry head a .none (cS L) .none pl;setField (.ref e) 1 b) Q E s:=by
 have nf:e∉(env::outer).filterMap (·.frame):=λm=>by
   obtain⟨_,o,go,no⟩:=hl.mem m;rw[g0]at go;cases go;exact no vs gd
 refine ah (wpAny_frameOf_fun hfr hl hf λhA so=>ah (wpAny_entryPlaceOf λpp ip=>?_));unfold EntryCells.newEntry newFields;refine ah (cw ?_ (ip.sizeOk5 _ _ _ _ _));generalize eo:({ cls:=.type "traceback",dict:=ag,data:=.fields ([head,.ref L,.none,cS L,.none]++(if pp.isEmpty then bg 6 bw else pp)).toArray }:Obj)=ot;have g1:hA.get? e=aa oe:=(so.2.1 e nf).trans g0;have s1:base.StaysIn hA:=λb o go=>(so.2.1 b λm=>by rw[(hl.mem m).1]at go;cases go).trans (sb b o go);have g2:(hA.push ot).get? e=aa oe:=wf _ g1;refine dE g2 gd gs (k _ ?_ ?_)
 all_goals
   have ne:hA.objs.size≠e:=uF (wt g1);have d3:=cP gd (·.setIfInBounds 1 (bq hA.objs.size));have g3:=uw (df (·.setIfInBounds 1 (bq hA.objs.size))) g2 (eD d3)
 .have t3:((hA.push ot).update e (df (·.setIfInBounds 1 (bq hA.objs.size)))).get? hA.objs.size=aa ot:=(vL _ _ (bL ne)).trans (wx hA (by rw[<-eo];rfl));have kp:∀b o,b≠e->hA.get? b=aa o->((hA.push ot).update e (df (·.setIfInBounds 1 (bq hA.objs.size)))).get? b=aa o:=λb o n go=>by
    rw[vL _ _ (bL n)];exact wf _ go
  have nr:∀b o,s.heap.get? b=aa o->(∀ws,o.data ≠ .fields ws)->b≠e:=λb o go no q=>by
    rw[q,g0]at go;cases go;exact no vs gd
  refine⟨λb o go=>kp b o (λq=>by rw[q,en]at go;cases go) (s1 b o go),hl.of_keeps λb o go no=>?_,⟨_,_,hA.objs.size,ot,_,g3,⟨Obj.cls_mapFields _ _,by rw[eP (by decide)];exact ga⟩,d3,by simp[gs],s1.fresh,ne,t3,by rw[<-eo],by first|(simp;done)|(rcases ip with rfl|⟨_,_,_,_,_,_,_,rfl⟩<;>simp)⟩,λb o go no=>?_⟩
  .obtain⟨sl,hs⟩:=so.2.2 b o go;exact⟨_,kp b _ (nr b o go no) hs,rfl⟩
  .obtain⟨sl,hs⟩:=so.2.2 b o go;exact⟨sl,kp b _ (nr b o go no) hs⟩
 .exact λc hc=>⟨_,_,g3,d3,by rw[eP (by decide)];exact hc⟩
theorem Yr(hfr:A.frames=aa (env::outer))(hf:env.frame=aa L)(fl:dY base (env::outer) e cls a0 s.heap)
  (k:∀h',Heap.HeldW base (env::outer) e cls a0 L h'->s.heap.UpToSlots h'->(∀c,C2 s.heap e c->C2 h' e c)->Q () { s with heap:=h' }):ay M A (fH (.ref e) env) Q E s:=by
 obtain⟨sb,en,hl,oe,vs,T,oT,ts,g0,⟨gc,ga⟩,gd,g1,nT,Te,gT,gt,g3⟩:=fl;subst gc;unfold fH;simp only[hf];refine ah (bE g0 gd g1 ?_);rw[ar (show(bq T != bw)=ac from by simp)];refine ah (bE gT gt g3 ?_);rw[aw (show ¬((bw==cS L)=ac)from by simp[cS])];refine ah (dE gT gt (Array.getElem?_eq_some_iff.mp g3).1 ?_);have ot:∀b,b≠T->(s.heap.update T (df (·.setIfInBounds 3 bw))).get? b=s.heap.get? b:=λb hb=>vL _ _ (bL hb);have nr:∀b o,s.heap.get? b=aa o->(∀ws,o.data ≠ .fields ws)->b≠T:=λb o go no q=>by
  rw[q,gT]at go;cases go;exact no ts gt
 refine Yq (s:={ s with heap:=s.heap.update T (df (·.setIfInBounds 3 bw)) }) hfr (hl.of_keeps λb o go no=>⟨o,(ot b (nr b o go no)).trans go,rfl⟩) hf ((ot e (bL Te)).trans g0)
  (λb o go=>(ot b λq=>by rw[q,nT]at go;cases go).trans (sb b o go)) en gd (Array.getElem?_eq_some_iff.mp g1).1 ga λh'⟨x1,x2,x3,x4⟩x5=>k h' ⟨x1,en,x2,x3⟩ (λb o go no=>x4 b o ((ot b (nr b o go no)).trans go) no) λc⟨oe',vs',y1,y2,y3⟩=>?_
 rw[g0]at y1;cases y1;rw[gd]at y2;cases y2;exact x5 c y3
theorem Gp{fl:ao}(sb:base.StaysIn s.heap)(hl:s.heap.FunFrames base l)(en:base.get? e=ag)(ht:s.heap.TracedAtW base e cls a0 fl)
  (k:∀h',dY base l e cls a0 h'->s.heap.UpToSlots h'->(∀c,C2 s.heap e c->C2 h' e c)->Q () { s with heap:=h' }):ay M A (setFlight (.ref e) ag) Q E s:=by
 obtain⟨oe,vs,T,oT,ts,g0,gc,gd,g1,nT,Te,gT,gt,g3⟩:=ht;have sz:3<ts.size:=(Array.getElem?_eq_some_iff.mp g3).1;have ot:∀b,b≠T->(s.heap.update T (df (·.setIfInBounds 3 ((ag:fZ).elim bw λz=>cS z)))).get? b=s.heap.get? b:=λb hb=>vL _ _ (bL hb);have nr:∀b o,s.heap.get? b=aa o->(∀ws,o.data ≠ .fields ws)->b≠T:=λb o go no q=>by
  rw[q,gT]at go;cases go;exact no ts gt
 unfold setFlight;refine ah (bE g0 gd g1 ?_);rw[ar (show(bq T != bw)=ac from by simp)];have e0:=(ot e (bL Te)).trans g0;refine dE gT gt sz (k _ ⟨λb o go=>(ot b λq=>by rw[q,nT]at go;cases go).trans (sb b o go),en,hl.of_keeps λb o go no=>⟨o,(ot b (nr b o go no)).trans go,rfl⟩,oe,vs,T,_,_,e0,gc,gd,g1,nT,Te,uw _ gT (eD (cP gt _)),cP gt _,by simp[sz]⟩
  (λb o go no=>⟨o.slots,(ot b (nr b o go no)).trans go⟩) λc⟨oe',vs',y1,y2,y3⟩=>⟨oe',vs',(ot e (bL Te)).trans y1,y2,y3⟩)
theorem z1y(hfr:A.frames=aa (env::outer))(hf:env.frame=aa L)(fl:dY base (env::outer) e cls a0 s.heap)
  (k:∀h',dY base outer e cls a0 h'->s.heap.UpToSlots h'->(∀c,C2 s.heap e c->C2 h' e c)->Q () { s with heap:=h' }):ay M A (leaving env (.ref e)) Q E s:=by
 unfold leaving;refine ah (Yr hfr hf fl λh1⟨x1,x2,x3,x4⟩us cc=>Gp (s:={ s with heap:=h1 }) x1 x3 x2 x4 λh2⟨y1,y2,⟨_,_,y3⟩,y4⟩us2 cc2=>k h2 ⟨y1,y2,y3,y4⟩ (us.trans us2) λc z=>cc2 c (cc c z))
theorem made_c{h:aV}{args:aF}(hfr:A.frames=aa (env::outer))(hf:env.frame=aa L)(sb:base.StaysIn h)(hl:h.FunFrames base (env::outer))(hx:Heap.MadeExcOf h s.heap e cls args)
  (k:∀h' t,dY base outer e cls (.ref t) h'->s.heap.UpToSlots h'->C2 h' e .none->Q () { s with heap:=h' }):ay M A (leaving env (.ref e)) Q E s:=by
 obtain⟨t,g0,tn,gt⟩:=hx.there;have fr:∀b,h.get? b=ag->base.get? b=ag:=λb hb=>by
  cases q:base.get? b with
  |none=>rfl
  |some o=>have:=sb b o q;rw[hb]at this;cases this
 unfold leaving fH;simp only[hf];refine ah (ah (bE g0 rfl (x:=.none) rfl ?_));rw[aw (show ¬((bw != bw)=ac)from by decide)];exact Yq (a0:=.ref t) hfr (hl.of_keeps λb o hb _=>⟨o,hx.keeps b o hb,rfl⟩) hf g0 (λb o hb=>hx.keeps b o (sb b o hb)) (fr e hx.new) rfl (show 1<6 by decide) rfl λh1⟨x1,x2,x3,x4⟩x5=>
  Gp (s:={ s with heap:=h1 }) x1 x2 (fr e hx.new) x3 λh2⟨y1,y2,⟨_,_,y3⟩,y4⟩us2 cc2=>k h2 t ⟨y1,y2,y3,y4⟩ (Heap.UpToSlots.trans x4 us2) (cc2 _ (x5 _ rfl))
end
end L2
end
section
namespace L2
open PySem.W
def Fly(h0:aV)(H:Hp)(e C:aj)(c:ao)(h:aV):Prop:=
 h0.get? e=ag/\H e=ag/\∃oe vs T oT ts a0,h.get? e=aa oe/\oe.cls=.ref C/\vs[0]?=aa a0/\oe.data=.fields vs/\vs[1]?=aa (.ref T)/\h0.get? T=ag/\H T=ag/\T≠e/\h.get? T=aa oT/\oT.data=.fields ts/\ts[3]?=aa .none/\vs[2]?=aa c
def ctxO:ao->fZ
 |.none=>ag
 |_=>aa 0
theorem OX{l:fU}{env:Env}{a:aj}(h:env∈l)(e:env.frame=aa a):a∈frs l:=vP.mpr ⟨env,h,e⟩
theorem UpToSlots.trans{h h1 h2:aV}(a:h.UpToSlots h1)(b:h1.UpToSlots h2):h.UpToSlots h2:=λc o e n=>by
 obtain⟨sl,e1⟩:=a c o e n;obtain⟨sl2,e2⟩:=b c _ e1 n;exact⟨sl2,e2⟩
section
variable {P:aL}{w:aH}{fs ex:fP}{H0 H:Hp}{h0 h h':aV}{l:fU}{bas:aV}{e C:aj}{c:ao}
theorem z1z(u:Un fs ex H0 H h0 h)(k:∀b o o',h0.get? b=aa o->h.get? b=aa o'->b∉frs l->h'.get? b=aa o')(sl:∀b∈frs l,∀o,h.get? b=aa o->∃z,h'.get? b=aa { o with slots:=z })
  (hf:∀b∈frs l,b∈fs\/h0.get? b=ag):Un fs ex H0 H h0 h' where
 keep:=λb o q n hb hx=>k b o o q (u.keep b o q n hb hx) λz=>(hf b z).elim hb λe=>by rw[e]at q;cases q
 slot:=λb o q n hb hx=>by
  obtain⟨z,e⟩:=u.slot b o q n hb hx;by_cases m:b∈frs l
  .obtain⟨z',e'⟩:=sl b m _ e;exact⟨z',e'⟩
  .exact⟨z,k b o _ q e m⟩
 free:=u.free
 there:=λb o q hx=>by
  obtain⟨o',e⟩:=u.there b o q hx;by_cases m:b∈frs l
  .obtain⟨z',e'⟩:=sl b m _ e;exact⟨_,e'⟩
  .exact⟨_,k b o _ q e m⟩
 tups:=u.tups
 frzs:=u.frzs
 tbls:=u.tbls
theorem ObjOk.obj{a:aj}{o:HO}(x:ObjOk P w H h a o):∃ob,h.get? a=aa ob:=by
 cases o with
 |lst xs=>obtain⟨_,_,_,_,e⟩:=x;exact⟨_,e⟩
 |tup xs=>obtain⟨_,_,_,_,e,_⟩:=x;exact⟨_,e⟩
 |dK kvs=>obtain⟨_,_,_,_,o,_,_,e,_⟩:=x;exact⟨_,e⟩
 |dT kvs=>obtain⟨_,_,_,_,o,_,_,e,_⟩:=x;exact⟨_,e⟩
 |set S n=>obtain⟨o,_,_,_,e,_⟩:=x;exact⟨_,e⟩
 |ins C dx fs=>obtain⟨_,_,_,e,_⟩:=x;exact⟨_,e⟩
 |own y=>obtain⟨_,e⟩:=x;exact⟨_,e⟩
 |xd fs=>obtain⟨_,⟨_,_,_,e,_⟩,_⟩:=x;exact⟨_,e⟩
 |rng lo hi=>obtain⟨_,_,_,e⟩:=x;exact⟨_,e⟩
 |frz ob u=>obtain⟨e,_⟩:=x;exact⟨_,e⟩
 |tbl ps=>exact⟨_,show h.get? a=aa _ from x⟩
 |met f y=>exact⟨_,show h.get? a=aa _ from x⟩
 |ext φ=>obtain⟨_,⟨_,e⟩,_⟩:=x;exact⟨_,e⟩
theorem Ys(hok:HOk P w H h)(k:∀b o,H b≠ag->h.get? b=aa o->h'.get? b=aa o):HOk P w H h':=λb ob e=>
 (hok b ob e).stay (fun c v hc q=>k c v (by
  rcases hc with rfl|hc
  .rw[e];exact λz=>nomatch z
  .rw[hc];exact λz=>nomatch z) q) (λ_ q=>q) λ_ _ q=>q
theorem Fly.c2(f:Fly h0 H e C c h):C2 h e c:=by
 obtain⟨n,n2,oe,vs,T,oT,ts,a0,q1,q2,q3,q4,q5,q6,q7,q8,q9,q10,q11,q12⟩:=f;exact⟨oe,vs,q1,q4,q12⟩
theorem Fly.base(f:Fly h0 H e C c h)(ff:h.FunFrames bas l):∃T a0,h0.get? T=ag/\H T=ag/\(hideAll h (e::T::frs l)).FlyingW l e (.ref C) a0 h:=by
 obtain⟨n,n2,oe,vs,T,oT,ts,a0,q1,q2,q3,q4,q5,q6,q7,q8,q9,q10,q11,_⟩:=f;refine⟨T,a0,q6,q7,λb o z=>of_hideAll _ z,fI _ (by simp),funFrames_hide ff λenv he a ea=>by simp[OX he ea],oe,vs,T,oT,ts,q1,⟨q2,q3⟩,q4,q5,fI _ (by simp),q8,q9,q10,q11⟩
theorem Fly.step{T:aj}{l':fU}{a0:ao}(n:h0.get? e=ag)(n2:H e=ag)(n3:h0.get? T=ag)(n4:H T=ag)(ff:h.FunFrames bas l)(st:∀b∈frs l,H b=ag)(hok:HOk P w H h)(u:Un fs ex H0 H h0 h)
   (f:(hideAll h (e::T::frs l)).FlyingW l' e (.ref C) a0 h') (us:h.UpToSlots h') (hf:∀b∈frs l,b∈fs\/h0.get? b=ag) (hx:∀b o,h0.get? b=aa o->b∉ex) (cc:C2 h' e c):Fly h0 H e C c h'/\HOk P w H h'/\Un fs ex H0 H h0 h':=by
 have sl:∀b∈frs l,∀o,h.get? b=aa o->∃z,h'.get? b=aa { o with slots:=z }:=λb hb o q=>by
   obtain⟨_,o',q',nf⟩:=ff.mem hb;rw[q]at q';cases q';exact us b o q nf
 have k:∀b o,h.get? b=aa o->b∉(e::T::frs l)->h'.get? b=aa o:=λb o q m=>f.1 b o (hideAll_get _ q m);obtain⟨s1,s2,s3,oe,vs,T',oT,ts,q1,⟨q2,q3⟩,q4,q5,q6,q7,q8,q9,q10⟩:=f;have hT:T'=T\/h.get? T'=ag:=by
   by_cases m:T'∈(e::T::frs l)
   .rcases wn.mp m with z|m
    .exact aN z q7
    .rcases wn.mp m with z|m
     .exact .inl z
     .obtain⟨_,o,e1,nf⟩:=ff.mem m;obtain⟨z,e2⟩:=sl T' m o e1;rw[q8]at e2;cases e2;exact aN q9 (nf ts)
   .refine .inr ?_;cases z:h.get? T' with
    |none=>rfl
    |some o=>rw[hideAll_get _ z m]at q6;cases q6
 have q12:vs[2]?=aa c:=by
   obtain⟨oe',vs',y1,y2,y3⟩:=cc;rw[q1]at y1;cases y1;rw[q4]at y2;cases y2;exact y3
 refine⟨⟨n,n2,oe,vs,T',oT,ts,a0,q1,q2,q3,q4,q5,?_,?_,q7,q8,q9,q10,q12⟩,Ys hok λb o hb q=>k b o q λm=>?_,z1z u (λb o o' q q' m=>k b o' q' λz=>?_) sl hf⟩
 .rcases hT with z|z
  .rw[z];exact n3
  .cases y:h0.get? T' with
   |none=>rfl
   |some o=>obtain⟨o',e'⟩:=u.there T' o y (hx T' o y);rw[z]at e';cases e'
 .rcases hT with z|z
  .rw[z];exact n4
  .cases y:H T' with
   |none=>rfl
   | some o =>
     obtain⟨ob,q⟩:=(hok T' o y).obj;rw[z]at q;cases q
 .rcases wn.mp m with z|m
  .exact hb (z ▸ n2)
  .rcases wn.mp m with z|m
   .exact hb (z ▸ n4)
   .exact hb (st b m)
 .rcases wn.mp z with z|z
  .rw[z,n]at q;cases q
  .rcases wn.mp z with z|z
   .rw[z,n3]at q;cases q
   .exact m z
end
def CX1(P:aL)(w:aH):CXT:=λouter H s E e s'=>
 ∃ea C H' c,e=.ref ea/\s'.os=s.os/\eE s'.gens/\Un (frs outer) [] H H' s.heap s'.heap/\HOk P w H' s'.heap/\Fly s.heap H' ea C c s'.heap/\E (.ref C) (ctxO c) H'
section
variable {P:aL}{w:aH}{K:aD}{mg:aE}{base:aV}{N:fO}{qual:Str}{scope:Scope}{f:aj}{cd:ao}{A:bj}{outer:fU}{s₀:am}{H₀:Hp}{E:XK}
abbrev cx1(P:aL)(w:aH)(K:aD)(mg:aE)(base:aV)(N:fO)(qual:Str)(scope:Scope)(f:aj)(cd:ao)(A:bj)(outer:fU)(s₀:am)(H₀:Hp)(E:XK):Cx:=cxOf (CX1 P w) P w K mg base N qual scope f cd A outer s₀ H₀ E
theorem pass1:BQ (CX1 P w) (cx1 P w K mg base N qual scope f cd A outer s₀ H₀ E) E:=by
 rintro π σ H s e s' I ⟨ea,C,H',c,rfl,os,bare,un,hok,fly,hE⟩;have I':Inv (cx1 P w K mg base N qual scope f cd A outer s₀ H₀ E) π σ H' s':=I.call' os un hok bare λb z=>aN z (by simp);have ff:=I'.stack;obtain⟨T,a0,n3,n4,fl⟩:=fly.base ff;have c2:=fly.c2;obtain⟨n1,n2,_⟩:=fly;have old:∀{b:aj},s.heap.get? b=ag->s₀.heap.get? b=ag:=λ{b}z=>by
  cases y:s₀.heap.get? b with
  |none=>rfl
  |some o=>obtain⟨o',e'⟩:=I.base.there b o y (by show b∉([]:fP);simp);rw[z]at e';cases e'
 refine z1y I'.ok.frames rfl fl λh' fl' us cc=>?_;have hf:∀b∈frs (ci qual scope s₀.heap.objs.size f cd::outer),b∈frs outer\/s₀.heap.get? b=ag:=λb hb=>by
  rcases wn.mp (I'.stkSub b hb)with z|z
  .rw[z];exact .inr (vS (wv _))
  .exact .inl z
 obtain⟨f1,f2,f3⟩:=Fly.step (P:=P) (w:=w) (old n1) n2 (old n3) n4 ff I'.stkFree I'.hok I'.base fl' us hf (λb o _=>by show b∉([]:fP);simp) (cc c c2);exact⟨ea,C,H',c,rfl,I'.os,I'.bare,f3,f2,f1,hE⟩
theorem rais1{π:aB}{σ:St}{H:Hp}{s s':am}{ea C:aj}{args:aF}(I:Inv (cx1 P w K mg base N qual scope f cd A outer s₀ H₀ E) π σ H s)(m:s.heap.MadeExcOf s'.heap ea (.ref C) args)(os:s'.os=s.os)(gn:s'.gens=s.gens)(hE:E (.ref C) ag H):
  (cx1 P w K mg base N qual scope f cd A outer s₀ H₀ E).xe (.ref ea) s':=by
 have ff:=I.stack;have old:∀{b:aj},s.heap.get? b=ag->s₀.heap.get? b=ag:=λ{b}z=>by
  cases y:s₀.heap.get? b with
  |none=>rfl
  |some o=>obtain⟨o',e'⟩:=I.base.there b o y (by show b∉([]:fP);simp);rw[z]at e';cases e'
 have unt:∀{b:aj},s.heap.get? b=ag->H b=ag:=λ{b}z=>by
  cases y:H b with
  |none=>rfl
  |some o=>obtain⟨o',e'⟩:=(I.hok b o y).obj;rw[z]at e';cases e'
 refine made_c (base:=hideAll s.heap (frs (ci qual scope s₀.heap.objs.size f cd::outer))) (h:=s.heap) I.ok.frames rfl (λb o z=>of_hideAll _ z) (funFrames_hide ff λenv he a ea=>OX he ea) m λh' t fl' us cc=>?_;have hf:∀b∈frs (ci qual scope s₀.heap.objs.size f cd::outer),b∈frs outer\/s₀.heap.get? b=ag:=λb hb=>by
  rcases wn.mp (I.stkSub b hb)with z|z
  .rw[z];exact .inr (vS (wv _))
  .exact .inl z
 have sl:∀b∈frs (ci qual scope s₀.heap.objs.size f cd::outer),∀o,s.heap.get? b=aa o->∃z,h'.get? b=aa { o with slots:=z }:=λb hb o q=>by
  obtain⟨_,o',q',nf⟩:=ff.mem hb;rw[q]at q';cases q';exact us b o (m.keeps b o q) nf
 have k:∀b o,s.heap.get? b=aa o->b∉frs (ci qual scope s₀.heap.objs.size f cd::outer)->h'.get? b=aa o:=λb o q n=>fl'.1 b o (hideAll_get _ q n);obtain⟨s1,s2,s3,oe,vs,T,oT,ts,q1,⟨q2,q3⟩,q4,q5,q6,q7,q8,q9,q10⟩:=fl';have q12:vs[2]?=aa .none:=by
  obtain⟨oe',vs',y1,y2,y3⟩:=cc;rw[q1]at y1;cases y1;rw[q4]at y2;cases y2;exact y3
 have hT:s.heap.get? T=ag:=by
  by_cases mT:T∈frs (ci qual scope s₀.heap.objs.size f cd::outer)
  .obtain⟨_,o,e1,nf⟩:=ff.mem mT;obtain⟨z,e2⟩:=sl T mT o e1;rw[q8]at e2;cases e2;exact aN q9 (nf ts)
  .cases z:s.heap.get? T with
   |none=>rfl
   |some o=>rw[hideAll_get _ z mT]at q6;cases q6
 refine⟨ea,C,H,.none,rfl,os.trans I.os,by rw[gn];exact I.bare,z1z (l:=ci qual scope s₀.heap.objs.size f cd::outer) I.base (λb o o' _ q' n=>k b o' q' n) sl hf,Ys I.hok λb o hb q=>k b o q λz=>hb (I.stkFree b z),⟨old m.new,unt m.new,oe,vs,T,oT,ts,_,q1,q2,q3,q4,q5,old hT,unt hT,q7,q8,q9,q10,q12⟩,hE⟩
end
def exN:Nat->Str
 |0=>"HallError"
 |1=>"NoHall"
 |2=>"NoBasket"
 |3=>"NoPlace"
 |4=>"NoText"
 |5=>"Unlike"
 |6=>"TooMany"
 |8=>"NoText"
 |_=>"NotWithin"
def wk(n:Nat):Bool:=n==8
def HFly(h0:aV)(H:Hp)(e C L:aj)(c:ao)(h:aV):Prop:=
 h0.get? e=ag/\H e=ag/\∃oe vs T oT ts a0,h.get? e=aa oe/\oe.cls=.ref C/\vs[0]?=aa a0/\oe.data=.fields vs/\vs[1]?=aa (.ref T)/\h0.get? T=ag/\H T=ag/\T≠e/\h.get? T=aa oT/\oT.data=.fields ts/\ts[3]?=aa (cS L)/\vs[2]?=aa c
def z1A(X:Cx)(E:XK):Prop:=∀(π:aB)(σ:St)(H:Hp)(s:am)(ea C L:aj)(c:ao),X.env.frame=aa L->Inv X π σ H s->HFly X.s₀.heap H ea C L c s.heap->E (.ref C) (ctxO c) H->X.xe (.ref ea) s
theorem landH1{P:aL}{w:aH}{K:aD}{mg:aE}{base:aV}{N:fO}{qual:Str}{scope:Scope}{f:aj}{cd:ao}{A:bj}{outer:fU}{s₀:am}{H₀:Hp}{E:XK}:
  z1A (cx1 P w K mg base N qual scope f cd A outer s₀ H₀ E) E:=by
 rintro π σ H s ea C L c hL I ⟨n1,n2,oe,vs,T,oT,ts,a0,q1,q2,q3,q4,q5,n3,n4,q8,q9,q10,q11,q12⟩ hE;have ff:=I.stack;have hh:(hideAll s.heap (ea::T::frs (ci qual scope s₀.heap.objs.size f cd::outer))).HeldW (ci qual scope s₀.heap.objs.size f cd::outer) ea (.ref C) a0 L s.heap:=
  ⟨λb o z=>of_hideAll _ z,fI _ (by simp),funFrames_hide ff λenv he a ea=>by simp[OX he ea],oe,vs,T,oT,ts,q1,⟨q2,q3⟩,q4,q5,fI _ (by simp),q8,q9,q10,q11⟩
 show ay _ _ (leaving _ _) _ _ _;unfold leaving;refine ah (wpAny_noteFrame_againW hL hh.2.2.2 (Gp hh.1 hh.2.2.1 hh.2.1 hh.2.2.2 λh' fl' us cc=>?_));have hf:∀b∈frs (ci qual scope s₀.heap.objs.size f cd::outer),b∈frs outer\/s₀.heap.get? b=ag:=λb hb=>by
  rcases wn.mp (I.stkSub b hb)with z|z
  .rw[z];exact .inr (vS (wv _))
  .exact .inl z
 obtain⟨f1,f2,f3⟩:=Fly.step (P:=P) (w:=w) n1 n2 n3 n4 ff I.stkFree I.hok I.base fl' us hf (λb o _=>by show b∉([]:fP);simp) (cc c ⟨oe,vs,q1,q4,q12⟩);exact⟨ea,C,H,c,rfl,I.os,I.bare,f3,f2,f1,hE⟩
def XOk(X:Cx)(H₀:Hp)(wk:Bool)(C:aj):Prop:=∃E:XK,(∀H o,Same H₀ H->(o=ag\/wk=ac)->E (.ref C) o H)/\BQ (CX1 X.prog X.w) X E /\
 (∀(π:aB)(σ:St)(H:Hp)(s s':am)(ea:aj)(args:aF),Inv X π σ H s->s.heap.MadeExcOf s'.heap ea (.ref C) args->s'.os=s.os->s'.gens=s.gens->E (.ref C) ag H->X.xe (.ref ea) s')/\z1A X E
theorem XOk.base{X:Cx}{H₀ H1:Hp}{wk:Bool}{C:aj}(h:XOk X H₀ wk C)(s:Same H₀ H1):XOk X H1 wk C:=by
 obtain⟨E,a,b,c⟩:=h;exact⟨E,λH o z=>a H o (s.trans z),b,c⟩
theorem xok1{P:aL}{w:aH}{K:aD}{mg:aE}{base:aV}{N:fO}{qual:Str}{scope:Scope}{f:aj}{cd:ao}{A:bj}{outer:fU}{s₀:am}{H₀:Hp}{E:XK}{wk:Bool}{C:aj}(h:∀H o,Same H₀ H->(o=ag\/wk=ac)->E (.ref C) o H):
 XOk (cx1 P w K mg base N qual scope f cd A outer s₀ H₀ E) H₀ wk C:=⟨E,h,pass1,λπ σ H s s' ea args I m os gn hE=>rais1 I m os gn hE,landH1⟩
end L2
end
section
local macro_rules|`(tactic|rfl')=>`(tactic|first|lia|omega +splitDisjunctions)
namespace L2
abbrev Own:=List (Nat×aj)
abbrev Own.adr(O:Own):fP:=O.map (·.2)
def z1B(X:Cx)(H:Hp)(O:Own)(i:Nat):Cell->Option V->Prop
 |.no,_=>True
 |.ex,o=>∃a φ,o=aa (.ref a)/\hidL O.adr H a=aa (.ext φ)/\∀h,φ h->z1m X.K a h
 |.sh f d,o=>∃v,o=aa v/\Rp X.K (bsOf X.ky f) d (hidL O.adr H) v
 |.ow f ds,o=>∃a vs,(i,a)∈O/\o=aa (.ref a)/\H a=aa (.lst vs)/\Rps X.K (bsOf X.ky f) ds (hidL O.adr H) vs
structure RepO(X:Cx)(H₀ H:Hp)(O:Own)(ρ:Rho)(σ:St):Prop where
 ndA:O.adr.Nodup
 ndI:(O.map (·.1)).Nodup
 own:OwnL X O.adr H
 len:ρ.length=σ.length
 b0:Same X.H₀ H₀
 same:Same H₀ (hidL O.adr H)
 at_:∀(i:Nat)(c:Cell),ρ[i]?=aa c->∃o,σ[i]?=aa o/\z1B X H O i c o
def RepB(X:Cx)(H₀ H:Hp)(ρ:Rho)(σ:St):Prop:=∃O,RepO X H₀ H O ρ σ
def Gq:Cell->Cell
 |.ow _ _=>.no
 |c=>c
def V8:Rho->Rho
 |[]=>[]
 |c::ρ=>Gq c::V8 ρ
theorem Nn:∀ρ:Rho,V8 ρ=ρ.map Gq
 |[]=>rfl
 |c::ρ=>by rw[V8,Nn ρ,wq]
section
variable {X:Cx}{H₀ H H':Hp}{O:Own}{ρ:Rho}{σ:St}
theorem RepO.mono(h:RepO X H₀ H O ρ σ)(sm:Same H H'):RepO X H₀ H' O ρ σ:=by
 refine⟨h.ndA,h.ndI,λa ha=>?_,h.len,h.b0,h.same.trans (A7 sm),λi c e=>?_⟩
 .obtain⟨⟨vs,q⟩,z⟩:=h.own a ha;exact⟨⟨vs,sm _ _ q⟩,z⟩
 .obtain⟨o,e1,e2⟩:=h.at_ i c e;refine⟨o,e1,?_⟩;cases c with
  |no=>trivial
  |ex=>obtain⟨a,φ,q,r,z⟩:=e2;exact⟨a,φ,q,A7 sm _ _ r,z⟩
  |sh f d=>obtain⟨v,q,r⟩:=e2;exact⟨v,q,Rp.mono _ (A7 sm) r⟩
  |ow f ds=>obtain⟨a,vs,q1,q2,q3,r⟩:=e2;exact⟨a,vs,q1,q2,sm _ _ q3,Rps.mono _ (A7 sm) r⟩
theorem RepO.base(h:RepO X H₀ H O ρ σ){H1:Hp}(sm:Same H1 H₀)(b:Same X.H₀ H1):RepO X H1 H O ρ σ:=⟨h.ndA,h.ndI,h.own,h.len,b,sm.trans h.same,h.at_⟩
theorem RepO.below(h:RepO X H₀ H O ρ σ):Same X.H₀ H:=h.b0.trans (h.same.trans w8)
theorem RepO.bsFree(h:RepO X H₀ H O ρ σ){a:aj}(ha:a∈O.adr)(f:Bool):bsOf X.ky f a=ag:=by
 cases f with
 |false=>rfl
 |true=>exact(h.own a ha).2
theorem AG{i:Nat}{a:aj}(h:(i,a)∈O):a∈O.adr:=wg.mpr ⟨_,h,rfl⟩
theorem RepO.all(h:RepO X H₀ H O ρ σ):RepS X.ky H ρ σ:=by
 refine⟨h.len,h.below,λi c e=>?_⟩;obtain⟨o,e1,e2⟩:=h.at_ i c e;refine⟨o,e1,?_⟩;cases c with
 |no=>trivial
 |ex=>obtain⟨a,φ,q,r,z⟩:=e2;exact⟨a,φ,q,w8 _ _ r,z⟩
 |sh f d=>obtain⟨v,q,r⟩:=e2;exact⟨v,q,Rp.mono _ w8 r⟩
 |ow f ds=>
  obtain⟨a,vs,q1,q2,q3,r⟩:=e2;exact⟨_,q2,Rp.lst_.mpr ⟨a,vs,rfl,h.bsFree (AG q1) f,q3,Rps.mono _ (V5 λb hb=>by rw[wI.mp hb];exact AG q1) r⟩⟩
theorem RepO.rest(h:RepO X H₀ H O ρ σ):RepS X.ky (hidL O.adr H) (V8 ρ) σ:=by
 rw[Nn];refine⟨by rw[wj];exact h.len,h.b0.trans h.same,λi c e=>?_⟩;rw[wy]at e;cases q:ρ[i]? with
 |none=>rw[q]at e;cases e
 |some c'=>
  rw[q]at e;obtain⟨o,e1,e2⟩:=h.at_ i c' q;refine⟨o,e1,?_⟩;cases c' with
  |no=>cases e;trivial
  |ex=>cases e;exact e2
  |sh f d=>cases e;obtain⟨v,q,r⟩:=e2;exact⟨v,q,r⟩
  |ow f ds=>cases e;trivial
def X8(O:Own)(i:Nat):Own:=O.filter λp=>p.1 != i
theorem Q7{p:Nat×aj}{i:Nat}:p∈X8 O i↔p∈O/\p.1≠i:=by
 unfold X8;rw[vm];simp
theorem F5{i:Nat}:∀a∈(X8 O i).adr,a∈O.adr:=λa ha=>by
 obtain⟨p,hp,e⟩:=wg.mp ha;exact wg.mpr ⟨p,(Q7.mp hp).1,e⟩
theorem RepO.set(h:RepO X H₀ H O ρ σ){i:Nat}{f:Bool}{d:Dt}{v:V}(r:Rp X.K (bsOf X.ky f) d (hidL O.adr H) v):RepO X H₀ H (X8 O i) (ρ.set i (.sh f d)) (σ.set i (aa v)):=by
 have sm:Same (hidL O.adr H) (hidL (X8 O i).adr H):=V5 F5;refine⟨h.ndA.sublist (bP _ (vj)),h.ndI.sublist (bP _ (vj)),λa ha=>h.own a (F5 a ha),by rw[vq,vq];exact h.len,h.b0,h.same.trans sm,λj c q=>?_⟩;by_cases e:i=j
 .subst e;rw[vz,ar rfl]at q;rw[vz,ar rfl];split at q
  .rename_i hl;cases q;rw[ar (by rw[<-h.len];exact hl)];exact⟨_,rfl,v,rfl,Rp.mono _ sm r⟩
  .cases q
 .rw[vg e]at q|-;obtain⟨o,e1,e2⟩:=h.at_ j c q;refine⟨o,e1,?_⟩;cases c with
  |no=>trivial
  |ex=>obtain⟨a,φ,q,r,z⟩:=e2;exact⟨a,φ,q,sm _ _ r,z⟩
  |sh f d=>obtain⟨v,q,r⟩:=e2;exact⟨v,q,Rp.mono _ sm r⟩
  |ow f ds=>obtain⟨a,vs,q1,q2,q3,r⟩:=e2;exact⟨a,vs,Q7.mpr ⟨q1,λz=>e z.symm⟩,q2,q3,Rps.mono _ sm r⟩
theorem Kr{D:aj}{A:fP}{H:Hp}:hidL A (hidL [D] H)=hidL (D::A) H:=funext λb=>by
 unfold hidL;by_cases q1:b=D
 .subst q1;simp
 .by_cases q2:b∈A
  .simp[q1,q2]
  .simp[q1,q2]
theorem RepO.setNew(h:RepO X H₀ H' O ρ σ){i:Nat}{D:aj}{f:Bool}{ds:gf}{vs:gg}(hi:i<ρ.length)(sm0:Same H' H)(hN:H' D=ag)(hD:H D=aa (.lst vs))(hn:D∉O.adr)(hX:X.H₀ D=ag)
   (r:Rps X.K (bsOf X.ky f) ds (hidL (D::O.adr) H) vs):RepO X H₀ H ((i,D)::X8 O i) (ρ.set i (.ow f ds)) (σ.set i (aa (.ref D))):=by
 have sub:∀a∈(Own.adr ((i,D)::X8 O i)),a∈D::O.adr:=λa ha=>by
   rcases wn.mp ha with z|z
   .rw[z];exact we
   .exact wc _ (F5 a z)
 have sm:Same (hidL (D::O.adr) H) (hidL (Own.adr ((i,D)::X8 O i)) H):=V5 sub;have sm1:Same H' (hidL [D] H):=λb o e=>by
   rw[r9 (by rw[wI];rintro rfl;rw[hN]at e;cases e)];exact sm0 _ _ e
 have sm2:Same (hidL O.adr H') (hidL (D::O.adr) H):=by rw[<-Kr];exact A7 sm1
 have nD:D∉(X8 O i).adr:=λz=>hn (F5 D z);refine⟨vD.mpr ⟨nD,h.ndA.sublist (bP _ (vj))⟩,vD.mpr ⟨λz=>?_,h.ndI.sublist (bP _ (vj))⟩,λa ha=>?_,by rw[vq,vq];exact h.len,h.b0,h.same.trans (sm2.trans sm),λj c q=>?_⟩
 .obtain⟨p,hp,e⟩:=wg.mp z;exact(Q7.mp hp).2 e
 .rcases wn.mp ha with z|z
  .rw[z];exact⟨⟨vs,hD⟩,hX⟩
  .obtain⟨⟨ws,q⟩,z2⟩:=h.own a (F5 a z);exact⟨⟨ws,sm0 _ _ q⟩,z2⟩
 .by_cases e:i=j
  .subst e;rw[vz,ar rfl,ar hi]at q;rw[vz,ar rfl,ar (by rw[<-h.len];exact hi)];cases q;exact⟨_,rfl,D,vs,we,rfl,hD,Rps.mono _ sm r⟩
  .rw[vg e]at q|-;obtain⟨o,e1,e2⟩:=h.at_ j c q;refine⟨o,e1,?_⟩;cases c with
   |no=>trivial
   |ex=>obtain⟨a,φ,q,r,z⟩:=e2;exact⟨a,φ,q,(sm2.trans sm) _ _ r,z⟩
   |sh f d=>obtain⟨v,q,r⟩:=e2;exact⟨v,q,Rp.mono _ (sm2.trans sm) r⟩
   |ow f ds'=>
    obtain⟨a,vs',q1,q2,q3,r⟩:=e2;exact⟨a,vs',wc _ (Q7.mpr ⟨q1,λz=>e z.symm⟩),q2,sm0 _ _ q3,Rps.mono _ (sm2.trans sm) r⟩
theorem Yt{O:Own}(nd:O.adr.Nodup):∀{p q:Nat×aj},p∈O->q∈O->p.2=q.2->p=q:=by
 induction O with
 |nil=>intro p q hp;cases hp
 |cons o O ih=>
  intro p q hp hq e;have nd:(o.2::O.map (·.2)).Nodup:=nd;obtain⟨n1,n2⟩:=vD.mp nd;rcases wn.mp hp with hp|hp<;>rcases wn.mp hq with hq|hq
  .rw[hp,hq]
  .exact aN (wg.mpr ⟨q,hq,by rw[<-e,hp]⟩) n1
  .exact aN (wg.mpr ⟨p,hp,by rw[e,hq]⟩) n1
  .exact ih n2 hp hq e
theorem z4P{O:Own}(nd:(O.map (·.1)).Nodup):∀{p q:Nat×aj},p∈O->q∈O->p.1=q.1->p=q:=by
 induction O with
 |nil=>intro p q hp;cases hp
 |cons o O ih=>
  intro p q hp hq e;have nd:(o.1::O.map (·.1)).Nodup:=nd;obtain⟨n1,n2⟩:=vD.mp nd;rcases wn.mp hp with hp|hp<;>rcases wn.mp hq with hq|hq
  .rw[hp,hq]
  .exact aN (wg.mpr ⟨q,hq,by rw[<-e,hp]⟩) n1
  .exact aN (wg.mpr ⟨p,hp,by rw[e,hq]⟩) n1
  .exact ih n2 hp hq e
theorem Ub{A:fP}{a:aj}{o:HO}{H:Hp}(h:a∈A):hidL A (upd H a o)=hidL A H:=funext λb=>by
 by_cases q:b∈A
 .rw[K9 q,K9 q]
 .rw[r9 q,r9 q,u6 λz=>q (by rw[z];exact h)]
theorem RepO.upd(h:RepO X H₀ H O ρ σ){i:Nat}{a:aj}{f g:Bool}{ds ds0:gf}{vs:gg}(hc:ρ[i]?=aa (.ow g ds0))(hi:(i,a)∈O)(r:Rps X.K (bsOf X.ky f) ds (hidL O.adr H) vs):
   RepO X H₀ (upd H a (.lst vs)) O (ρ.set i (.ow f ds)) σ:=by
 have ha:a∈O.adr:=AG hi;have hh:hidL O.adr (L2.upd H a (.lst vs))=hidL O.adr H:=Ub ha;have hlt:i<ρ.length:=by
   by_cases hlt:i<ρ.length
   .exact hlt
   .rw[wK (by rfl')]at hc;cases hc
 refine⟨h.ndA,h.ndI,λb hb=>?_,by rw[vq];exact h.len,h.b0,by rw[hh];exact h.same,λj c q=>?_⟩
 .by_cases e:b=a
  .subst e;exact⟨⟨vs,A0⟩,(h.own b hb).2⟩
  .rw[u6 e];exact h.own b hb
 .by_cases e:i=j
  .subst e;rw[vz,ar rfl,ar hlt]at q;cases q;obtain⟨o,e1,a',vs',q1,q2,q3,r'⟩:=h.at_ i _ hc;have e2:(i,a')=(i,a):=z4P h.ndI q1 hi rfl;cases e2;exact⟨o,e1,a,vs,hi,q2,A0,by rw[hh];exact r⟩
  .rw[vg e]at q;obtain⟨o,e1,e2⟩:=h.at_ j c q;refine⟨o,e1,?_⟩;cases c with
   |no=>trivial
   |ex=>obtain⟨b,φ,q,r,z⟩:=e2;exact⟨b,φ,q,by rw[hh];exact r,z⟩
   |sh f d=>obtain⟨v,q,r⟩:=e2;exact⟨v,q,by rw[hh];exact r⟩
   | ow f ds' =>
    obtain⟨b,vs',q1,q2,q3,r'⟩:=e2;have hne:b≠a:=λz=>by
     have:=Yt h.ndA q1 hi z;exact e (bI Prod.fst this).symm
    exact⟨b,vs',q1,q2,by rw[u6 hne];exact q3,by rw[hh];exact r'⟩
def relC:Cell->Cell
 |.ow f ds=>.sh f (.lst ds)
 |c=>c
def Rs(ρ:Rho)(i:Nat):Rho:=match ρ[i]? with|some c=>ρ.set i (relC c)|none=>ρ
def relS:fQ->Rho->Rho
 |[],ρ=>ρ
 |i::is,ρ=>relS is (Rs ρ i)
theorem RepO.rel(h:RepO X H₀ H O ρ σ)(i:Nat):RepO X H₀ H (X8 O i) (Rs ρ i) σ:=by
 have sm:Same (hidL O.adr H) (hidL (X8 O i).adr H):=V5 F5;have hl:(Rs ρ i).length=ρ.length:=by
  unfold Rs;split
  .exact vq
  .rfl
 refine⟨h.ndA.sublist (bP _ (vj)),h.ndI.sublist (bP _ (vj)),λa ha=>h.own a (F5 a ha),hl.trans h.len,h.b0,h.same.trans sm,λj c q=>?_⟩;have other:∀{c:Cell},ρ[j]?=aa c->(∀f ds,c=.ow f ds->j≠i)->∃o,σ[j]?=aa o/\z1B X H (X8 O i) j c o:=λ{c}q hne=>by
  obtain⟨o,e1,e2⟩:=h.at_ j c q;refine⟨o,e1,?_⟩;cases c with
  |no=>trivial
  |ex=>obtain⟨a,φ,q,r,z⟩:=e2;exact⟨a,φ,q,sm _ _ r,z⟩
  |sh f d=>obtain⟨v,q,r⟩:=e2;exact⟨v,q,Rp.mono _ sm r⟩
  |ow f ds=>obtain⟨a,vs,q1,q2,q3,r⟩:=e2;exact⟨a,vs,Q7.mpr ⟨q1,hne f ds rfl⟩,q2,q3,Rps.mono _ sm r⟩
 unfold Rs at q;cases e:ρ[i]? with
 |none=>
  rw[e]at q;exact other q λf ds _ z=>by rw[z,e]at q;cases q
 |some c'=>
  rw[e]at q;dsimp only at q;by_cases hij:i=j
  .subst hij;have hlt:i<ρ.length:=by
    by_cases hlt:i<ρ.length
    .exact hlt
    .rw[wK (by rfl')]at e;cases e
   rw[vz,ar rfl,ar hlt]at q;cases q;cases c' with
   |no=>obtain⟨o,e1,e2⟩:=h.at_ i _ e;exact⟨o,e1,trivial⟩
   |ex=>exact other e λf ds z=>by cases z
   |sh f d=>exact other e λf ds z=>by cases z
   |ow f ds=>
    obtain⟨o,e1,a,vs,q1,q2,q3,r⟩:=h.at_ i _ e;have hna:a∉(X8 O i).adr:=λz=>by
      obtain⟨p,hp,ep⟩:=wg.mp z;have:=Yt h.ndA (Q7.mp hp).1 q1 ep;exact(Q7.mp hp).2 (by rw[this])
    refine⟨o,e1,.ref a,q2,Rp.lst_.mpr ⟨a,vs,rfl,h.bsFree (AG q1) f,by rw[r9 hna];exact q3,Rps.mono _ ?_ r⟩⟩;rw[Gj,Kr];refine V5 λb hb=>?_;rcases wn.mp hb with z|z
    .rw[z];exact AG q1
    .exact F5 b z
  .rw[vg hij]at q;exact other q λf ds _ z=>hij z.symm
theorem RepO.rels(h:RepO X H₀ H O ρ σ):∀is:fQ,∃O',RepO X H₀ H O' (relS is ρ) σ:=λis=>by
 induction is generalizing O ρ with
 |nil=>exact⟨O,h⟩
 |cons i is ih=>exact ih (h.rel i)
end
inductive Oc where
 |nx (ρ:Rho)|rt (f:Fl) (d:Dt)|bk (ρ:Rho)|ct (ρ:Rho)|ex (n:Nat)
def OcOk(X:Cx)(H₀:Hp)(D:Ends):Oc->Prop
 |.nx ρ=>∀σ H,RepB X H₀ H ρ σ->D.nx σ H
 |.rt f d=>∀v H,Same H₀ H->Rp X.K (bsOf X.ky f.isFr) d H v->D.rt v H
 |.bk ρ=>∀σ H,RepB X H₀ H ρ σ->D.bk σ H
 |.ct ρ=>∀σ H,RepB X H₀ H ρ σ->D.ct σ H
 |.ex n=>∀C,X.mg (exN n)=aa (.ref C)->XOk X H₀ (wk n) C
abbrev FS:=Rho->Option Oc
def upS(X:Cx)(F:FS):TS:=λD σ H=>∃H₀ ρ oc,RepB X H₀ H ρ σ/\F ρ=aa oc/\OcOk X H₀ D oc
def PFS(X:Cx)(st:aJ)(F:FS):Prop:=PS X st (upS X F)
def PFSs(X:Cx)(sts:fT)(F:FS):Prop:=PSs X sts (upS X F)
theorem PS.imp{X:Cx}{st:aJ}{t t':TS}(h:PS X st t)(q:∀D σ H,t' D σ H->t D σ H):PS X st t':=λπ s σ H D I z=>h π s σ H D I (q D σ H z)
theorem PSs.imp{X:Cx}{st:fT}{t t':TS}(h:PSs X st t)(q:∀D σ H,t' D σ H->t D σ H):PSs X st t':=λπ s σ H D I z=>h π s σ H D I (q D σ H z)
section
variable {X:Cx}{st:aJ}{rest:fT}{F G:FS}{e:aK}{Fe:FE}{pos:Pos}
def o7:FS:=λρ=>aa (.nx ρ)
def seqO(G:FS):Oc->Option Oc
 |.nx ρ=>G ρ
 |o=>aa o
noncomputable def sSeq(F G:FS):FS:=λρ=>(F ρ).bind (seqO G)
theorem u7:PFSs X [] o7:=z4t.imp (by rintro D σ H ⟨H₀,ρ,oc,rb,e,k⟩;cases e;exact k σ H rb)
theorem i9(h:PFS X st F):PFSs X [st] F:=V3 h
theorem d8(h1:PFS X st F)(h2:PFSs X rest G):PFSs X (st::rest) (sSeq F G):=(J4 h1 h2).imp λD σ H⟨H₀,ρ,oc,rb,e,k⟩=>by
 obtain⟨o1,e1,e2⟩:=i0 e;refine⟨H₀,ρ,o1,rb,e1,?_⟩;cases o1 with
 |nx ρ'=>exact λσ' H' rb'=>⟨H₀,ρ',oc,rb',e2,k⟩
 |rt f d=>cases e2;exact k
 |ex C=>cases e2;exact k
 |bk ρ'=>cases e2;exact k
 |ct ρ'=>cases e2;exact k
def C3:FS:=λ_=>ag
theorem BZ:PFS X st C3:=λπ s σ H D I⟨H₀,ρ,oc,rb,e,k⟩=>by cases e
noncomputable def sRet(F:FE):FS:=λρ=>(F ρ).map λx=>.rt x.1 x.2
theorem j9(he:PF X e Fe):PFS X (.Return (aa e) pos) (sRet Fe):=(Kc he).imp λD σ H⟨H₀,ρ,oc,⟨O,rb⟩,e0,k⟩=>by
 unfold sRet at e0;cases h:Fe ρ with
 |none=>rw[h]at e0;cases e0
 |some x=>
  rw[h]at e0;cases e0;refine⟨ρ,x.1,x.2,rb.all,h,λv H' sm r=>k v H' (rb.same.trans (w8.trans sm)) ?_⟩;by_cases q:x.1.isFr=ac
  .rw[q];exact r.fr rb.below q
  .rw[show x.1.isFr=af by simpa using q];exact r.sh
noncomputable def sIf(c:FT)(F G:FS):FS:=λρ=>(c ρ).bind λb=>if b then F ρ else G ρ
theorem s_if{c:aK}{a b:fT}{Fc:FT}(hc:PFT X c Fc)(ha:PFSs X a F)(hb:PFSs X b G):PFS X (.If c a b pos) (sIf Fc F G):=(Gh hc ha hb).imp λD σ H⟨H₀,ρ,oc,⟨O,rb⟩,e0,k⟩=>by
 obtain⟨z,e1,e2⟩:=i0 e0;refine⟨ρ,z,rb.all,e1,λH' sm=>?_⟩;dsimp only;cases z with
 |true=>rw[ar rfl]at e2|-;exact⟨H₀,ρ,oc,⟨O,rb.mono sm⟩,e2,k⟩
 |false=>rw[aw wL]at e2|-;exact⟨H₀,ρ,oc,⟨O,rb.mono sm⟩,e2,k⟩
def Bi(F:FE):FS:=λρ=>(F ρ).map λ_=>.nx ρ
theorem HH(he:PF X e Fe)(hs:bV e ag pos.line X.env=pure af:=by rfl):PFS X (.Expr e pos) (Bi Fe):=(DX he hs).imp λD σ H⟨H₀,ρ,oc,⟨O,rb⟩,e0,k⟩=>by
 unfold Bi at e0;cases h:Fe ρ with
 |none=>rw[h]at e0;cases e0
 |some x=>
  rw[h]at e0;cases e0;exact⟨ρ,x.1,x.2,rb.all,h,λv H' sm r=>k σ H' ⟨O,rb.mono sm⟩⟩
def AsgF(X:Cx)(st:aJ)(i:Nat)(F:FE):Prop:=PS X st (tAsg (upF X F) (Kd i))
theorem u8{i:Nat}{x:Str}{pos':Pos}(he:PF X e Fe)(hN:X.N.Nodup)(hi:X.N[i]?=aa x)(hx:Loc X.env.scope x)(hs:bV e (aa (.Name x pos')) pos.line X.env=pure af)(hf:X.fn x=ac\/X.env.scope.names.lookup x=aa .local):
 AsgF X (.Assign [.Name x pos'] e pos) i Fe:=ps_set hN hi hx he hs hf
theorem Rt{N:fO}{scope:Scope}{nt:Nat}{js:fQ}{tg elt iter:aK}{ifs:fR}{Fi:FI}{g:Tg}{Fc:FT}{i:Nat}{x:Str}{pos' spos:Pos}(hN:X.N.Nodup)(hix:X.N[i]?=aa x)(hx:X.env.scope.names.lookup x=aa .local)
  (hsw:bV (.ListComp elt [⟨tg,iter,ifs,0⟩] scope pos) (aa (.Name x pos')) spos.line X.env=pure ac)
  (S:CompScope X N scope nt js) (hc:X.calm=ac) (hi:PFI X tg iter Fi) (hg:∀cl C fp s H,PG (C1 X N scope cl C fp s H) tg (g.low X.K)) (hb:g.below nt)
  (hcs:∀cl C fp s H,PFTs (C1 X N scope cl C fp s H) ifs Fc) (he:∀cl C fp s H,PF (C1 X N scope cl C fp s H) elt Fe) (hj:∀j∈js,j<X.N.length)
  (hs:∀x,bF iter X.env x=pure x:=by intro _;rfl):AsgF X (.Assign [.Name x pos'] (.ListComp elt [⟨tg,iter,ifs,0⟩] scope pos) spos) i (j6 nt js Fi g Fc Fe):=by
 intro π s σ H D I h;exact z4I hN hix hx S hc hi hg (Tg.ok hb) (λcl C fp s H=>PTs.frame (t:=λH1=>upBK ⟨X.K,H1⟩ Fc) (hcs cl C fp s H)) (λcl C fp s H=>PE.frame (he cl C fp s H)) hsw hs π s σ H D I
  (Yp (λj z=>by rw[I.len];exact hj j z) h)
def sSet(rels:fQ)(i:Nat)(F:FE):FS:=λρ=>(F (V8 (relS rels ρ))).map λx=>.nx ((relS rels ρ).set i (.sh x.1.isFr x.2))
theorem E9{rels:fQ}{i:Nat}(ha:AsgF X st i Fe):PFS X st (sSet rels i Fe):=(PS.frame ha).imp λD σ H⟨H₀,ρ,oc,⟨O,rb⟩,e0,k⟩=>by
 unfold sSet at e0;cases h:Fe (V8 (relS rels ρ)) with
 |none=>rw[h]at e0;cases e0
 |some x=>
  rw[h]at e0;cases e0;obtain⟨O',rb'⟩:=rb.rels rels;refine⟨O'.adr,rb'.own,V8 (relS rels ρ),x.1,x.2,rb'.rest,h,λv H' sm r hn=>?_⟩;have hg:hidL O'.adr (J5 O'.adr H H')=H':=Z9 hn;have rb2:RepO X H₀ (J5 O'.adr H H') O' (relS rels ρ) σ:=rb'.mono (Same.glue sm hn);refine k _ _ ⟨_,rb2.set (f:=x.1.isFr) ?_⟩;rw[hg];by_cases q:x.1.isFr=ac
  .rw[q];exact r.fr (rb'.b0.trans rb'.same) q
  .rw[show x.1.isFr=af by simpa using q];exact r.sh
def Q8(i:Nat)(F:FE):FS:=λρ=>(F ρ).bind λx=>if x.1.isNw then aa (.nx (ρ.set i (.sh ac x.2))) else ag
theorem z1C{H H':Hp}{O:Own}{f:Fl}{d:Dt}{v:V}(ho:OwnL X O.adr H)(sm:Same H H')(q:f.isNw=ac)(r:RpF X.ky H f d H' v):Rp X.K H d (hidL O.adr H') v:=by
 cases f<;>first|cases q|skip
 refine Rp.hid (λb hb=>?_) d (λb hb o e=>?_) r
 .obtain⟨⟨vs,z⟩,_⟩:=ho b hb;rw[z];exact λw=>nomatch w
 .obtain⟨⟨vs,z⟩,_⟩:=ho b hb;rw[sm _ _ z]at e;cases e;exact⟨vs,rfl⟩
theorem CT{i:Nat}(ha:AsgF X st i Fe):PFS X st (Q8 i Fe):=PS.imp ha λD σ H⟨H₀,ρ,oc,⟨O,rb⟩,e0,k⟩=>by
 obtain⟨x,e1,e2⟩:=i0 e0;split at e2
 .rename_i q;cases e2;refine⟨ρ,x.1,x.2,rb.all,e1,λv H' sm r=>k _ _ ⟨_,(rb.mono sm).set (f:=ac) ?_⟩⟩;exact Rp.anti rb.below _ (z1C rb.own sm q r)
 .cases e2
def sOwn(i:Nat)(F:FE):FS:=λρ=>(F (V8 ρ)).bind λx=>match x with
 |(.nw,.lst ds)=>if i<ρ.length then aa (.nx (ρ.set i (.ow ac ds))) else ag
 |(.tn,.lst ds)=>if i<ρ.length then aa (.nx (ρ.set i (.ow af ds))) else ag
 |_=>ag
theorem Ks{i:Nat}(ha:AsgF X st i Fe):PFS X st (sOwn i Fe):=(PS.frame ha).imp λD σ H⟨H₀,ρ,oc,⟨O,rb⟩,e0,k⟩=>by
 obtain⟨x,e1,e2⟩:=i0 e0;refine⟨O.adr,rb.own,V8 ρ,x.1,x.2,rb.rest,e1,λv H' sm r hn=>?_⟩;have hg:hidL O.adr (J5 O.adr H H')=H':=Z9 hn;have sg:Same H (J5 O.adr H H'):=Same.glue sm hn;have new:∀{f:Bool}{ds:gf}{D:aj}{vs:gg},hidL O.adr H D=ag->H' D=aa (.lst vs)->Rps X.K (bsOf X.ky f) ds (hidL [D] H') vs->i<ρ.length->RepB X H₀ (J5 O.adr H H') (ρ.set i (.ow f ds)) (σ.set i (aa (.ref D))):=by
   intro f ds D vs hD hv hr hi;have nO:D∉O.adr:=λz=>by rw[hn D z]at hv;cases hv
   have hH:H D=ag:=by rw[r9 nO]at hD;exact hD
   refine⟨_,rb.setNew hi sg hH (by rw[G4 nO];exact hv) nO (rb.below.free hH) ?_⟩;rw[<-Kr,Gj,hg];exact hr
 split at e2
 .rename_i ds;split at e2
  .rename_i hi;cases e2;obtain⟨D,vs,rfl,h0,h1,h2⟩:=(Rp.lst_ (K:=X.K)).mp (show Rp X.K (hidL O.adr H) (.lst ds) H' v from r);exact k _ _ (new (f:=ac) h0 h1 (Rps.anti (rb.b0.trans rb.same) _ h2) hi)
  .cases e2
 .rename_i ds;split at e2
  .rename_i hi;cases e2;obtain⟨D,vs,rfl,h0,h1,h2⟩:=Rp.lst_.mp r.1;exact k _ _ (new (f:=af) (r.2.2 D rfl) h1 h2 hi)
  .cases e2
 .cases e2
def F0(c:FT)(F:FS):Nat->FS
 |0,_=>ag
 |n+1,ρ=>(c ρ).bind λb=>if b then(F ρ).bind λoc=>match oc with|.nx ρ'=>F0 c F n ρ'|.ct ρ'=>F0 c F n ρ'|.bk ρ'=>aa (.nx ρ')|.rt f d=>aa (.rt f d)|.ex C=>aa (.ex C) else aa (.nx ρ)
open Classical in
noncomputable def AY(c:FT)(F:FS):FS:=λρ=>if h:∃n o,F0 c F n ρ=aa o then aa (choose (choose_spec h)) else ag
theorem AH{c:FT}{F:FS}:∀{n m:Nat}{ρ:Rho}{o:Oc},n<=m->F0 c F n ρ=aa o->F0 c F m ρ=aa o
 |0,m,ρ,o,_,h=>by cases h
 |n+1,0,ρ,o,hl,h=>by rfl'
 | n+1,m+1,ρ,o,hl,h=>by
  unfold F0 at h|-;obtain⟨b,e1,e2⟩:=i0 h;rw[e1];show(if b=ac then _ else _)=_;cases b with
  |false=>exact e2
  |true=>
   rw[ar rfl]at e2|-;obtain⟨oc,e3,e4⟩:=i0 e2;rw[e3];cases oc with
   |nx ρ'=>exact AH (by rfl') e4
   |ct ρ'=>exact AH (by rfl') e4
   |bk ρ'=>exact e4
   |rt f d=>exact e4
   |ex C=>exact e4
theorem Eb{c:FT}{F:FS}{n:Nat}{ρ:Rho}{o:Oc}(h:F0 c F n ρ=aa o):AY c F ρ=aa o:=by
 have hx:∃n o,F0 c F n ρ=aa o:=⟨n,o,h⟩;unfold AY;rw[dif_pos hx];have z:=wP (wP hx);have a:=AH (Nat.le_max_left n (vK hx)) h;have b:=AH (Nat.le_max_right n (vK hx)) z;rw[a]at b;exact b.symm
theorem z05{c:FT}{F:FS}{ρ:Rho}{o:Oc}(h:AY c F ρ=aa o):∃n,F0 c F n ρ=aa o:=by
 unfold AY at h;split at h
 .rename_i hx;cases h;exact⟨_,wP (wP hx)⟩
 .cases h
theorem OY{c:aK}{body:fT}{Fc:FT}(hp:fJ (model X.prog X.w) X.A X.env X.xe)(hc:PFT X c Fc)(hb:PFSs X body F):PFS X (.While c body [] pos) (AY Fc F):=(z0Z hp hc hb).imp λD σ H⟨H₀,ρ,oc,rb,e0,k⟩=>by
 obtain⟨n0,e1⟩:=z05 e0;refine⟨λm σ' H'=>∃ρ',RepB X H₀ H' ρ' σ'/\F0 Fc F m ρ'=aa oc,⟨n0,ρ,rb,e1⟩,?_⟩;rintro m σ' H' ⟨ρ',⟨O,rb'⟩,w'⟩;cases m with
 |zero=>cases w'
 | succ n =>
  unfold F0 at w';obtain⟨z,p1,p2⟩:=i0 w';refine⟨ρ',z,rb'.all,p1,λH2 sm=>?_⟩;dsimp only;cases z with
  |false=>
   rw[aw wL]at p2|-;cases p2;exact k _ _ ⟨O,rb'.mono sm⟩
  |true=>
   rw[ar rfl]at p2|-;obtain⟨oc',p3,p4⟩:=i0 p2;refine⟨λσ' H'=>∃ρ'',RepB X H₀ H' ρ'' σ'/\F0 Fc F n ρ''=aa oc,λσ3 H3⟨ρ3,rb3,w3⟩=>⟨n,vE n,ρ3,rb3,w3⟩,H₀,ρ',oc',⟨O,rb'.mono sm⟩,p3,?_⟩;cases oc' with
   |nx ρ3=>exact λσ3 H3 rb3=>⟨ρ3,rb3,p4⟩
   |ct ρ3=>exact λσ3 H3 rb3=>⟨ρ3,rb3,p4⟩
   |bk ρ3=>cases p4;exact k
   |rt f d=>cases p4;exact k
   |ex C=>cases p4;exact k
def forF(g:Tg)(F:FS):gf->FS
 |[],ρ=>aa (.nx ρ)
 |x::xs,ρ=>(g.put x ρ).bind λρ2=>(F ρ2).bind λoc=>match oc with|.nx ρ'=>forF g F xs ρ'|.ct ρ'=>forF g F xs ρ'|.bk ρ'=>aa (.nx ρ')|.rt f d=>aa (.rt f d)|.ex C=>aa (.ex C)
def sFor(rels:fQ)(Fi:FI)(g:Tg)(F:FS):FS:=λρ=>(Fi (V8 (relS rels ρ))).bind λitems=>forF g F items (relS rels ρ)
end
section
variable {X:Cx}{H₀ H H':Hp}{O:Own}{ρ ρ':Rho}{σ:St}
theorem Jc:∀{is:fQ}{ds:gf}{vs:gg}{O:Own}{ρ:Rho}{σ:St},RepO X H₀ H O ρ σ->Rps X.K emp ds (hidL O.adr H) vs->ds.length=is.length->AX ρ is ds=ρ' ->
  R8 is vs σ H λσ' H'=>H'=H/\∃O',RepO X H₀ H O' ρ' σ'
 |[],[],vs,O,ρ,σ,rs,r,hl,q=>⟨Rps.nil_.mp r,rfl,O,by rw[<-q];exact rs⟩
 |[],d::ds,vs,O,ρ,σ,rs,r,hl,q=>by cases hl
 |i::is,[],vs,O,ρ,σ,rs,r,hl,q=>by cases hl
 |i::is,d::ds,vs,O,ρ,σ,rs,r,hl,q=>by
  obtain⟨v,r',rfl,h1,h2⟩:=Rps.cons_.mp r;exact⟨v,r',rfl,Jc (rs.set (f:=af) h1) (Rps.mono _ (V5 F5) h2) (by simpa using hl) q⟩
theorem Tg.simO{g:Tg}{d:Dt}{v:V}(rs:RepO X H₀ H O ρ σ)(r:Rp X.K emp d (hidL O.adr H) v)(h:g.put d ρ=aa ρ'):
  g.low X.K v σ H λσ' H'=>H'=H/\∃O',RepO X H₀ H O' ρ' σ':=by
 cases g with
 |one i=>cases h;exact⟨rfl,_,rs.set (f:=af) r⟩
 |many is=>
  cases d<;>first|cases h|skip
  rename_i ds;replace h:(if ds.length=is.length then aa (AX ρ is ds) else ag)=aa ρ':=h;split at h
  .rename_i hl;obtain⟨a,vs,rfl,h1,h2⟩:=Rp.tup_.mp r;exact⟨a,vs,rfl,w8.seqT h1,by rw[h2.length];exact hl,Jc rs h2 hl (aP h)⟩
  .cases h
end
section
variable {X:Cx}{tg iter:aK}{body:fT}{Fi:FI}{g:Tg}{F:FS}{pos:Pos}
theorem Bj{rels:fQ}(hp:fJ (model X.prog X.w) X.A X.env X.xe)(hc:X.calm=ac)(hi:PFI X tg iter Fi)(hg:PG X tg (g.low X.K))(hb:PFSs X body F)
   (hs:∀x,bF iter X.env x=pure x:=by intro _;rfl):PFS X (.For tg iter body [] pos) (sFor rels Fi g F):=(z10 hp hc (PI.frame hi) hg hb hs).imp λD σ H⟨H₀,ρ,oc,⟨O,rb⟩,e0,k⟩=>by
 obtain⟨items,e1,e2⟩:=i0 e0;obtain⟨O',rb'⟩:=rb.rels rels;refine⟨O'.adr,rb'.own,V8 (relS rels ρ),items,rb'.rest,e1,λJ H1 sm hsz wk hn=>?_⟩;have hg1:hidL O'.adr (J5 O'.adr H H1)=H1:=Z9 hn;have s01:Same H₀ H1:=rb'.same.trans sm;have start:RepO X H1 (J5 O'.adr H H1) O' (relS rels ρ) σ:=by
   have z:=rb'.mono (Same.glue sm hn);exact⟨z.ndA,z.ndI,z.own,z.len,rb'.b0.trans s01,by rw[hg1];exact Same.refl _,z.at_⟩
 have back:∀{oc:Oc},OcOk X H₀ D oc->OcOk X H1 D oc:=λ{oc}z=>by
   cases oc with
   |nx ρ5=>exact λσ5 H5⟨O5,r5⟩=>z σ5 H5 ⟨O5,r5.base s01 rb'.b0⟩
   |bk ρ5=>exact λσ5 H5⟨O5,r5⟩=>z σ5 H5 ⟨O5,r5.base s01 rb'.b0⟩
   |ct ρ5=>exact λσ5 H5⟨O5,r5⟩=>z σ5 H5 ⟨O5,r5.base s01 rb'.b0⟩
   |rt f d=>exact λv H5 s5 r5=>z v H5 (s01.trans s5) r5
   |ex n=>exact λC q=>(z C q).base s01
 refine⟨λi m σ' H'=>m=items.length-i/\∃ρ',RepB X H1 H' ρ' σ'/\forF g F (items.drop i) ρ'=aa oc,⟨_,rfl,_,⟨O',start⟩,e2⟩,?_⟩;rintro i m σ' H' ⟨rfl,ρ',⟨O2,r2⟩,f2⟩;obtain⟨w1,w2⟩:=wk O2.adr H' r2.same λa ha=>by obtain⟨⟨vs,q⟩,_⟩:=r2.own a ha;exact⟨_,q⟩
 by_cases hlt:i<items.length
 .obtain⟨x,hx⟩:∃x,items[i]?=aa x:=⟨_,wa hlt⟩;have hdrop:items.drop i=x::items.drop (i+1):=by
   rw[uH hlt];rw[wa hlt]at hx;cases hx;rfl
  rw[hdrop]at f2;unfold forF at f2;obtain⟨ρ2,p1,f3⟩:=i0 f2;obtain⟨oc',p2,f4⟩:=i0 f3;obtain⟨go,yl⟩:=w1 i x hx;refine .inr ⟨go,λσ3 H3=>∃ρ3,RepB X H1 H3 ρ3 σ3/\forF g F (items.drop (i+1)) ρ3=aa oc,λσ3 H3⟨ρ3,r3,f3⟩=>⟨items.length-(i+1),by rfl',rfl,ρ3,r3,f3⟩,λxv H3 y3=>?_⟩;obtain⟨s3,k3,r3⟩:=yl xv H3 y3;have sm3:Same H' H3:=λb o e=>by
   by_cases hb:b∈O2.adr
   .rw[k3 b hb];exact e
   .exact(P0 (s3 b o (by rw[r9 hb];exact e))).2
  refine Tg.low_mono (Tg.simO (r2.mono sm3) r3 p1) ?_;rintro σ4 H4 ⟨eH,O4,r4⟩;subst eH;refine⟨H1,ρ2,oc',⟨O4,r4⟩,p2,?_⟩;cases oc' with
  |nx ρ5=>exact λσ5 H5 r5=>⟨ρ5,r5,f4⟩
  |ct ρ5=>exact λσ5 H5 r5=>⟨ρ5,r5,f4⟩
  |bk ρ5=>cases f4;exact back k
  |rt f d=>cases f4;exact back k
  |ex C=>cases f4;exact back k
 .have hd:items.drop i=[]:=uR (by rfl');rw[hd]at f2;cases f2;exact .inl ⟨w2 i (by rfl'),back k σ' H' ⟨O2,r2⟩⟩
end
section
variable {P:aL}{w:aH}{K:aD}{mg:aE}{base:aV}
def rho0(n:Nat)(ds:gf):Rho:=ds.map (Cell.sh af)++bg (n-ds.length) Cell.no
theorem EV{X:Cx}{H:Hp}{ds:gf}{vs:gg}{N:fO}(h0:X.H₀=H)(h:Rps X.K emp ds H vs):RepO X H H [] (rho0 N.length ds) (start N vs):=by
 have hl:=h.length;refine⟨w1o,w1o,λa ha=>(nomatch ha),by unfold rho0 start;simp[hl],by rw[h0];exact Same.refl H,by show Same H (hidL [] H);rw[Rk];exact Same.refl H,λi c e=>?_⟩;unfold rho0 at e;unfold start;by_cases hi:i<ds.length
 .rw[wV (by simpa using hi),wy]at e;cases q:ds[i]? with
  |none=>rw[q]at e;cases e
  | some d =>
    rw[q]at e;cases e;obtain⟨v,e1,e2⟩:=h.get q;refine⟨aa v,?_,v,rfl,by show Rp X.K emp d (hidL [] H) v;rw[Rk];exact e2⟩;rw[wV (by simp;rfl'),wy,e1];rfl
 .rw[vv (by simp;rfl'),vx]at e;split at e
  .cases e;rename_i hlt;simp at hlt;refine⟨ag,?_,trivial⟩;rw[vv (by simp;rfl'),vx,ar (by simp;rfl')]
  .cases e
noncomputable def cOf(np n:Nat)(fr:Bool)(F:FS):FC:=λds=>if ds.length=np then
 (F (rho0 n ds)).bind λoc=>match oc with|.rt f d=>if fr&&!(f.isFr||d.flat) then ag else aa d|.nx _=>aa .non|_=>ag
 else ag
theorem Fun.data{x qual:Str}{st:Stmt}{f:Addr}{fd:FuncData}{N ps:List Str}{k:Nat}{fr:Bool}{F:FS}(Fu:Fun K x qual st f fd)(S:FnScope N ps (b9 st))
    (body:∀(cdv:ao)(A:bj)(outer:fU)(s:am)(H:Hp)(E:XK),Room k (A.deeper (ci qual (b9 st) s.heap.objs.size f cdv)) ->
      PFSs (cxOf CX0 P w K mg base N qual (b9 st) f cdv A outer s H E).nox (G3 st) F):FnOk P w K mg base CX0 (k+1) f fd ps (spc K fr (cOf ps.length N.length fr F)):=by
  refine Fu.ok S (λvs H Q E h=>?_) (λcdv A outer s H vs Q E hr h=>?_)
  .obtain⟨ds,d,r,e,q⟩:=h;unfold cOf at e;split at e
   .rename_i hl;rw[r.length];exact hl
   .cases e
  .obtain⟨ ds,d,r,e,q⟩:=h
   unfold cOf at e;split at e
   .rename_i hl;obtain⟨oc,e1,e2⟩:=i0 e;refine⟨_,body cdv A outer s H E hr,H,rho0 N.length ds,oc,⟨[],EV rfl r⟩,e1,?_⟩;cases oc with
    |nx ρ=>cases e2;exact λσ H'⟨O,rb⟩=>q _ H' (rb.same.trans w8) (Rp.non_.mpr rfl)
    |bk ρ=>cases e2
    |ct ρ=>cases e2
    |ex C=>cases e2
    | rt f d' =>
      have e2:(if(fr&&!(f.isFr||d'.flat))=ac then ag else aa d')=aa d:=e2;split at e2
      .cases e2
      .rename_i hf;cases e2;refine λv H' sm r'=>q v H' sm ?_;cases fr with
       |false=>exact Rp.anti Same.emp _ r'
       | true =>
         have hf:f.isFr=ac\/d.flat=ac:=by
           cases h1:f.isFr<;>cases h2:d.flat<;>simp[h1,h2]at hf|-
         rcases hf with hf|hf
         .rw[hf]at r';exact r'
         .exact Rp.flat d hf r'
   .cases e
theorem z06{l:eU}{q:aL}{loose:fO}{XP:(aE)->aV->Prop}{YP:aH->aV->Prop}{d:DefRec}{K:aQ->aD}{x:Str}{k:Nat}{fr:Bool}{c:FC}(hn:l.most=aa 63)(hdf:d.params.defaults=[])
  (hY:∀(w:aH)(h:aV),YP w h->(K w.params).In h)
  (F:∀(w:World) (mg:Str→Option Value) (fa:Addr) (h:Heap),(K w.params).In h→h.Ns mainGlobals mg→mg d.name=some (.ref fa) →
   ∃fd:ak,(∀(s:am)(u:ao),fw s fd ⟨[u],[]⟩ [(x,u)])/\∀base:aV,(K w.params).In base->base.Ns az mg->FnOk l.prog w (K w.params) mg base CX0 k fa fd [x] (spc (K w.params) fr c))
  (hc:∀ns:aG,ns.length<=63->c [.scr ns]=aa (.bl ac))
  (hr:Room k eN):PySem.W.WalkO q loose XP YP l.row.toRowW d [] (λf vs=>PySem.call f vs):=
 L2.z4E (n:=63) (k:=k) (x:=x) (CX:=λ_=>CX0) (sp:=λw=>spc (K w.params) fr c) hn (by decide) hdf hr hY F
  (λw H a ns hl hO hS=>⟨[.scr ns],_,Rps.one (Rp.scr_.mpr ⟨a,rfl,rfl,SqF.of hS hO⟩),hc ns hl,λv H' _ r=>by cases fr<;>exact Rp.bl_.mp r⟩) λ_ _ _ _ _ z=>z
end
def OZ(XN:fO)(xs:List (Str×bA))(scope:Scope)(N:fO)(nt:Nat)(js:fQ):Bool:=
 decide ((scope.names.map (·.1)).Nodup)&&(N.length==nt+js.length)&&((av js.length).all λk=>match js[k]? with
  |some j=>(match N[nt+k]?,XN[j]? with|some x,aa y=>x==y&&scope.names.lookup x==aa .free|_,_=>af)
  |none=>af)&&scope.names.all λp=>p.2 !=.free||xs.lookup p.1==aa .cell||xs.lookup p.1==aa .free
theorem A1{X:Cx}{N:fO}{scope:Scope}{nt:Nat}{js:fQ}(XN:fO)(xs:List (Str×bA))(h1:X.N=XN)(h2:X.env.scope.names=xs)(hk:scope.kind=.function)(c:OZ XN xs scope N nt js=ac):CompScope X N scope nt js:=by
 unfold OZ at c;rw[wG,wG,wG]at c;obtain⟨⟨⟨c1,c2⟩,c3⟩,c4⟩:=c;have nd:=bo c1;refine⟨hk,nd,λx hx e=>by rw[W8 nd hx,e],beq_iff_eq.mp c2,λk j e=>?_,λx hx e=>?_⟩
 .have hk:k<js.length:=by
    by_cases hk:k<js.length
    .exact hk
    .rw[wK (by rfl')]at e;cases e
  have z:=vy.mp c3 k (wO.mpr hk);rw[e]at z;dsimp only at z;rw[h1];cases q1:N[nt+k]? with
  |none=>rw[q1]at z;cases z
  | some x =>
    cases q2:XN[j]? with
    |none=>rw[q1,q2]at z;cases z
    | some y =>
      rw[q1,q2]at z;dsimp only at z;rw[wG]at z;have exy:x=y:=beq_iff_eq.mp z.1;subst exy;exact⟨x,rfl,rfl,beq_iff_eq.mp z.2⟩
 .have z:=vy.mp c4 x hx;rw[e]at z;have z:(xs.lookup x.1==aa .cell||xs.lookup x.1==aa .free)=ac:=by simpa using z
  show X.env.scope.names.lookup x.1=_\/X.env.scope.names.lookup x.1=_;rw[h2];rcases ug _ _ |>.mp z with z|z
  .exact .inl (beq_iff_eq.mp z)
  .exact .inr (beq_iff_eq.mp z)
structure Df(K:aD)(mg:aE)(name:Str)(st:aJ)(ps:fO)(f:aj)(fd:ak):Prop where
 fn:Fun K name name st f fd
 mg:mg name=aa (.ref f)
 bd:Binds K fd ps []
theorem df_mk{K:aD}{h:aV}{mg:aE}(X:K.In h)(G:h.Ns az mg){x:Str}{st:aJ}{f:aj}{oc:ao}{od an:fZ}{osl:Array (fY)}{kV doc pm cdv ct:ao}{ps:fO}
  (e:aR K az x=aa (aa (.ref f))) (l:K.lookup f=aa ⟨oc,od,.func (bB x x (O9 st) (G3 st) (b9 st) .none kV doc pm an cdv ct),osl⟩) (c:cq K cdv x=ac) (k:bQ K (.ref f)=ac)
  (hb:∀(kV doc pm:ao)(an:fZ)(cdv ct:ao)(us:aF),us.length=ps.length->fe (bB x x (O9 st) (G3 st) (b9 st) .none kV doc pm an cdv ct) ⟨us,[]⟩=pure (ps.zip us)) :
  Df K mg x st ps f (bB x x (O9 st) (G3 st) (b9 st) .none kV doc pm an cdv ct):=
 ⟨z1e l c k,bG X G e,(z1e (st:=st) l c k).binds hb⟩
end L2
end
section
namespace ZL
def ItAt(h:aV)(tu:Bool)(it l:aj)(k:Nat):Prop:=if tu then h.IsTupleIter it l k else h.IsListIter it l k
def SqAt(h:aV)(tu:Bool)(l:aj)(xs:fV):Prop:=if tu then h.IsTuple l xs else h.IsList l xs
section
variable {h h':aV}{tu:Bool}{it l c:aj}{k:Nat}{xs:fV}
theorem ItAt.at(x:ItAt h tu it l k)(q:∀o,h.get? it=aa o->h'.get? it=aa o):ItAt h' tu it l k:=by
 unfold ItAt at x|-;cases tu with
 |true=>obtain⟨o,e,r⟩:=x;exact⟨o,q o e,r⟩
 |false=>obtain⟨o,e,r⟩:=x;exact⟨o,q o e,r⟩
theorem SqAt.at(x:SqAt h tu l xs)(q:∀o,h.get? l=aa o->h'.get? l=aa o):SqAt h' tu l xs:=by
 unfold SqAt at x|-;cases tu with
 |true=>obtain⟨o,e,r⟩:=x;exact⟨o,q o e,r⟩
 |false=>obtain⟨o,e,r⟩:=x;exact⟨o,q o e,r⟩
theorem ItAt.lt(x:ItAt h tu it l k):it<h.objs.size:=by
 unfold ItAt at x;cases tu with
 |true=>obtain⟨o,e,_⟩:=x;exact wt e
 |false=>obtain⟨o,e,_⟩:=x;exact wt e
theorem SqAt.lt(x:SqAt h tu l xs):l<h.objs.size:=by
 unfold SqAt at x;cases tu with
 |true=>obtain⟨o,e,_⟩:=x;exact wt e
 |false=>obtain⟨o,e,_⟩:=x;exact wt e
end
section
variable {prog:aL}{w:aH}{A:bj}{E:aC}{s:am}
theorem Uc{it t:aj}{i:Nat}{items:fV}{x:ao}{Q:aC}(a:s.heap.IsTupleIter it t i)(b:s.heap.IsTuple t items)(c:items[i]?=aa x)
  (q:∀h',h'.IsTupleIter it t (i+1)->dD it s.heap h'->Q x { s with heap:=h' }):ay (model prog w) A (cG (.ref it)) Q E s:=by
 obtain⟨o,e1,e2,e3⟩:=id a;obtain⟨p,f1,_,n,f2⟩:=b;unfold cG;refine ah (cQ (name:=bv "__next__") a.typeIs cD (cX cD a.typeIs F.entry_tuple_iterator_next ?_ (F.args_tuple_iterator_next_1 _)));show ay _ _ (field (.ref it) 0 >>= λz=>_) _ _ s;refine ah (bE e1 e3 (x:=bq t) rfl ?_);show ay _ _ (if(bq t==bw)=ac then _ else _) _ _ s;rw[aw (by exact wL)];show ay _ _ (field (.ref it) 1 >>= λz=>_) _ _ s;refine ah (bE e1 e3 (x:=dQ i 0) rfl ?_);show ay _ _ (seqItems? (.ref t) >>= λz=>_) _ _ s;refine ah (cz f1 f2 ?_);simp only[w0d,c];refine ah (dE e1 e3 (by simp) (aI ⟨x,rfl,aI (q _ ⟨_,uw _ e1 (eD (cP e3 _)),(Obj.cls_mapFields ..).trans e2,?_⟩ (dA ..))⟩));rw[cP e3];simp[cS]
theorem z07{it t:aj}{i:Nat}{items:fV}{Q:aC}(hn:A.handled=ag)(a:s.heap.IsTupleIter it t i)(b:s.heap.IsTuple t items)(c:items[i]?=ag)
  (q:∀h' e,Heap.ExtBut it s.heap h'->(∃o,h'.get? e=aa o/\o.cls=.type "StopIteration")->E (.ref e) { s with heap:=h' }):ay (model prog w) A (cG (.ref it)) Q E s:=by
 obtain⟨o,e1,e2,e3⟩:=id a;obtain⟨p,f1,_,n,f2⟩:=b;unfold cG;refine ah (cQ (name:=bv "__next__") a.typeIs cD (cX cD a.typeIs F.entry_tuple_iterator_next ?_ (F.args_tuple_iterator_next_1 _)));show ay _ _ (field (.ref it) 0 >>= λz=>_) _ _ s;refine ah (bE e1 e3 (x:=bq t) rfl ?_);show ay _ _ (if(bq t==bw)=ac then _ else _) _ _ s;rw[aw (by exact wL)];show ay _ _ (field (.ref it) 1 >>= λz=>_) _ _ s;refine ah (bE e1 e3 (x:=dQ i 0) rfl ?_);show ay _ _ (seqItems? (.ref t) >>= λz=>_) _ _ s;refine ah (cz f1 f2 ?_);simp only[w0d,c];refine ah (dS (ah (dE e1 e3 (by simp) ?_)));show ay _ _ (newExc (.type "StopIteration") [] >>= λz=>_) _ _ _;refine ah ?_;simp only[newExc,newTuple];refine ah (cw ?_ (by size_fits));refine ah (m:=eG _ _) (wpAny_of_eq (a:=bw) (by first|(simp only[eG];rfl)|rfl) ?_);refine cw ?_ (by size_fits);simp only[raiseNew];refine ah (wpAny_handled ?_)
 first|rw[hn]|rw[show A.in1.handled=ag from hn]
 refine ah (aI (wpAny_throw ?_));exact q _ _ (((dA ..).extBut.push _).push _) ⟨_,wx _ rfl,rfl⟩
theorem Np{tu:Bool}{it l:aj}{i:Nat}{items:fV}{x:ao}{Q:fY->am->Prop}(a:ItAt s.heap tu it l i)(b:SqAt s.heap tu l items)(c:items[i]?=aa x)
  (q:∀h',ItAt h' tu it l (i+1)->dD it s.heap h'->Q (aa x) { s with heap:=h' }):ay (model prog w) A (bh (.ref it)) Q E s:=by
 unfold bh;cases tu with
 |true=>exact ah (cL (Uc a b c λh' p1 p2=>aI (q h' p1 p2)))
 |false=>exact ah (cL (wpAny_nextOf_list_item a b c λh' p1 p2=>aI (q h' p1 p2)))
theorem Ru{tu:Bool}{it l:aj}{i:Nat}{items:fV}{Q:fY->am->Prop}(hn:A.handled=ag)(a:ItAt s.heap tu it l i)(b:SqAt s.heap tu l items)(c:items[i]?=ag)
  (q:∀h',Heap.ExtBut it s.heap h'->Q ag { s with heap:=h' }):ay (model prog w) A (bh (.ref it)) Q E s:=by
 unfold bh;cases tu with
 |true=>exact ah (cL (z07 hn a b c λh' e p1⟨o,p2,p3⟩=>ah (fF (T :="StopIteration") (b:=ac) ⟨o,p2,p3⟩ isSubtype_stop (aI (q h' p1)))))
 |false=>exact ah (cL (wpAny_nextOf_list_end hn a b c λh' e p1⟨o,p2,p3⟩=>ah (fF (T :="StopIteration") (b:=ac) ⟨o,p2,p3⟩ isSubtype_stop (aI (q h' p1)))))
def V9(h:aV)(z ti to:aj)(f:ao):Prop:=h.get? z=aa { cls:=.type "zip",dict:=ag,data:=.fields #[f,.bool af,.bool ac,.ref ti,.ref to],slots:=#[] }
structure Apart(z ti to i j a b:aj):Prop where
 p1:ti≠z
 p2:to≠z
 p3:i≠z
 p4:j≠z
 p5:ti≠to
 p6:ti≠i
 p7:ti≠j
 p8:to≠i
 p9:to≠j
 p10:i≠j
 a1:a≠z
 a2:a≠to
 a3:a≠i
 a4:a≠j
 b1:b≠z
 b2:b≠to
 b3:b≠i
 b4:b≠j
def zEnd(l:aF)(n:Nat):Sem PySem.Fin:=do
 if n > 0 then
  rule "zip.__next__.shorter";raiseError "ValueError" s!"zip() argument {n + 1} is shorter than {if n == 1 then "argument 1" else s!"arguments 1-{n}"}"
 for (e,m) in (l.drop 1).zipIdx 1 do
  if(<-bh e).isSome then
   rule "zip.__next__.longer";raiseError "ValueError" s!"zip() argument {m + 1} is longer than {if m == 1 then "argument 1" else s!"arguments 1-{m}"}"
 rule "zip.__next__.all-ended";ft
theorem z1D{z ti to i j a b:aj}{ta tb:Bool}{k:Nat}{xs ys:fV}{x y u v:ao}{Q:aC}(D:Apart z ti to i j a b)
  (hz:V9 s.heap z ti to .none) (hI:cC s.heap ti (.ref i) (.ref j)) (hO:cC s.heap to u v) (hi:ItAt s.heap ta i a k) (hj:ItAt s.heap tb j b k) (ha:SqAt s.heap ta a xs) (hb:SqAt s.heap tb b ys) (hx:xs[k]?=aa x) (hy:ys[k]?=aa y)
  (hQ:∀ h',V9 h' z ti to (rawInt s.heap.objs.size)→IsPair h' to x y→ItAt h' ta i a (k+1)→ItAt h' tb j b (k+1)→IsPair h' s.heap.objs.size x y→h'.objs.size=s.heap.objs.size+1 →
   (∀c o,c≠z->c≠to->c≠i->c≠j->s.heap.get? c=aa o->h'.get? c=aa o)->Q (.ref s.heap.objs.size) { s with heap:=h' }) :
  ay (model prog w) A (Builtin.«zip.__next__» ⟨[.ref z],[]⟩) (λfin s'=>∃v,fin=.done (.ret v)/\Q v s') E s:=by
 show ay _ _ (field (.ref z) 2 >>= λt=>_) _ _ _;refine ah (bE hz rfl (x:=eV ac) rfl ?_);show ay _ _ (field (.ref z) 3 >>= λt=>_) _ _ _;refine ah (bE hz rfl (x:=bq ti) rfl ?_);refine ah (cz hI rfl ?_);show ay _ _ (bT (.ref z) >>= λt=>_) _ _ _;refine ah ?_;unfold bT;refine ah (bE hz rfl (x:=bw) rfl (aI ?_));simp only[if_true];refine ah (dS ?_);refine ah (bE hz rfl (x:=bq to) rfl ?_);refine ah (cj hz (by simp) λg1 z1 m1=>?_);replace z1:V9 g1 z ti to .ellipsis:=z1;refine ah ?_;simp only[w14,w03,w1i,uQ];refine ah (ah (wpAny_onRaise ?_));show ay _ _ (bh (.ref i)) _ _ _;refine Np (hi.at λo e=>m1.extBut _ _ D.p3 e) (ha.at λo e=>m1.extBut _ _ D.a1 e) hx λg2 i2 m2=>?_;have o2:cC g2 to u v:=m2.extBut _ _ D.p8 (m1.extBut _ _ D.p2 hO);refine ah (cz o2 rfl ?_);refine ah (wpAny_updateSeq_pair o2 λg3 o3 m3=>?_);replace o3:cC g3 to x v:=o3;refine ah (wpAny_letGo (aI ?_));refine ah (ah (wpAny_onRaise ?_));show ay _ _ (bh (.ref j)) _ _ _;refine Np (hj.at λo e=>m3.extBut _ _ D.p9.symm (m2.extBut _ _ D.p10.symm (m1.extBut _ _ D.p4 e))) (hb.at λo e=>m3.extBut _ _ D.b2 (m2.extBut _ _ D.b3 (m1.extBut _ _ D.b1 e))) hy λg4 j4 m4=>?_;have o4:cC g4 to x v:=m4.extBut _ _ D.p9 o3;refine ah (cz o4 rfl ?_);refine ah (wpAny_updateSeq_pair o4 λg5 o5 m5=>?_);replace o5:cC g5 to x y:=o5;refine ah (wpAny_letGo (aI (aI ?_)));refine ah (cz o5 rfl ?_);refine ah (wpAny_newTuple ?_);have sz:g5.objs.size=s.heap.objs.size:=by rw[m5.1,m4.1,m3.1,m2.1,m1.1]
 have z5:V9 g5 z ti to .ellipsis:=m5.extBut _ _ D.p2.symm (m4.extBut _ _ D.p4.symm (m3.extBut _ _ D.p2.symm (m2.extBut _ _ D.p3.symm z1)));have k5:∀c o,c≠z->c≠to->c≠i->c≠j->s.heap.get? c=aa o->g5.get? c=aa o:=λc o c1 c2 c3 c4 e=>m5.extBut _ _ c2 (m4.extBut _ _ c4 (m3.extBut _ _ c2 (m2.extBut _ _ c3 (m1.extBut _ _ c1 e))));have i5:ItAt g5 ta i a (k+1):=i2.at λo e=>m5.extBut _ _ D.p8.symm (m4.extBut _ _ D.p10 (m3.extBut _ _ D.p8.symm e));have j5:ItAt g5 tb j b (k+1):=j4.at λo e=>m5.extBut _ _ D.p9.symm e;have zl:z<g5.objs.size:=wt z5;show ay _ _ (eQ (.ref z) (.ref g5.objs.size) >>= λt=>_) _ _ _;refine ah ?_;unfold eQ;have z6:V9 (g5.push { cls:=.type "tuple",data:=.seq #[x,y] }) z ti to .ellipsis:=wf _ z5;refine ah (cj z6 (by simp) λg7 z7 m7=>?_);replace z7:V9 g7 z ti to (cS g5.objs.size):=z7;refine cj z7 (by simp) λg8 z8 m8=>?_;replace z8:V9 g8 z ti to (cS g5.objs.size):=z8;have up:∀c o,c≠z->g5.get? c=aa o->g8.get? c=aa o:=λc o c1 e=>m8.extBut _ _ c1 (m7.extBut _ _ c1 (wf _ e));have t8:cC g8 g5.objs.size x y:=m8.extBut _ _ (uF zl) (m7.extBut _ _ (uF zl) (wx _ rfl));have s8:g8.objs.size=g5.objs.size+1:=by rw[m8.1,m7.1,vM]
 rw[sz]at z8 t8 s8;refine aI ⟨_,rfl,?_⟩;show Q (.ref g5.objs.size) _;rw[sz];exact hQ g8 z8 (up _ _ D.p2 o5) (i5.at λo e=>up _ o D.p3 e) (j5.at λo e=>up _ o D.p4 e) t8 s8 λc o c1 c2 c3 c4 e=>up c o c1 (k5 c o c1 c2 c3 c4 e)
theorem z4Q{z ti to i j a b:aj}{ta tb:Bool}{k:Nat}{xs ys:fV}{u v:ao}{Q:Fin->am->Prop}(hn:A.handled=ag)(D:Apart z ti to i j a b)
  (hz:V9 s.heap z ti to .none) (hI:cC s.heap ti (.ref i) (.ref j)) (hO:cC s.heap to u v) (hi:ItAt s.heap ta i a k) (hj:ItAt s.heap tb j b k) (ha:SqAt s.heap ta a xs) (hb:SqAt s.heap tb b ys) (hx:xs[k]?=ag) (hy:ys[k]?=ag)
  (hE:∀h' e,(∀c o,c≠z->c≠to->c≠i->c≠j->s.heap.get? c=aa o->h'.get? c=aa o)->(∃o,h'.get? e=aa o/\o.cls=.type "StopIteration")->E (.ref e) { s with heap:=h' }) :
  ay (model prog w) A (Builtin.«zip.__next__» ⟨[.ref z],[]⟩) Q E s:=by
 show ay _ _ (field (.ref z) 2 >>= λt=>_) _ _ _;refine ah (bE hz rfl (x:=eV ac) rfl ?_);show ay _ _ (field (.ref z) 3 >>= λt=>_) _ _ _;refine ah (bE hz rfl (x:=bq ti) rfl ?_);refine ah (cz hI rfl ?_);show ay _ _ (bT (.ref z) >>= λt=>_) _ _ _;refine ah ?_;unfold bT;refine ah (bE hz rfl (x:=bw) rfl (aI ?_));simp only[if_true];refine ah (dS ?_);refine ah (bE hz rfl (x:=bq to) rfl ?_);refine ah (cj hz (by simp) λg1 z1 m1=>?_);replace z1:V9 g1 z ti to .ellipsis:=z1;refine ah ?_;simp only[w14,w03,w1i,uQ];refine ah (ah (wpAny_onRaise ?_));show ay _ _ (bh (.ref i)) _ _ _;refine Ru hn (hi.at λo e=>m1.extBut _ _ D.p3 e) (ha.at λo e=>m1.extBut _ _ D.a1 e) hx λg2 m2=>?_;have z2:V9 g2 z ti to .ellipsis:=m2 _ _ D.p3.symm z1;refine ah (cj z2 (by simp) λg3 z3 m3=>?_);refine ah ?_;show ay _ _ (zEnd [.ref i,.ref j] 0) _ _ _;unfold zEnd;rw[aw (vG 0)];show ay _ _ (forIn [(bq j,1)] PUnit.unit _ >>= λt=>_) _ _ _;simp only[w03,uQ];refine ah (ah (ah (Ru hn (hj.at λo e=>m3.extBut _ _ D.p4 (m2 _ _ D.p10.symm (m1.extBut _ _ D.p4 e))) (hb.at λo e=>m3.extBut _ _ D.b1 (m2 _ _ D.b3 (m1.extBut _ _ D.b1 e))) hy λg4 m4=>?_)));simp only[Option.isSome_none,w08,if_false];refine aI (aI (ah (dS ?_)));unfold ft;refine ah ?_;simp only[newExc,newTuple];refine ah (cw ?_ (by size_fits));refine ah (m:=eG _ _) (wpAny_of_eq (a:=bw) (by first|(simp only[eG];rfl)|rfl) ?_);refine cw ?_ (by size_fits);simp only[raiseNew];refine ah (wpAny_handled ?_)
 first|rw[hn]|rw[show A.in1.handled=ag from hn]
 refine ah (aI (wpAny_throw ?_));refine hE _ _ (λc o c1 c2 c3 c4 e=>?_) ⟨_,wx _ rfl,rfl⟩;exact wf _ (wf _ (m4 _ _ c4 (m3.extBut _ _ c1 (m2 _ _ c3 (m1.extBut _ _ c1 e)))))
theorem z08{z ti to i j a b:aj}{ta tb:Bool}{k:Nat}{xs ys:fV}{x y u v:ao}{Q:fY->am->Prop}(D:Apart z ti to i j a b)
  (hz:V9 s.heap z ti to .none) (hI:cC s.heap ti (.ref i) (.ref j)) (hO:cC s.heap to u v) (hi:ItAt s.heap ta i a k) (hj:ItAt s.heap tb j b k) (ha:SqAt s.heap ta a xs) (hb:SqAt s.heap tb b ys) (hx:xs[k]?=aa x) (hy:ys[k]?=aa y)
  (hQ:∀ h',V9 h' z ti to (rawInt s.heap.objs.size)→IsPair h' to x y→ItAt h' ta i a (k+1)→ItAt h' tb j b (k+1)→IsPair h' s.heap.objs.size x y→h'.objs.size=s.heap.objs.size+1 →
   (∀c o,c≠z->c≠to->c≠i->c≠j->s.heap.get? c=aa o->h'.get? c=aa o)->Q (aa (.ref s.heap.objs.size)) { s with heap:=h' }):ay (model prog w) A (pyNext (.ref z)) Q E s:=by
 have t:s.TypeIs (.ref z) "zip" := ⟨_,hz,rfl⟩;unfold pyNext;exact ah (cL (cQ (name:=bv "__next__") t ee (cX ee t F.entry_zip_next
  (z1D D hz hI hO hi hj ha hb hx hy λh' q1 q2 q3 q4 q5 q6 q7=>aI (hQ h' q1 q2 q3 q4 q5 q6 q7)) (F.args_zip_next_1 _))))
theorem z1E{z ti to i j a b:aj}{ta tb:Bool}{k:Nat}{xs ys:fV}{u v:ao}{Q:fY->am->Prop}(hn:A.handled=ag)(D:Apart z ti to i j a b)
  (hz:V9 s.heap z ti to .none) (hI:cC s.heap ti (.ref i) (.ref j)) (hO:cC s.heap to u v) (hi:ItAt s.heap ta i a k) (hj:ItAt s.heap tb j b k) (ha:SqAt s.heap ta a xs) (hb:SqAt s.heap tb b ys) (hx:xs[k]?=ag) (hy:ys[k]?=ag)
  (hQ:∀h',(∀c o,c≠z->c≠to->c≠i->c≠j->s.heap.get? c=aa o->h'.get? c=aa o)->Q ag { s with heap:=h' }):ay (model prog w) A (pyNext (.ref z)) Q E s:=by
 have t:s.TypeIs (.ref z) "zip" := ⟨_,hz,rfl⟩;unfold pyNext;refine ah (cL (cQ (name:=bv "__next__") t ee (cX ee t F.entry_zip_next
  (z4Q hn D hz hI hO hi hj ha hb hx hy λh' e q1⟨o,q2,q3⟩=>?_) (F.args_zip_next_1 _))))
 exact ah (fF (T :="StopIteration") (b:=ac) ⟨o,q2,q3⟩ isSubtype_stop (aI (hQ _ q1)))
theorem let_go{elts:fR}{n:Nat}{pos:Pos}{z ti to t:aj}{Q:Unit->am->Prop}(hz:V9 s.heap z ti to (cS t))
  (hQ:∀h',V9 h' z ti to .none->dD z s.heap h'->Q () { s with heap:=h' }):ay (model prog w) A (cN (.Tuple elts n pos) (.ref z) (.ref t)) Q E s:=by
 unfold cN;refine ah (wpAny_load hz ?_);show ay _ _ (if(["enumerate","zip","dict_itemiterator","dict_reverseitemiterator","odict_iterator","itertools.zip_longest","itertools.pairwise"].contains "zip"&&(#[cS t,.bool af,.bool ac,.ref ti,.ref to]:fV)[0]?==aa (cS t))=ac then _ else _) Q E s;rw[ar (by simp)];refine ah (dS ?_);show ay _ _ (setField (.ref z) 0 .none) Q E s;exact cj hz (by simp) λh' q1 q2=>hQ h' q1 q2
theorem Rv{z ti to:aj}{f:ao}{Q:aC}(hz:V9 s.heap z ti to f)(h:Q (.ref z) s):ay (model prog w) A (pyIter (.ref z)) Q E s:=by
 have t:s.TypeIs (.ref z) "zip" := ⟨_,hz,rfl⟩;refine wpAny_pyIter_slot t F.slot_zip_iter (cX F.slot_zip_iter t F.entry_zip_iter ?_ (F.args_zip_iter_1 _));show ay _ _ (ret (.ref z)) _ _ s;exact aI ⟨_,rfl,"zip",_,t,F.slot_zip_next.lookup,h⟩
def Rw(tu:Bool)(l:aj):Obj:={ cls:=.type (if tu then "tuple_iterator" else "list_iterator"),data:=.fields #[.ref l,.int 0 0] }
theorem Rx{tu:Bool}{l:aj}{xs:fV}{Q:aC}(h:SqAt s.heap tu l xs)(q:Q (.ref s.heap.objs.size) { s with heap:=s.heap.push (Rw tu l) }):ay (model prog w) A (pyIter (.ref l)) Q E s:=by
 cases tu with
 |true=>exact wpAny_pyIter_tuple h q
 |false=>exact cR h q
theorem Ry{h:aV}{tu:Bool}{l p:aj}(e:h.get? p=aa (Rw tu l)):ItAt h tu p l 0:=by
 unfold ItAt;cases tu with
 |true=>exact⟨_,e,rfl,rfl⟩
 |false=>exact⟨_,e,rfl,rfl⟩
abbrev h1(h:aV)(ta:Bool)(a:aj):aV:=h.push (Rw ta a)
abbrev h2(h:aV)(ta tb:Bool)(a b:aj):aV:=(h1 h ta a).push (Rw tb b)
abbrev h3(h:aV)(ta tb:Bool)(a b:aj):aV:=(h2 h ta tb a b).push { cls:=.type "tuple",data:=.seq #[.ref h.objs.size,.ref (h1 h ta a).objs.size] }
abbrev h4(h:aV)(ta tb:Bool)(a b:aj):aV:=(h3 h ta tb a b).push { cls:=.type "tuple",data:=.seq #[.none,.none] }
abbrev h5(h:aV)(ta tb:Bool)(a b:aj):aV:=(h4 h ta tb a b).push { cls:=.type "zip",data:=.fields #[.none,.bool af,.bool ac,.ref (h2 h ta tb a b).objs.size,.ref (h3 h ta tb a b).objs.size] }
theorem z09(a b:aj)(ta tb:Bool)(xs ys:fV):Meets (Builtin.«zip.__new__» ⟨[.type "zip",.ref a,.ref b],[(bv "strict",.bool ac)]⟩)
  (λ_ R s=>SqAt s.heap ta a xs/\SqAt s.heap tb b ys/\R (.ok (.ret (.ref (h4 s.heap ta tb a b).objs.size))) { s with heap:=h5 s.heap ta tb a b }):=
 .of_wp λprog w A R s⟨qa,qb,q⟩=>by
  obtain⟨hp,g,d,tk,os⟩:=s;have f1:=sub_zip;have e1:SqAt (Shared.heap ⟨hp,g,d,tk,os⟩) ta a xs:=qa;have e2:SqAt (Shared.heap ⟨hp.push (Rw ta a),g,d,tk,os⟩) tb b ys:=qb.at λo e=>wf _ e
  wp_walk using Rx e1,Rx e2
  exact⟨_,rfl,q⟩
end
end ZL
end
section
set_option maxHeartbeats 4000000
namespace ZL
theorem okT(a b v:ao):checkTypeCall "zip" ⟨[a,b],[(bv "strict",v)]⟩=pure ():=by kernel_rfl
theorem okN(a b v:ao):checkBuiltinCall "zip.__new__" ⟨[.type "zip",a,b],[(bv "strict",v)]⟩=pure ():=by kernel_rfl
theorem okI(a b c v:ao):argsOk "object.__init__" ⟨[a,b,c],[(bv "strict",v)]⟩:=by
 unfold argsOk;rw[signature?_of (id :="object.__init__") (n :="__init__".toList.reverse) (o :="object".toList.reverse) (by kernel_rfl) F.owner_object];kernel_rfl
section
variable {prog:aL}{w:aH}{A:bj}{E:aC}{s:am}
theorem Ud(self a b v:ao):Meets (Builtin.«object.__init__» ⟨[self,a,b],[(bv "strict",v)]⟩) (λ_ R s=>s.TypeIs self "zip" /\ R (.ok (.ret .none)) s):=by
 refine Meets.of_wp ?_;rintro prog w A R s ⟨t,q⟩;have hl:=F.called_zip.init.lookup;have hm:=F.called_zip.made;have hne:(aa "zip.__new__" != aa "object.__new__")=ac:=by decide
 repeat (any_goals first|assumption|wp_step)
 exact⟨_,rfl,q⟩
theorem z1F{a b:aj}{ta tb:Bool}{xs ys:fV}{Q:aC}(qa:SqAt s.heap ta a xs)(qb:SqAt s.heap tb b ys)
   (q:Q (.ref (h4 s.heap ta tb a b).objs.size) { s with heap:=h5 s.heap ta tb a b }):ay (model prog w) A (call (.type "zip") [.ref a,.ref b] [(bv "strict",.bool ac)]) Q E s:=by
 obtain⟨c,tl,hmro⟩:=F.called_zip.mro;have m1:=F.called_zip.made;have m2:=F.called_zip.sub;have m3:=okT (.ref a) (.ref b) (.bool ac);refine wpAny_call (codeAny_of_tree ?_);show ay _ _ (callAny (.type "zip") _) _ _ _;refine aI ⟨Code.quiet_builtin _ (by decide +kernel),codeAny_builtin F.entry_type_call ?_⟩;rw[Around.under_plain (weight_type_call_type "zip" _ _) (units_type_call_type "zip" _ _)];have m4:=F.called_zip.notType;have m5:=F.called_zip.canCreate
 repeat (any_goals first|assumption|wp_step)
 refine cT (codeAny_call_builtin F.called_zip.plain F.entry_zip_new (wpAny_of_eq (okN _ _ _) (z09 a b ta tb xs ys prog w A.in1 (wants (λo s1=>s1.TypeIs o "zip" /\ Q o s1) E) s ⟨qa,qb,?_⟩))) λr s1 hr=>?_
 .exact⟨⟨_,wx _ rfl,rfl⟩,q⟩
 cases r with
 |error e=>exact hr
 | ok fl =>
   cases fl with
   | ret o =>
    obtain⟨ty,hq⟩:=hr;have n1:=F.called_zip.init.lookup;have n2:=F.called_zip.init.bind o
    repeat (any_goals first|assumption|wp_step)
    refine cT (codeAny_call_builtin F.called_zip.init.plain F.entry_object_init (F.called_zip.init.check _ _ _ _ _ _ _ _ ty (okI o _ _ _) (Ud o _ _ _ prog w A.in1 (wants (λr s2=>r=.none/\Q o s2) E) s1 ⟨ty,rfl,hq⟩))) λr2 s2 hr2=>?_;cases r2 with
    |error e=>exact hr2
    | ok f2 =>
     cases f2 with
     |ret r=>
      obtain⟨rfl,hq⟩:=hr2
      repeat (any_goals first|assumption|wp_step)
     |_=>exact hr2.elim
   |_=>exact hr.elim
end
end ZL
end
section
local macro_rules|`(tactic|rfl')=>`(tactic|first|lia|omega +splitDisjunctions)
set_option maxHeartbeats 1000000
namespace L2
open PySem PySem.Spec PyProof.Rows ZL
section
variable {X:Cx}{π:aB}{σ:St}{H:Hp}{s:am}{h':aV}
theorem Inv.turnedL{t':Nat}{ch:fP}(I:Inv X π σ H s)(k:∀b o,b∉ch->s.heap.get? b=aa o->h'.get? b=aa o)(hc:∀b∈ch,FpOk X π H b):Inv X π σ H { s with heap:=h',toks:=t' }:=by
 have nit:∀b u,H b=aa u->b∉ch:=λb u e z=>by rw[(hc b z).1]at e;cases e
 refine I.step (g':=s.gens) (d':=s.drawn) (ch:=ch) (λb hb=>?_) (λb o _ _ hn e _=>k b o hn e) (λb o _ _ hn e _=>⟨o.slots,k b o hn e⟩) (λ_ _ _ _ n=>n)
   (λb o hn e=>⟨o,k b o hn e⟩) (λ_ _ e=>e) (λ_ _ _ e=>e) (λb ps e=>⟨#[],by rw[e];simp⟩) (λm hm=>?_) (λb u e=>?_) I.bare
 .obtain⟨f0,f1,f2,f3,f4,f5⟩:=hc b hb;exact⟨f3,f1,f4,f5⟩
 .obtain⟨o,es,ep,ho,r⟩:=hm;exact⟨o,es,ep,k _ o (λz=>(hc _ z).2.1 rfl) ho,r⟩
 .refine(I.hok b u e).stay (λc v hcc q=>k c v ?_ q) (λ_ q=>q) λ_ _ q=>q;rcases hcc with z|z
  .rw[z];exact nit b u e
  .exact nit c _ z
theorem Inv.pair{t':Nat}{ch:fP}{x y:V}{u v:ao}(I:Inv X π σ H s)(rx:RelV x u)(ry:RelV y v)(hp:h'.get? s.heap.objs.size=aa { cls:=.type "tuple",data:=.seq #[u,v] })
   (k:∀b o,b∉ch->s.heap.get? b=aa o->h'.get? b=aa o) (hc:∀b∈ch,FpOk X π H b) (hl:∀b∈ch,b<s.heap.objs.size) :
   H s.heap.objs.size=ag/\Inv X π σ (upd H s.heap.objs.size (.tup [x,y])) { s with heap:=h',toks:=t' }:=by
 have hn:H s.heap.objs.size=ag:=I.hok.fresh (wv _);have I1:Inv X π σ (upd H s.heap.objs.size (.tup [x,y])) { s with heap:=s.heap.push { cls:=.type "tuple",data:=.seq #[u,v] },toks:=t' }:=
   I.laid (λb o e=>wf _ e) (wv _) ⟨by show 2<=sizeLine;decide,[u,v],.cons rx (.cons ry .nil),⟨_,wx _ rfl,rfl,_,rfl⟩⟩
 refine⟨hn,Inv.turnedL (s:={ s with heap:=s.heap.push { cls:=.type "tuple",data:=.seq #[u,v] },toks:=t' }) (h':=h') (t':=t') (ch:=ch) I1 (λb o hb e=>?_) λb hb=>?_⟩
 .by_cases q:b=s.heap.objs.size
  .subst q;have e2:(s.heap.push { cls:=.type "tuple",data:=.seq #[u,v] }).get? s.heap.objs.size=aa _:=wx _ rfl;have e:(s.heap.push { cls:=.type "tuple",data:=.seq #[u,v] }).get? s.heap.objs.size=aa o:=e;rw[e2]at e;rw[hp];exact e
  .refine k b o hb ?_;have e:(s.heap.push { cls:=.type "tuple",data:=.seq #[u,v] }).get? b=aa o:=e;rw[w0P _ _ _ q]at e;exact e
 .obtain⟨f0,f⟩:=hc b hb;exact⟨by rw[u6 (wM (hl b hb))];exact f0,f⟩
end
def SqV(K:aD)(tu:Bool)(H:Hp)(a:aj)(xs:gg):Prop:=if tu then SqT K H a xs else SqL K H a xs
theorem SqV.mono{K:aD}{tu:Bool}{H H':Hp}{a:aj}{xs:gg}(e:Same H H')(h:SqV K tu H a xs):SqV K tu H' a xs:=by
 unfold SqV at h|-;cases tu with
 |true=>exact e.seqT h
 |false=>exact e.seq h
theorem Inv.sq{X:Cx}{π:aB}{σ:St}{H:Hp}{s:am}{tu:Bool}{a:aj}{xs:gg}(I:Inv X π σ H s)(h:SqV X.K tu H a xs):∃its:aF,Vals xs its/\SqAt s.heap tu a its.toArray/\xs.length<=sizeLine:=by
 unfold SqV at h;unfold SqAt;cases tu with
 |true=>obtain⟨its,r,p,z⟩:=I.tuple h;exact⟨its,r,p,z⟩
 |false=>obtain⟨its,r,p,z⟩:=I.list h;exact⟨its,r,p.isList,z⟩
theorem Inv.sq_inj{X:Cx}{π:aB}{σ:St}{H:Hp}{s:am}{tu:Bool}{a:aj}{xs ys:gg}(I:Inv X π σ H s)(h:SqV X.K tu H a xs)(h':SqV X.K tu H a ys):xs=ys:=by
 unfold SqV at h h';cases tu with
 |true=>exact I.tuple_inj h h'
 |false=>exact I.list_inj h h'
def Itz(K:aD)(ta tb:Bool)(a b:aj):It where
 go:=λi H=>∃xs ys x y,SqV K ta H a xs/\SqV K tb H b ys/\xs[i]?=aa x/\ys[i]?=aa y
 yld:=λi H v H'=>∃p x y,(∀xs,SqV K ta H a xs->xs[i]?=aa x)/\(∀ys,SqV K tb H b ys->ys[i]?=aa y)/\H p=ag/\v=.ref p/\H'=upd H p (.tup [x,y])
 stop:=λi H=>∃xs ys,SqV K ta H a xs/\SqV K tb H b ys/\xs.length<=i/\ys.length<=i
theorem mem5{z ti to i j c:aj}(h:c ∉ [z,ti,to,i,j]):c≠z/\c≠ti/\c≠to/\c≠i/\c≠j:=by simpa using h
theorem z1G{P:aL}{w:aH}{K:aD}{elts:fR}{n:Nat}{pos:Pos}{ta tb:Bool}{z ti to i j a b:aj}(D:Apart z ti to i j a b):
  Turn P w K (.Tuple elts n pos) (Itz K ta tb a b) [z,ti,to,i,j] z (λk h=>V9 h z ti to .none/\cC h ti (.ref i) (.ref j)/\(∃u v,cC h to u v)/\ItAt h ta i a k/\ItAt h tb j b k) where
 mem:=by simp
 obj:=λk h⟨q1,q2,⟨u,v,q3⟩,q4,q5⟩c hc=>by
  have it:∀{tu:Bool}{it l:aj}{k:Nat},ItAt h tu it l k->∃o,h.get? it=aa o/\∀v,o.data ≠ .cell v:=λ{tu it l k}q=>by
    unfold ItAt at q;cases tu with
    |true=>obtain⟨o,e,_,d⟩:=q;exact⟨o,e,λv z=>by rw[d]at z;cases z⟩
    |false=>obtain⟨o,e,_,d⟩:=q;exact⟨o,e,λv z=>by rw[d]at z;cases z⟩
  simp only[wn,uo,or_false]at hc;rcases hc with rfl|rfl|rfl|rfl|rfl
  .exact⟨_,q1,λv z=>by have z':fM _=fK v:=z;cases z'⟩
  .exact⟨_,q2,λv z=>by have z':Data.seq _ _=fK v:=z;cases z'⟩
  .exact⟨_,q3,λv z=>by have z':Data.seq _ _=fK v:=z;cases z'⟩
  .exact it q4
  .exact it q5
 keep:=λk h h'⟨q1,q2,⟨u,v,q3⟩,q4,q5⟩kk=>⟨kk z (by simp) _ q1,kk ti (by simp) _ q2,⟨u,v,kk to (by simp) _ q3⟩,q4.at λo e=>kk i (by simp) o e,q5.at λo e=>kk j (by simp) o e⟩
 item:=by
  intro X hP hw hK hc k π s σ H E I hf ⟨q1,q2,⟨u,v,q3⟩,q4,q5⟩ hg;subst hP hw hK;obtain⟨xs,ys,x,y,hx,hy,ex,ey⟩:=hg;obtain⟨its,rx,px,_⟩:=I.sq hx;obtain⟨jts,ry,py,_⟩:=I.sq hy;obtain⟨ux,hux,rux⟩:=rx.get ex;obtain⟨uy,huy,ruy⟩:=ry.get ey;have lt:∀b∈[z,ti,to,i,j],b<s.heap.objs.size:=λb hb=>by
    simp only[wn,uo,or_false]at hb;rcases hb with rfl|rfl|rfl|rfl|rfl
    .exact wt q1
    .exact wt q2
    .exact wt q3
    .exact q4.lt
    .exact q5.lt
  refine z08 D q1 q2 q3 q4 q5 px py (x:=ux) (y:=uy) (by simpa using hux) (by simpa using huy) λh' a1 a2 a3 a4 a5 a6 a7=>⟨_,rfl,let_go a1 λh'' b1 b2=>?_⟩;have hzp:s.heap.objs.size≠z:=uF (lt z (by simp));have kk:∀b o,b ∉ [z,ti,to,i,j]->s.heap.get? b=aa o->h''.get? b=aa o:=λb o hb e=>by
    obtain⟨c1,c2,c3,c4,c5⟩:=mem5 hb;exact b2.extBut _ _ c1 (a7 b o c1 c3 c4 c5 e)
  obtain⟨hn,I1⟩:=I.pair (t':=s.toks) (h':=h'') rux ruy (b2.extBut _ _ hzp a5) kk hf lt;refine⟨.ref s.heap.objs.size,_,I1,rfl,⟨_,x,y,λzs hz=>by rw[I.sq_inj hz hx];exact ex,λzs hz=>by rw[I.sq_inj hz hy];exact ey,hn,rfl,rfl⟩,?_,λb hb=>by rw[u6 (wM (lt b hb))];exact(hf b hb).1⟩;exact⟨b1,b2.extBut _ _ D.p1 (a7 _ _ D.p1 D.p5 D.p6 D.p7 q2),⟨_,_,b2.extBut _ _ D.p2 a2⟩,a3.at λo e=>b2.extBut _ _ D.p3 e,a4.at λo e=>b2.extBut _ _ D.p4 e⟩
 done:=by
  intro X hP hw hK hc k π s σ H E I hf ⟨q1,q2,⟨u,v,q3⟩,q4,q5⟩ hg;subst hP hw hK;obtain⟨xs,ys,hx,hy,ex,ey⟩:=hg;obtain⟨its,rx,px,_⟩:=I.sq hx;obtain⟨jts,ry,py,_⟩:=I.sq hy;have l1:=rx.length;have l2:=ry.length;refine z1E (I.ok.hd hc) D q1 q2 q3 q4 q5 px py (by simp;rfl') (by simp;rfl') λh' a7=>⟨rfl,I.turnedL (t':=s.toks) (ch:=[z,ti,to,i,j]) (λb o hb e=>?_) hf⟩;obtain⟨c1,c2,c3,c4,c5⟩:=mem5 hb;exact a7 b o c1 c3 c4 c5 e
 self:=λ_ _ _ _ _ q h=>Rv q.1 h
def Ite(K:aD)(a:aj):It where
 go:=λi H=>∃xs x,SqL K H a xs/\xs[i]?=aa x
 yld:=λi H v H'=>∃p x,(∀xs,SqL K H a xs->xs[i]?=aa x)/\H p=ag/\v=.ref p/\H'=upd H p (.tup [.int i,x])
 stop:=λi H=>∃xs,SqL K H a xs/\xs.length<=i
theorem z0a{P:aL}{w:aH}{K:aD}{elts:fR}{n:Nat}{pos:Pos}{e it a:aj}(hne:e≠it):
  Turn P w K (.Tuple elts n pos) (Ite K a) [e,it] e (λk h=>(∃old,IsEnum h e it k old)/\h.IsListIter it a k) where
 mem:=by simp
 obj:=λk h⟨⟨old,q1⟩,q2⟩c hc=>by
  simp only[wn,uo,or_false]at hc;rcases hc with rfl|rfl
  .exact⟨_,q1,λv z=>by have z':fM _=fK v:=z;cases z'⟩
  .obtain⟨o,e,_,d⟩:=q2;exact⟨o,e,λv z=>by rw[d]at z;cases z⟩
 keep:=λk h h'⟨⟨old,q1⟩,q2⟩kk=>⟨⟨old,kk e (by simp) _ q1⟩,q2.at λo q=>kk it (by simp) o q⟩
 item:=by
  intro X hP hw hK hc k π s σ H E I hf ⟨⟨old,q1⟩,q2⟩ hg;subst hP hw hK;obtain⟨xs,x,hx,ex⟩:=hg;obtain⟨its,rx,px,_⟩:=I.list hx;obtain⟨ux,hux,rux⟩:=rx.get ex;have lt:∀b∈[e,it],b<s.heap.objs.size:=λb hb=>by
    simp only[wn,uo,or_false]at hb;rcases hb with rfl|rfl
    .exact wt q1
    .obtain⟨o,z,_⟩:=q2;exact wt z
  refine wpAny_pyNext_enum_item q1 q2 px.isList (x:=ux) (by simpa using hux) hne λh' a1 a2 a3 a4 a5=>⟨_,rfl,wpAny_letOwnedTupleGo_enum a1 λh'' b1 b2=>?_⟩;have hzp:s.heap.objs.size≠e:=uF (lt e (by simp));have kk:∀b o,b ∉ [e,it]->s.heap.get? b=aa o->h''.get? b=aa o:=λb o hb q=>by
    have c:b≠e/\b≠it:=by simpa using hb
    exact b2.extBut _ _ c.1 (a5 b o c.1 c.2 q)
  obtain⟨hn,I1⟩:=I.pair (x:=.int k) (t':=s.toks+1) (h':=h'') ⟨s.toks,rfl⟩ rux (b2.extBut _ _ hzp a3) kk hf lt;refine⟨.ref s.heap.objs.size,_,I1,rfl,⟨_,x,λzs hz=>by rw[I.list_inj hz hx];exact ex,hn,rfl,rfl⟩,⟨⟨_,b1⟩,a2.at λo q=>b2.extBut _ _ (bL hne) q⟩,λb hb=>by rw[u6 (wM (lt b hb))];exact(hf b hb).1⟩
 done:=by
  intro X hP hw hK hc k π s σ H E I hf ⟨⟨old,q1⟩,q2⟩ hg;subst hP hw hK;obtain⟨xs,hx,ex⟩:=hg;obtain⟨its,rx,px,_⟩:=I.list hx;have l1:=rx.length;refine wpAny_pyNext_enum_end (I.ok.hd hc) q1 q2 px.isList (by simp;rfl') λh' a5=>⟨rfl,I.turnedL (t':=s.toks) (ch:=[e,it]) (λb o hb q=>?_) hf⟩;have c:b≠e/\b≠it:=by simpa using hb
  exact a5 b o c.2 q
 self:=λ_ _ _ _ _ q h=>by obtain⟨⟨old,q1⟩,_⟩:=q;exact wpAny_pyIter_enum q1 h
def Itv(K:aD)(a:aj)(n:Nat):It where
 go:=λi H=>i<n/\∃xs,SqL K H a xs/\xs.length=n
 yld:=λi H v H'=>H'=H/\∀xs,SqL K H a xs->xs[n-1-i]?=aa v
 stop:=λi H=>n<=i
theorem z1H{P:aL}{w:aH}{K:aD}{tg:aK}{it a:aj}{n:Nat}:Turn P w K tg (Itv K a n) [it] it (λk h=>k<=n/\h.IsRevIter it a ((n:Int)-1-(k:Int))) where
 mem:=by simp
 obj:=λk h⟨_,q⟩c hc=>by
  have e:c=it:=by simpa using hc
  subst e;obtain⟨o,e,_,d⟩:=q;exact⟨o,e,λv z=>by rw[d]at z;cases z⟩
 keep:=λk h h'⟨q0,q⟩kk=>⟨q0,q.at λo z=>kk it (by simp) o z⟩
 item:=by
  intro X hP hw hK hc k π s σ H E I hf ⟨q0,q⟩ hg;subst hP hw hK;obtain⟨hk,xs,hx,hn⟩:=hg;obtain⟨its,rx,px,_⟩:=I.list hx;have hlt:n-1-k<xs.length:=by rfl'
  obtain⟨ux,hux,rux⟩:=rx.get (wa hlt);obtain⟨f0,f1,f2,f3,f4,f5⟩:=hf it (by simp);have e1:(n:Int)-1-(k:Int)=((n-1-k:Nat):Int):=by rfl'
  rw[e1]at q;refine wpAny_pyNext_rev_item q px.isList (x:=ux) (by simpa using hux) λh' b1 b2=>?_;have I1:Inv X π σ H { s with heap:=h' }:=I.turned (t':=s.toks) (λb o hb e=>(b2.2 b hb).trans e) f0 f1 f3 f4 f5;have e2:((n-1-k:Nat):Int)-1=(n:Int)-1-((k+1:Nat):Int):=by rfl'
  rw[e2]at b1;obtain⟨o,e,c,d⟩:=id b1;exact⟨ux,rfl,Yd (s:={ s with heap:=h' }) e c d (by decide) ⟨_,H,I1,rux,⟨rfl,λys hy=>by rw[I.list_inj hy hx];exact wa hlt⟩,⟨by rfl',b1⟩,λb hb=>(hf b hb).1⟩⟩
 done:=by
  intro X hP hw hK hc k π s σ H E I hf ⟨q0,q⟩ hg;subst hP hw hK;have hg:n<=k:=hg;obtain rfl:k=n:=by rfl'
  obtain⟨f0,f1,f2,f3,f4,f5⟩:=hf it (by simp);have e1:(k:Int)-1-(k:Int) = -1:=by rfl'
  rw[e1]at q;exact wpAny_pyNext_rev_end (I.ok.hd hc) q λh' eb=>⟨rfl,I.turned (t':=s.toks) (λb o hb e=>eb b o hb e) f0 f1 f3 f4 f5⟩
 self:=λ_ _ _ _ _ st h=>wpAny_pyIter_revIter st.2 h
section
variable {K:aD}{H1:Hp}
theorem z4R{A:fP}{H:Hp}{p:aj}{o:HO}(hp:H p=ag)(hA:∀a∈A,∃o,H a=aa o):hidL A (upd H p o)=upd (hidL A H) p o:=funext λb=>by
 have np:p∉A:=λz=>by obtain⟨u,e⟩:=hA p z;rw[hp]at e;cases e
 by_cases q:b=p
 .subst q;rw[r9 np,A0,A0]
 .rw[u6 q];by_cases z:b∈A
  .rw[K9 z,K9 z]
  .rw[r9 z,r9 z,u6 q]
theorem Rz{A:fP}{H:Hp}{p:aj}{d d':Dt}{x y:V}(hp:H p=ag)(hA:∀a∈A,∃o,H a=aa o)(rx:Rp K emp d (hidL A H) x)(ry:Rp K emp d' (hidL A H) y):
  Same (hidL A H) (hidL A (upd H p (.tup [x,y])))/\(∀a∈A,upd H p (.tup [x,y]) a=H a)/\Rp K emp (.tup [d,d']) (hidL A (upd H p (.tup [x,y]))) (.ref p):=by
 have np:p∉A:=λz=>by obtain⟨u,e⟩:=hA p z;rw[hp]at e;cases e
 have hq:hidL A H p=ag:=by rw[r9 np];exact hp
 rw[z4R hp hA];refine⟨E5 hq,λa ha=>u6 λz=>np (z ▸ ha),Rp.tup_.mpr ⟨p,_,rfl,SqT.of A0,?_⟩⟩;exact Rps.cons_.mpr ⟨x,[y],rfl,Rp.mono _ (E5 hq) rx,Rps.one (Rp.mono _ (E5 hq) ry)⟩
def zipD:gf->gf->gf
 |x::xs,y::ys=>.tup [x,y]::zipD xs ys
 |_,_=>[]
theorem RC:∀{xs ys:gf}{i:Nat}{d:Dt},(zipD xs ys)[i]?=aa d->∃x y,xs[i]?=aa x/\ys[i]?=aa y/\d=.tup [x,y]
 |[],ys,i,d,h=>by simp[zipD]at h
 |x::xs,[],i,d,h=>by simp[zipD]at h
 |x::xs,y::ys,0,d,h=>by simp[zipD]at h;exact⟨x,y,rfl,rfl,h.symm⟩
 |x::xs,y::ys,i+1,d,h=>by
  have h:(zipD xs ys)[i]?=aa d:=by simpa[zipD]using h
  obtain⟨a,b,q1,q2,q3⟩:=RC h;exact⟨a,b,by simpa using q1,by simpa using q2,q3⟩
theorem Gr:∀{xs ys:gf},(zipD xs ys).length=min xs.length ys.length
 |[],ys=>by simp[zipD]
 |x::xs,[]=>by simp[zipD]
 |x::xs,y::ys=>by rw[zipD,wo,Gr,wo,wo];rfl'
theorem z1I{ta tb:Bool}{a b:aj}{ds es:gf}{vs ws:gg}(h1:SqV K ta H1 a vs)(h2:SqV K tb H1 b ws)(r1:Rps K emp ds H1 vs)(r2:Rps K emp es H1 ws)(hl:ds.length=es.length):Walk K (Itz K ta tb a b) (zipD ds es) H1:=by
 intro A H sm hA;have s2:Same H1 H:=sm.trans w8;refine⟨λi d e=>?_,λi hi=>⟨vs,ws,h1.mono s2,h2.mono s2,?_,?_⟩⟩
 .obtain⟨x,y,ex,ey,rfl⟩:=RC e;obtain⟨v,e1,p1⟩:=r1.get ex;obtain⟨u,e2,p2⟩:=r2.get ey;refine⟨⟨vs,ws,v,u,h1.mono s2,h2.mono s2,e1,e2⟩,?_⟩;rintro z H' ⟨p,v',u',f1,f2,hp,ez,eH⟩;have g1:=f1 vs (h1.mono s2);have g2:=f2 ws (h2.mono s2);rw[e1]at g1;rw[e2]at g2;cases g1;cases g2;subst ez;subst eH;exact Rz hp hA (Rp.mono _ sm p1) (Rp.mono _ sm p2)
 .rw[Gr]at hi;rw[r1.length];rfl'
 .rw[Gr]at hi;rw[r2.length];rfl'
def Af:Nat->gf->gf
 |_,[]=>[]
 |n,x::xs=>.tup [.int n,x]::Af (n+1) xs
theorem Nq:∀{xs:gf}{n i:Nat}{d:Dt},(Af n xs)[i]?=aa d->∃x,xs[i]?=aa x/\d=.tup [.int ((n+i:Nat):Int),x]
 |[],n,i,d,h=>by simp[Af]at h
 |x::xs,n,0,d,h=>by simp[Af]at h;exact⟨x,rfl,h.symm⟩
 |x::xs,n,i+1,d,h=>by
  have h:(Af (n+1) xs)[i]?=aa d:=by simpa[Af]using h
  obtain⟨a,q1,q3⟩:=Nq h;exact⟨a,by simpa using q1,by rw[q3,show n+1+i=n+(i+1) by rfl']⟩
theorem HI:∀{xs:gf}{n:Nat},(Af n xs).length=xs.length
 |[],n=>rfl
 |x::xs,n=>by rw[Af,wo,wo,HI]
theorem z0b{a:aj}{ds:gf}{vs:gg}(h1:SqL K H1 a vs)(r1:Rps K emp ds H1 vs):Walk K (Ite K a) (Af 0 ds) H1:=by
 intro A H sm hA;have s2:Same H1 H:=sm.trans w8;refine⟨λi d e=>?_,λi hi=>⟨vs,s2.seq h1,?_⟩⟩
 .obtain⟨x,ex,rfl⟩:=Nq e;rw[uj];obtain⟨v,e1,p1⟩:=r1.get ex;refine⟨⟨vs,v,s2.seq h1,e1⟩,?_⟩;rintro z H' ⟨p,v',f1,hp,ez,eH⟩;have g1:=f1 vs (s2.seq h1);rw[e1]at g1;cases g1;subst ez;subst eH;exact Rz hp hA (Rp.int_.mpr rfl) (Rp.mono _ sm p1)
 .rw[HI]at hi;rw[r1.length];rfl'
theorem z1J{a:aj}{ds:gf}{vs:gg}(h1:SqL K H1 a vs)(r1:Rps K emp ds H1 vs):Walk K (Itv K a vs.length) ds.reverse H1:=by
 intro A H sm hA;have s2:Same H1 H:=sm.trans w8;have hl:=r1.length;refine⟨λi d e=>?_,λi hi=>?_⟩
 .have hi:i<ds.length:=by
   by_cases hi:i<ds.length
   .exact hi
   .rw[wK (by simp;rfl')]at e;cases e
  rw[List.getElem?_reverse hi]at e;obtain⟨v,e1,p1⟩:=r1.get e;refine⟨⟨by rfl',vs,s2.seq h1,rfl⟩,?_⟩;rintro z H' ⟨eH,f1⟩;subst eH;have g1:=f1 vs (s2.seq h1);rw[hl,e1]at g1;cases g1;exact⟨Same.refl _,λ_ _=>rfl,Rp.mono _ sm p1⟩
 .show vs.length<=i;rw[w0F]at hi;rfl'
end
section
variable {X:Cx}{a b e:aK}{Fa Fb:FE}{elts:fR}{n:Nat}{tpos pos:Pos}
theorem z0c{M:Model}{A:bj}{E:aC}{s:am}{env:Env}{T:String}{es:fR}{kws:List dX}{Q:aC}
  (h:ay M A (spliced (bH pos (aq (e::es) env))) (λvs s1=>ay M A (evalAll ((cU pos (bZ kws env)).map (·.2))) (λks s2=>ay M A (call (.type T) vs (((cU pos (bZ kws env)).filterMap (·.1)).zip ks)) Q E s2) E s1) E s)
  (h1:bH pos (aq (e::es) env)=(af,eval e env)::bH pos (aq es env)) (h2:(bH pos (aq (e::es) env)).any (·.1)=af) (h3:(cU pos (bZ kws env)).all (·.1.isSome)=ac) (h4:(cU pos (bZ kws env)).any (·.1.isNone)=af) :
  ay M A (callWith pos (.type T) [] (bH pos (aq (e::es) env)) (cU pos (bZ kws env))) Q E s:=by
 unfold callWith;have g:ay M A (evalArgs (.type T) ac (bH pos (aq (e::es) env)) (cU pos (bZ kws env))) (λz s1=>ay M A (call (.type T) ([]++z.pos) z.kw) Q E s1) E s:=by
  rw[h1]at h|-;exact evalArgs_kwB h3 h
 refine ah (cK (bu g (λz s1 g1=>ah (dM ?_)) λ_ _ x=>x));simp only[h2,h4,Bool.or_false];refine ah (aI ?_);exact ah (bu g1 (λr s2 hr=>ah (cK (wpAny_point (aI hr)))) λ_ _ x=>x)
theorem z1K{H:Hp}{d:Dt}{ds:gf}{v:V}(e:seqD d=aa ds)(r:Rp X.K emp d H v):∃tu p vs,v=.ref p/\SqV X.K tu H p vs/\Rps X.K emp ds H vs:=by
 cases d<;>first|cases e|skip
 .obtain⟨p,vs,rfl,_,h1,h2⟩:=r.items;exact⟨af,p,vs,rfl,SqL.of h1,h2⟩
 .obtain⟨p,vs,rfl,h1,h2⟩:=Rp.tup_.mp r;exact⟨ac,p,vs,rfl,h1,h2⟩
def iZip(F G:FE):FI:=λρ=>(F ρ).bind λx=>(G ρ).bind λy=>(seqD x.2).bind λxs=>(seqD y.2).bind λys=>if xs.length=ys.length then aa (zipD xs ys) else ag
theorem Yu{p kp kpos:Pos}{jc:Nat}(hg:Gl X "zip")(hm:X.mg "zip"=ag)(ha:PF X a Fa)(hb:PF X b Fb)(hs:aq [a,b] X.env=[(af,eval a X.env),(af,eval b X.env)]:=by rfl)(hs1:aq [b] X.env=[(af,eval b X.env)]:=by rfl):
   PFI X (.Tuple elts n tpos) (.Call (.Name "zip" p) [a,b] [⟨aa "strict",.Constant (.bool ac) jc kp,kpos⟩] pos) (iZip Fa Fb):=by
 intro π s σ H R I ⟨ρ,items,rs,e0,k⟩;obtain⟨⟨fa,da⟩,ea,e1⟩:=i0 e0;obtain⟨⟨fb,db⟩,eb,e2⟩:=i0 e1;obtain⟨xs,ex,e3⟩:=i0 e2;obtain⟨ys,ey,e4⟩:=i0 e3;clear e0 e1 e2 e3;split at e4
 .rename_i hl;cases e4;have hA:PA X [a,b] (upAs X (b6 Fa (b6 Fb fNil))):=i7 ha (i7 hb f9 hs1) (by rw[hs,hs1]);refine bK (BO I hg hm (by decide +kernel:bz "zip"=aa (.type "zip")) ?_);refine z0c (T :="zip") (thn (hA pos π s σ H (λvs H1=>Same H H1/\∃va vb,vs=[va,vb]/\Rp X.K emp da H1 va/\Rp X.K emp db H1 vb) I ⟨ρ,[(fa,da),(fb,db)],rs,by simp[b6,fNil,ea,eb],λvs H1 s1⟨va,r1,ee1,q1,vb,r2,ee2,q2,q3⟩=>⟨s1,va,vb,by rw[ee1,ee2,show r2=[]from q3],q1.sh,q2.sh⟩⟩) λus s1⟨vs,H1,I1,rv,s1H,va,vb,ev,ra,rb⟩=>?_) (by rw[hs,hs1];rfl) (by rw[hs];rfl) rfl rfl;subst ev;obtain⟨ua,ub,rfl,rua,rub⟩:=rv.two;obtain⟨ta,pa,vsa,rfl,qa1,qa2⟩:=z1K ex ra;obtain⟨tb,pb,vsb,rfl,qb1,qb2⟩:=z1K ey rb;cases rua;cases rub;have hk:=Ye (X:=X) (nm:=aa "strict") (kpos:=kpos) (pe_bl (X:=X) (b:=ac) (j:=jc) (pos:=kp)) z18;refine thn (hk pos π s1 σ H1 (λzs H2=>zs=[.bl ac]/\H2=H1) I1 ⟨rfl,rfl⟩) ?_;rintro ks s2 ⟨zs,H2,I2,rz,ez,eH⟩;subst ez;subst eH;obtain⟨uk,rfl,ruk⟩:=rz.one;cases ruk;obtain⟨ita,rva,sa,hza⟩:=I2.sq qa1;obtain⟨itb,rvb,sb,hzb⟩:=I2.sq qb1;refine z1F sa sb ?_;have z1:(h1 s2.heap ta pa).objs.size=s2.heap.objs.size+1:=vM ..;have z2:(h2 s2.heap ta tb pa pb).objs.size=s2.heap.objs.size+2:=by rw[vM,z1]
  have z3:(h3 s2.heap ta tb pa pb).objs.size=s2.heap.objs.size+3:=by rw[vM,z2]
  have z4:(h4 s2.heap ta tb pa pb).objs.size=s2.heap.objs.size+4:=by rw[vM,z3]
  have g5:(h5 s2.heap ta tb pa pb).get? (h4 s2.heap ta tb pa pb).objs.size=aa _:=wx _ rfl;have g4:(h5 s2.heap ta tb pa pb).get? (h3 s2.heap ta tb pa pb).objs.size=aa _:=wf _ (wx _ rfl);have g3:(h5 s2.heap ta tb pa pb).get? (h2 s2.heap ta tb pa pb).objs.size=aa _:=wf _ (wf _ (wx _ rfl));have g2:(h5 s2.heap ta tb pa pb).get? (h1 s2.heap ta pa).objs.size=aa _:=wf _ (wf _ (wf _ (wx _ rfl)));have g1:(h5 s2.heap ta tb pa pb).get? s2.heap.objs.size=aa _:=wf _ (wf _ (wf _ (wf _ (wx _ rfl))));have up:∀c o,s2.heap.get? c=aa o->(h5 s2.heap ta tb pa pb).get? c=aa o:=λc o x=>wf _ (wf _ (wf _ (wf _ (wf _ x))));refine Rv (z:=(h4 s2.heap ta tb pa pb).objs.size) (ti:=(h2 s2.heap ta tb pa pb).objs.size) (to:=(h3 s2.heap ta tb pa pb).objs.size) (f:=.none) g5 ?_;have la:=sa.lt;have lb:=sb.lt;have D:Apart (h4 s2.heap ta tb pa pb).objs.size (h2 s2.heap ta tb pa pb).objs.size (h3 s2.heap ta tb pa pb).objs.size s2.heap.objs.size (h1 s2.heap ta pa).objs.size pa pb:=by
    rw[z1,z2,z3,z4];constructor<;>exact λz=>by simp only[aj]at *;rfl'
  refine⟨_,[(h4 s2.heap ta tb pa pb).objs.size,(h2 s2.heap ta tb pa pb).objs.size,(h3 s2.heap ta tb pa pb).objs.size,s2.heap.objs.size,(h1 s2.heap ta pa).objs.size],_,_,H2,rfl,I2.kept (t':=s2.toks) up,z1G (ta:=ta) (tb:=tb) D,⟨g5,g3,⟨_,_,g4⟩,Ry g1,Ry g2⟩,λc hc=>?_,k _ H2 s1H ?_ (z1I qa1 qb1 qa2 qb2 hl)⟩
  .have hge:s2.heap.objs.size<=c:=by
    rw[z1,z2,z3,z4]at hc;simp only[wn,uo,or_false]at hc;rcases hc with rfl|rfl|rfl|rfl|rfl<;>rfl'
   exact I2.fpOk hge (I2.hok.fresh hge)
  .rw[Gr,<-qa2.length];rfl'
 .cases e4
def lstD:Dt->Option (gf)
 |.lst ds=>aa ds
 |_=>ag
def Ah(F:FE):FI:=λρ=>(F ρ).bind λx=>(lstD x.2).map (Af 0)
theorem z1L{H:Hp}{d:Dt}{ds:gf}{v:V}(e:lstD d=aa ds)(r:Rp X.K emp d H v):∃p vs,v=.ref p/\SqL X.K H p vs/\Rps X.K emp ds H vs:=by
 cases d<;>first|cases e|skip
 obtain⟨p,vs,rfl,_,h1,h2⟩:=r.items;exact⟨p,vs,rfl,SqL.of h1,h2⟩
theorem Kt{p:Pos}(hg:Gl X "enumerate")(hm:X.mg "enumerate"=ag)(ha:PF X a Fa)(hs:aq [a] X.env=[(af,eval a X.env)]:=by rfl):PFI X (.Tuple elts n tpos) (.Call (.Name "enumerate" p) [a] [] pos) (Ah Fa):=by
 intro π s σ H R I ⟨ρ,items,rs,e0,k⟩;obtain⟨⟨fa,da⟩,ea,e1⟩:=i0 e0;cases ex:lstD da with
 |none=>rw[ex]at e1;cases e1
 |some xs=>
  rw[ex]at e1;cases e1;have hA:PA X [a] (upAs X (b6 Fa fNil)):=i7 ha f9 hs;refine bK (BO I hg hm (by decide +kernel:bz "enumerate"=aa (.type "enumerate")) ?_);refine bN (thn (hA pos π s σ H (λvs H1=>Same H H1/\∃va,vs=[va]/\Rp X.K emp da H1 va) I ⟨ρ,[(fa,da)],rs,by simp[b6,fNil,ea],λvs H1 s1⟨va,r1,ee1,q1,q3⟩=>⟨s1,va,by rw[ee1,show r1=[]from q3],q1.sh⟩⟩) λus s1⟨vs,H1,I1,rv,s1H,va,ev,ra⟩=>?_) hs rfl;subst ev;obtain⟨ua,rfl,rua⟩:=rv.one;obtain⟨pa,vsa,rfl,qa1,qa2⟩:=z1L ex ra;cases rua;obtain⟨ita,rva,pl,hza⟩:=I1.list qa1;refine call_enumerate_list pl.isList λh' b1 b2 b3 b4=>wpAny_pyIter_enum b1 ?_;refine⟨_,[s1.heap.objs.size+1,s1.heap.objs.size],_,_,H1,rfl,I1.kept (t':=s1.toks) b4,z0a (Nat.succ_ne_self _),⟨⟨_,b1⟩,b2⟩,λc hc=>?_,k _ H1 s1H ?_ (z0b qa1 qa2)⟩
  .have hge:s1.heap.objs.size<=c:=by
    simp only[wn,uo,or_false]at hc;rcases hc with rfl|rfl
    .exact Nat.le_succ _
    .exact wv _
   exact I1.fpOk hge (I1.hok.fresh hge)
  .rw[HI,<-qa2.length];exact hza
def iRev(F:FE):FI:=λρ=>(F ρ).bind λx=>(lstD x.2).map List.reverse
theorem i_rev{tg:aK}{p:Pos}(hg:Gl X "reversed")(hm:X.mg "reversed"=ag)(ha:PF X a Fa)(hs:aq [a] X.env=[(af,eval a X.env)]:=by rfl):PFI X tg (.Call (.Name "reversed" p) [a] [] pos) (iRev Fa):=by
 intro π s σ H R I ⟨ρ,items,rs,e0,k⟩;obtain⟨⟨fa,da⟩,ea,e1⟩:=i0 e0;cases ex:lstD da with
 |none=>rw[ex]at e1;cases e1
 |some xs=>
  rw[ex]at e1;cases e1;have hA:PA X [a] (upAs X (b6 Fa fNil)):=i7 ha f9 hs;refine bK (BO I hg hm (by decide +kernel:bz "reversed"=aa (.type "reversed")) ?_);refine bN (thn (hA pos π s σ H (λvs H1=>Same H H1/\∃va,vs=[va]/\Rp X.K emp da H1 va) I ⟨ρ,[(fa,da)],rs,by simp[b6,fNil,ea],λvs H1 s1⟨va,r1,ee1,q1,q3⟩=>⟨s1,va,by rw[ee1,show r1=[]from q3],q1.sh⟩⟩) λus s1⟨vs,H1,I1,rv,s1H,va,ev,ra⟩=>?_) hs rfl;subst ev;obtain⟨ua,rfl,rua⟩:=rv.one;obtain⟨pa,vsa,rfl,qa1,qa2⟩:=z1L ex ra;cases rua;obtain⟨ita,rva,pl,hza⟩:=I1.list qa1;have hn:ita.toArray.size=vsa.length:=by rw[wD,<-rva.length]
  refine call_reversed_list pl.isList ?_;rw[hn];have g1:(s1.heap.push (revObj pa ((vsa.length:Int)-1))).get? s1.heap.objs.size=aa _:=wx _ rfl;have it1:(s1.heap.push (revObj pa ((vsa.length:Int)-1))).IsRevIter s1.heap.objs.size pa ((vsa.length:Int)-1-((0:Nat):Int)):=⟨_,g1,rfl,by show fM _=_;simp⟩;refine wpAny_pyIter_revIter it1 ?_;refine⟨_,[s1.heap.objs.size],_,_,H1,rfl,I1.kept (t':=s1.toks) (λc o x=>wf _ x),z1H (n:=vsa.length),⟨wQ _,it1⟩,λc hc=>?_,k _ H1 s1H ?_ (z1J qa1 qa2)⟩
  .rw[wI.mp hc];exact I1.fpOk (wv _) (I1.hok.fresh (wv _))
  .rw[w0F,<-qa2.length];exact hza
end
end L2
end
section
set_option maxHeartbeats 1000000
namespace L2
section
variable {X:Cx}
def z1M:V->gg->Hp->VK->Prop:=λx vs H Q=>∃l xs y,x=.ref l/\vs=[.int 0,y]/\H l=aa (.lst xs)/\xs.length<sizeLine/\Q .non (upd H l (.lst (y::xs)))
theorem Ue:MtM X "list.insert" z1M:=by
 intro π s σ H x vs v us Q I rx rv h;obtain⟨l,xs,y,rfl,rfl,hH,hz,q⟩:=h;cases rx;obtain⟨u0,u,rfl,ru0,ru⟩:=rv.two;obtain⟨t0,rfl⟩:=ru0;obtain⟨z,its,n,r,hl,e⟩:=I.lstM hH;refine call_meets F.slot_list_insert ⟨_,e,rfl⟩ F.entry_list_insert (F.args_list_insert_3 _ _ _) (AutoSeq1.list_insert_list_int_val_1 l its.toArray n 0 t0 u (by decide) (by rw[wD];rfl')) ⟨e,?_⟩;refine⟨.non,_,I.lset (its':=u::its) hH e ?_ (.cons ru r) ?_,rfl,q⟩
 .simp
 .rw[wo];rfl'
theorem Yv{Y:Ky}{f g:Bool}:Same (bsOf Y (f&&g)) (bsOf Y f):=by
 cases f<;>cases g<;>first|exact Same.refl _|exact Same.emp
theorem Yw{Y:Ky}{f g:Bool}:Same (bsOf Y (f&&g)) (bsOf Y g):=by
 cases f<;>cases g<;>first|exact Same.refl _|exact Same.emp
section
variable {H₀ H H':Hp}{O:Own}{ρ:Rho}{σ:St}{i:Nat}{f:Bool}{ds:gf}
theorem RepO.get(h:RepO X H₀ H O ρ σ)(e:ρ[i]?=aa (.ow f ds)):∃a vs,(i,a)∈O/\σ[i]?=aa (aa (.ref a))/\H a=aa (.lst vs)/\Rps X.K (bsOf X.ky f) ds (hidL O.adr H) vs:=by
 obtain⟨o,e1,a,vs,q1,q2,q3,q4⟩:=h.at_ i _ e;subst q2;exact⟨a,vs,q1,e1,q3,q4⟩
theorem RD{x:Dv}{v:V}(rb:RepO X H₀ H O ρ σ)(r:RpF X.ky (hidL O.adr H) x.1 x.2 H' v):Rp X.K (bsOf X.ky x.1.isFr) x.2 H' v:=by
 by_cases q:x.1.isFr=ac
 .rw[q];exact r.fr (rb.b0.trans rb.same) q
 .rw[show x.1.isFr=af by simpa using q];exact r.sh
theorem Yx{x:Dv}{v:V}(rb:RepO X H₀ H O ρ σ)(sm:Same H H')(q:x.1.isNw=ac)(r:RpF X.ky H x.1 x.2 H' v):Rp X.K (bsOf X.ky ac) x.2 (hidL O.adr H') v:=
 Rp.anti rb.below _ (z1C rb.own sm q r)
end
abbrev FW:=gf->Dt->Option (gf)
def Gs(ρ:Rho)(i:Nat):Option (Bool×gf):=match ρ[i]? with|some (.ow f ds)=>aa (f,ds)|_=>ag
theorem CU{ρ:Rho}{i:Nat}{f:Bool}{ds:gf}(h:Gs ρ i=aa (f,ds)):ρ[i]?=aa (.ow f ds):=by
 unfold Gs at h;split at h
 .rename_i e;cases h;exact e
 .cases h
def sWr(w:FW)(i:Nat)(F:FE):FS:=λρ=>(Gs ρ i).bind λo=>(F (V8 ρ)).bind λx=>(w o.2 x.2).map λds=>.nx (ρ.set i (.ow (o.1&&x.1.isFr) ds))
def sWrA(w:FW)(i:Nat)(F:FE):FS:=λρ=>(Gs ρ i).bind λo=>(F ρ).bind λx=>if x.1.isNw then(w o.2 x.2).map λds=>.nx (ρ.set i (.ow o.1 ds)) else ag
def wApp:FW:=λds d=>if ds.length<1000000 then aa (ds++[d]) else ag
def Ku:FW:=λds d=>if ds.length<1000000 then aa (d::ds) else ag
def MtW(X:Cx)(id:String)(pre:gg)(w:FW):Prop:=∀(H:Hp)(B:Hp)(Hh:Hp)(l:aj)(vs:gg)(y:V)(ds:gf)(d:Dt)(ds':gf)(Q:VK),H l=aa (.lst vs)->Same Hh H->Rps X.K B ds Hh vs->Rp X.K B d Hh y->w ds d=aa ds' ->
 (∀vs',Rps X.K B ds' Hh vs'->Q .non (upd H l (.lst vs')))->∃r,MtM X id r/\r (.ref l) (pre++[y]) H Q
theorem mw_app:MtW X "list.append" [] wApp:=λH B Hh l vs y ds d ds' Q hl sm rs r e k=>by
 unfold wApp at e;split at e
 .rename_i h;cases e;exact⟨_,HC,l,vs,y,rfl,rfl,hl,by rw[rs.length];exact w0p h (by decide),k _ (rs.append (Rps.one r))⟩
 .cases e
theorem z4S:MtW X "list.insert" [.int 0] Ku:=λH B Hh l vs y ds d ds' Q hl sm rs r e k=>by
 unfold Ku at e;split at e
 .rename_i h;cases e;exact⟨_,Ue,l,vs,y,rfl,rfl,hl,by rw[rs.length];exact w0p h (by decide),k _ (Rps.cons_.mpr ⟨y,vs,rfl,r,rs⟩)⟩
 .cases e
section
variable {id:String}{w:FW}{x:Str}{name:Str}{e:aK}{Fe:FE}{i:Nat}{px apos cpos pos:Pos}{pre:gg}
theorem s_wr1(hw:MtW X id [] w)(slot:Slot "list" name id)(hty:typeOf (.builtin id)=pure (.type "method_descriptor"))(hN:X.N[i]?=aa x)(hv:Vis X.env.scope x)(he:PF X e Fe)(hd:(x==("__debug__":Str))=af:=by decide)(hcd:(x==("__classdict__":Str))=af:=by decide)
  (hbase:attributeBase (.Name x px) name X.env (eval (.Name x px) X.env)=eval (.Name x px) X.env:=by rfl)
  (hfew:((bH cpos (aq [e] X.env)).all (λx=>!x.1)&&(cU cpos (bZ [] X.env)).all (λx=>x.1.isSome)&&decide ([e].length+([]:List dX).length+(if([]:List dX).isEmpty then 0 else 1)<30))=ac:=by rfl)
  (hline:(apos.endLine==cpos.line)=ac:=by rfl) (hs:aq [e] X.env=[(af,eval e X.env)]:=by rfl) (hsw:bV (.Call (.Attribute (.Name x px) name apos) [e] [] cpos) ag pos.line X.env=pure af:=by rfl) :
  PFS X (.Expr (.Call (.Attribute (.Name x px) name apos) [e] [] cpos) pos) (sWr w i Fe):=by
 intro π s σ H D I ⟨H₀,ρ,oc,⟨O,rb⟩,e0,k⟩;obtain⟨⟨f,ds⟩,e1,e2⟩:=i0 e0;obtain⟨z,e3,e4⟩:=i0 e2;cases hw':w ds z.2 with
 |none=>rw[hw']at e4;cases e4
 | some ds' =>
  rw[hw']at e4;cases e4;obtain⟨a,vs,q1,q2,q3,q4⟩:=rb.get (CU e1);have hm:MtM X id (λo us H' Q=>∃y,o=.ref a/\us=[y]/\Same (hidL O.adr H) (hidL O.adr H')/\H' a=aa (.lst vs)/\Rp X.K (bsOf X.ky z.1.isFr) z.2 (hidL O.adr H') y/\∀vs',Rps X.K (bsOf X.ky (f&&z.1.isFr)) ds' (hidL O.adr H') vs'->Q .non (upd H' a (.lst vs'))):=by
   intro π s σ H' o us v vs2 Q I ro ru ⟨y,eo,eu,sm,ha,ry,kk⟩;subst eo;subst eu;obtain⟨r,hr,hq⟩:=hw H' (bsOf X.ky (f&&z.1.isFr)) (hidL O.adr H') a vs y ds z.2 ds' Q ha w8 (Rps.anti Yv _ (Rps.mono _ sm q4)) (Rp.anti Yw _ ry) hw' kk;exact hr π s σ H' _ _ v vs2 Q I ro ru hq
  refine DX (z1b fq slot hty hm (AV hN hv hd hcd) (PA.frame (i7 he f9 hs)) hbase hfew hline hs rfl) hsw π s σ H D I ⟨.ref a,q2,.inl ⟨rfl,vs,SqL.of q3⟩,O.adr,rb.own,V8 ρ,[z],rb.rest,by simp[b6,fNil,e3],?_⟩;rintro us H' sm ⟨y,r,eu,ry,er⟩ hn;have er:r=[]:=er;subst er;subst eu;have hg:hidL O.adr (J5 O.adr H H')=H':=Z9 hn;refine⟨y,rfl,rfl,by rw[hg];exact sm,by rw[DY (AG q1)];exact q3,by rw[hg];exact RD rb ry,λvs' rs'=>k _ _ ⟨O,?_⟩⟩;exact(rb.mono (Same.glue sm hn)).upd (CU e1) q1 rs'
theorem s_insA{j0:Nat}{p0:Pos}(hN:X.N[i]?=aa x)(hv:Vis X.env.scope x)(he:PF X e Fe)(hd:(x==("__debug__":Str))=af:=by decide)(hcd:(x==("__classdict__":Str))=af:=by decide)
   (hbase:attributeBase (.Name x px) "insert" X.env (eval (.Name x px) X.env)=eval (.Name x px) X.env:=by rfl)
   (hfew:((bH cpos (aq [.Constant (.int 0) j0 p0,e] X.env)).all (λx=>!x.1)&&(cU cpos (bZ [] X.env)).all (λx=>x.1.isSome)&&decide ([Expr.Constant (.int 0) j0 p0,e].length+([]:List dX).length+(if([]:List dX).isEmpty then 0 else 1)<30))=ac:=by rfl)
   (hline:(apos.endLine==cpos.line)=ac:=by rfl) (hs:aq [e] X.env=[(af,eval e X.env)]:=by rfl) (hs2:aq [.Constant (.int 0) j0 p0,e] X.env=(af,eval (.Constant (.int 0) j0 p0) X.env)::aq [e] X.env:=by rfl)
   (hsw:bV (.Call (.Attribute (.Name x px) "insert" apos) [.Constant (.int 0) j0 p0,e] [] cpos) ag pos.line X.env=pure af:=by rfl) :
   PFS X (.Expr (.Call (.Attribute (.Name x px) "insert" apos) [.Constant (.int 0) j0 p0,e] [] cpos) pos) (sWrA Ku i Fe):=by
 intro π s σ H D I ⟨H₀,ρ,oc,⟨O,rb⟩,e0,k⟩;obtain⟨⟨f,ds⟩,e1,e2⟩:=i0 e0;obtain⟨z,e3,e5⟩:=i0 e2;split at e5
 .rename_i qn;cases hw':Ku ds z.2 with
  |none=>rw[hw']at e5;cases e5
  | some ds' =>
   rw[hw']at e5;cases e5;obtain⟨a,vs,q1,q2,q3,q4⟩:=rb.get (CU e1);have hm:MtM X "list.insert" (λo us H' Q=>∃y,o=.ref a/\us=[.int 0,y]/\Same H H'/\RpF X.ky H z.1 z.2 H' y/\∀vs',Rps X.K (bsOf X.ky f) ds' (hidL O.adr H') vs'->Q .non (upd H' a (.lst vs'))):=by
    intro π s σ H' o us v vs2 Q I ro ru ⟨y,eo,eu,sm,ry,kk⟩;subst eo;subst eu;have r1:=Yx rb sm qn ry;obtain⟨r,hr,hq⟩:=z4S (X:=X) H' (bsOf X.ky f) (hidL O.adr H') a vs y ds z.2 ds' Q (sm _ _ q3) w8 (Rps.mono _ (A7 sm) q4) (Rp.anti (by cases f<;>first|exact Same.refl _|exact Same.emp) _ r1) hw' kk;exact hr π s σ H' _ _ v vs2 Q I ro ru hq
   refine DX (z1b fq F.slot_list_insert F.type_list_insert hm (AV hN hv hd hcd) (i7 (i8 (X:=X)) (i7 he f9 hs) hs2) hbase hfew hline hs2 (by rw[hs];rfl)) hsw π s σ H D I ⟨.ref a,q2,.inl ⟨rfl,vs,SqL.of q3⟩,ρ,[(.nw,.int 0),z],rb.all,by simp[b6,fNil,fC,e3],?_⟩;rintro us H' sm ⟨y0,r0,eu0,ry0,y,r,eu,ry,er⟩;have er:r=[]:=er;subst er;subst eu;subst eu0;have e00:y0=.int 0:=Rp.int_.mp ry0.sh;subst e00;exact⟨y,rfl,rfl,sm,ry,λvs' rs'=>k _ _ ⟨O,(rb.mono sm).upd (CU e1) q1 rs'⟩⟩
 .cases e5
end
def setD(ds:gf)(j:Int)(d:Dt):Option (gf):=(ixN ds.length j).map λk=>ds.set k d
def sPut(i:Nat)(Fj Fe:FE):FS:=λρ=>(Gs ρ i).bind λo=>(Fe (V8 ρ)).bind λx=>(Fj ρ).bind λj=>(intD j.2).bind λn=>(setD o.2 n x.2).map λds=>.nx (ρ.set i (.ow (o.1&&x.1.isFr) ds))
section
variable {x:Str}{e j:aK}{Fe Fj:FE}{i:Nat}{px spos pos:Pos}
theorem Yy(hN:X.N[i]?=aa x)(hv:Vis X.env.scope x)(hj:PF X j Fj)(he:PF X e Fe)(hd:(x==("__debug__":Str))=af:=by decide)(hcd:(x==("__classdict__":Str))=af:=by decide)
  (ha:∀ v,assign (.Subscript (.Name x px) j spos) X.env v=(do
   let ov <-holding [v] (eval (.Name x px) X.env);let iv <-holding [v,ov] (eval j X.env)
   eM spos
   holding [v,ov,iv] (setItem ov iv v)
   release [v,ov,iv] []):=by intro _;rfl)
  (hs:swapsWithSole [.Subscript (.Name x px) j spos] e pos.line X.env=pure af:=by rfl) (hw:swappedStores [.Subscript (.Name x px) j spos] e X.env=pure ag:=by rfl)
  (h1:(cb [.Subscript (.Name x px) j spos] X.env).map (·.2)=[assign (.Subscript (.Name x px) j spos) X.env]:=by rfl) :
  PFS X (.Assign [.Subscript (.Name x px) j spos] e pos) (sPut i Fj Fe):=by
 intro π s σ H D I ⟨H₀,ρ,oc,⟨O,rb⟩,e0,k⟩;obtain⟨⟨f,ds⟩,e1,e2⟩:=i0 e0;obtain⟨z,e3,e4⟩:=i0 e2;obtain⟨⟨fj,dj⟩,e5,e6⟩:=i0 e4;obtain⟨n,e7,e8⟩:=i0 e6;obtain⟨a,vs,q1,q2,q3,q4⟩:=rb.get (CU e1);unfold setD at e8;cases hx:ixN ds.length n with
 |none=>rw[hx]at e8;cases e8
 |some m=>
  rw[hx]at e8;cases e8;refine TL (PE.frame he) (TK (AV hN hv hd hcd) hj Ki ha) hs hw h1 π s σ H D I ⟨O.adr,rb.own,V8 ρ,z.1,z.2,rb.rest,e3,λv H' sm r hn=>?_⟩;have hg:hidL O.adr (J5 O.adr H H')=H':=Z9 hn;have rb2:=rb.mono (Same.glue sm hn);refine⟨.ref a,q2,ρ,fj,dj,rb2.all,e5,λv2 H2 s2 r2=>?_⟩;have ed:=BY e7;have ed:dj=.int n:=ed;subst ed;have rv:Rp X.K (bsOf X.ky z.1.isFr) z.2 (hidL O.adr H2) v:=Rp.mono _ (by rw[<-hg];exact A7 s2) (RD rb r);have ha2:H2 a=aa (.lst vs):=s2 _ _ (by rw[DY (AG q1)];exact q3);refine⟨a,vs,n,m,rfl,Rp.int_.mp r2.sh,ha2,by rw[q4.length];exact hx,k _ _ ⟨O,(rb2.mono s2).upd (CU e1) q1 ?_⟩⟩;exact Rps.set m (Rps.anti Yv _ (Rps.mono _ (A7 ((Same.glue sm hn).trans s2)) q4)) (Rp.anti Yw _ rv)
end
end
end L2
end
section
set_option maxHeartbeats 1000000
namespace L2
def upR(X:Cx)(F:FI):TI:=λσ H R=>∃ρ items,RepS X.ky H ρ σ/\F ρ=aa items/\∀J H',Same H H'->items.length<=sizeLine->(∀H2,Walk X.K J items H2)->R J H'
def PFR(X:Cx)(tg e:aK)(F:FI):Prop:=PI X tg e (upR X F)
section
variable {X:Cx}{tg a b e:aK}{Fa Fb Fe:FE}{pos:Pos}
theorem z0d{p:Pos}(hg:Gl X "range")(hm:X.mg "range"=ag)(ha:PF X a Fa)(hs:aq [a] X.env=[(af,eval a X.env)]:=by rfl):PFR X tg (.Call (.Name "range" p) [a] [] pos) (o0 Fa):=
 (MY hg hm (L9 ha CM hs) hs).imp fun σ H R hZ=>hZ.elim fun ρ hZ=>hZ.elim fun items hZ=>hZ.elim fun rs hZ=>hZ.elim fun e0 k=>by
  obtain⟨⟨f,d⟩,e1,e2⟩:=i0 e0;obtain⟨j,e3,e4⟩:=i0 e2;clear e0 e2;have ed:=BY e3;cases (show d=.int j from ed);split at e4
  .rename_i hr;cases e4;obtain⟨h1,h2⟩:=OW hr;refine⟨ρ,f,_,rs,e1,λv H1 s1 r1=>⟨j,by rw[Rp.int_.mp r1.sh],by rfl',by rfl',k _ H1 s1 ?_ (λ_=>ET)⟩⟩;rw[EU];have:sizeLine=16777216:=rfl;rfl'
  .cases e4
theorem z0e{p:Pos}(hg:Gl X "range")(hm:X.mg "range"=ag)(ha:PF X a Fa)(hb:PF X b Fb)(hs:aq [a,b] X.env=[(af,eval a X.env),(af,eval b X.env)]:=by rfl)
  (hs1:aq [b] X.env=[(af,eval b X.env)]:=by rfl):PFR X tg (.Call (.Name "range" p) [a,b] [] pos) (JJ Fa Fb):=
 (ZU hg hm (L9 ha (L9 hb CM hs1) (by rw[hs,hs1])) hs hs1).imp fun σ H R hZ=>hZ.elim fun ρ hZ=>hZ.elim fun items hZ=>hZ.elim fun rs hZ=>hZ.elim fun e0 k=>by
  obtain⟨⟨f,d⟩,e1,e2⟩:=i0 e0;obtain⟨⟨f',d'⟩,e1',e2'⟩:=i0 e2;obtain⟨i,e3,e4⟩:=i0 e2';obtain⟨j,e5,e6⟩:=i0 e4;clear e0 e2 e2' e4;have ed:=BY e3;have ed':=BY e5;cases (show d=.int i from ed);cases (show d'=.int j from ed');split at e6
  .rename_i hr;rw[wG]at hr;cases e6;obtain⟨h1,h2⟩:=OW hr.1;obtain⟨h3,h4⟩:=OW hr.2;refine⟨ρ,f,_,rs,e1,λv H1 s1 r1=>⟨ρ,f',_,rs.mono s1,e1',λv' H2 s2 r2=>⟨i,j,by rw[Rp.int_.mp r1.sh,Rp.int_.mp r2.sh],⟨by rfl',by rfl',by rfl',by rfl'⟩,k _ H2 (s1.trans s2) ?_ (λ_=>ET)⟩⟩⟩;rw[EU];have:sizeLine=16777216:=rfl;rfl'
  .cases e6
end
def Jd(Fi:FI)(g:Tg)(F:FS):FS:=λρ=>(Fi ρ).bind λitems=>forF g F items ρ
section
variable {X:Cx}{tg iter:aK}{body:fT}{Fi:FI}{g:Tg}{F:FS}{pos:Pos}
theorem z1N(hp:fJ (model X.prog X.w) X.A X.env X.xe)(hc:X.calm=ac)(hi:PFR X tg iter Fi)(hg:PG X tg (g.low X.K))(hb:PFSs X body F)
   (hs:∀x,bF iter X.env x=pure x:=by intro _;rfl):PFS X (.For tg iter body [] pos) (Jd Fi g F):=(z10 hp hc hi hg hb hs).imp λD σ H⟨H₀,ρ,oc,⟨O,rb⟩,e0,k⟩=>by
 obtain⟨items,e1,e2⟩:=i0 e0;refine⟨ρ,items,rb.all,e1,λJ H1 sm hsz wk=>?_⟩;refine⟨λi m σ' H'=>m=items.length-i/\∃ρ',RepB X H₀ H' ρ' σ'/\forF g F (items.drop i) ρ'=aa oc,⟨_,rfl,_,⟨O,rb.mono sm⟩,e2⟩,?_⟩;rintro i m σ' H' ⟨rfl,ρ',⟨O2,r2⟩,f2⟩;obtain⟨w1,w2⟩:=wk (hidL O2.adr H') O2.adr H' (Same.refl _) λa ha=>by obtain⟨⟨vs,q⟩,_⟩:=r2.own a ha;exact⟨_,q⟩
 by_cases hlt:i<items.length
 .obtain⟨x,hx⟩:∃x,items[i]?=aa x:=⟨_,wa hlt⟩;have hdrop:items.drop i=x::items.drop (i+1):=by
   rw[uH hlt];rw[wa hlt]at hx;cases hx;rfl
  rw[hdrop]at f2;unfold forF at f2;obtain⟨ρ2,p1,f3⟩:=i0 f2;obtain⟨oc',p2,f4⟩:=i0 f3;obtain⟨go,yl⟩:=w1 i x hx;refine .inr ⟨go,λσ3 H3=>∃ρ3,RepB X H₀ H3 ρ3 σ3/\forF g F (items.drop (i+1)) ρ3=aa oc,λσ3 H3⟨ρ3,r3,f3⟩=>⟨items.length-(i+1),by rfl',rfl,ρ3,r3,f3⟩,λxv H3 y3=>?_⟩;obtain⟨s3,k3,r3⟩:=yl xv H3 y3;have sm3:Same H' H3:=λb o e=>by
   by_cases hb:b∈O2.adr
   .rw[k3 b hb];exact e
   .exact(P0 (s3 b o (by rw[r9 hb];exact e))).2
  refine Tg.low_mono (Tg.simO (r2.mono sm3) r3 p1) ?_;rintro σ4 H4 ⟨eH,O4,r4⟩;subst eH;refine⟨H₀,ρ2,oc',⟨O4,r4⟩,p2,?_⟩;cases oc' with
  |nx ρ5=>exact λσ5 H5 r5=>⟨ρ5,r5,f4⟩
  |ct ρ5=>exact λσ5 H5 r5=>⟨ρ5,r5,f4⟩
  |bk ρ5=>cases f4;exact k
  |rt f d=>cases f4;exact k
  |ex C=>cases f4;exact k
 .have hd:items.drop i=[]:=uR (by rfl');rw[hd]at f2;cases f2;exact .inl ⟨w2 i (by rfl'),k σ' H' ⟨O2,r2⟩⟩
end
section
variable {P:aL}{w:aH}{K:aD}{mg:aE}{base:aV}
theorem Fun.dat{x qual:Str}{st:aJ}{f:aj}{fd:ak}{N ps:fO}{k np nn:Nat}{fr:Bool}{F:FS}(Fu:Fun K x qual st f fd)(S:FnScope N ps (b9 st))(hp:np=ps.length)(hn:nn=N.length)
  (body:∀(cdv:Value) (A:Around) (outer:List Env) (s:Shared) (H:Hp) (E:XK),Room k (A.deeper (envOfC qual (b9 st) s.heap.objs.size f cdv)) →
   PFSs (cxOf CX0 P w K mg base N qual (b9 st) f cdv A outer s H E).nox (G3 st) F):FnOk P w K mg base CX0 (k+1) f fd ps (spc K fr (cOf np nn fr F)):=by
 subst hp hn;exact Fun.data Fu S body
end
theorem p_cal{X:Cx}{e:aK}{es:fR}{pos:Pos}{Fs:FA}{fr:Bool}{k k':Nat}{f:aj}{fd:ak}{ps:fO}{ct:FC}{x:Str}{st:aJ}{p:Pos}(F:FnOk X.prog X.w X.K X.mg X.base CX0 k f fd ps (spc X.K fr ct))(D:Df X.K X.mg x st ps f fd)(hr:Room k' X.A)(hg:Gl X x)
  (ha:PFA X (e::es) Fs) (hle:k<=k':=by decide) (hdb:(x==("__debug__":Str))=af:=by decide) (hst:aq (e::es) X.env=(af,eval e X.env)::aq es X.env:=by rfl) (hpl:(bH pos (aq es X.env)).any (·.1)=af:=by rfl):PF X (.Call (.Name x p) (e::es) [] pos) (i6 fr ct Fs):=
 p_call F (hr.mono hle) hg D.mg D.fn.kp D.bd ha hdb hst hpl
def Dh(K:aD)(x:Str)(st:aJ)(f:aj):Prop:=∃(oc kV doc pm cdv ct:ao)(od an:fZ)(osl:Array (fY)),aR K az x=aa (aa (.ref f))/\K.lookup f=aa ⟨oc,od,.func (bB x x (O9 st) (G3 st) (b9 st) .none kV doc pm an cdv ct),osl⟩/\cq K cdv x=ac/\bQ K (.ref f)=ac
theorem dh{K:aD}{x:Str}{st:aJ}{f:aj}{oc kV doc pm cdv ct:ao}{od an:fZ}{osl:Array (fY)}(e:aR K az x=aa (aa (.ref f)))(l:K.lookup f=aa ⟨oc,od,.func (bB x x (O9 st) (G3 st) (b9 st) .none kV doc pm an cdv ct),osl⟩)(c:cq K cdv x=ac)(k:bQ K (.ref f)=ac):Dh K x st f:=⟨_,_,_,_,_,_,_,_,_,e,l,c,k⟩
theorem ndp(l:fO)(h:l.Nodup:=by decide +kernel):l.Nodup:=h
theorem jlt(l:fQ)(m:Nat)(h:∀j∈l,j<m:=by decide):∀j∈l,j<m:=h
theorem scm{N P:fO}{sc:Scope}(kind:sc.kind=.function:=by rfl)(co:sc.isCoroutine=af:=by rfl)(gen:sc.isGenerator=af:=by rfl)(nd:N.Nodup:=by decide +kernel)(pre:N.take P.length=P:=by rfl)(par:∀x∈P,sc.names.lookup x=aa .local\/sc.names.lookup x=aa .cell:=by decide +kernel)(nofree:∀y∈sc.names,y.2 ≠ .free:=by decide +kernel):FnScope N P sc:=⟨kind,co,gen,nd,pre,par,nofree⟩
theorem z1O{Fi:FI}{g:Tg}{F:FS}{ρ:Rho}:Jd Fi g F ρ=(Fi ρ).bind λitems=>forF g F items ρ:=rfl
end L2
end
section
namespace L2
open PySem.W
abbrev bmVE:aF:=[.type "ValueError",.type "Exception",.type "BaseException",.type "object"]
structure Xc(K:aD)(mg:aE)(n:Nat)(C:aj):Prop where
 mg:mg (exN n)=aa (.ref C)
 ok:excIn K C bmVE "ValueError.__new__"=ac
 ve:kitCls K (.ref C) (.type "ValueError")=aa ac
theorem z4T{K:aD}{h:aV}{C:aj}{bmB:aF}{newId:String}(kin:K.In h)(e:excIn K C bmB newId=ac):∃bm N nm q bs hdct sn sub ab col dd k0 k1 k2 k3 k5,
   h.get? C=aa (excClassObj nm q C N bs bm hdct sn sub ab col dd k0 k1 k2 k3 k5 newId)/\(∃mN,h.Ns N mN/\mN "__init__"=ag)/\OwnTail h bmB bm:=by
 unfold excIn at e;split at e
 .rename_i dct cd sl q;split at e
  .rename_i C' bm a0 a1 a2 a3 n a5 q1 q2;simp only[wG,beq_iff_eq,w0Q]at e;obtain⟨⟨⟨⟨⟨e1,e2⟩,e3⟩,e4⟩,e5⟩,e6⟩:=e;subst e1 e2;obtain⟨nm,bs,mro,ns,qn,hd,sn,sub,ab,hdel,col⟩:=cd;have hs:sl=#[a0,a1,a2,a3,aa (.builtin n),a5]:=by
    have:=bI List.toArray q2;simpa using this
   dsimp only at q1 e3 e5 e6;subst q1 hs;have z:=kin _ _ q;refine⟨bm,ns,nm,qn,bs,hd,sn,sub,ab,hdel,dct,a0,a1,a2,a3,a5,?_,⟨_,Heap.Ns.of_isNs (isNs_of_in kin e5),nsMap_none_of_in kin e5 e6⟩,tail_of_in kin e4⟩;rw[z,e3]
  .cases e
 .cases e
theorem z1P{h:aV}{bmB bm:aF}{v:ao}(t:OwnTail h bmB bm)(q:bmB.contains v=ac):bm.contains v=ac:=by
 induction t with
 |base=>exact q
 |own _ _ _ _ ih=>rw[List.contains_cons,ih,Bool.or_true]
theorem z1Q{h h':aV}{N:aj}{m:aE}(x:h.Ns N m)(k:∀b o,h.get? b=aa o->h'.get? b=aa o):h'.Ns N m:=by
 obtain⟨o,es,ep,ho,r⟩:=x;exact⟨o,es,ep,k _ _ ho,r⟩
theorem B0{X:Cx}{sts:fT}:PFSs X sts C3:=λπ s σ H D I⟨H₀,ρ,oc,rb,e,k⟩=>by cases e
def P7(n:Nat):FS:=λ_=>aa (.ex n)
section
variable {X:Cx}{C:aj}{n:Nat}{e:aK}{es:fR}{pos:Pos}{Fs:FA}{fr:Bool}{k k':Nat}{f:aj}{fd:ak}{ps:fO}{x:Str}{st:aJ}{p:Pos}
theorem Pa(n:Nat){t:Str}{j:Nat}{p1 np cpos:Pos}(hc:X.calm=ac)(xc:Xc X.K X.mg n C)(hg:Gl X x)(hx:exN n=x:=by rfl)(hdb:(x==("__debug__":Str))=af:=by decide):
  PFS X (.Raise (aa (.Call (.Name x np) [.Constant (.str t) j p1] [] cpos)) ag pos) (P7 n):=by
 rintro π s σ H D I ⟨H₀,ρ,oc,⟨O,rb⟩,e0,k⟩;cases e0;obtain⟨E,hE,hp,hr,_⟩:=k C xc.mg;obtain⟨bm,N,nm,q,bs,hdct,sn,sub,ab,col,dd,k0,k1,k2,k3,k5,g1,⟨mN,g2,g3⟩,g4⟩:=z4T I.mod.kin xc.ok;refine wpAny_Raise_call_subT (nm:=nm) (q:=q) (N:=N) (bs:=bs) (hdct:=hdct) (sn:=sn) (sub:=sub) (ab:=ab) (col:=col) (dd:=dd) (k0:=k0) (k1:=k1) (k2:=k2) (k3:=k3) (k5:=k5) F.excBase_ValueError (z1P g4 (by decide)) (I.ok.hd hc) rfl g3 (Gg I hg (by rw[<-hx];exact xc.mg) ⟨rfl,?_⟩ hdb);refine Calls.evalArgs_plain (thn ((show PFA X [.Constant (.str t) j p1] _ from i7 Yj f9) cpos π s σ H (λvs H'=>vs.length=1/\Same H H') I ⟨ρ,_,rb.all,rfl,λvs H' sm r=>⟨r.length,sm⟩⟩) λus s1 hZ=>?_);obtain⟨vs,H1,I1,r,hl,sm⟩:=hZ;refine⟨rfl,by show us.length<=_;rw[<-r.length,hl];decide,I1.bk _ _ g1,z1Q g2 I1.bk,g4.keeps I1.bk,λh' ea m=>?_⟩;exact hr π σ H1 s1 _ ea _ I1 m rfl rfl (hE H1 ag (rb.same.trans (w8.trans sm)) (.inl rfl))
abbrev FX:=gf->Option (Dt ⊕ Nat)
def spx(K:aD)(mg:aE)(fr:Bool)(c:FX):Sp:=λvs H Q E=>∃ds r,Rps K emp ds H vs/\c ds=aa r /\
 match r with
 |.inl d=>∀v H',Same H H'->Rp K (if fr then H else emp) d H' v->Q v H'
 |.inr n=>∀C H' o,mg (exN n)=aa (.ref C)->Same H H'->(o=ag\/wk n=ac)->E (.ref C) o H'
theorem RE{P:aL}{w:aH}:BQ (CX1 P w) X E0:=by
 rintro π σ H s e s' I ⟨ea,C,H',c,rfl,os,bare,un,hok,fly,hE⟩;exact hE.elim
theorem z4U{CX:CXT}{sp:Sp}{E:XK}{t:TA}{π:aB}{s:am}{σ:St}{H:Hp}{Q:VK}(F:FnOk X.prog X.w X.K X.mg X.base CX k f fd ps sp)(hr:Room k X.A)(hg:Gl X x)(hm:X.mg x=aa (.ref f))(hk:bQ X.K (.ref f)=ac)(hb:Binds X.K fd ps [])
  (ha:PA X (e::es) t) (hdb:(x==("__debug__":Str))=af) (he:aq (e::es) X.env=(af,eval e X.env)::aq es X.env) (hpl:(bH pos (aq es X.env)).any (·.1)=af)
  (I:Inv X π σ H s) (h:t σ H λvs H1=>sp vs H1 Q E) (hx:∀H1 s1 e s',Inv X π σ H1 s1->CX X.stack H1 s1 E e s'->X.xe e s'):ay (model X.prog X.w) X.A (eval (.Call (.Name x p) (e::es) [] pos) X.env) (EP X π σ Q) X.xe s:=by
 refine bK (Gg I hg hm ?_ hdb);refine PySem.W.callWith_K (h₀:=X.base) I.ok.mod.kin hk (thn (ha pos π s σ H _ I h) λus s1⟨vs,H1,I1,r,q⟩=>⟨I1.kIn,?_⟩) he hpl;have hl:(us++[]).length=ps.length:=by rw[vn,<-r.length];exact F.len _ _ _ _ q
 have hb2:=hb s1 us I1.kIn hl;rw[vn]at hb2;refine wpAny_call (cT (F.run X.A X.stack s1 H1 ⟨us,[]⟩ us vs Q E hr I1.env0 hb2 r q) λr s' hq=>?_);cases r with
 |error e=>exact hx H1 s1 e s' I1 hq
 |ok fl=>
  cases fl with
  |ret u=>exact I1.after hq
  |next=>exact bR hq
  |brk=>exact bR hq
  |cont=>exact bR hq
def CV(c:FX)(Fs:FA):FS:=λρ=>(Fs ρ).bind λxs=>(c (sndL xs)).map λr=>match r with|.inl _=>.nx ρ|.inr n=>.ex n
def Gu(fr:Bool)(c:FX)(Fs:FA):FS:=λρ=>(Fs ρ).bind λxs=>(c (sndL xs)).map λr=>match r with|.inl d=>.rt (nrm (if fr then .nw else .sh) d).1 d|.inr n=>.ex n
theorem Gv{ct:FX}{pos':Pos}(F:FnOk X.prog X.w X.K X.mg X.base (CX1 X.prog X.w) k f fd ps (spx X.K X.mg fr ct))(D:Df X.K X.mg x st ps f fd)(hr:Room k' X.A)(hg:Gl X x)
  (ha:PFA X (e::es) Fs) (hle:k<=k':=by decide) (hdb:(x==("__debug__":Str))=af:=by decide) (hst:aq (e::es) X.env=(af,eval e X.env)::aq es X.env:=by rfl) (hpl:(bH pos (aq es X.env)).any (·.1)=af:=by rfl)
  (hs:bV (.Call (.Name x p) (e::es) [] pos) ag pos'.line X.env=pure af:=by rfl):PFS X (.Expr (.Call (.Name x p) (e::es) [] pos) pos') (CV ct Fs):=by
 rintro π s σ H De I ⟨H₀,ρ,oc,⟨O,rb⟩,e0,k⟩;obtain⟨xs,e1,e2⟩:=i0 e0;cases q:ct (sndL xs) with
 |none=>rw[q]at e2;cases e2
 | some r =>
  rw[q]at e2;cases r with
  |inl d=>
   cases e2;exact DX (AD (E:=E0) (dvs:=[]) F (hr.mono hle) hg D.mg D.fn.kp D.bd .nil RE ha hdb hst hpl) hs π s σ H De I ⟨ρ,xs,rb.all,e1,λvs H1 s1 r1=>by
     dsimp only;rw[vn];exact⟨_,.inl d,r1.sh,q,λv H' s' r'=>k σ H' ⟨O,rb.mono (s1.trans s')⟩⟩⟩
  |inr n=>
   cases e2;have go:∀E:XK,BQ (CX1 X.prog X.w) X E->(∀C H' o,X.mg (exN n)=aa (.ref C)->Same H H'->(o=ag\/wk n=ac)->E (.ref C) o H')->ay (model X.prog X.w) X.A (exec (.Expr (.Call (.Name x p) (e::es) [] pos) pos') X.env) (SP X π De) X.xe s:=λE hp hE=>
     DX (AD (E:=E) (dvs:=[]) F (hr.mono hle) hg D.mg D.fn.kp D.bd .nil hp ha hdb hst hpl) hs π s σ H De I ⟨ρ,xs,rb.all,e1,λvs H1 s1 r1=>by
      dsimp only;rw[vn];exact⟨_,.inr n,r1.sh,q,λC H' o hC s' ho=>hE C H' o hC (s1.trans s') ho⟩⟩
   by_cases hC:∃C,X.mg (exN n)=aa (.ref C)
   .obtain⟨C,hC⟩:=hC;obtain⟨E,hE,hp,hr⟩:=k C hC;refine go E hp λC' H' o hC' sm ho=>?_;rw[hC]at hC';cases hC';exact hE H' o (rb.same.trans (w8.trans sm)) ho
   .exact go E0 RE λC H' o h=>(hC ⟨C,h⟩).elim
theorem HJ{ct:FX}{pos':Pos}(F:FnOk X.prog X.w X.K X.mg X.base (CX1 X.prog X.w) k f fd ps (spx X.K X.mg fr ct))(D:Df X.K X.mg x st ps f fd)(hr:Room k' X.A)(hg:Gl X x)
  (ha:PFA X (e::es) Fs) (hle:k<=k':=by decide) (hdb:(x==("__debug__":Str))=af:=by decide) (hst:aq (e::es) X.env=(af,eval e X.env)::aq es X.env:=by rfl) (hpl:(bH pos (aq es X.env)).any (·.1)=af:=by rfl) :
  PFS X (.Return (aa (.Call (.Name x p) (e::es) [] pos)) pos') (Gu fr ct Fs):=by
 rintro π s σ H De I ⟨H₀,ρ,oc,⟨O,rb⟩,e0,k⟩;obtain⟨xs,e1,e2⟩:=i0 e0;cases q:ct (sndL xs) with
 |none=>rw[q]at e2;cases e2
 | some r =>
  rw[q]at e2;cases r with
  |inl d=>
   cases e2;exact Kc (AD (E:=E0) (dvs:=[]) F (hr.mono hle) hg D.mg D.fn.kp D.bd .nil RE ha hdb hst hpl) π s σ H De I ⟨ρ,xs,rb.all,e1,λvs H1 s1 r1=>by
     dsimp only;rw[vn];refine⟨_,.inl d,r1.sh,q,λv H' s' r'=>k v H' (rb.same.trans (w8.trans (s1.trans s'))) ?_⟩;have z:=Ro (X:=X.ky) s1 r';by_cases y:(nrm (if fr=ac then Fl.nw else Fl.sh) d).1.isFr=ac
     .rw[y];exact z.fr rb.below y
     .rw[show(nrm (if fr=ac then Fl.nw else Fl.sh) d).1.isFr=af by simpa using y];exact z.sh⟩
  |inr n=>
   cases e2;have go:∀E:XK,BQ (CX1 X.prog X.w) X E->(∀C H' o,X.mg (exN n)=aa (.ref C)->Same H H'->(o=ag\/wk n=ac)->E (.ref C) o H')->ay (model X.prog X.w) X.A (exec (.Return (aa (.Call (.Name x p) (e::es) [] pos)) pos') X.env) (SP X π De) X.xe s:=λE hp hE=>
     Kc (AD (E:=E) (dvs:=[]) F (hr.mono hle) hg D.mg D.fn.kp D.bd .nil hp ha hdb hst hpl) π s σ H De I ⟨ρ,xs,rb.all,e1,λvs H1 s1 r1=>by
       dsimp only;rw[vn];exact⟨_,.inr n,r1.sh,q,λC H' o hC s' ho=>hE C H' o hC (s1.trans s') ho⟩⟩
   by_cases hC:∃C,X.mg (exN n)=aa (.ref C)
   .obtain⟨C,hC⟩:=hC;obtain⟨E,hE,hp,hr⟩:=k C hC;refine go E hp λC' H' o hC' sm ho=>?_;rw[hC]at hC';cases hC';exact hE H' o (rb.same.trans (w8.trans sm)) ho
   .exact go E0 RE λC H' o h=>(hC ⟨C,h⟩).elim
end
def xOf(np n:Nat)(fr:Bool)(F:FS):FX:=λds=>if ds.length=np then
 (F (rho0 n ds)).bind λoc=>match oc with|.rt f d=>if fr&&!(f.isFr||d.flat) then ag else aa (.inl d)|.nx _=>aa (.inl .non)|.ex n=>aa (.inr n)|_=>ag
 else ag
section
variable {P:aL}{w:aH}{K:aD}{mg:aE}{base:aV}
theorem Fun.datX{x qual:Str}{st:Stmt}{f:Addr}{fd:FuncData}{N ps:List Str}{k np nn:Nat}{fr:Bool}{F:FS}(Fu:Fun K x qual st f fd)(S:FnScope N ps (b9 st))(hp:np=ps.length)(hn:nn=N.length)
    (body:∀(cdv:ao)(A:bj)(outer:fU)(s:am)(H:Hp)(E:XK),Room k (A.deeper (ci qual (b9 st) s.heap.objs.size f cdv)) ->
      PFSs (cx1 P w K mg base N qual (b9 st) f cdv A outer s H E) (G3 st) F):FnOk P w K mg base (CX1 P w) (k+1) f fd ps (spx K mg fr (xOf np nn fr F)):=by
  subst hp hn;obtain⟨oc,od,kV,doc,pm,an,cdv,ct,osl,rfl,lk,hcd⟩:=Fu.ex;refine fn_of lk hcd S (λvs H Q E h=>?_) λA outer s H vs Q E hr h=>?_
  .obtain⟨ds,d,r,e,q⟩:=h;unfold xOf at e;split at e
   .rename_i hl;rw[r.length];exact hl
   .cases e
  .obtain⟨ ds,d,r,e,q⟩:=h
   unfold xOf at e;split at e
   .rename_i hl;obtain⟨oc,e1,e2⟩:=i0 e;refine⟨_,body cdv A outer s H E hr,H,rho0 N.length ds,oc,⟨[],EV rfl r⟩,e1,?_⟩;cases oc with
    |nx ρ=>cases e2;exact λσ H'⟨O,rb⟩=>q _ H' (rb.same.trans w8) (Rp.non_.mpr rfl)
    |bk ρ=>cases e2
    |ct ρ=>cases e2
    |ex n=>cases e2;exact λC hC=>xok1 λH' o sm ho=>q C H' o hC sm ho
    | rt f d' =>
      have e2:(if(fr&&!(f.isFr||d'.flat))=ac then ag else aa (dR d'))=aa d:=e2;split at e2
      .cases e2
      .rename_i hf;cases e2;refine λv H' sm r'=>q v H' sm ?_;cases fr with
       |false=>exact Rp.anti Same.emp _ r'
       | true =>
         have hf:f.isFr=ac\/d'.flat=ac:=by
           cases h1:f.isFr<;>cases h2:d'.flat<;>simp[h1,h2]at hf|-
         rcases hf with hf|hf
         .rw[hf]at r';exact r'
         .exact Rp.flat d' hf r'
   .cases e
end
end L2
end
section
namespace L2
open PySem.W
abbrev Cx.caught(X:Cx)(ea:aj):Cx:={ X with A:=X.A.mark (aa (.ref ea)),calm:=af,xe:=λ_ _=>False }
section
variable {X:Cx}{π:aB}{σ:St}{H H1 H' H₀:Hp}{s s1:am}{ea C M:aj}{cx:ao}{E:aC}
theorem Cx.Ok.caught(ok:X.Ok)(ea:aj):(X.caught ea).Ok:=
 ⟨ok.mod,ok.kind,ok.glob,ok.blt,ok.above,ok.inj,ok.has,ok.cab,(λz=>by cases z),ok.frames,ok.stk,ok.exf,ok.bs,ok.bsz,ok.noex,ok.exfs,ok.funs,ok.frf⟩
theorem Inv.caught(I:Inv X π σ H s)(ea:aj):Inv (X.caught ea) π σ H s:=⟨I.ok.caught ea,I.os,I.bare,I.base,I.loc,I.cell,I.free,I.freeC,I.pin,I.hok,I.len⟩
theorem Inv.uncaught(I:Inv (X.caught ea) π σ H s)(o:X.Ok):Inv X π σ H s:=⟨o,I.os,I.bare,I.base,I.loc,I.cell,I.free,I.freeC,I.pin,I.hok,I.len⟩
theorem SP.uncaught{D:Ends}{f:Flow}{s':am}(o:X.Ok)(h:SP (X.caught ea) π D f s'):SP X π D f s':=by
 cases f with
 |next=>obtain⟨σ',H',I,q⟩:=h;exact⟨σ',H',I.uncaught o,q⟩
 |brk=>obtain⟨σ',H',I,q⟩:=h;exact⟨σ',H',I.uncaught o,q⟩
 |cont=>obtain⟨σ',H',I,q⟩:=h;exact⟨σ',H',I.uncaught o,q⟩
 |ret u=>obtain⟨v,σ',H',I,r,q⟩:=h;exact⟨v,σ',H',I.uncaught o,r,q⟩
theorem RepB.caught{ρ:Rho}(h:RepB X H₀ H ρ σ)(ea:aj):RepB (X.caught ea) H₀ H ρ σ:=by
 obtain⟨O,h⟩:=h;exact⟨O,h.ndA,h.ndI,h.own,h.len,h.b0,h.same,h.at_⟩
theorem RepB.uncaught{ρ:Rho}(h:RepB (X.caught ea) H₀ H ρ σ):RepB X H₀ H ρ σ:=by
 obtain⟨O,h⟩:=h;exact⟨O,h.ndA,h.ndI,h.own,h.len,h.b0,h.same,h.at_⟩
structure At(X:Cx)(π:aB)(σ:St)(H1:Hp)(s1:am)(H':Hp)(ea C:aj)(cx:ao)(s:am):Prop where
 inv:Inv X π σ H' s
 fly:Fly s1.heap H' ea C cx s.heap
 un:Un (frs X.stack) [] H1 H' s1.heap s.heap
theorem At.step{a0:ao}{T:aj}{l':fU}{h':aV}(I1:Inv X π σ H1 s1)(a:At X π σ H1 s1 H' ea C cx s)(n3:s1.heap.get? T=ag)(n4:H' T=ag)(f:(hideAll s.heap (ea::T::frs X.stack)).FlyingW l' ea (.ref C) a0 h')(us:s.heap.UpToSlots h')(cc:∀c,C2 s.heap ea c->C2 h' ea c):
  At X π σ H1 s1 H' ea C cx { s with heap:=h' }:=by
 obtain⟨f1,f2,f3⟩:=Fly.step a.fly.1 a.fly.2.1 n3 n4 a.inv.stack a.inv.stkFree a.inv.hok a.un f us (λb hb=>.inl hb) (λb o _=>by simp) (cc cx a.fly.c2);exact⟨I1.call' (ch:=[]) (a.inv.os.trans I1.os.symm) f3 f2 a.inv.bare λb z=>aN z (by simp),f1,f3⟩
theorem z0f{Q:Unit->am->Prop}{A2:bj}{E2:aC}(I1:Inv X π σ H1 s1)(a:At X π σ H1 s1 H' ea C cx s)(hs:X.stack=X.env::X.outer)(hf:X.env.frame=aa X.env.locals)
  (h:∀s',At X π σ H1 s1 H' ea C cx s'->Q () s'):ay (model X.prog X.w) X.A (fH (.ref ea) X.env) (λ_ s₂=>ay (model X.prog X.w) A2 (setFlight (.ref ea) ag) Q E2 s₂) E s:=by
 obtain⟨T,a0,n3,n4,fl⟩:=a.fly.base a.inv.stack;have fl':=fl;rw[hs]at fl';refine Yr (by rw[<-hs];exact a.inv.ok.frames) hf fl' λh1 held us cc=>Gp (s:={ s with heap:=h1 }) held.1 held.2.2.1 held.2.1 held.2.2.2 λh2 fl2 us2 cc2=>h _ ?_;rw[<-hs]at fl2;exact(show At X π σ H1 s1 H' ea C cx { s with heap:=h2 }from a.step I1 n3 n4 fl2 (UpToSlots.trans us us2) λc z=>cc2 c (cc c z))
theorem Kv{Q:Unit->am->Prop}{A2:bj}(I1:Inv X π σ H1 s1)(a:At X π σ H1 s1 H' ea C cx s)
  (h:∀s',At X π σ H1 s1 H' ea C cx s'->Q () s'):ay (model X.prog X.w) A2 (setFlight (.ref ea) ag) Q E s:=by
 obtain⟨T,a0,n3,n4,fl⟩:=a.fly.base a.inv.stack;exact Gp fl.1 fl.2.2.1 fl.2.1 fl.2.2.2 λh2 fl2 us2 cc=>h _ (a.step I1 n3 n4 fl2 us2 cc)
theorem At.looks(a:At X π σ H1 s1 H' ea C cx s):Looks (model X.prog X.w) s.heap (typeOf (.ref ea)) (.ref C):=by
 obtain⟨_,_,oe,_,_,_,_,_,q1,q2,_⟩:=a.fly;intro A Q E s' k q;exact fE (k _ _ q1) (by rw[q2];exact q)
theorem z1R{Q:Flow->am->Prop}{nm:Option Str}{body:fT}{hpos np:Pos}{x:Str}{rest:List ExceptHandler}(I1:Inv X π σ H1 s1)(a:At X π σ H1 s1 H' ea C cx s)(hg:Gl X x)(hm:X.mg x=aa (.ref M))(hit:exmOne X.K (.ref C) (.ref M)=aa ac)(hdb:(x==("__debug__":Str))=af)
  (h:codeAny (model X.prog X.w) (X.A.mark (some (.ref ea))) (.handlers (.ref ea) [.ExceptHandler none nm body hpos] X.env) (fun r s₂=>match r with
   | .ok f=>(match nm with
    |none=>Q f s₂
    |some n=>ay (model X.prog X.w) X.A (do
     bindName X.env n bw
     unbindBehindTheSuite X.env n hpos) (λ_ s₃=>Q f s₃) E s₂)
   |.error x=>cameBackBy (model X.prog X.w) X.A X.env E x s₂) s) :
  ay (model X.prog X.w) X.A (handleBy (.ref ea) X.env (.ExceptHandler (aa (.Name x np)) nm body hpos::rest)) Q E s:=by
 refine wpAny_handleBy_cons (codeAny_handlers_test (Gg (X:=X.caught ea) (a.inv.caught ea) hg hm ?_ hdb)) (λz=>nomatch z);exact exm_one a.inv.kIn a.looks hit _ _ _ s (λb o e=>e) h
end
def noEx:Oc->Option Oc
 |.ex _=>ag
 |o=>aa o
def clr(i:Nat):Oc->Option Oc
 |.nx ρ=>aa (.nx (ρ.set i .no))
 |.rt f d=>aa (.rt f d)
 |_=>ag
def sTry(c:FX)(Fs:FA)(hits:Nat->Bool)(G:FS):FS:=λρ=>(Fs ρ).bind λxs=>(c (sndL xs)).bind λr=>match r with|.inl _=>aa (.nx ρ)|.inr n=>if hits n then(G ρ).bind noEx else ag
def Pb(c:FX)(Fs:FA)(hits:Nat->Bool)(i:Nat)(G:FS):FS:=λρ=>(Fs ρ).bind λxs=>(c (sndL xs)).bind λr=>match r with|.inl _=>aa (.nx ρ)|.inr n=>if hits n then(G (ρ.set i .ex)).bind (clr i) else ag
structure Hit(K:aD)(mg:aE)(hits:Nat->Bool)(x:Str)(M:aj):Prop where
 gl:mg x=aa (.ref M)
 hit:∀n C,hits n=ac->mg (exN n)=aa (.ref C)->exmOne K (.ref C) (.ref M)=aa ac/\kitCls K (.ref C) (.type "ValueError")=aa ac
theorem Uf{K:aD}{mg:aE}{hits:Nat->Bool}{x:Str}{M:aj}(a:mg x=aa (.ref M))(b:∀n C,hits n=ac->mg (exN n)=aa (.ref C)->exmOne K (.ref C) (.ref M)=aa ac/\kitCls K (.ref C) (.type "ValueError")=aa ac):Hit K mg hits x M:=⟨a,b⟩
section
variable {X:Cx}{C:aj}{n:Nat}{e:aK}{es:fR}{pos pos' tpos hpos np:Pos}{Fs:FA}{fr:Bool}{k k':Nat}{f:aj}{fd:ak}{ps:fO}{x y:Str}{st:aJ}{p:Pos}{ct:FX}
theorem RF{π:aB}{s:am}{σ:St}{H:Hp}{De:Ends}{ρ:Rho}{xs:gh}{r:Dt ⊕ Nat}{h0:ExceptHandler}{hs0:List ExceptHandler}(F:FnOk X.prog X.w X.K X.mg X.base (CX1 X.prog X.w) k f fd ps (spx X.K X.mg fr ct))(D:Df X.K X.mg x st ps f fd)(hr:Room k' X.A)(hg:Gl X x)
  (ha:∀E,PFA (X.wish E) (e::es) Fs) (hle:k<=k') (hdb:(x==("__debug__":Str))=af) (hst:aq (e::es) X.env=(af,eval e X.env)::aq es X.env) (hpl:(bH pos (aq es X.env)).any (·.1)=af)
  (hs:bV (.Call (.Name x p) (e::es) [] pos) ag pos'.line X.env=pure af) (hstk:X.stack=X.env::X.outer) (hfr:X.env.frame=aa X.env.locals)
  (I:Inv X π σ H s) (rs:RepS X.ky H ρ σ) (e1:Fs ρ=aa xs) (q:ct (sndL xs)=aa r) (hN:∀d,r=.inl d->∀H',Same H H'->De.nx σ H')
  (hX:∀n,r=.inr n->∀H1 s1 H' ea C cx s',Inv X π σ H1 s1->X.mg (exN n)=aa (.ref C)->Same H H'->(ctxO cx=ag\/wk n=ac)->At X π σ H1 s1 H' ea C cx s'->ay (model X.prog X.w) X.A (handleBy (.ref ea) X.env (h0::hs0)) (SP X π De) X.xe s') :
  ay (model X.prog X.w) X.A (exec (.Try [.Expr (.Call (.Name x p) (e::es) [] pos) pos'] (h0::hs0) [] [] tpos) X.env) (SP X π De) X.xe s:=by
 refine wpAny_Try_except ?_;have go:∀E1:aC,(∀n,r=.inr n->∀H1 s1 H' ea C cx s',Inv X π σ H1 s1->X.mg (exN n)=aa (.ref C)->Same H H'->(ctxO cx=ag\/wk n=ac)->At X π σ H1 s1 H' ea C cx s'->E1 (.ref ea) s') ->
    ay (model X.prog X.w) X.A (exec (.Expr (.Call (.Name x p) (e::es) [] pos) pos') X.env) (SP X π De) E1 s:=λE1 hE1=>by
  have I1:Inv (X.wish E1) π σ H s:=I.wish E1;refine thn (wpAny_Expr_any (thn (z4U (X:=X.wish E1) (E:=λc o H'=>∃n C,r=.inr n/\c=.ref C/\X.mg (exN n)=aa (.ref C)/\Same H H'/\(o=ag\/wk n=ac)) (Q:=λ_ H'=>De.nx σ H') F (hr.mono hle) hg D.mg D.fn.kp D.bd (ha E1) hdb hst hpl I1 ⟨ρ,xs,rs,e1,λvs H1 s1 r1=>?_⟩ λH1 s1 e s' J cx=>?_)
    λv s1⟨u,H1,J,r1,q1⟩=>(show SP (X.wish E1) π De .next s1 from⟨σ,H1,J,q1⟩)) I1.quiet hs) λf s1 z=>z.unwish
  .refine⟨_,r,r1.sh,q,?_⟩;cases r with
   |inl d=>exact λv H' s' _=>hN d rfl H' (s1.trans s')
   |inr n=>exact λC H' o hC s' ho=>⟨n,C,rfl,rfl,hC,s1.trans s',ho⟩
  .obtain⟨ea,C,H',c0,rfl,os,bare,un,hok,fly,n,C',er,ec,hC,sm,ho⟩:=cx;cases ec;have J:=J.unwish;exact hE1 n er H1 s1 H' ea C c0 s' J hC sm ho ⟨J.call' (ch:=[]) os un hok bare λb z=>aN z (by simp),fly,un⟩
 refine fG (thn (go _ λn er H1 s1 H' ea C c0 s' J hC sm ho a=>z0f J a hstk hfr λs2 a2=>hX n er H1 s1 H' ea C c0 s2 J hC sm ho a2) λf s1 z=>?_);cases f with
 |next=>exact cM (cM z)
 |ret v=>exact z
 |brk=>exact z
 |cont=>exact z
theorem s_try{hits:Nat->Bool}{M:aj}{b₀:aJ}{suite:fT}{G:FS}(F:FnOk X.prog X.w X.K X.mg X.base (CX1 X.prog X.w) k f fd ps (spx X.K X.mg fr ct))(D:Df X.K X.mg x st ps f fd)(hr:Room k' X.A)(hg:Gl X x)
   (ha:∀E,PFA (X.wish E) (e::es) Fs) (hgy:Gl X y) (hh:Hit X.K X.mg hits y M) (hsu:∀ea,PFSs (X.caught ea) (b₀::suite) G) (hle:k<=k':=by decide) (hdb:(x==("__debug__":Str))=af:=by decide) (hdy:(y==("__debug__":Str))=af:=by decide) (hst:aq (e::es) X.env=(af,eval e X.env)::aq es X.env:=by rfl) (hpl:(bH pos (aq es X.env)).any (·.1)=af:=by rfl)
   (hs:bV (.Call (.Name x p) (e::es) [] pos) ag pos'.line X.env=pure af:=by rfl) (hstk:X.stack=X.env::X.outer:=by rfl) (hfr:X.env.frame=aa X.env.locals:=by rfl) :
   PFS X (.Try [.Expr (.Call (.Name x p) (e::es) [] pos) pos'] [.ExceptHandler (aa (.Name y np)) ag (b₀::suite) hpos] [] [] tpos) (sTry ct Fs hits G):=by
 rintro π s σ H De I ⟨H₀,ρ,oc,⟨O,rb⟩,e0,k⟩;obtain⟨xs,e1,e2⟩:=i0 e0;obtain⟨r,q,e3⟩:=i0 e2;refine RF F D hr hg ha hle hdb hst hpl hs hstk hfr I rb.all e1 q (λd er H' sm=>?_) λn er H1 s1 H' ea C c0 s' J hC sm ho a=>?_
 .subst er;cases e3;exact k σ H' ⟨O,rb.mono sm⟩
 .subst er;dsimp only at e3;split at e3
  .rename_i hn;obtain⟨oc',e4,e5⟩:=i0 e3;refine z1R J a hgy hh.gl (hh.hit n C hn hC).1 hdy (codeAny_handlers_suite (Kv J a λs3 a3=>?_));refine bu (hsu ea π s3 σ H' De (a3.inv.caught ea) ⟨H₀,ρ,oc',RepB.caught ⟨O,rb.mono sm⟩ ea,e4,?_⟩) (λf s4 z=>SP.uncaught I.ok z) λ_ _ z=>z.elim;cases oc' with
   |nx ρ'=>cases e5;exact λσ' H'' z=>k σ' H'' z.uncaught
   |bk ρ'=>cases e5;exact λσ' H'' z=>k σ' H'' z.uncaught
   |ct ρ'=>cases e5;exact λσ' H'' z=>k σ' H'' z.uncaught
   |rt f d=>cases e5;exact k
   |ex m=>cases e5
  .cases e3
end
section
variable {X:Cx}{H₀ H:Hp}{O:Own}{ρ:Rho}{σ:St}{π:aB}{s:am}{ea:aj}
theorem RepO.setC(h:RepO X H₀ H O ρ σ){i:Nat}{c:Cell}{o:Option V}(hc:z1B X H (X8 O i) i c o):RepO X H₀ H (X8 O i) (ρ.set i c) (σ.set i o):=by
 have sm:Same (hidL O.adr H) (hidL (X8 O i).adr H):=V5 F5;refine⟨h.ndA.sublist (bP _ (vj)),h.ndI.sublist (bP _ (vj)),λa ha=>h.own a (F5 a ha),by rw[vq,vq];exact h.len,h.b0,h.same.trans sm,λj c' q=>?_⟩;by_cases e:i=j
 .subst e;rw[vz,ar rfl]at q;rw[vz,ar rfl];split at q
  .rename_i hl;cases q;rw[ar (by rw[<-h.len];exact hl)];exact⟨_,rfl,hc⟩
  .cases q
 .rw[vg e]at q|-;obtain⟨o',e1,e2⟩:=h.at_ j c' q;refine⟨o',e1,?_⟩;cases c' with
  |no=>trivial
  |ex=>obtain⟨a,φ,q,r,z⟩:=e2;exact⟨a,φ,q,sm _ _ r,z⟩
  |sh f d=>obtain⟨v,q,r⟩:=e2;exact⟨v,q,Rp.mono _ sm r⟩
  |ow f ds=>obtain⟨a,vs,q1,q2,q3,r⟩:=e2;exact⟨a,vs,Q7.mpr ⟨q1,λz=>e z.symm⟩,q2,q3,Rps.mono _ sm r⟩
theorem Inv.trackX{o:HO}(I:Inv X π σ H s)(hn:H ea=ag)(hb:X.s₀.heap.get? ea=ag)(hl:ea≠X.env.locals)(hc:∀x c,X.env.cells.lookup x=aa c->c≠ea)(hp:∀p∈X.pn++π,p.1≠ea)(ho:ObjOk X.prog X.w (upd H ea o) s.heap ea o):Inv X π σ (upd H ea o) s:=by
 have ne:∀{b:aj}{u:HO},H b=aa u->upd H ea o b=aa u:=λ{b u}e=>by
   rw[u6 λz=>by rw[z,hn]at e;cases e];exact e
 refine⟨I.ok,I.os,I.bare,⟨I.base.keep,I.base.slot,λb ob e n hx=>?_,I.base.there,λb xs e=>ne (I.base.tups b xs e),λb ob u e=>ne (I.base.frzs b ob u e),λb ps e=>?_⟩,I.loc,I.cell,?_,λx c e=>?_,λp z=>?_,λb u e=>?_,I.len⟩
 .rw[u6 λz=>by rw[z,hb]at e;cases e];exact I.base.free b ob e n hx
 .obtain⟨more,z⟩:=I.base.tbls b ps e;exact⟨more,ne z⟩
 .rw[u6 hl.symm];exact I.free
 .rw[u6 (hc x c e)];exact I.freeC x c e
 .obtain⟨p1,p2,p3⟩:=I.pin p z;exact⟨p1,by rw[u6 (hp p z)];exact p2,p3⟩
 .by_cases hb:b=ea
  .subst hb;rw[A0]at e;cases e;exact ho
  .rw[u6 hb]at e;exact(I.hok b u e).stay (λc v _ q=>q) (λc r=>ne r) λc xs r=>ne r
theorem Yz{M:Model}{A:bj}{E:aC}{i:Nat}{x:Str}{pos:Pos}{Q:Unit->am->Prop}(I:Inv X π σ H s)(hN:X.N.Nodup)(hi:X.N[i]?=aa x)(hk:X.env.scope.names.lookup x=aa .local)
   (h:∀s',Inv X π (σ.set i ag) H s'->Q () s'):ay M A (do
     bindName X.env x bw
     unbindBehindTheSuite X.env x pos) Q E s:=by
 obtain⟨m,hn,hl⟩:=id I.loc;have hcls:(X.env.scope.kind==.class||(X.env.scope.kind==.module&&X.env.locals != X.env.globals))=af:=by rw[I.ok.kind];rfl
 have hiσ:i<σ.length:=by rw[I.len];exact(vF.mp hi).1
 have cne:=I.cne;obtain⟨oL,_,_,hoL,_⟩:=id hn;refine wpAny_nameGoes_keeps hk hn hcls λh' v hn' hs=>?_;have tracked:HOk X.prog X.w H h':=λb ob e=>by
   refine(I.hok b ob e).stay (λc w' hc q=>(hs.2 c ?_).trans q) (λ_ q=>q) λ_ _ q=>q;rintro rfl;rcases hc with z|hc
   .rw[<-z,I.free]at e;cases e
   .rw[I.free]at hc;cases hc
 refine h _ ⟨I.ok,I.os,I.bare,⟨λb o e n hb hx=>?_,λb o e n hb hx=>?_,I.base.free,λb o e hx=>?_,I.base.tups,I.base.frzs,I.base.tbls⟩,⟨_,hn',λj y v' e1 e2 e3=>?_⟩,λy c e=>?_,I.free,I.freeC,λp hp=>?_,tracked,by simpa using I.len⟩
 .exact(hs.2 b (wM (ww (wt e) I.ok.above))).trans (I.base.keep b o e n hb hx)
 .obtain⟨sl,e1⟩:=I.base.slot b o e n hb hx;exact⟨sl,(hs.2 b (wM (ww (wt e) I.ok.above))).trans e1⟩
 .obtain⟨o',e1⟩:=I.base.there b o e hx;exact⟨o',(hs.2 b (wM (ww (wt e) I.ok.above))).trans e1⟩
 .by_cases hj:j=i
  .subst hj;rw[uO hiσ]at e2;cases e2
  .rw[vg (bL hj)]at e2;obtain⟨u',r',q⟩:=hl j y v' e1 e2 e3;refine⟨u',r',?_⟩;rcases q with⟨k,e⟩|⟨k,c,e,z⟩
   .refine .inl ⟨k,?_⟩;have:y≠x:=λe=>hj (JZ hN e1 (e ▸ hi));simp[this,e]
   .exact .inr ⟨k,c,e,z.sameBut hs (cne y c e)⟩
 .obtain⟨w',z⟩:=I.cell y c e;exact⟨w',z.sameBut hs (cne y c e)⟩
 .obtain⟨e,n,ne,nf,d⟩:=I.pin p hp;exact⟨(hs.2 p.1 ne).trans e,n,ne,nf,d⟩
end
end L2
end
section
namespace L2
open PySem.W
theorem z1S{M:aL}{w:aH}{A:bj}{Q:aC}{E:aC}{s:am}{K:aD}{a C:aj}{oe:Obj}(kin:K.In s.heap)(h1:s.heap.get? a=aa oe)(h2:oe.cls=.ref C)(h3:kitCls K (.ref C) (.type "ValueError")=aa ac)
  (q:Q (.bool ac) s):ay (model M w) A (call (.builtin "isinstance") [.ref a,.type "ValueError"]) Q E s:=by
 obtain⟨l1,l2,l3⟩:=kit_cls (M:=model M w) kin h3;have l4:Looks (model M w) s.heap (isInstance (.ref a) (.type "ValueError")) ac:=λA Q E s' k q=>by
  unfold isInstance;refine ah (fE (k _ _ h1) ?_);rw[h2];exact l3 _ _ _ _ k q
 refine call_isinstance_of ?_ (λz=>nomatch z);unfold Builtin.«isinstance.nested»;refine ah (fE h1 ?_);rw[h2];refine wpAny_ite ?_;rw[aw (show ¬(bq C==Value.type "ValueError")=ac from wL)];refine ah (l1 _ _ _ _ (λb o e=>e) ?_);refine wpAny_ite ?_;rw[ar (by decide)];refine ah ?_;refine ah (m:=isType (.type "ValueError")) (l2 _ _ _ _ (λb o e=>e) ?_);refine wpAny_ite ?_;rw[aw (by decide)];refine ah (l4 _ _ _ _ (λb o e=>e) ?_);refine wpAny_ite ?_;rw[ar rfl];exact aI (aI q)
section
variable {X:Cx}{C:aj}{n:Nat}{e:aK}{es:fR}{pos pos' tpos hpos np:Pos}{Fs:FA}{fr:Bool}{k k':Nat}{f:aj}{fd:ak}{ps:fO}{x y z:Str}{st:aJ}{p:Pos}{ct:FX}
theorem z4V:EG X (.builtin "isinstance") (λxs H Q=>∃a φ,xs=[.ref a,.ty "ValueError"]/\H a=aa (.ext φ)/\(∀h,φ h->z1m X.K a h)/\Q (.bl ac) H):=by
 rintro π s σ H xs us Q I r ⟨a,φ,rfl,h1,h2,fin⟩;obtain⟨u,u',rfl,r1,r2⟩:=vals2 r;cases r1;cases r2;obtain⟨oe,C,q1,q2,q3⟩:=h2 _ (I.hok a _ h1).1;exact z1S I.kIn q1 q2 q3 ⟨.bl ac,H,I,rfl,fin⟩
def fIsx(i:Nat):FE:=λρ=>match ρ[i]? with|some .ex=>aa (.nw,.bl ac)|_=>ag
theorem p_isx(i:Nat){p q pe pos:Pos}(hg:Gl X "isinstance")(hm:X.mg "isinstance"=ag)(hgT:Gl X "ValueError")(hmT:X.mg "ValueError"=ag)(hN:X.N[i]?=aa x:=by rfl)(hv:Vis X.env.scope x:=by first|exact ax rfl|exact aW (ax rfl)|exact aW (aW rfl))(hd:(x==("__debug__":Str))=af:=by decide)
  (hcd:(x==("__classdict__":Str))=af:=by decide) (hs1:aq [.Name "ValueError" q] X.env=[(af,eval (.Name "ValueError" q) X.env)]:=by rfl)
  (hs:aq [.Name x pe,.Name "ValueError" q] X.env=(af,eval (.Name x pe) X.env)::aq [.Name "ValueError" q] X.env:=by rfl):PF X (.Call (.Name "isinstance" p) [.Name x pe,.Name "ValueError" q] [] pos) (fIsx i):=
 (Kh z4V hg hm boot_isinstance (L9 (AV hN hv hd hcd) (L9 (pe_ty (T := "ValueError") hgT hmT (by rfl) (by decide) (by decide)) CM hs1) hs) (by decide) (by decide) hs (by rw[hs1];rfl)).imp fun σ H Q hZ=>by
  obtain⟨ρ,f,d,rs,e0,k⟩:=hZ;unfold fIsx at e0;split at e0
  .rename_i q;cases e0;obtain⟨o,q1,a,φ,rfl,q2,q3⟩:=rs.at_ i _ q;exact⟨.ref a,q1,a,φ,rfl,q2,q3,k _ H (Same.refl H) RpF.b_⟩
  .cases e0
theorem z4W{hits:Nat→Bool}{M:Addr}{b₀:Stmt}{suite:List Stmt}{G:FS}(i:Nat)(F:FnOk X.prog X.w X.K X.mg X.base (CX1 X.prog X.w) k f fd ps (spx X.K X.mg fr ct))(D:Df X.K X.mg x st ps f fd)(hr:Room k' X.A)(hg:Gl X x)
    (ha:∀E,PFA (X.wish E) (e::es) Fs) (hgy:Gl X y) (hh:Hit X.K X.mg hits y M) (hsu:∀ea,PFSs (X.caught ea) (b₀::suite) G) (hNd:X.N.Nodup) (hN:X.N[i]?=aa z:=by rfl) (hk:X.env.scope.names.lookup z=aa .local:=by rfl) (hle:k<=k':=by decide) (hdb:(x==("__debug__":Str))=af:=by decide) (hdy:(y==("__debug__":Str))=af:=by decide) (hst:aq (e::es) X.env=(af,eval e X.env)::aq es X.env:=by rfl) (hpl:(bH pos (aq es X.env)).any (·.1)=af:=by rfl)
    (hs:bV (.Call (.Name x p) (e::es) [] pos) ag pos'.line X.env=pure af:=by rfl) (hstk:X.stack=X.env::X.outer:=by rfl) (hfr:X.env.frame=aa X.env.locals:=by rfl) (hex:X.ex=[]:=by rfl) :
    PFS X (.Try [.Expr (.Call (.Name x p) (e::es) [] pos) pos'] [.ExceptHandler (aa (.Name y np)) (aa z) (b₀::suite) hpos] [] [] tpos) (Pb ct Fs hits i G):=by
  rintro π s σ H De I ⟨H₀,ρ,oc,⟨O,rb⟩,e0,k⟩;obtain⟨xs,e1,e2⟩:=i0 e0;obtain⟨r,q,e3⟩:=i0 e2;refine RF F D hr hg ha hle hdb hst hpl hs hstk hfr I rb.all e1 q (λd er H' sm=>?_) λn er H1 s1 H' ea C c0 s' J hC sm ho a=>?_
  .subst er;cases e3;exact k σ H' ⟨O,rb.mono sm⟩
  .subst er
   dsimp only at e3;split at e3
   .rename_i hn;obtain⟨oc',e4,e5⟩:=i0 e3;refine z1R J a hgy hh.gl (hh.hit n C hn hC).1 hdy (codeAny_handlers_suite_as (Kv J a λs3 a3=>?_));obtain⟨m1,m2,oe,vs,T,oT,ts,a0,g1,g2,_⟩:=a3.fly;have hne:∀{b:aj}{o:Obj},s1.heap.get? b=aa o->ea≠b:=λ{b o}z w=>by rw[<-w,m1]at z;cases z
    have It:=(a3.inv.trackX (o:=.ext λh=>∃oe,h.get? ea=aa oe/\oe.cls=.ref C) m2 (by
        cases y:X.s₀.heap.get? ea with
        |none=>rfl
        | some o =>
          obtain⟨o',e'⟩:=J.base.there ea o y (by rw[hex];simp);rw[m1]at e';cases e')
      (by obtain⟨m,⟨o,_,_,ho,_⟩,_⟩:=J.loc;exact hne ho)
      (λx c e=>by obtain⟨v,o,ho,hd⟩:=J.cell x c e;exact(hne ho).symm)
      (λp hp=>(hne (J.pin p hp).1).symm)
      ⟨⟨oe,g1,g2⟩,⟨oe,g1⟩,λh1 h2⟨ob,z1,z2⟩w=>⟨ob,w _ z1,z2⟩⟩).caught ea
    have sm2:Same H' (upd H' ea (.ext λh=>∃oe,h.get? ea=aa oe/\oe.cls=.ref C)):=E5 m2;have rb2:=rb.mono (sm.trans sm2);refine Kb (X:=X.caught ea) (v:=.ref ea) It hNd hN (.inl hk) rfl (λs4 I4=>?_) (.inr hk);refine bu (hsu ea π s4 (σ.set i (aa (.ref ea))) _ { nx:=λσ' H''=>De.nx (σ'.set i ag) H'',rt:=De.rt } I4 ⟨H₀,ρ.set i .ex,oc',RepB.caught ⟨_,rb2.setC (c:=.ex) ⟨ea,λh=>∃oe,h.get? ea=aa oe/\oe.cls=.ref C,rfl,?_,λh z=>?_⟩⟩ ea,e4,?_⟩) (λf s5 w=>?_) λ_ _ w=>w.elim
    .rw[r9 λw=>?_,A0];obtain⟨⟨vs,w2⟩,_⟩:=rb.own ea (F5 ea w);rw[sm _ _ w2]at m2;cases m2
    .obtain⟨oe,z1,z2⟩:=z;exact⟨oe,C,z1,z2,(hh.hit n C hn hC).2⟩
    .cases oc' with
     | nx ρ' =>
       cases e5;refine λσ' H'' w=>?_;obtain⟨O',w⟩:=w.uncaught;exact k _ _ ⟨_,w.setC (c:=.no) (o:=ag) trivial⟩
     |bk ρ'=>cases e5
     |ct ρ'=>cases e5
     |rt f d=>cases e5;exact k
     |ex m=>cases e5
    .cases f with
     | next =>
       obtain⟨σ',H'',I5,w⟩:=w;exact Yz (I5.uncaught I.ok) hNd hN hk λs6 I6=>⟨_,_,I6,w⟩
     | ret u =>
       obtain⟨v,σ',H'',I5,rv,w⟩:=w;exact Yz (I5.uncaught I.ok) hNd hN hk λs6 I6=>⟨v,_,_,I6,rv,w⟩
     |brk=>obtain⟨σ',H'',I5,w⟩:=w;exact w.elim
     |cont=>obtain⟨σ',H'',I5,w⟩:=w;exact w.elim
   .cases e3
end
end L2
end
section
namespace L2
open PySem.W
abbrev FR:=Rho->Option Nat
def upX(X:Cx)(R:FR):TE:=λσ H _=>∃H₀ ρ n,RepB X H₀ H ρ σ/\R ρ=aa n/\∀C,X.mg (exN n)=aa (.ref C)->XOk X H₀ (wk n) C
def PFX(X:Cx)(e:aK)(R:FR):Prop:=PE X e (upX X R)
def Kw(c:FX)(Fs:FA):FR:=λρ=>(Fs ρ).bind λxs=>(c (sndL xs)).bind λr=>match r with|.inl _=>ag|.inr n=>aa n
def sEx(R:FR):FS:=λρ=>(R ρ).map .ex
section
variable {X:Cx}{e a b:aK}{es:fR}{pos pos' p:Pos}{Fs:FA}{R:FR}{fr:Bool}{k k':Nat}{f:aj}{fd:ak}{ps:fO}{x:Str}{st:aJ}{ct:FX}
theorem r_call(F:FnOk X.prog X.w X.K X.mg X.base (CX1 X.prog X.w) k f fd ps (spx X.K X.mg fr ct))(D:Df X.K X.mg x st ps f fd)(hr:Room k' X.A)(hg:Gl X x)
  (ha:PFA X (e::es) Fs) (hle:k<=k':=by decide) (hdb:(x==("__debug__":Str))=af:=by decide) (hst:aq (e::es) X.env=(af,eval e X.env)::aq es X.env:=by rfl) (hpl:(bH pos (aq es X.env)).any (·.1)=af:=by rfl) :
  PFX X (.Call (.Name x p) (e::es) [] pos) (Kw ct Fs):=by
 rintro π s σ H Q I ⟨H₀,ρ,n,⟨O,rb⟩,e0,k⟩;obtain⟨xs,e1,e2⟩:=i0 e0;obtain⟨r,q,e3⟩:=i0 e2;cases r with
 |inl d=>cases e3
 |inr m=>
  cases e3;have go:∀E:XK,BQ (CX1 X.prog X.w) X E->(∀C H' o,X.mg (exN n)=aa (.ref C)->Same H H'->(o=ag\/wk n=ac)->E (.ref C) o H')->ay (model X.prog X.w) X.A (eval (.Call (.Name x p) (e::es) [] pos) X.env) (EP X π σ Q) X.xe s:=λE hp hE=>
    AD (E:=E) (dvs:=[]) F (hr.mono hle) hg D.mg D.fn.kp D.bd .nil hp ha hdb hst hpl π s σ H Q I ⟨ρ,xs,rb.all,e1,λvs H1 s1 r1=>by
     dsimp only;rw[vn];exact⟨_,.inr n,r1.sh,q,λC H' o hC s' ho=>hE C H' o hC (s1.trans s') ho⟩⟩
  by_cases hC:∃C,X.mg (exN n)=aa (.ref C)
  .obtain⟨C,hC⟩:=hC;obtain⟨E,hE,hp,hr⟩:=k C hC;refine go E hp λC' H' o hC' sm ho=>?_;rw[hC]at hC';cases hC';exact hE H' o (rb.same.trans (w8.trans sm)) ho
  .exact go E0 RE λC H' o h=>(hC ⟨C,h⟩).elim
end
end L2
end
section
namespace L2
section
variable {X:Cx}{x y:Str}{j j2:aK}{Fj Fk:FE}{i iy:Nat}{px px2 spos spos2 pos pos':Pos}
end
end L2
end
section
namespace L2
theorem asn{X:Cx}{e:aK}{Fe:FE}{pos pos':Pos}{x:Str}(i:Nat)(he:PF X e Fe)(hN:X.N.Nodup)(hi:X.N[i]?=aa x:=by rfl)(hx:Loc X.env.scope x:=by exact ax rfl)(hs:bV e (aa (.Name x pos')) pos.line X.env=pure af:=by rfl)(hf:X.fn x=ac\/X.env.scope.names.lookup x=aa .local:=by exact ax rfl):PFS X (.Assign [.Name x pos'] e pos) (sSet [] i Fe):=E9 (rels:=[]) (u8 he hN hi hx hs hf)
section
variable {X:Cx}{e:aK}{es:fR}{pos p:Pos}{Fs:FA}{r:FB}{x:Str}
theorem p_bu{id:String}(hc:CI X (.builtin id) r)(hm:X.mg x=ag)(ha:PFA X (e::es) Fs)(hg:Gl X x:=by rfl)(hv:bz x=aa (.builtin id):=by decide +kernel)(hn:x ≠ "__name__":=by decide)(hdb:(x==("__debug__":Str))=af:=by decide)(hst:aq (e::es) X.env=(af,eval e X.env)::aq es X.env:=by rfl)(hpl:(bH pos (aq es X.env)).any (·.1)=af:=by rfl):
 PF X (.Call (.Name x p) (e::es) [] pos) (fBlt r Fs):=z4N hc hg hm hv ha hn hdb hst hpl
theorem p_ty{T:String}(hc:CI X (.type T) r)(hm:X.mg x=ag)(ha:PFA X (e::es) Fs)(hg:Gl X x:=by rfl)(hv:bz x=aa (.type T):=by decide +kernel)(hn:x ≠ "__name__":=by decide)(hdb:(x==("__debug__":Str))=af:=by decide)(hst:aq (e::es) X.env=(af,eval e X.env)::aq es X.env:=by rfl)(hpl:(bH pos (aq es X.env)).any (·.1)=af:=by rfl):
 PF X (.Call (.Name x p) (e::es) [] pos) (fBlt r Fs):=z1v hc hg hm hv ha hn hdb hst hpl
theorem p_ca{fr:Bool}{k k':Nat}{f:aj}{fd:ak}{ps:fO}{ct:FC}{st:aJ}(F:FnOk X.prog X.w X.K X.mg X.base CX0 k f fd ps (spc X.K fr ct))(D:Df X.K X.mg x st ps f fd)(hr:Room k' X.A)
  (ha:PFA X (e::es) Fs) (hg:Gl X x:=by rfl) (hle:k<=k':=by decide) (hdb:(x==("__debug__":Str))=af:=by decide) (hst:aq (e::es) X.env=(af,eval e X.env)::aq es X.env:=by rfl) (hpl:(bH pos (aq es X.env)).any (·.1)=af:=by rfl):PF X (.Call (.Name x p) (e::es) [] pos) (i6 fr ct Fs):=
 p_cal F D hr hg ha hle hdb hst hpl
end
section
variable {X:Cx}{a b:aK}{Fa Fb:FE}{pos:Pos}{op:CmpOp}{r:FO}
theorem p_cm(ho:OpF X (bp op) r)(ha:PF X a Fa)(hb:PF X b Fb)(h:op ≠ .In:=by decide)(h2:op ≠ .NotIn:=by decide):PF X (.Compare a [op] [b] pos) (fOp r Fa Fb):=p_cmp ho ha hb (z12 _ h h2)
theorem t_cm(ho:OpF X (bp op) r)(ha:PF X a Fa)(hb:PF X b Fb)(h:op ≠ .In:=by decide)(h2:op ≠ .NotIn:=by decide):PFT X (.Compare a [op] [b] pos) (j8 (fOp r Fa Fb)):=t_cmp ho ha hb (z12 _ h h2)
end
section
variable {X:Cx}{scope:Scope}{x:Str}{tp pos:Pos}{elt iter:aK}{Fi:FI}{Fe:FE}
theorem p_co(N:fO)(nt:Nat)(js:fQ)(XN:fO)(xs:List (Str×bA))(hi:PFI X (.Name x tp) iter Fi)(he:∀cl C fp s H,PF (C1 X N scope cl C fp s H) elt Fe)
  (h1:X.N=XN:=by rfl) (h2:X.env.scope.names=xs:=by rfl) (hk:scope.kind=.function:=by rfl) (c:OZ XN xs scope N nt js=ac:=by decide +kernel) (hc:X.calm=ac:=by rfl) (nd:N.Nodup:=by decide +kernel) (h0:N[0]?=aa x:=by rfl) (hl:∀cl C fp s H,(C1 X N scope cl C fp s H).env.scope.names.lookup x=aa .local:=by intro _ _ _ _ _;rfl) (hb:0<nt:=by decide) (hj:∀j∈js,j<XN.length:=by decide)
  (hs:∀x,bF iter X.env x=pure x:=by intro _;rfl):PF X (.ListComp elt [⟨.Name x tp,iter,[],0⟩] scope pos) (j6 nt js Fi (Tg.one 0) fYes Fe):=
 X1 (A1 XN xs h1 h2 hk c) hc hi (λcl C fp s H=>T3 nd h0 (ax (hl cl C fp s H)) (aW (hl cl C fp s H))) hb (λ_ _ _ _ _=>Ae) he (λj hj'=>by rw[h1];exact hj j hj') hs
theorem a_co{y:Str}{pos' spos:Pos}(i:Nat)(hN:X.N.Nodup)(N:fO)(nt:Nat)(js:fQ)(XN:fO)(xs:List (Str×bA))(hi:PFI X (.Name x tp) iter Fi)(he:∀cl C fp s H,PF (C1 X N scope cl C fp s H) elt Fe)
  (hix:X.N[i]?=aa y:=by rfl) (hx:X.env.scope.names.lookup y=aa .local:=by rfl) (hsw:bV (.ListComp elt [⟨.Name x tp,iter,[],0⟩] scope pos) (aa (.Name y pos')) spos.line X.env=pure ac:=by rfl)
  (h1:X.N=XN:=by rfl) (h2:X.env.scope.names=xs:=by rfl) (hk:scope.kind=.function:=by rfl) (c:OZ XN xs scope N nt js=ac:=by decide +kernel) (hc:X.calm=ac:=by rfl) (nd:N.Nodup:=by decide +kernel) (h0:N[0]?=aa x:=by rfl) (hl:∀cl C fp s H,(C1 X N scope cl C fp s H).env.scope.names.lookup x=aa .local:=by intro _ _ _ _ _;rfl) (hb:0<nt:=by decide) (hj:∀j∈js,j<XN.length:=by decide)
  (hs:∀x,bF iter X.env x=pure x:=by intro _;rfl):AsgF X (.Assign [.Name y pos'] (.ListComp elt [⟨.Name x tp,iter,[],0⟩] scope pos) spos) i (j6 nt js Fi (Tg.one 0) fYes Fe):=
 Rt hN hix hx hsw (A1 XN xs h1 h2 hk c) hc hi (λcl C fp s H=>T3 nd h0 (ax (hl cl C fp s H)) (aW (hl cl C fp s H))) hb (λ_ _ _ _ _=>Ae) he (λj hj'=>by rw[h1];exact hj j hj') hs
end
theorem p_i{X:Cx}{a b:aK}{Fa Fb:FE}{pos:Pos}(ha:PF X a Fa)(hb:PF X b Fb)(hs:OO b:=by exact λ_ _=>rfl):PF X (.Subscript a b pos) (fAt Fa Fb):=p_ix ha hb hs
theorem Df.d{P:aL}{w:aH}{K:aD}{mg:aE}{base:aV}{x:Str}{st:aJ}{f:aj}{fd:ak}{N ps:fO}{np nn:Nat}{fr:Bool}(D:Df K mg x st ps f fd)(k:Nat)(F:FS)(S:FnScope N ps (b9 st))
 (body:∀{cdv:Value} {A:Around} {outer:List Env} {s:Shared} {H:Hp} {E:XK},Room k (A.deeper (envOfC x (b9 st) s.heap.objs.size f cdv))→(A.deeper (envOfC x (b9 st) s.heap.objs.size f cdv)).units+64<cLine →
  PFSs (cxOf CX0 P w K mg base N x (b9 st) f cdv A outer s H E).nox (G3 st) F) (hp:np=ps.length:=by rfl) (hn:nn=N.length:=by rfl):FnOk P w K mg base CX0 (k+1) f fd ps (spc K fr (cOf np nn fr F)):=Fun.dat D.fn S hp hn λcdv A outer s H E hr=>body hr hr.units
theorem q_n{X:Cx}{x:Str}{pos:Pos}{es:fR}{Fs:FA}(i:Nat)(hr:PFA X es Fs)(hN:X.N[i]?=aa x:=by rfl)(hv:Vis X.env.scope x:=by first|exact ax rfl|exact aW (ax rfl)|exact aW (aW rfl))(hd:(x==("__debug__":Str))=af:=by decide)(hcd:(x==("__classdict__":Str))=af:=by decide)(hs:aq (.Name x pos::es) X.env=(af,eval (.Name x pos) X.env)::aq es X.env:=by rfl):PFA X (.Name x pos::es) (b6 (fN i) Fs):=i7 (b8 i hN hv hd hcd) hr hs
end L2
end
section
namespace L2
end L2
end
section
local macro_rules|`(tactic|rfl')=>`(tactic|first|lia|omega +splitDisjunctions)
set_option maxHeartbeats 2000000
namespace L2
section
variable {α β:Type}
def insK(p:Int×α):List (Int×α)->List (Int×α)
 |[]=>[p]
 |q::qs=>if p.1<=q.1 then p::q::qs else q::insK p qs
def X9:List (Int×α)->List (Int×α)
 |[]=>[]
 |p::ps=>insK p (X9 ps)
theorem HK(p:Int×α):∀qs:List (Int×α),(insK p qs).Perm (p::qs)
 |[]=>fy _
 |q::qs=>by
  unfold insK;split
  .exact fy _
  .exact((HK p qs).cons q).trans (List.Perm.swap p q qs)
theorem P8:∀ps:List (Int×α),(X9 ps).Perm ps
 |[]=>fy _
 |p::ps=>(HK p _).trans ((P8 ps).cons p)
abbrev Le(p q:Int×α):Prop:=p.1<=q.1
theorem Je(p:Int×α):∀qs:List (Int×α),qs.Pairwise Le->(insK p qs).Pairwise Le
 |[],_=>List.pairwise_singleton _ _
 |q::qs,h=>by
  obtain⟨h1,h2⟩:=vi.mp h;unfold insK;split
  .rename_i hle;exact vi.mpr ⟨λx hx=>by
     rcases wn.mp hx with rfl|hx
     .exact hle
     .exact Int.le_trans hle (h1 x hx),h⟩
  .rename_i hle;refine vi.mpr ⟨λx hx=>?_,Je p qs h2⟩;rcases wn.mp ((HK p qs).mem_iff.mp hx)with rfl|hx
   .show q.1<=x.1;rfl'
   .exact h1 x hx
theorem Ca:∀ps:List (Int×α),(X9 ps).Pairwise Le
 |[]=>dC
 |p::ps=>Je p _ (Ca ps)
theorem RG(g:α->β)(p:Int×α):∀qs:List (Int×α),insK (p.1,g p.2) (qs.map λq=>(q.1,g q.2))=(insK p qs).map λq=>(q.1,g q.2)
 |[]=>rfl
 |q::qs=>by
  rw[wq];unfold insK;by_cases h:p.1<=q.1
  .rw[ar h,ar h];rfl
  .rw[aw h,aw h,wq,RG g p qs]
theorem Ec(g:α->β):∀ps:List (Int×α),X9 (ps.map λq=>(q.1,g q.2))=(X9 ps).map λq=>(q.1,g q.2)
 |[]=>rfl
 |p::ps=>by rw[wq,X9,X9,Ec g ps,RG g p]
theorem Kx:∀{xs ys:List (Int×α)},xs.Perm ys->xs.Pairwise Le->ys.Pairwise Le->(xs.map (·.1)).Nodup->xs=ys
 |[],ys,p,_,_,_=>(List.Perm.nil_eq p)
 |x::xs,[],p,_,_,_=>by have:=p.length_eq;simp at this
 | x::xs,y::ys,p,h1,h2,nd=>by
  obtain⟨a1,a2⟩:=vi.mp h1;obtain⟨b1,b2⟩:=vi.mp h2;have nd':(x.1::xs.map (·.1)).Nodup:=nd;obtain⟨n1,n2⟩:=vD.mp nd';have hx:x∈y::ys:=p.mem_iff.mp we;have hy:y∈x::xs:=p.mem_iff.mpr we
  have exy:x=y:=by
   rcases wn.mp hx with e|hx
   .exact e
   .rcases wn.mp hy with e|hy
    .exact e.symm
    .have l1:x.1<=y.1:=a1 y hy;have l2:y.1<=x.1:=b1 x hx;have e:x.1=y.1:=by rfl'
     exact aN (wg.mpr ⟨y,hy,e.symm⟩) n1
  subst exy;rw[Kx (p.cons_inv) a2 b2 n2]
end
section
variable {X:Cx}{π:aB}{σ:St}{H:Hp}{s:am}
theorem Inv.track{D:aj}{its:aF}{ys:gg}{n:Nat}(I:Inv X π σ H s)(hD:H D=ag)(f:FpOk X π H D)(hn:X.s₀.heap.objs.size<=D)(ho:s.heap.get? D=aa { cls:=.type "list",data:=.seq its.toArray n })(hv:Vals ys its)(hz:ys.length<=sizeLine):
   Inv X π σ (upd H D (.lst ys)) s:=by
 obtain⟨f0,f1,f2,f3,f4,f5⟩:=f;have ne:∀b o,X.s₀.heap.get? b=aa o->b≠D:=λb o e z=>by
   subst z;exact aN (ww (wt e) hn) (vG _)
 have nH:∀b o,H b=aa o->b≠D:=λb o e z=>by rw[z,hD]at e;cases e
 refine⟨I.ok,I.os,I.bare,⟨I.base.keep,I.base.slot,λb o e q hx=>?_,I.base.there,λb xs e=>?_,λb o u e=>?_,λb ps e=>?_⟩,I.loc,I.cell,?_,λx c e=>?_,λp hp=>?_,λa o e=>?_,I.len⟩
 .rw[u6 (ne b o e)];exact I.base.free b o e q hx
 .have:=I.base.tups b xs e;rw[u6 (nH b _ this)];exact this
 .have:=I.base.frzs b o u e;rw[u6 (nH b _ this)];exact this
 .obtain⟨more,this⟩:=I.base.tbls b ps e;exact⟨more,by rw[u6 (nH b _ this)];exact this⟩
 .rw[u6 (bL f1)];exact I.free
 .rw[u6 (f4 x c e)];exact I.freeC x c e
 .obtain⟨q1,q2,q3⟩:=I.pin p hp;exact⟨q1,by rw[u6 (f5 p hp)];exact q2,q3⟩
 .by_cases z:a=D
  .subst z;rw[A0]at e;cases e;exact⟨hz,its,n,hv,ho⟩
  .rw[u6 z]at e;refine(I.hok a o e).stay (λb u _ q=>q) (λb q=>?_) (λb xs q=>?_)
   .rw[u6 (nH b _ q)];exact q
   .rw[u6 (nH b _ q)];exact q
theorem ns_inj{h:aV}{a:aj}{m m':aE}(p:h.Ns a m)(q:h.Ns a m'):m=m':=by
 obtain⟨o,es,ep,e,d,_,f⟩:=p;obtain⟨o',es',ep',e',d',_,f'⟩:=q;rw[e]at e';cases e';rw[d]at d';cases d'
 funext x
 rw[<-f x,<-f' x]
def Kz(base:aV)(L a b:aj)(h:aV):aB:=(av h.objs.size).filterMap λc=>match h.get? c with
 |some o=>if base.get? c=ag/\c≠L/\c≠a/\c≠b then aa (c,o) else ag
 |none=>ag
theorem Ug{base:aV}{L a b c:aj}{h:aV}{o:Obj}(e:h.get? c=aa o)(h1:base.get? c=ag)(h2:c≠L)(h3:c≠a)(h4:c≠b):(c,o)∈Kz base L a b h:=
 vP.mpr ⟨c,wO.mpr (wt e),by rw[e];simp[h1,h2,h3,h4]⟩
theorem HL{base:aV}{L a b:aj}{h:aV}{p:aj×Obj}(hp:p∈Kz base L a b h):h.get? p.1=aa p.2/\base.get? p.1=ag/\p.1≠L/\p.1≠a/\p.1≠b:=by
 obtain⟨c,hc,e⟩:=vP.mp hp;cases q:h.get? c with
 |none=>rw[q]at e;cases e
 |some o=>
  rw[q]at e;dsimp only at e;split at e
  .rename_i hh;cases e;exact⟨q,hh⟩
  .cases e
theorem Inv.turnedN{h':aV}{t':Nat}{ch:fP}{m:aE}(I:Inv X π σ H s)(hm:s.heap.Ns X.env.locals m)(hm':h'.Ns X.env.locals m)(hl:∃o,h'.get? X.env.locals=aa o)(k:∀b o,b∉ch->b≠X.env.locals->s.heap.get? b=aa o->h'.get? b=aa o)(hc:∀b∈ch,FpOk X π H b):
   Inv X π σ H { s with heap:=h',toks:=t' }:=by
 have nit:∀b u,H b=aa u->b∉ch:=λb u e z=>by rw[(hc b z).1]at e;cases e
 have nL:∀b u,H b=aa u->b≠X.env.locals:=λb u e z=>by rw[z,I.free]at e;cases e
 refine I.step (g':=s.gens) (d':=s.drawn) (ch:=ch) (λb hb=>?_) (λb o nl _ hn e _=>k b o hn nl e) (λb o nl _ hn e _=>⟨o.slots,k b o hn nl e⟩) (λ_ _ _ _ n=>n)
   (λb o hn e=>?_) (λ_ _ e=>e) (λ_ _ _ e=>e) (λb ps e=>⟨#[],by rw[e];simp⟩) (λm' hm2=>by rw[<-ns_inj hm hm2];exact hm') (λb u e=>?_) I.bare
 .obtain⟨f0,f1,f2,f3,f4,f5⟩:=hc b hb;exact⟨f3,f1,f4,f5⟩
 .by_cases z:b=X.env.locals
  .subst z;exact hl
  .exact⟨o,k b o hn z e⟩
 .refine(I.hok b u e).stay (λc v hcc q=>k c v ?_ ?_ q) (λ_ q=>q) λ_ _ q=>q
  .rcases hcc with z|z
   .rw[z];exact nit b u e
   .exact nit c _ z
  .rcases hcc with z|z
   .rw[z];exact nL b u e
   .exact nL c _ z
end
def X2(c:FC):gf->Option (aG)
 |[]=>aa []
 |d::ds=>(c [d]).bind λr=>(intD r).bind λi=>(X2 c ds).map (i::·)
theorem EW{c:FC}:∀{ds:gf}{ks:aG},X2 c ds=aa ks->ks.length=ds.length
 |[],ks,h=>by cases h;rfl
 |d::ds,ks,h=>by
  obtain⟨r,_,h⟩:=i0 h;obtain⟨i,_,h⟩:=i0 h;cases q:X2 c ds with
  |none=>rw[q]at h;cases h
  |some js=>rw[q]at h;cases h;rw[wo,wo,EW q]
theorem KA{c:FC}:∀{ds:gf}{ks:aG}{j:Nat}{d:Dt}{k:Int},X2 c ds=aa ks->ds[j]?=aa d->ks[j]?=aa k->c [d]=aa (.int k)
 |[],ks,j,d,k,h,e,_=>by simp at e
 | a::ds,ks,j,d,k,h,e,e'=>by
  obtain⟨r,h1,h⟩:=i0 h;obtain⟨i,h2,h⟩:=i0 h;cases q:X2 c ds with
  |none=>rw[q]at h;cases h
  | some js =>
   rw[q]at h;cases h;cases j with
   |zero=>
    simp at e e';subst e;subst e';rw[h1,BY h2]
   |succ j=>exact KA q (by simpa using e) (by simpa using e')
section
variable {X:Cx}{π:aB}{σ:St}{H:Hp}{s:am}{k:Nat}{f:aj}{fd:ak}{p:Str}{fr:Bool}{ct:FC}{l:aj}{vs:gg}{ds:gf}{ks:aG}{Q:VK}
theorem z4X{H1:Hp}{s1:am}{d:Dt}{v:V}{u:ao}{n:Int}(F:FnOk X.prog X.w X.K X.mg X.base CX0 k f fd [p] (spc X.K fr ct))(hr:Room (k+2) X.A)(hb:Binds X.K fd [p] [])(I:Inv X π σ H1 s1)(r:RelV v u)(rd:Rp X.K emp d H1 v)(hc:ct [d]=aa (.int n))
  {P:aC} {E:aC} (q:∀t H2 s2,Inv X π σ H2 s2->Same H1 H2->(∀b o,s1.heap.get? b=aa o->H1 b=ag->b∉frs X.stack->s2.heap.get? b=aa o/\H2 b=ag)->P (.int n t) s2):ay (model X.prog X.w) X.A.in1.in1 (call (.ref f) [u]) P E s1:=by
 have hr2:Room k X.A.in1.in1:=(show Room (k+1+1) X.A from hr).in1.in1;refine wpAny_call (cT (F.run X.A.in1.in1 X.stack s1 H1 ⟨[u],[]⟩ [u] [v] (λw H2=>w=.int n/\Same H1 H2) E0 hr2 I.env0.in1.in1 (hb s1 [u] I.kIn rfl) (.cons r .nil) ⟨[d],_,Rps.one rd,hc,λw H2 sm rw'=>⟨by cases fr<;>exact Rp.int_.mp rw',sm⟩⟩) λres s2 hres=>?_);cases res with
 |error e=>exact hres.elim
 | ok fl =>
  cases fl with
  |ret w=>
   obtain⟨x,H2,os,bare,un,hok,rw',ex,sm⟩:=hres;subst ex;obtain⟨t,rfl⟩:=rw';exact q t H2 s2 (I.call' (ch:=[]) os un hok bare λb hb=>aN hb (by simp)) sm λb o e hn hf=>⟨un.keep b o e hn hf (by simp),un.free b o e hn (by simp)⟩
  |next=>exact hres.elim
  |brk=>exact hres.elim
  |cont=>exact hres.elim
theorem z1T(I:Inv X π σ H s){b:aj}(hb:b∈frs X.stack):b<s.heap.objs.size:=by
 obtain⟨_,o,e,_⟩:=I.stack.mem hb;exact wt e
theorem z0g{D kS:Addr}{e1:Nat}{its:List Value}{P:PySem.Fin→Shared→Prop}{E:Value→Shared→Prop}(F:FnOk X.prog X.w X.K X.mg X.base CX0 k f fd [p] (spc X.K fr ct))(hr:Room (k+2) X.A)(hb:Binds X.K fd [p] [])(I:Inv X π    σ H s)(rv:Vals vs its)(rs:Rps X.K emp ds H vs)(hk:X2 ct ds=some ks)(h64:ds.length<64)
  (hD:s.heap.get? D=aa (cH "list" #[] e1)) (hS:s.heap.get? kS=aa (cH "list" #[] 0)) (nDS:kS≠D) (fD:FpOk X π H D) (fS:FpOk X π H kS) (gD:D∉frs X.stack) (gS:kS∉frs X.stack) (sD:X.s₀.heap.objs.size<=D) (sS:X.s₀.heap.objs.size<=kS)
  (q:∀H2 s2(out:aF)c,Inv X π σ H2 s2->Same H H2->H2 D=ag->s2.heap.get? D=aa (cH "list" out.toArray c)->KskOut af ks its out->P (.done (.ret .none)) s2) :
  ay (model X.prog X.w) X.A.in1.in1 (ksk_rest D (.ref f) af its.toArray e1 (.ref kS)) P E s:=by
 have hlen:=EW hk;have l1:=rs.length;have l2:=rv.length;unfold ksk_rest;refine ah (dS ?_);rw[List.forIn_toArray];refine ah (ksk_fold (λi s'=>∃H1 kA e,Inv X π σ H1 s'/\Same H H1/\H1 D=ag/\H1 kS=ag/\s'.heap.get? D=aa (cH "list" #[] e1)/\s'.heap.get? kS=aa (cH "list" kA e)/\IntsAre kA.toList (ks.take i)) its 0 s
  ⟨H,#[],0,I,Same.refl H,fD.1,fS.1,hD,hS,by simpa using IntsAre.nil⟩ ?step ?done)
 case step=>
  rintro j u s' hu ⟨H1,kA,e,I1,sm,d1,d2,o1,o2,hka⟩;simp only[uj]at hka|-;have hj:j<its.length:=(vF.mp hu).1;obtain⟨n,hn⟩:∃n,ks[j]?=aa n:=⟨_,wa (by rfl')⟩;obtain⟨d,hd⟩:∃d,ds[j]?=aa d:=⟨_,wa (by rfl')⟩;obtain⟨v,hv,rd⟩:=rs.get hd;obtain⟨u',hu',ru⟩:=rv.get hv;rw[hu]at hu';cases hu';have hz:kA.size<=its.length:=by
    have h1:=hka.length;rw[dZ,vI]at h1;rfl'
  refine ah (cL (z4X F hr hb I1 ru (Rp.mono _ sm rd) (KA hk hd hn) λt H2 s2 I2 sm2 kk=>?_));obtain⟨p1,p2⟩:=kk D _ o1 d1 gD;obtain⟨p3,p4⟩:=kk kS _ o2 d2 gS
  try dsimp only
  have sb:=dA s2.heap kS (cB (·.push (.int n t)));have g2:=get?_update_seq p3 (·.push (.int n t));have ek:ks.take (j+1)=ks.take j++[n]:=by rw[List.take_add_one,hn];simp
  have ea:(kA.push (dQ n t)).toList=kA.toList++[dQ n t]:=by simp
  refine ah (listUpdate_at p3 rfl ?_ (by rw[cA];rfl') (wF (Nat.le_of_eq (Array.size_push ..)) (by rw[cA];rfl')));have fS2:FpOk X π H2 kS:=⟨p4,fS.2⟩;refine aI ⟨rfl,H2,kA.push (.int n t),_,I2.turnedL (t':=s2.toks) (ch:=[kS]) (λb o hb e=>(sb.2 b (by simpa using hb)).trans e) (λb hb=>by rw[wI.mp hb];exact fS2),sm.trans sm2,p2,p4,(sb.2 D (bL nDS)).trans p1,g2,by rw[ea,ek];exact ksk_snoc hka⟩
 case done =>
  rintro s' ⟨H1,kA,e,I1,sm,d1,d2,o1,o2,hka⟩;have hk':IntsAre kA.toList ks:=by
    rw[vY (by rfl')]at hka;exact hka
  try dsimp only
  refine ah (listItems_at o2 rfl ?_);obtain⟨m,hfr⟩:=I1.fr;have fD1:FpOk X π H1 D:=⟨d1,fD.2⟩;have fS1:FpOk X π H1 kS:=⟨d2,fS.2⟩;have bD:X.base.get? D=ag:=vS (wF I.ok.bsz sD);have bS:X.base.get? kS=ag:=vS (wF I.ok.bsz sS);refine ksk_end_ (e:=e) (news:=Kz X.base X.env.locals kS D s'.heap) hfr (λz hz=>?_) nDS (λz hz=>(HL hz).2.2.2.1) (λz hz=>(HL hz).2.2.2.2) hk' (by rfl') (by rfl') λh' tk out c F' N' ko=>?_
  .rcases wu.mp hz with hz|hz
   .obtain⟨z1,z2,z3,_⟩:=HL hz;exact⟨z1,z3,z2⟩
   .rcases wn.mp hz with rfl|hz
    .exact⟨o2,fS1.2.1,bS⟩
    .rw[wI.mp hz];exact⟨o1,fD1.2.1,bD⟩
  .have nd:=N' (D,cH "list" out c) we;refine q H1 _ out.toList c (I1.turnedN (t':=tk) (ch:=[kS,D]) hfr.ns F'.ns (by obtain⟨o,_,_,e,_⟩:=F'.ns;exact⟨o,e⟩) (λb o hb hl eb=>?_) (λb hb=>?_)) sm d1 nd.1 ko
   .have hb2:b≠kS/\b≠D:=by simpa using hb
    cases z:X.base.get? b with
    | some o' =>
      have e2:=I1.bk b o' z;rw[eb]at e2;cases e2;exact F'.keep b _ z
    |none=>exact(N' _ (wc _ (Ug eb z hl hb2.1 hb2.2))).1
   .rcases wn.mp hb with rfl|hb
    .exact fS1
    .rw[wI.mp hb];exact fD1
theorem z0h{D:aj}{n0:Nat}{its:aF}{P:PySem.Fin->am->Prop}{E:aC}(F:FnOk X.prog X.w X.K X.mg X.base CX0 k f fd [p] (spc X.K fr ct))(hr:Room (k+2) X.A)(hb:Binds X.K fd [p] [])(I:Inv X π σ H s)(rv:Vals vs its)(rs:Rps X.K emp ds H vs)(hk:X2 ct ds=aa ks)(h64:ds.length<64)
  (hD:s.heap.get? D=aa (cH "list" its.toArray n0)) (fD:FpOk X π H D) (gD:D∉frs X.stack) (sD:X.s₀.heap.objs.size<=D)
  (q:∀H2 s2(out:aF)c,Inv X π σ H2 s2->Same H H2->H2 D=ag->s2.heap.get? D=aa (cH "list" out.toArray c)->KskOut af ks its out->P (.done (.ret .none)) s2) :
  ay (model X.prog X.w) X.A.in1.in1 (ksk_tree D (.ref f) af) P E s:=by
 have l1:=rs.length;have l2:=rv.length;have hlt:D<s.heap.objs.size:=wt hD;unfold ksk_tree;refine ah (listItems_at hD rfl ?_);have sb:=dA s.heap D (cB λ_=>(#[]:fV));have o1:=get?_update_seq hD λ_=>(#[]:fV);refine ah (listUpdate_at hD rfl ?_ (by rw[wD,cA];rfl') (wQ _));have I1:Inv X π σ H { s with heap:=s.heap.update D (cB λ_=>(#[]:fV)) }:=I.turnedL (t':=s.toks) (ch:=[D]) (λb o hb e=>(sb.2 b (by simpa using hb)).trans e) (λb hb=>by rw[wI.mp hb];exact fD);refine ah (seqEpoch_at o1 rfl ?_);refine ah (wpAny_newTuple ?_ (by show its.length<=_;rw[cA];rfl'));refine ah (wpAny_newList ?_ (wQ _));refine cK ?_;generalize hg:s.heap.update D (cB λ_=>(#[]:fV))=g at *;have zg:g.objs.size=s.heap.objs.size:=sb.1;have I2:Inv X π σ H { s with heap:=(g.push (cH "tuple" its.toArray 0)).push (cH "list" #[] 0) }:=I1.kept (t':=s.toks) λb o e=>wf _ (wf _ e);have zk:(g.push (cH "tuple" its.toArray 0)).objs.size=g.objs.size+1:=size_push' _ _;have ge:s.heap.objs.size<=(g.push (cH "tuple" its.toArray 0)).objs.size:=by rfl'
 refine z0g (s:={ s with heap:=(g.push (cH "tuple" its.toArray 0)).push (cH "list" #[] 0) }) (kS:=(g.push (cH "tuple" its.toArray 0)).objs.size) F hr hb I2 rv rs hk h64 (wf _ (wf _ o1)) (wx _ rfl) (uF (ww hlt ge)) fD (I.fpOk ge (I.hok.fresh ge)) gD (λz=>?_) sD (wF I.sz ge) q;exact aN (ww (z1T I z) ge) (vG _)
theorem Uh(F:FnOk X.prog X.w X.K X.mg X.base CX0 k f fd [p] (spc X.K fr ct))(hr:Room (k+2) X.A)(hb:Binds X.K fd [p] [])(I:Inv X π σ H s)(hl:H l=aa (.lst vs))(rs:Rps X.K emp ds H vs)(hk:X2 ct ds=aa ks)(h64:ds.length<64)(nd:ks.Nodup)
  (q:∀D H2 ys,Same H H2->H2 D=ag->Rps X.K emp ((X9 (ks.zip ds)).map (·.2)) H2 ys->Q (.ref D) (upd H2 D (.lst ys))) :
  ay (model X.prog X.w) X.A (call (.builtin "sorted") [.ref l] [(bv "key",.ref f)]) (EP X π σ Q) X.xe s:=by
 obtain⟨its,rv,pl,hz⟩:=I.list (SqL.of (K:=X.K) hl);have l1:=rs.length;have l2:=rv.length;have l3:=EW hk;refine call_function_entry_kw kind_sorted plain_sorted entry_sorted (ksk_s1 _ _) ?_;unfold Builtin.«sorted»;refine ah (m:=checkCount "sorted" 1 1 _) (aI ?_);refine ah (collect_list pl.isList ?_ (by rw[cA];rfl'));refine ah (wpAny_newList ?_ (by rw[cA];rfl'));generalize hg:(s.heap.push (cH "list" #[] 0)).update s.heap.objs.size (cB (·++its.toArray))=g;have zg:g.objs.size=s.heap.objs.size+1:=by rw[<-hg,Heap.size_update,size_push']
 have kg:∀b o,s.heap.get? b=aa o->g.get? b=aa o:=λb o e=>by
  have hlt:=wt e;rw[<-hg,Heap.get?_update_ne _ _ _ _ (wM hlt),w0P _ _ _ (wM hlt)];exact e
 have I1:Inv X π σ H { s with heap:=g.push (cH "list" its.toArray 0) }:=I.kept (t':=s.toks) λb o e=>wf _ (kg b o e);have oD:(g.push (cH "list" its.toArray 0)).get? g.objs.size=aa (cH "list" its.toArray 0):=wx _ rfl;have ge:s.heap.objs.size<=g.objs.size:=by rfl'
 refine ah (cK (wpAny_call_entry_kw slot_list_sort ⟨_,oD,rfl⟩ entry_list_sort ?body (ksk_l1 _ _)))
 case body =>
  show ay (model X.prog X.w) X.A.in1.in1 (Builtin.«list.sort» ⟨[.ref g.objs.size],[(bv "key",.ref f)]⟩) _ _ _;rw[ksk_t1];refine z0h (s:={ s with heap:=g.push (cH "list" its.toArray 0) }) F hr hb I1 rv rs hk h64 oD (I.fpOk ge (I.hok.fresh ge)) (λz=>aN (ww (z1T I z) ge) (vG _)) (wF I.sz ge) λH2 s2 out c I2 sm d2 o2⟨ps,pp,eo,so⟩=>⟨_,rfl,?_⟩;refine aI ⟨_,rfl,?_⟩;have key:∃ts:List (Int×(Dt×(V×ao))),(ts.map λt=>(t.1,t.2.2.2))=ps/\(ts.map λt=>(t.1,t.2.1))=X9 (ks.zip ds)/\∀t∈ts,Rp X.K emp t.2.1 H t.2.2.1/\RelV t.2.2.1 t.2.2.2:=by
   refine⟨X9 (ks.zip (ds.zip (vs.zip its))),?_,?_,λt ht=>?_⟩
   .have e1:ks.zip its=(ks.zip (ds.zip (vs.zip its))).map λt=>(t.1,t.2.2.2):=by
     apply ue
     .simp;rfl'
     .intro i h1 h2;simp
    rw[<-Ec (λz:Dt×(V×ao)=>z.2.2),<-e1];refine Kx ((P8 _).trans pp.symm) (Ca _) (so.imp λh=>by simpa using h) ?_;have:((X9 (ks.zip its)).map (·.1)).Perm ks:=((P8 (ks.zip its)).map _).trans (by rw[List.map_fst_zip (by rfl')]);exact this.nodup_iff.mpr nd
   .have e1:ks.zip ds=(ks.zip (ds.zip (vs.zip its))).map λt=>(t.1,t.2.1):=by
     apply ue
     .simp;rfl'
     .intro i h1 h2;simp
    rw[<-Ec (λz:Dt×(V×ao)=>z.1),<-e1]
   .have ht:=(P8 _).mem_iff.mp ht;obtain⟨i,hi,e⟩:=wH ht;simp at hi;subst e;simp only[List.getElem_zip];obtain⟨v,e1,r1⟩:=rs.get (i:=i) (wa (by rfl'));obtain⟨u,e2,r2⟩:=rv.get e1;rw[wa (by rfl')]at e1 e2;cases e1;cases e2;exact⟨r1,r2⟩
  obtain⟨ts,k1,k2,k3⟩:=key;have ev:Vals (ts.map λt=>t.2.2.1) out:=by
   rw[eo,<-k1,wS];clear k1 k2 eo
   induction ts with
   |nil=>exact .nil
   |cons t ts ih=>exact .cons (k3 t we).2 (ih λz hz=>k3 z (wc _ hz))
  have er:Rps X.K emp ((X9 (ks.zip ds)).map (·.2)) H (ts.map λt=>t.2.2.1):=by
   rw[<-k2,wS];clear k1 k2 eo ev
   induction ts with
   |nil=>exact Rps.nil_.mpr rfl
   |cons t ts ih=>exact Rps.cons_.mpr ⟨_,_,rfl,(k3 t we).1,ih λz hz=>k3 z (wc _ hz)⟩
  have lt:(ts.map λt=>t.2.2.1).length<=sizeLine:=by
   rw[wj,<-wj (f:=λt:Int×(Dt×(V×ao))=>(t.1,t.2.1)),k2,(P8 _).length_eq,List.length_zip,cA];rfl'
  exact⟨.ref g.objs.size,_,I2.track d2 ⟨d2,(I.fpOk ge (I.hok.fresh (H:=H) ge)).2⟩ (wF I.sz ge) (by simpa using o2) ev lt,rfl,q _ _ _ sm d2 (Rps.mono _ sm er)⟩
end
section
variable {X:Cx}{a:aK}{Fa:FE}{k:Nat}{f:aj}{fd:ak}{prm:Str}{fr:Bool}{ct:FC}{x:Str}{p pos kp kpos:Pos}
def EX(c:FC)(F:FE):FE:=λρ=>(F ρ).bind λx=>(lstD x.2).bind λds=>(X2 c ds).bind λks=>if ds.length<64/\ks.Nodup then aa (newL ((X9 (ks.zip ds)).map (·.2))) else ag
theorem z4Y(F:FnOk X.prog X.w X.K X.mg X.base CX0 k f fd [prm] (spc X.K fr ct))(hr:Room (k+2) X.A)(hg:Gl X "sorted")(hm:X.mg "sorted"=ag)(hf:X.mg x=aa (.ref f))(hgf:Gl X x)(hb:Binds X.K fd [prm] [])(ha:PF X a Fa)(hd:(x==("__debug__":Str))=af:=by decide)(hs:aq [a] X.env=[(af,eval a X.env)]:=by rfl):
   PF X (.Call (.Name "sorted" p) [a] [⟨aa "key",.Name x kp,kpos⟩] pos) (EX ct Fa):=by
 intro π s σ H Q I ⟨ρ,fz,dz,rs,e0,kk⟩;obtain⟨⟨fa,da⟩,ea,e1⟩:=i0 e0;obtain⟨ds,ed,e2⟩:=i0 e1;obtain⟨ks,ek,e3⟩:=i0 e2;split at e3
 .rename_i hh;cases e3;have hA:PA X [a] (upAs X (b6 Fa fNil)):=i7 ha f9 hs;refine bK (BO I hg hm (by decide +kernel:bz "sorted"=aa (.builtin "sorted")) ?_);refine PyProof.Rows.callWith_kw (thn (hA pos π s σ H (λvs H1=>Same H H1/\∃va,vs=[va]/\Rp X.K emp da H1 va) I ⟨ρ,[(fa,da)],rs,by simp[b6,fNil,ea],λvs H1 s1⟨va,r1,ee1,q1,q3⟩=>⟨s1,va,by rw[ee1,show r1=[]from q3],q1.sh⟩⟩) λus s1⟨vs,H1,I1,rv,s1H,va,ev,ra⟩=>?_) (by rw[hs];rfl) (by rw[hs];rfl) rfl rfl;subst ev;obtain⟨ua,rfl,rua⟩:=rv.one;have hkw:=Ye (X:=X) (nm:=aa "key") (kpos:=kpos) (Yc (v:=V.ref f) (pos:=kp) hgf hf rfl hd) z18;refine thn (hkw pos π s1 σ H1 (λzs H2=>zs=[.ref f]/\H2=H1) I1 ⟨rfl,rfl⟩) ?_;rintro kvs s2 ⟨zs,H2,I2,rz,ez,eH⟩;subst ez;subst eH;obtain⟨uk,rfl,ruk⟩:=rz.one;cases ruk;have ex:∃l vs,va=.ref l/\H2 l=aa (.lst vs)/\Rps X.K emp ds H2 vs:=by
   cases da<;>first|cases ed|skip
   obtain⟨l,vs,e,_,h1,h2⟩:=ra.items;exact⟨l,vs,e,h1,h2⟩
  obtain⟨l,vs,rfl,h1,h2⟩:=ex;cases rua;refine Uh F hr hb I2 h1 h2 ek hh.1 hh.2 λD H3 ys sm d3 r3=>kk _ _ (s1H.trans (sm.trans (E5 d3))) ?_;exact(Gk d3 r3).early (s1H.trans sm)
 .cases e3
end
end L2
end
section
namespace L2
abbrev L(ns:aG):Dt:=.lst (ns.map .int)
abbrev T(ns:aG):Dt:=.tup (ns.map .int)
theorem n8{α β:Type}{a:α}{f:α->Option β}:(aa a).bind f=f a:=rfl
theorem YA{α:Type}{xs:List α}{i:Int}(h0:0<=i):atI xs i=xs[i.toNat]?:=by
 unfold atI ixN;rw[ar h0];by_cases h:i<xs.length
 .rw[ar h];rfl
 .rw[aw h,wK (by rfl')];rfl
theorem atI_c0{α:Type}{x:α}{xs:List α}:atI (x::xs) 0=aa x:=BR (j:=0) rfl
theorem atI_c1{α:Type}{x y:α}{xs:List α}:atI (x::y::xs) 1=aa y:=BR (j:=1) rfl
theorem atI_c2{α:Type}{x y z:α}{xs:List α}:atI (x::y::z::xs) 2=aa z:=BR (j:=2) rfl
theorem T5:∀ns:aG,J7 (ns.map Dt.int)=ac
 |[]=>rfl
 |n::ns=>by rw[wq,J7,T5 ns];rfl
theorem Y8:∀(k:Nat)(ns:aG),oksN k (ns.map Dt.int)=ac
 |k,[]=>by cases k<;>rfl
 |k,n::ns=>by rw[wq,oksN,Y8 k ns];cases k<;>rfl
theorem Bl:∀ns:aG,pys (ns.map Dt.int)=ns.map dW
 |[]=>rfl
 |n::ns=>by rw[wq,pys,Bl ns];rfl
theorem AI:∀ns ms:aG,dN (ns.map dW) (ms.map dW)=decide (ns=ms)
 |[],[]=>by simp[dN]
 |[],m::ms=>by simp[dN]
 |n::ns,[]=>by simp[dN]
 |n::ns,m::ms=>by
  rw[wq,wq,dN,AI ns ms,dG,w0s];simp
theorem Nr(ns ms:aG):opEq (L ns) (L ms)=aa (.nw,.bl (decide (ns=ms))):=by
 unfold opEq L;rw[Dt.okN,Dt.okN,Y8,Y8];unfold eqD;rw[Dt.py,Dt.py,Bl,Bl,dG,AI];rfl
theorem z0i(ns ms:aG):opNe (L ns) (L ms)=aa (.nw,.bl (!decide (ns=ms))):=by
 unfold opNe L;rw[Dt.okN,Dt.okN,Y8,Y8];unfold eqD;rw[Dt.py,Dt.py,Bl,Bl,dG,AI];rfl
theorem z4Z(ns:aG):(Dt.scr ns).okN 8=ac:=by simp[Dt.okN]
theorem RH(ns ms:aG):opEq (.scr ns) (L ms)=aa (.nw,.bl (decide (ns=ms))):=by
 unfold opEq;rw[z4Z];unfold L;rw[Dt.okN,Y8];unfold eqD;rw[Dt.py,Dt.py,Bl,dG,AI];rfl
theorem v6(i j:Int):opEq (.int i) (.int j)=aa (.nw,.bl (decide (i=j))):=by
 unfold opEq eqD;rw[Dt.py,Dt.py,dG,w0v];rfl
theorem x9(i j:Int):opNe (.int i) (.int j)=aa (.nw,.bl (!decide (i=j))):=by
 unfold opNe eqD;rw[Dt.py,Dt.py,dG,w0v];rfl
theorem Jf{i j:Int}(h:j.natAbs<2^64):G5 i j=ac:=by unfold G5;rw[aM h];simp
theorem Y1{i j:Int}(h:i.natAbs<2^64):G5 i j=ac:=by unfold G5;rw[aM h];simp
section
variable (i j:Int)
end
def u5(ns:aG)(k:Int):Int:=if k<ns.length then ns.getD k.toNat 0 else if ns=[] then 0 else ns.getD (k.fmod ns.length).toNat 0*31+k
end L2
end
section
namespace L2
section
variable {α β γ:Type}{g:Tg}{Fc:FT}{Fe:FE}{ρ0:Rho}
theorem HM(e:α->Dt)(h:α->Dv):∀(xs:List α),(∀x∈xs,(g.put (e x) ρ0).bind Fe=aa (h x))->CS g fYes Fe ρ0 (xs.map e)=aa (xs.map h)
 |[],_=>rfl
 | x::xs,q=>by
  have q1:=q x we;have ih:=HM e h xs λy hy=>q y (wc _ hy);rw[wq,CS];cases p:g.put (e x) ρ0 with
  |none=>rw[p]at q1;cases q1
  |some ρ1=>
   rw[p]at q1;have q1:Fe ρ1=aa (h x):=q1;simp[fYes,q1,ih]
theorem Cb(e:α->Dt)(h:α->Dv)(p:α->Bool):∀(xs:List α),(∀x∈xs,(g.put (e x) ρ0).bind Fc=aa (p x))->(∀x∈xs,p x=ac->(g.put (e x) ρ0).bind Fe=aa (h x))->CS g Fc Fe ρ0 (xs.map e)=aa ((xs.filter p).map h)
 |[],_,_=>rfl
 | x::xs,q,q'=>by
  have q1:=q x we;have q2:=q' x we;have ih:=Cb e h p xs (λy hy=>q y (wc _ hy)) (λy hy=>q' y (wc _ hy));rw[wq,CS];cases z:g.put (e x) ρ0 with
  |none=>rw[z]at q1;cases q1
  | some ρ1 =>
   rw[z]at q1 q2;have q1:Fc ρ1=aa (p x):=q1;cases w:p x with
   |true=>
    have q2:Fe ρ1=aa (h x):=q2 w;simp[q1,w,q2,ih]
   |false=>simp[q1,w,ih]
theorem CW(h:α->Dv):∀xs:List α,sndL (xs.map h)=xs.map λx=>(h x).2
 |[]=>rfl
 |x::xs=>by rw[wq,sndL,CW h xs];rfl
theorem HN{h:α->Dv}:∀{xs:List α},(∀x∈xs,(h x).1.isFr=ac)->AF (xs.map h)=ac
 |[],_=>rfl
 |x::xs,q=>by rw[wq,AF,q x we,HN λy hy=>q y (wc _ hy)];rfl
theorem n9{nt:Nat}{js:fQ}{Fi:FI}{ρ:Rho}{e:α->Dt}{h:α->Dt}{xs:List α}(hi:Fi ρ=aa (xs.map e))(q:∀x∈xs,(g.put (e x) (sigD nt js ρ)).bind Fe=aa (.nw,h x)):j6 nt js Fi g fYes Fe ρ=aa (.nw,.lst (xs.map h)):=by
 unfold j6;rw[hi,n8,HM e (λx=>(.nw,h x)) xs q,n8,HN (λx _=>rfl),CW];rfl
theorem Gw{nt:Nat}{js:fQ}{Fi:FI}{ρ:Rho}{e:α->Dt}{h:α->Dt}{p:α->Bool}{xs:List α}(hi:Fi ρ=aa (xs.map e))(q:∀x∈xs,(g.put (e x) (sigD nt js ρ)).bind Fc=aa (p x))(q':∀x∈xs,p x=ac->(g.put (e x) (sigD nt js ρ)).bind Fe=aa (.nw,h x)):
  j6 nt js Fi g Fc Fe ρ=aa (.nw,.lst ((xs.filter p).map h)):=by
 unfold j6;rw[hi,n8,Cb e (λx=>(.nw,h x)) p xs q q',n8,HN (λx _=>rfl),CW];rfl
theorem KB{nt:Nat}{js:fQ}{Fi:FI}{ρ:Rho}{e:α->Dt}{h:α->Dv}{xs:List α}(hi:Fi ρ=aa (xs.map e))(q:∀x∈xs,(g.put (e x) (sigD nt js ρ)).bind Fe=aa (h x)):j6 nt js Fi g fYes Fe ρ=aa (if AF (xs.map h) then .nw else .tn,.lst (xs.map λx=>(h x).2)):=by
 unfold j6;rw[hi,n8,HM e h xs q,n8,CW]
variable {F:FS}
def nextO(G:FS):Oc->Option Oc
 |.nx ρ=>G ρ
 |.ct ρ=>G ρ
 |.bk ρ=>aa (.nx ρ)
 |.rt f d=>aa (.rt f d)
 |.ex C=>aa (.ex C)
theorem z1U{ρ:Rho}:forF g F [] ρ=aa (.nx ρ):=rfl
theorem F6{x:Dt}{xs:gf}{ρ:Rho}:forF g F (x::xs) ρ=((g.put x ρ).bind F).bind (nextO (forF g F xs)):=by
 rw[forF];cases g.put x ρ with
 |none=>rfl
 |some ρ1=>
  show(F ρ1).bind _=(F ρ1).bind _;congr 1
  first|done|(funext oc;cases oc<;>rfl)
theorem Bm(e:α->Dt)(R:β->γ->Rho)(step:β->α->β):∀(xs:List α)(b:β)(j:γ),(∀b x j,x∈xs->∃j',(g.put (e x) (R b j)).bind F=aa (.nx (R (step b x) j')))->∃j',forF g F (xs.map e) (R b j)=aa (.nx (R (xs.foldl step b) j'))
 |[],b,j,_=>⟨j,rfl⟩
 |x::xs,b,j,h=>by
  obtain⟨j1,h1⟩:=h b x j we;obtain⟨j2,h2⟩:=Bm e R step xs (step b x) j1 λb y j hy=>h b y j (wc _ hy);refine⟨j2,?_⟩;rw[wq,F6,h1];exact h2
theorem KC(e:α->Dt)(R:β->γ->Rho)(step:β->α->β)(P:β->Prop):∀(xs:List α)(b:β)(j:γ),P b->(∀b x j,x∈xs->P b->P (step b x)/\∃j',(g.put (e x) (R b j)).bind F=aa (.nx (R (step b x) j')))->P (xs.foldl step b)/\∃j',forF g F (xs.map e) (R b j)=aa (.nx (R (xs.foldl step b) j'))
 |[],b,j,p,_=>⟨p,j,rfl⟩
 |x::xs,b,j,p,h=>by
  obtain⟨p1,j1,h1⟩:=h b x j we p;obtain⟨p2,j2,h2⟩:=KC e R step P xs (step b x) j1 p1 λb y j hy=>h b y j (wc _ hy);refine⟨p2,j2,?_⟩;rw[wq,F6,h1];exact h2
end
abbrev LL(rows:aA):Dt:=.lst (rows.map L)
abbrev TTu(rows:aA):Dt:=.tup (rows.map T)
abbrev f8(k:Int)(bills:aA):Dt:=.tup [.int k,TTu bills]
theorem z1V(ns:aG):(T ns).flat=ac:=by show J7 _=ac;exact T5 ns
theorem Nt:∀rows:aA,J7 (rows.map T)=ac
 |[]=>rfl
 |r::rows=>by rw[wq,J7,z1V,Nt rows];rfl
theorem nrm_T(f:Fl)(ns:aG):nrm f (T ns)=(.nw,T ns):=by unfold nrm;rw[z1V];rfl
theorem z1W(ns:aG):lfl (ns.map .int)=.nw:=by unfold lfl;rw[T5];rfl
theorem T6(ns:aG):newL (ns.map .int)=(.nw,L ns):=by unfold newL;rw[z1W]
theorem T7{α:Type}(h:α->Bool):∀xs:List α,CQ (xs.map λx=>.bl (h x))=aa (xs.map h)
 |[]=>rfl
 |x::xs=>by rw[wq,CQ,T7 h xs];rfl
theorem Jg:∀xs:aG,BX (xs.map .int)=aa xs
 |[]=>rfl
 |x::xs=>by rw[wq,BX,Jg xs];rfl
theorem Bn{α β:Type}(e:α->Dt)(f:β->Dt):∀(xs:List α)(ys:List β),zipD (xs.map e) (ys.map f)=(xs.zip ys).map λp=>.tup [e p.1,f p.2]
 |[],ys=>by simp[zipD]
 |x::xs,[]=>by simp[zipD]
 |x::xs,y::ys=>by rw[wq,wq,zipD,Bn e f xs ys];rfl
theorem A3(lo:Int)(n:Nat):P6 lo n=(av n).map λ(k:Nat)=>.int (lo+(k:Int)):=rfl
theorem M3(c:Int){m:Int}(h:0<m):0<=c.fmod m/\c.fmod m<m:=⟨vh c h,vC c h⟩
def CY(c m:Int):Int:=
 if m=2 then(if((c.fdiv (10^30)).fmod 2)=1 then -(c.fmod (10^30)) else c.fmod (10^30))
 else
  let wide:Int:=if m=0 then 9 else 61
  let n:=c.fmod wide
  if wide.fdiv 2<n then n-wide else n
theorem z1X(c m:Int):(CY c m).natAbs<10^30:=by
 unfold CY;have a1:=vh c (show(0:Int)<10^30 by decide);have a2:=vC c (show(0:Int)<10^30 by decide);dsimp only;split
 .split<;>rfl'
 .have hw:(if m=0 then(9:Int) else 61)=9\/(if m=0 then(9:Int) else 61)=61:=by split<;>simp
  generalize (if m=0 then(9:Int) else 61)=wide at *;have b1:=vh c (show(0:Int)<wide by rfl');have b2:=vC c (show(0:Int)<wide by rfl');split<;>rfl'
theorem RI(c m:Int)(h:m=0):(CY c m).natAbs<=4:=by
 subst h;unfold CY;have b1:=vh c (show(0:Int)<9 by decide);have b2:=vC c (show(0:Int)<9 by decide);simp;split<;>rfl'
theorem z0j(c m:Int)(h:m=1):(CY c m).natAbs<=30:=by
 subst h;unfold CY;have b1:=vh c (show(0:Int)<61 by decide);have b2:=vC c (show(0:Int)<61 by decide);simp;split<;>rfl'
def K1(ns:aG)(at_:Int)(n:Nat)(m:Int):aG:=(av n).map λ(k:Nat)=>CY (u5 ns (at_+(k:Int))) m
theorem Ed(ns:aG)(a:Int)(n:Nat)(m:Int):(K1 ns a n m).length=n:=by unfold K1;simp
end L2
end
section
local macro_rules|`(tactic|rfl')=>`(tactic|first|lia|omega +splitDisjunctions)
namespace L2
def addR(a b:aG):aG:=ce (·+·) a b
def subR(a b:aG):aG:=ce (· - ·) a b
def sclR(k:Int)(a:aG):aG:=a.map (k*·)
def o6(n:Nat):aG:=bg n 0
def mixR(n:Nat)(rows:aA)(cs:aG):aG:=(rows.zip cs).foldl (λt p=>addR t (sclR p.2 p.1)) (o6 n)
def isWh:Dt->Bool
 |.int _=>ac
 |_=>af
theorem W0{a b:aG}(h:a.length=b.length):(addR a b).length=a.length:=by unfold addR;rw[vW];rfl'
theorem Gx{a b:aG}(h:a.length=b.length):(subR a b).length=a.length:=by unfold subR;rw[vW];rfl'
theorem A4{k:Int}{a:aG}:(sclR k a).length=a.length:=by unfold sclR;simp
theorem E4{n:Nat}:(o6 n).length=n:=by unfold o6;simp
theorem T8{i j:Int}{p q:Nat}(h1:i.natAbs<2^p)(h2:j.natAbs<2^q)(h:p+q<=134217728):G5 i j=ac:=by
 unfold G5;have a:=OS h1;have b:=OS h2;rw[aM (show bC i+bC j<=134217728 by rfl')];rfl
theorem lt30{i:Int}(h:i.natAbs<10^30):i.natAbs<2^100:=ww h (by decide)
theorem z1Y(a b:aG):(a.zip b).map (λp=>Dt.int (p.1+p.2))=(addR a b).map .int:=by
 unfold addR;rw[List.zip,]
 induction a generalizing b with
 |nil=>rfl
 |cons x a ih=>cases b with
  |nil=>rfl
  |cons y b=>have:=ih b;simp[ce]
theorem z0k(a b:aG):(a.zip b).map (λp=>Dt.int (p.1-p.2))=(subR a b).map .int:=by
 unfold subR;rw[List.zip,]
 induction a generalizing b with
 |nil=>rfl
 |cons x a ih=>cases b with
  |nil=>rfl
  |cons y b=>have:=ih b;simp[ce]
theorem Ai{α β:Type}(g:α->β)(xs:List α)(i:Int):atI (xs.map g) i=(atI xs i).map g:=by
 unfold atI;rw[wj];cases ixN xs.length i with
 |none=>rfl
 |some j=>show(xs.map g)[j]?=_;rw[wy];rfl
theorem z1Z{α:Type}{xs:List α}{i:Nat}(h:i<xs.length):atI xs (i:Int)=aa xs[i]:=BR (wa h)
def Wide(n:Nat)(rows:aA):Prop:=∀r∈rows,r.length=n
theorem RJ{n:Nat}:∀(ps:List (aG×Int))(t:aG),t.length=n->(∀p∈ps,p.1.length=n)->(ps.foldl (λt p=>addR t (sclR p.2 p.1)) t).length=n
 |[],t,h,_=>h
 |p::ps,t,h,q=>RJ ps _ (by rw[W0 (by rw[h,A4,q p we])];exact h) λp hp=>q p (wc _ hp)
theorem RK{n:Nat}{rows:aA}{cs:aG}(h:Wide n rows):(mixR n rows cs).length=n:=
 RJ _ _ E4 λp hp=>h _ (vU hp).1
theorem z0l(a b:aG)(h:a.length=b.length)(f:Int->Int->Int):(av a.length).map (λk=>f (a.getD k 0) (b.getD k 0))=ce f a b:=by
 apply ue
 .simp;rfl'
 .intro i h1 h2;simp at h1;simp[au,wa h1,wa (show i<b.length by rfl')]
theorem KD(d:Dt):nrm .nw d=(.nw,d):=by unfold nrm;split<;>rfl
theorem run{F G:FS}{ρ ρ':Rho}{r:Option Oc}(h:F ρ=aa (.nx ρ'))(k:G ρ'=r):sSeq F G ρ=r:=by
 unfold sSeq;rw[h];exact k
theorem Y2{np n:Nat}{fr:Bool}{F:FS}{ds:gf}{f:Fl}{d:Dt}(hl:ds.length=np)(h:F (rho0 n ds)=aa (.rt f d))(hf:(f.isFr||d.flat)=ac):cOf np n fr F ds=aa d:=by
 unfold cOf;rw[ar hl,h];show(if(fr&&!(f.isFr||d.flat))=ac then ag else aa d)=aa d;rw[hf];cases fr<;>rfl
theorem Cc{n:Nat}(h:n<=1000000):V7 (n:Int)=ac:=by
 unfold V7;rw[aM (show -1000000<=(n:Int) by rfl'),aM (show(n:Int)<=1000000 by rfl')];rfl
theorem z0m(rows:aA)(cs:aG)(h:rows.length=cs.length):(av rows.length).map (λj=>(rows.getD j [],cs.getD j 0))=rows.zip cs:=by
 apply ue
 .simp;rfl'
 .intro i h1 h2;simp at h1;simp[au,wa h1,wa (show i<cs.length by rfl')]
theorem Ui(n:Nat)(rows:aA)(cs:aG)(h:rows.length=cs.length):(av rows.length).foldl (λt j=>addR t (sclR (cs.getD j 0) (rows.getD j []))) (o6 n)=mixR n rows cs:=by
 unfold mixR;rw[<-z0m rows cs h,w1p]
theorem z20(a b:aG)(k:Int)(h:a.length=b.length):(av a.length).map (λi=>a.getD i 0+k*b.getD i 0)=addR a (sclR k b):=by
 unfold addR sclR;rw[w0q];exact z0l a b h λx y=>x+k*y
theorem z21(f:Nat->Int)(n:Nat):(av n).map (λk=>Dt.int (f k))=((av n).map f).map .int:=by rw[wS];rfl
theorem Gy{α:Type}{xs:List α}{i:Nat}(d:α)(h:i<xs.length):xs.getD i d∈xs:=by
 simp[au,wa h]
theorem M4{α:Type}{xs:List α}{i:Nat}(d:α)(h:i<xs.length):atI xs (i:Int)=aa (xs.getD i d):=by
 rw[z1Z h];simp[au,wa h]
theorem RL(ns:aG)(a:Int)(n:Nat)(m:Int):∀x∈K1 ns a n m,x.natAbs<10^30:=λx hx=>by
 unfold K1 at hx;obtain⟨k,_,rfl⟩:=wg.mp hx;exact z1X _ _
end L2
end
section
namespace L2
@[simp] def x0:=@rho0.eq_1
@[simp] def x1:=@sSeq.eq_1
@[simp] def x2:=@seqO.eq_1
@[simp] def x3:=@seqO.eq_2
@[simp] def x4:=@sIf.eq_1
@[simp] def x5:=@j8.eq_1
@[simp] def x6:=@fOp.eq_1
@[simp] def x7:=@fN.eq_1
@[simp] def x8:=@Rn.eq_1
@[simp] def x10:=@Cell.val.eq_3
@[simp] def x11:=@Cell.val.eq_4
@[simp] def x12:=@flOf.eq_1
@[simp] def x13:=@fBlt.eq_1
@[simp] def x14:=@b6.eq_1
@[simp] def x15:=@fNil.eq_1
@[simp] def x16:=@sndL.eq_1
@[simp] def x17:=@sndL.eq_2
@[simp] def x18:=@bLen.eq_1
@[simp] def x19:=@bLen.eq_2
@[simp] def x20:=@bLen.eq_3
@[simp] def x22:=@blD.eq_1
@[simp] def x25:=@truD.eq_2
@[simp] def x30:=@sRet.eq_1
@[simp] def x31:=@o7.eq_1
@[simp] def x32:=@fAt.eq_1
@[simp] def x33:=@opAt.eq_1
@[simp] def x34:=@fLst.eq_1
@[simp] def x35:=@fTup.eq_1
@[simp] def x37:=@Fl.item.eq_2
@[simp] def x38:=@fC.eq_1
@[simp] def x39:=@fTru.eq_1
@[simp] def x40:=@fNot.eq_1
@[simp] def x41:=@fAnd.eq_1
@[simp] def x42:=@fOr.eq_1
@[simp] def x43:=@vAnd.eq_1
@[simp] def x45:=@vNot.eq_1
@[simp] def x46:=@fNeg.eq_1
@[simp] def x47:=@fIf.eq_1
@[simp] def x48:=@fIsi.eq_1
@[simp] def x49:=@Rr.eq_1
@[simp] def x50:=@tyN.eq_1
@[simp] def x51:=@tyN.eq_2
@[simp] def x52:=@tyN.eq_3
@[simp] def x53:=@tyN.eq_4
@[simp] def x54:=@tyN.eq_5
@[simp] def x55:=@tyN.eq_6
@[simp] def x56:=@tyN.eq_7
@[simp] def x57:=@sSet.eq_1
@[simp] def x58:=@relS.eq_1
@[simp] def x60:=@V8.eq_1
@[simp] def x61:=@V8.eq_2
@[simp] def x62:=@Gq.eq_1
@[simp] def x63:=@Gq.eq_2
@[simp] def x64:=@i6.eq_1
@[simp] def x65:=@Fl.isFr.eq_1
@[simp] def x66:=@Fl.isFr.eq_2
@[simp] def x68:=@Fl.isNw.eq_1
@[simp] def x69:=@Fl.isNw.eq_2
@[simp] def x70:=@Go.eq_1
@[simp] def x71:=@Go.eq_2
@[simp] def x72:=@AF.eq_1
@[simp] def x73:=@AF.eq_2
@[simp] def x74:=@Bi.eq_1
@[simp] def x75:=@sFor.eq_1
@[simp] def x76:=@iSeq.eq_1
@[simp] def x77:=@seqD.eq_1
@[simp] def x78:=@seqD.eq_2
@[simp] def x80:=@Q8.eq_1
@[simp] def x81:=@sOwn.eq_1
@[simp] def x83:=@sWr.eq_1
@[simp] def x84:=@sWrA.eq_1
@[simp] def x85:=@sPut.eq_1
@[simp] def x86:=@Gs.eq_1
@[simp] def x87:=@Ah.eq_1
@[simp] def x88:=@iRev.eq_1
@[simp] def x89:=@lstD.eq_1
@[simp] def x91:=@iZip.eq_1
@[simp] def x92:=@o0.eq_1
@[simp] def x93:=@intD.eq_1
@[simp] def x95:=@wApp.eq_1
@[simp] def x96:=@Ku.eq_1
@[simp] def x97:=@setD.eq_1
@[simp] def x98:=@bLst.eq_1
@[simp] def x99:=@bLst.eq_2
@[simp] def x101:=@bTup.eq_1
@[simp] def x104:=@Tg.put.eq_1
@[simp] def x105:=@Tg.put.eq_2
@[simp] def x107:=@AX.eq_1
@[simp] def x108:=@AX.eq_2
@[simp] def x110:=@Jb.eq_3
@[simp] def x112:=@sigD.eq_1
@[simp] def x114:=@EX.eq_1
@[simp] theorem x115:∀(i j:Int),opLt (Dt.int i) (Dt.int j)=aa (Fl.nw,Dt.bl (decide (i<j))):=by intros;rfl
@[simp] theorem x116:∀(i j:Int),opLe (Dt.int i) (Dt.int j)=aa (Fl.nw,Dt.bl (decide (i<=j))):=by intros;rfl
@[simp] theorem x117:∀(i j:Int),opGt (Dt.int i) (Dt.int j)=aa (Fl.nw,Dt.bl (decide (j<i))):=by intros;rfl
@[simp] theorem x118:∀(i j:Int),opGe (Dt.int i) (Dt.int j)=aa (Fl.nw,Dt.bl (decide (j<=i))):=by intros;rfl
@[simp] theorem x119:∀(i j:Int),IY (Dt.int i) (Dt.int j)=aa (Fl.nw,Dt.int (i-j)):=by intros;rfl
@[simp] theorem x120:∀(i j:Int),B3 (Dt.int i) (Dt.int j)=if N9 i j=ac then aa (Fl.nw,Dt.int (Int.fmod i j)) else ag:=by intros;rfl
@[simp] theorem x121:∀(i j:Int),D9 (Dt.int i) (Dt.int j)=if G5 i j=ac then aa (Fl.nw,Dt.int (i*j)) else ag:=by intros;rfl
@[simp] theorem x122:∀(i j:Int),L5 (Dt.int i) (Dt.int j)=if E7 i j=ac then aa (Fl.nw,Dt.int (Int.fdiv i j)) else ag:=by intros;rfl
@[simp] theorem x123:∀(i j:Int),Ni (Dt.int i) (Dt.int j)=if Kl i j=ac then aa (Fl.nw,Dt.int (i^Int.toNat j)) else ag:=by intros;rfl
@[simp] theorem x124:∀(i j:Int),u9 (Dt.int i) (Dt.int j)=aa (Fl.nw,Dt.int (i+j)):=by intros;rfl
@[simp] theorem x125:∀(f:Fl)(i:Int),nrm f (Dt.int i)=(Fl.nw,Dt.int i):=by intros;rfl
@[simp] theorem x126:∀(f:Fl)(i:Bool),nrm f (Dt.bl i)=(Fl.nw,Dt.bl i):=by intros;rfl
@[simp] theorem x127:∀(f:Fl),nrm f Dt.non=(Fl.nw,Dt.non):=by intros;rfl
@[simp] theorem x128:∀(f:Fl)(ns:aG),nrm f (Dt.scr ns)=(f,Dt.scr ns):=by intros;rfl
@[simp] theorem x129:∀(f:Fl)(ns:aG),nrm f (L ns)=(f,L ns):=by intros;rfl
@[simp] theorem x130:∀(f:Fl)(ns:aA),nrm f (LL ns)=(f,LL ns):=by intros;rfl
@[simp] theorem x134:∀{α β:Type}{a:α}{f:α->Option β},Option.bind (aa a) f=f a:=by intros;rfl
@[simp] theorem x135:∀{α β:Type}{f:α->Option β},Option.bind ag f=ag:=by intros;rfl
@[simp] def x136:=@atI_c0
@[simp] def x137:=@atI_c1
@[simp] def x138:=@atI_c2
@[simp] theorem y1(ns:aG):newL (List.map Dt.int ns)=(Fl.nw,Dt.lst (List.map Dt.int ns)):=T6 ns
@[simp] theorem y2:newL []=(Fl.nw,Dt.lst []):=rfl
@[simp] theorem y3(ns:aG):J7 (List.map Dt.int ns)=ac:=T5 ns
@[simp] theorem y4(d:Dt):nrm Fl.nw d=(Fl.nw,d):=KD d
@[simp] theorem y5(i:Int):Dt.flat (Dt.int i)=ac:=rfl
@[simp] theorem y6(i:Bool):Dt.flat (Dt.bl i)=ac:=rfl
@[simp] theorem y7(f:Fl)(ds:gf):nrm f (Dt.lst ds)=(f,Dt.lst ds):=rfl
@[simp] theorem y8:J7 []=ac:=rfl
@[simp] theorem y9(d:Dt)(ds:gf):J7 (d::ds)=(d.flat&&J7 ds):=by rw[J7]
@[simp] theorem y10(ds:gf):Dt.flat (Dt.lst ds)=af:=by rw[Dt.flat]
@[simp] theorem y11(ds:gf):Dt.flat (Dt.tup ds)=J7 ds:=by rw[Dt.flat]
@[simp] theorem y12(f:Fl)(ds:gf):nrm f (Dt.tup ds)=(if J7 ds=ac then Fl.nw else f,Dt.tup ds):=rfl
@[simp] theorem xd1:tyN Dt.dic ="dict":=rfl
@[simp] theorem xd2:Dt.flat Dt.dic=ac:=by unfold Dt.flat;rfl
end L2
end
section
local macro_rules|`(tactic|rfl')=>`(tactic|first|lia|omega +splitDisjunctions)
namespace L2
theorem Jh{γ:Type}{g:Tg}{F:FS}(R:Nat->γ->Rho):∀(n k:Nat)(j:γ),(∀i j,k<=i->i<k+n->∃j',(g.put (.int (i:Int)) (R i j)).bind F=aa (.nx (R (i+1) j')))->∃j',forF g F ((av n).map λ(i:Nat)=>.int (((k+i:Nat):Int))) (R k j)=aa (.nx (R (k+n) j'))
 |0,k,j,_=>⟨j,rfl⟩
 |n+1,k,j,h=>by
  obtain⟨j1,h1⟩:=h k j (wv _) (by rfl');obtain⟨j2,h2⟩:=Jh R n (k+1) j1 λi j hi hl=>h i j (by rfl') (by rfl');refine⟨j2,?_⟩;rw[uS,wq,F6,Nat.add_zero,h1,wS];rw[show k+(n+1)=k+1+n by rfl',<-h2];show forF g F _ (R (k+1) j1)=forF g F _ (R (k+1) j1);congr 1;apply w06;intro i _;show Dt.int ((k+(i+1):Nat):Int)=_;rw[show k+(i+1)=k+1+i by rfl']
theorem Uj{γ:Type}{g:Tg}{F:FS}(R:Nat->γ->Rho)(n:Nat)(j:γ)(h:∀i j,i<n->∃j',(g.put (.int (i:Int)) (R i j)).bind F=aa (.nx (R (i+1) j'))):∃j',forF g F (P6 0 n) (R 0 j)=aa (.nx (R n j')):=by
 obtain⟨j',e⟩:=Jh R n 0 j λi j _ hi=>h i j (by rfl');refine⟨j',?_⟩;rw[uj]at e;rw[<-e,A3];congr 1
@[simp] theorem y13(n:Nat)(h:n<=1000000):V7 (n:Int)=ac:=Cc h
theorem getD_L(S:aA){k:Nat}(h:k<S.length):atI (S.map L) (k:Int)=aa (L (S.getD k [])):=by rw[Ai,M4 [] h];rfl
end L2
namespace L2
theorem CZ{α:Type}(xs:List α)(n:Nat):cutD xs (aa (n:Int)) ag=xs.drop n:=by
 unfold cutD;rw[HT.sIx_none,HT.sIx_nat];by_cases h:n<=xs.length
 .rw[w1j h,vY (by rw[vd];rfl')]
 .rw[w15 (by rfl'),uT (by rfl'),uT (by rfl')];simp
theorem KE{α:Type}(xs:List α)(n:Nat):cutD xs ag (aa (n:Int))=xs.take n:=by
 unfold cutD;rw[HT.sIx_none,HT.sIx_nat,List.drop_zero,Nat.sub_zero];by_cases h:n<=xs.length
 .rw[w1j h]
 .rw[w15 (by rfl'),vY (by rfl'),vY (by rfl')]
@[simp] theorem y14(F:FE)(A B:FP)(ρ:Rho):fSl F A B ρ=(F ρ).bind λx=>(A ρ).bind λlo=>(B ρ).bind λhi=>match x.2 with|.lst ds=>aa (newL (cutD ds lo hi))|_=>ag:=rfl
@[simp] theorem y15(F:FE)(ρ:Rho):J2 F ρ=(F ρ).bind λx=>(intD x.2).map aa:=rfl
@[simp] theorem y16(ρ:Rho):z9 ρ=aa ag:=rfl
theorem M5(xs:aG)(n:Nat):newL ((xs.map Dt.int).drop n)=(.nw,L (xs.drop n)):=by rw[<-List.map_drop];exact T6 _
theorem Aj(xs:aG)(n:Nat):newL ((xs.map Dt.int).take n)=(.nw,L (xs.take n)):=by rw[<-w0j];exact T6 _
theorem KG(a b:aG)(h:a.length+b.length<=1000000):u9 (.lst (a.map Dt.int)) (.lst (b.map Dt.int))=aa (.nw,L (a++b)):=by
 have:u9 (.lst (a.map Dt.int)) (.lst (b.map Dt.int))=Gm (.lst (a.map Dt.int)) (.lst (b.map Dt.int)):=rfl;rw[this,Gm,ar (by simpa using h),<-vV,T6]
end L2
end
section
local macro_rules|`(tactic|rfl')=>`(tactic|first|lia|omega +splitDisjunctions)
namespace Lat
abbrev Vec:=Nat->Int
def Span:List Vec->Vec->Prop
 |[],v=>∀k,v k=0
 |r::rs,v=>∃c:Int,Span rs (λk=>v k-c*r k)
theorem Span.congr{rs:List Vec}{v w:Vec}(h:∀k,v k=w k)(s:Span rs v):Span rs w:=by
 have:v=w:=funext h;rw[<-this];exact s
theorem Span.zero:∀{rs:List Vec},Span rs (λ_=>0)
 |[]=>λ_=>rfl
 |r::rs=>⟨0,Span.congr (λk=>by simp) (Span.zero (rs:=rs))⟩
theorem Span.add:∀{rs:List Vec}{v w:Vec},Span rs v->Span rs w->Span rs (λk=>v k+w k)
 |[],v,w,h1,h2=>λk=>by show v k+w k=0;rw[h1 k,h2 k];rfl
 |r::rs,v,w,⟨c,h1⟩,⟨d,h2⟩=>⟨c+d,Span.congr (λk=>by show _=(v k+w k)-(c+d)*r k;rw[w1c];rfl') (h1.add h2)⟩
theorem Span.smul:∀{rs:List Vec}{v:Vec}(a:Int),Span rs v->Span rs (λk=>a*v k)
 |[],v,a,h=>λk=>by show a*v k=0;rw[h k,Int.mul_zero]
 |r::rs,v,a,⟨c,h⟩=>⟨a*c,Span.congr (λk=>by rw[w0w,vQ]) (h.smul a)⟩
theorem Span.neg{rs:List Vec}{v:Vec}(h:Span rs v):Span rs (λk=>-v k):=Span.congr (λk=>by rfl') (h.smul (-1))
theorem Span.sub{rs:List Vec}{v w:Vec}(h1:Span rs v)(h2:Span rs w):Span rs (λk=>v k-w k):=Span.congr (λk=>by rfl') (h1.add h2.neg)
theorem Span.head{r:Vec}{rs:List Vec}:Span (r::rs) r:=⟨1,Span.congr (λk=>by rfl') Span.zero⟩
theorem Span.cons{r:Vec}{rs:List Vec}{v:Vec}(h:Span rs v):Span (r::rs) v:=⟨0,Span.congr (λk=>by rfl') h⟩
theorem Span.mem:∀{rs:List Vec}{r:Vec},r∈rs->Span rs r
 |_::_,_,.head _=>Span.head
 |_::_,_,.tail _ h=>(Span.mem h).cons
theorem Span.least{P:Vec->Prop}(z:P (λ_=>0))(a:∀v w,P v->P w->P (λk=>v k+w k))(m:∀(c:Int)v,P v->P (λk=>c*v k)):
  ∀{rs:List Vec}{v:Vec},(∀r∈rs,P r)->Span rs v->P v
 |[],v,_,h=>by have:v=λ_=>0:=funext h;rw[this];exact z
 |r::rs,v,hr,⟨c,h⟩=>by
  have h1:=Span.least z a m (λx hx=>hr x (wc _ hx)) h;have h2:=a _ _ h1 (m c r (hr r we));have:v=λk=>(v k-c*r k)+c*r k:=funext λk=>by rfl'
  rw[this];exact h2
theorem Span.trans{rs ss:List Vec}{v:Vec}(h:∀r∈rs,Span ss r)(s:Span rs v):Span ss v:=
 Span.least (P:=Span ss) Span.zero (λ_ _=>Span.add) (λc _=>Span.smul c) h s
def SameSpan(rs ss:List Vec):Prop:=(∀r∈rs,Span ss r)/\∀s∈ss,Span rs s
theorem SameSpan.iff{rs ss:List Vec}(h:SameSpan rs ss){v:Vec}:Span rs v↔Span ss v:=⟨Span.trans h.1,Span.trans h.2⟩
theorem SameSpan.refl{rs:List Vec}:SameSpan rs rs:=⟨λ_=>Span.mem,λ_=>Span.mem⟩
theorem SameSpan.symm{rs ss:List Vec}(h:SameSpan rs ss):SameSpan ss rs:=⟨h.2,h.1⟩
theorem SameSpan.trans{rs ss ts:List Vec}(h:SameSpan rs ss)(g:SameSpan ss ts):SameSpan rs ts:=⟨λr hr=>(h.1 r hr).trans g.1,λt ht=>(g.2 t ht).trans h.2⟩
def Form:Nat->List (Nat×Vec)->Prop
 |_,[]=>True
 |f,(h,r)::rs=>f<=h/\(∀k,k<h->r k=0)/\0<r h/\(∀p∈rs,0<=r p.1/\r p.1<p.2 p.1)/\Form (h+1) rs
abbrev AZ(S:List (Nat×Vec)):List Vec:=S.map (·.2)
theorem Form.low:∀{f:Nat}{S:List (Nat×Vec)}{v:Vec},Form f S->Span (AZ S) v->∀k,k<f->v k=0
 |_,[],v,_,s,k,_=>s k
 |f,(h,r)::S,v,⟨h1,h2,h3,h4,h5⟩,⟨c,s⟩,k,hk=>by
  have:=Form.low h5 s k (by rfl');have e:r k=0:=h2 k (by rfl');have this:v k-c*r k=0:=this;rw[e]at this;simpa using this
theorem Form.coef{f h:Nat}{r v:Vec}{S:List (Nat×Vec)}{c:Int}(F:Form f ((h,r)::S))(s:Span (AZ S) (λk=>v k-c*r k)):v h=c*r h:=by
 have:v h-c*r h=0:=F.2.2.2.2.low s h (by rfl');rfl'
theorem EK{c r v:Int}(e:v=c*r)(hr:0<r)(h1 : -r<v)(h2:v<r):c=0:=by
 rcases w0f c 0 with h|h|h
 .exfalso;have:c*r <= -1*r:=uY (by rfl') (by rfl');rfl'
 .exact h
 .exfalso;have:1*r<=c*r:=uY (by rfl') (by rfl');rfl'
theorem Form.tail{f h:Nat}{r v:Vec}{S:List (Nat×Vec)}(F:Form f ((h,r)::S))(s:Span (AZ ((h,r)::S)) v)(z:v h=0):Span (AZ S) v:=by
 obtain⟨c,s⟩:=s;have e:=F.coef s;have hr:=F.2.2.1;rw[z]at e;have c0:c=0:=by
  rcases vH.mp e.symm with h|h
  .exact h
  .rfl'
 subst c0;exact Span.congr (λk=>by rfl') s
end Lat
end
section
namespace Lat
theorem Ba{α β:Type}[DecidableEq β]:∀{l:List α}{m:List β}(f:α->β),l.Nodup->(∀x∈l,∀y∈l,f x=f y->x=y)->(∀x∈l,f x∈m)->l.length<=m.length
 |[],m,f,_,_,_=>wQ _
 | x::l,m,f,hn,hi,hm=>by
  have hx:=hm x we;have hn':=vD.mp hn;have h1:l.length<=(m.erase (f x)).length:=by
   refine Ba f hn'.2 (λa ha b hb=>hi a (wc _ ha) b (wc _ hb)) (λa ha=>?_);have hne:f a≠f x:=λe=>by
    have:=hi a (wc _ ha) x we e;subst this;exact hn'.1 ha
   exact(List.mem_erase_of_ne hne).mpr (hm a (wc _ ha))
  have h2:(m.erase (f x)).length=m.length-1:=List.length_erase_of_mem hx;have h3:0<m.length:=List.length_pos_of_mem hx;simp only[wo];rfl'
def box:fQ->aA
 |[]=>[[]]
 |n::ns=>(av n).flatMap λ(i:Nat)=>(box ns).map λt=>(i:Int)::t
def prod:fQ->Nat
 |[]=>1
 |n::ns=>n*prod ns
theorem RM{α:Type}(g:Nat->List α)(k:Nat):∀(l:fQ),(∀i∈l,(g i).length=k)->(l.flatMap g).length=l.length*k
 |[],_=>by simp
 |i::l,h=>by
  rw[w0R,wB,RM g k l (λj hj=>h j (wc _ hj)),h i we,wo,uU,Nat.add_comm]
theorem EY:∀ns:fQ,(box ns).length=prod ns
 |[]=>rfl
 |n::ns=>by
  show((av n).flatMap λ(i:Nat)=>(box ns).map λt=>(i:Int)::t).length=n*prod ns;rw[RM _ (prod ns) _ (λi _=>by rw[wj,EY ns]),uz]
def L6:fQ->aG->Prop
 |[],[]=>True
 |n::ns,x::xs=>0<=x/\x<n/\L6 ns xs
 |_,_=>False
theorem Ee:∀{ns:fQ}{t:aG},t∈box ns↔L6 ns t
 |[],[]=>by simp[box,L6]
 |[],x::t=>by simp[box,L6]
 |n::ns,[]=>by simp[box,L6]
 |n::ns,x::t=>by
  simp only[box,L6,w16,wO,wg,List.cons.injEq];constructor
  .rintro⟨i,hi,u,hu,rfl,rfl⟩;exact⟨by rfl',by rfl',Ee.mp hu⟩
  .rintro⟨h0,h1,h2⟩;exact⟨x.toNat,by rfl',t,Ee.mpr h2,by rfl',rfl⟩
theorem Nu:∀ns:fQ,(box ns).Nodup
 |[]=>by simp[box]
 | n::ns=>by
  have ih:=Nu ns;have key:∀m,((av m).flatMap λ(i:Nat)=>(box ns).map λt=>(i:Int)::t).Nodup:=by
   intro m
   induction m with
   |zero=>simp
   |succ m hm=>
    rw[uK,List.flatMap_append,w0S];refine⟨hm,?_,?_⟩
    .rw[w0R,List.flatMap_nil,vn];refine List.Pairwise.map _ (λa b hab e=>hab ?_) ih;exact(List.cons.inj e).2
    .intro a ha b hb e;subst e;simp only[w16,wO,wg,wI]at ha hb;obtain⟨i,hi,u,hu,rfl⟩:=ha;obtain⟨j,hj,w,hw,e⟩:=hb;have:=(List.cons.inj e).1;rfl'
  exact key n
theorem YB{ns ms:fQ}(f:aG->aG)(hi:∀s t,L6 ns s->L6 ns t->f s=f t->s=t)(hm:∀s,L6 ns s->L6 ms (f s)):prod ns<=prod ms:=by
 rw[<-EY ns,<-EY ms];exact Ba f (Nu ns) (λx hx y hy=>hi x y (Ee.mp hx) (Ee.mp hy)) (λx hx=>Ee.mpr (hm x (Ee.mp hx)))
end Lat
end
section
local macro_rules|`(tactic|rfl')=>`(tactic|first|lia|omega +splitDisjunctions)
namespace Br
structure BI(a b u0 u1 u2 l0 l1 l2:Int):Prop where
 up:a*u1+b*u2=u0
 lo:a*l1+b*l2=l0
 gcd:uA u0 l0=uA a b
 p1:u0.natAbs*l1.natAbs+l0.natAbs*u1.natAbs<=a.natAbs+2*b.natAbs
 p2:u0.natAbs*l2.natAbs+l0.natAbs*u2.natAbs<=a.natAbs+2*b.natAbs
 ph:(u0=a/\u1=1/\u2=0/\l0=b/\l1=0/\l2=1)\/(0<=u0*l0/\u0≠0)
 b1:u1.natAbs<=a.natAbs+2*b.natAbs+1
 b2:u2.natAbs<=a.natAbs+2*b.natAbs+1
 b3:l1.natAbs<=a.natAbs+2*b.natAbs+1
 b4:l2.natAbs<=a.natAbs+2*b.natAbs+1
 c1:u0.natAbs<=a.natAbs+b.natAbs
 c2:l0.natAbs<=b.natAbs
theorem BI.start(a b:Int):BI a b a 1 0 b 0 1 where
 up:=by simp
 lo:=by simp
 gcd:=rfl
 p1:=by simp;rfl'
 p2:=by simp
 ph:=.inl ⟨rfl,rfl,rfl,rfl,rfl,rfl⟩
 b1:=by simp
 b2:=by simp
 b3:=by simp
 b4:=by simp
 c1:=by rfl'
 c2:=by rfl'
theorem pot(L A R Qa u1 l1 f1 E:Nat)(hA:Qa*L+R<=A+E)(hf:f1<=u1+Qa*l1):L*f1+R*l1<=A*l1+L*u1+E*l1:=by
 have h1:L*f1<=L*(u1+Qa*l1):=wY L hf;have h2:L*(u1+Qa*l1)=L*u1+Qa*L*l1:=by
  rw[w0g,<-vR,uG L Qa]
 have h3:(Qa*L+R)*l1<=(A+E)*l1:=wE l1 hA;rw[w1d,w1d]at h3;rfl'
theorem RN(u l:Int)(h:0<l):(u-u.fdiv l*l).natAbs<l.natAbs/\0<=l*(u-u.fdiv l*l)/\(0<=u*l->(u.fdiv l).natAbs*l.natAbs+(u-u.fdiv l*l).natAbs=u.natAbs) /\
  (u.fdiv l).natAbs*l.natAbs<=u.natAbs+(u-u.fdiv l*l).natAbs:=by
 have hs:u.fdiv l*l=u-u.fmod l:=Int.fdiv_mul_self u l;have hq:(u.fdiv l).natAbs*l.natAbs=(u.fdiv l*l).natAbs:=(wW _ _).symm;have e:u-u.fdiv l*l=u.fmod l:=by rfl'
 rw[e,hq,hs];have h1:0<=u.fmod l:=vh u h;have h2:u.fmod l<l:=vC u h;refine⟨by rfl',w0x (by rfl') h1,λhu=>?_,by rfl'⟩;have hu0:0<=u:=by
  by_cases hu':0<=u
  .exact hu'
  .have:=Int.mul_neg_of_neg_of_pos (show u<0 by rfl') h;rfl'
 have:u.fmod l<=u:=by
  have q1:0<=u.fdiv l:=Int.fdiv_nonneg hu0 (by rfl');have q2:0<=u.fdiv l*l:=w0x q1 (by rfl');rfl'
 rfl'
theorem YC(u l:Int)(hl:l≠0):(u-u.fdiv l*l).natAbs<l.natAbs/\0<=l*(u-u.fdiv l*l)/\(0<=u*l->(u.fdiv l).natAbs*l.natAbs+(u-u.fdiv l*l).natAbs=u.natAbs) /\
   (u.fdiv l).natAbs*l.natAbs<=u.natAbs+(u-u.fdiv l*l).natAbs:=by
 rcases Int.lt_or_gt_of_ne hl with h|h
 .have q:=RN (-u) (-l) (by rfl');rw[Int.neg_fdiv_neg]at q;have e : -u-u.fdiv l * -l = -(u-u.fdiv l*l):=by rw[w1e];rfl'
  rw[e,uV,uV,uV,w1k,w1k]at q;exact q
 .exact RN u l h
theorem KH{a b c:Nat}(h:a*b<=c)(ha:a≠0):b<=c:=wF (Nat.le_mul_of_pos_left b (Nat.pos_of_ne_zero ha)) h
theorem YD(u q l:Int):(u-q*l).natAbs<=u.natAbs+q.natAbs*l.natAbs:=by
 have:=wW q l;rfl'
theorem BI.turn{a b u0 u1 u2 l0 l1 l2:Int}(h:BI a b u0 u1 u2 l0 l1 l2)(hl:l0≠0):
   BI a b l0 l1 l2 (u0-u0.fdiv l0*l0) (u1-u0.fdiv l0*l1) (u2-u0.fdiv l0*l2):=by
 obtain⟨r1,r2,r3,r4⟩:=YC u0 l0 hl;have hL:l0.natAbs≠0:=λe=>hl (w0J.mp e);have hup:=h.up;have hlo:=h.lo;generalize eq:u0.fdiv l0=q at *;have lin:∀(x y:Int),a*(x-q*l1)+b*(y-q*l2)=(a*x+b*y)-q*(a*l1+b*l2):=λx y=>by
   rw[w0w,w0w,w0y,uW a q l1,uW b q l2];rfl'
 have f1:(u1-q*l1).natAbs<=u1.natAbs+q.natAbs*l1.natAbs:=YD u1 q l1;have f2:(u2-q*l2).natAbs<=u2.natAbs+q.natAbs*l2.natAbs:=YD u2 q l2;have key:∀(x y f:Nat),f<=x+q.natAbs*y->u0.natAbs*y+l0.natAbs*x<=a.natAbs+2*b.natAbs->((0<=u0*l0)\/(y=0)\/(y=1/\x=0/\u0=a/\l0=b)) ->
     l0.natAbs*f+(u0-q*l0).natAbs*y<=a.natAbs+2*b.natAbs:=λx y f hf hp hc=>by
   rcases hc with hc|hc|⟨hc,hx,ha,hb⟩
   .have:=pot l0.natAbs u0.natAbs (u0-q*l0).natAbs q.natAbs x y f 0 (by have:=r3 hc;rfl') hf;rfl'
   .subst hc;have:l0.natAbs*f<=l0.natAbs*x:=wY _ (by rfl');rfl'
   .subst hc;subst hx;have:=pot l0.natAbs u0.natAbs (u0-q*l0).natAbs q.natAbs 0 1 f (2*(u0-q*l0).natAbs) (by rfl') hf;have hab:u0.natAbs=a.natAbs:=by rw[ha]
    have hbb:l0.natAbs=b.natAbs:=by rw[hb]
    generalize (u0-q*l0).natAbs=R at *;generalize l0.natAbs*f=Z at *;rfl'
 have ph1:0<=u0*l0\/l1.natAbs=0\/(l1.natAbs=1/\u1.natAbs=0/\u0=a/\l0=b):=by
   rcases h.ph with⟨_,_,_,_,e,_⟩|⟨e,_⟩
   .exact .inr (.inl (by rw[e];rfl))
   .exact .inl e
 have ph2:0<=u0*l0\/l2.natAbs=0\/(l2.natAbs=1/\u2.natAbs=0/\u0=a/\l0=b):=by
   rcases h.ph with⟨e1,_,e2,e3,_,e4⟩|⟨e,_⟩
   .exact .inr (.inr ⟨by rw[e4];rfl,by rw[e2];rfl,e1,e3⟩)
   .exact .inl e
 have k1:=key _ _ _ f1 h.p1 ph1;have k2:=key _ _ _ f2 h.p2 ph2;have c2:=h.c2;refine⟨hlo,?_,?_,k1' k1,k1' k2,.inr ⟨r2,hl⟩,h.b3,h.b4,?_,?_,by rfl',by rfl'⟩
 .rw[lin,hup,hlo]
 .rw[Int.gcd_sub_mul_right_right,Int.gcd_comm,h.gcd]
 .exact w0e (KH (wF (w17 _ _) k1) hL)
 .exact w0e (KH (wF (w17 _ _) k2) hL)
where k1' {x y:Nat} (h:x<=y):x<=y:=h
theorem BI.fin{a b u0 u1 u2 l1 l2:Int}(h:BI a b u0 u1 u2 0 l1 l2):(u0.natAbs:Int)=uA a b:=by
 have:=h.gcd;rw[Int.gcd_zero_right]at this;rw[this]
end Br
end
section
namespace St
abbrev Row:=aG
def at0(r:Row)(k:Nat):Int:=r.getD k 0
def b7:Row->Nat
 |[]=>0
 |x::r=>if x=0 then b7 r+1 else 0
theorem HP:∀r:Row,b7 r<=r.length
 |[]=>wv _
 |x::r=>by
  unfold b7;split
  .exact w18 (HP r)
  .exact wQ _
theorem v9:∀(r:Row)(k:Nat),k<b7 r->at0 r k=0
 |[],k,h=>by simp[b7]at h
 |x::r,k,h=>by
  unfold b7 at h;split at h
  .rename_i hx;cases k with
   |zero=>simp[at0,hx]
   |succ k=>exact v9 r k (by rfl')
  .rfl'
theorem Gz:∀(r:Row),b7 r<r.length->at0 r (b7 r)≠0
 |[],h=>by simp[b7]at h
 |x::r,h=>by
  unfold b7 at h|-;split at h
  .rename_i hx;rw[ar hx];exact Gz r (by simpa using h)
  .rename_i hx;rw[aw hx];exact hx
theorem T9:∀(r:Row)(h:Nat),(∀k,k<h->at0 r k=0)->at0 r h≠0->b7 r=h
 |[],h,_,q=>by simp[at0]at q
 |x::r,0,_,q=>by
  unfold b7;rw[aw (by simpa[at0]using q)]
 |x::r,h+1,z,q=>by
  have hx:x=0:=by simpa[at0]using z 0 (by rfl')
  unfold b7;rw[ar hx,T9 r h (λk hk=>by simpa[at0]using z (k+1) (by rfl')) (by simpa[at0]using q)]
theorem z0n(r:Row)(h:Nat)(z:∀k,k<h->at0 r k=0)(hl:h<=r.length):h<=b7 r:=by
 apply ud;intro hlt;exact Gz r (by rfl') (z _ hlt)
theorem C9{r:Row}{k:Nat}(h:r.length<=k):at0 r k=0:=by simp[at0,au,wK h]
theorem ext0{a b:Row}(h:a.length=b.length)(q:∀k,at0 a k=at0 b k):a=b:=by
 apply ue h;intro i h1 h2;have:=q i;simpa[at0,au,wa h1,wa h2]using this
def sub(a:Row)(q:Int)(b:Row):Row:=ce (λx y=>x-q*y) a b
theorem P2{a b:Row}{q:Int}(h:a.length=b.length):(sub a q b).length=a.length:=by unfold sub;rw[vW];rfl'
theorem N2{a b:Row}{q:Int}(h:a.length=b.length)(k:Nat):at0 (sub a q b) k=at0 a k-q*at0 b k:=by
 by_cases hk:k<a.length
 .unfold at0 sub;simp[au,uX,wa hk,wa (show k<b.length by rfl')]
 .rw[C9 (by rw[P2 h];rfl'),C9 (by rfl'),C9 (show b.length<=k by rfl')];simp
def lin(x:Int)(a:Row)(y:Int)(b:Row):Row:=ce (λp q=>x*p+y*q) a b
theorem JL{a b:Row}{x y:Int}(h:a.length=b.length):(lin x a y b).length=a.length:=by unfold lin;rw[vW];rfl'
theorem JM{a b:Row}{x y:Int}(h:a.length=b.length)(k:Nat):at0 (lin x a y b) k=x*at0 a k+y*at0 b k:=by
 by_cases hk:k<a.length
 .unfold at0 lin;simp[au,uX,wa hk,wa (show k<b.length by rfl')]
 .rw[C9 (by rw[JL h];rfl'),C9 (by rfl'),C9 (show b.length<=k by rfl')];simp
def hd(r:Row):Int:=at0 r (b7 r)
def C0(left rung:Row):Int:=(at0 left (b7 rung)).fdiv (hd rung)
def j7:Row->aA->Row
 |left,[]=>left
 |left,r::rs=>j7 (sub left (C0 left r) r) rs
def KI:Row->aA->aG
 |_,[]=>[]
 |left,r::rs=>C0 left r::KI (sub left (C0 left r) r) rs
def Asc(n:Nat):Nat->aA->Prop
 |_,[]=>True
 |f,r::rs=>r.length=n/\f<=b7 r/\b7 r<n/\0<hd r/\Asc n (b7 r+1) rs
theorem Asc.weak{n:Nat}:∀{f g:Nat}{S:aA},Asc n f S->g<=f->Asc n g S
 |_,_,[],_,_=>trivial
 |_,_,r::rs,⟨h1,h2,h3,h4,h5⟩,h=>⟨h1,wF h h2,h3,h4,h5⟩
theorem Asc.mem{n:Nat}:∀{f:Nat}{S:aA}{r:Row},Asc n f S->r∈S->r.length=n/\f<=b7 r/\b7 r<n/\0<hd r
 |_,_::_,_,⟨h1,h2,h3,h4,h5⟩,.head _=>⟨h1,h2,h3,h4⟩
 |_,_::_,_,⟨h1,h2,h3,h4,h5⟩,.tail _ q=>by obtain⟨a,b,c,d⟩:=h5.mem q;exact⟨a,by rfl',c,d⟩
theorem L0{n:Nat}:∀{f:Nat}{S:aA}{left:Row},Asc n f S->left.length=n->(j7 left S).length=n
 |_,[],left,_,h=>h
 |_,r::rs,left,⟨h1,h2,h3,h4,h5⟩,h=>by rw[j7];exact L0 h5 (by rw[P2 (by rfl')];exact h)
theorem Cd{n:Nat}:∀{f:Nat}{S:aA}{left:Row},Asc n f S->left.length=n->∀k,k<f->at0 (j7 left S) k=at0 left k
 |_,[],left,_,h,k,_=>rfl
 |f,r::rs,left,⟨h1,h2,h3,h4,h5⟩,h,k,hk=>by
  rw[j7,Cd h5 (by rw[P2 (by rfl')];exact h) k (by rfl'),N2 (by rfl'),v9 r k (by rfl')];simp
theorem HQ(a:Int){b:Int}(h:0<b):0<=a-a.fdiv b*b/\a-a.fdiv b*b<b:=by
 have h1:=vh a h;have h2:=vC a h;have h3:=Int.mul_fdiv_add_fmod a b;rw[wN]at h3;rfl'
theorem M6{n:Nat}:∀{f:Nat}{S:aA}{left:Row},Asc n f S->left.length=n->∀r∈S,0<=at0 (j7 left S) (b7 r)/\at0 (j7 left S) (b7 r)<hd r
 | f,r::rs,left,⟨h1,h2,h3,h4,h5⟩,h,x,hx=>by
  have hl:(sub left (C0 left r) r).length=n:=by rw[P2 (by rfl')];exact h
  rw[j7];cases hx with
  |head=>
   rw[Cd h5 hl _ (vE _),N2 (by rfl')];exact HQ _ h4
  |tail _ hx=>exact M6 h5 hl x hx
def Lt(m:Nat)(r:Row):Prop:=∀k,(at0 r k).natAbs<m
theorem Lt.mono{m m':Nat}{r:Row}(h:Lt m r)(q:m<=m'):Lt m' r:=λk=>ww (h k) q
theorem Bo(a:Int){b:Int}(h:0<b):(a.fdiv b).natAbs<=a.natAbs:=by
 have h1:=HQ a h;generalize a.fdiv b=q at *;rcases w0f q 0 with hq|hq|hq
 .have e:(q+1)*b=q*b+b:=by rw[w1c];rfl'
  have:(q+1)*b<=(q+1)*1:=Int.mul_le_mul_of_nonpos_left (by rfl') (by rfl');rfl'
 .subst hq;simp
 .have:q*1<=q*b:=Int.mul_le_mul_of_nonneg_left (by rfl') (by rfl');rfl'
theorem sub_lt{a b:Row}{q:Int}{s t u:Nat}(hl:a.length=b.length)(ha:Lt s a)(hb:Lt t b)(hq:q.natAbs<=u)(hs:0<s)(ht:0<t):Lt (s+u*t) (sub a q b):=λk=>by
 rw[N2 hl];have h1:=ha k;have h2:=hb k;have h3:(q*at0 b k).natAbs<=u*(t-1):=by rw[wW];exact vT hq (by rfl')
 have h4:u*(t-1)<=u*t:=wY _ (by rfl');rfl'
theorem z22{left r:Row}{s t:Nat}(hl:left.length=r.length)(hr:0<hd r)(ha:Lt s left)(hb:Lt t r):Lt (s*(t+1)) (sub left (C0 left r) r):=by
 have hs:0<s:=w09 (wQ _) (ha 0);have ht:0<t:=w09 (wQ _) (hb 0);have:=sub_lt (q:=C0 left r) (u:=s) hl ha hb (wF (Bo (at0 left (b7 r)) hr) (vX (ha (b7 r)))) hs ht;rw[w0g,Nat.mul_one,Nat.add_comm];exact this
end St
end
section
local macro_rules|`(tactic|rfl')=>`(tactic|first|lia|omega +splitDisjunctions)
namespace St
open Lat
abbrev vec(r:Row):Vec:=λk=>at0 r k
abbrev vecs(S:aA):List Vec:=S.map vec
theorem KJ{S:aA}{r:Row}(h:r∈S):vec r∈vecs S:=wg.mpr ⟨r,h,rfl⟩
theorem G6{n:Nat}:∀{f:Nat}{S:aA}{left:Row},Asc n f S->left.length=n->Span (vecs S) (λk=>at0 left k-at0 (j7 left S) k)
 |_,[],left,_,h=>λk=>by show at0 left k-at0 left k=0;rfl'
 |f,r::rs,left,⟨h1,h2,h3,h4,h5⟩,h=>by
  have hl:(sub left (C0 left r) r).length=n:=by rw[P2 (by rfl')];exact h
  have ih:=G6 h5 hl;refine⟨C0 left r,Span.congr (λk=>?_) ih⟩;rw[j7];show at0 (sub left (C0 left r) r) k-at0 (j7 (sub left (C0 left r) r) rs) k=at0 left k-at0 (j7 (sub left (C0 left r) r) rs) k-C0 left r*at0 r k;rw[N2 (by rfl')];rfl'
def mix:aA->aG->Vec
 |r::rs,c::cs=>λk=>c*at0 r k+mix rs cs k
 |_,_=>λ_=>0
theorem Asc.low{n:Nat}:∀{f:Nat}{S:aA}{v:Vec},Asc n f S->Span (vecs S) v->∀k,k<f->v k=0
 |_,[],v,_,s,k,_=>s k
 |f,r::S,v,⟨h1,h2,h3,h4,h5⟩,⟨c,s⟩,k,hk=>by
  have e:=Asc.low h5 s k (by rfl');have e2:at0 r k=0:=v9 r k (by rfl');have e:v k-c*at0 r k=0:=e;rw[e2]at e;simpa using e
theorem Asc.coef{n f:Nat}{r:Row}{v:Vec}{S:aA}{c:Int}(A:Asc n f (r::S))(s:Span (vecs S) (λk=>v k-c*at0 r k)):v (b7 r)=c*hd r:=by
 have:v (b7 r)-c*at0 r (b7 r)=0:=A.2.2.2.2.low s _ (vE _);unfold hd;rfl'
theorem Asc.first{n:Nat}:∀{f:Nat}{S:aA}{v:Vec}{h:Nat},Asc n f S->Span (vecs S) v->(∀k,k<h->v k=0)->v h≠0->∃r∈S,b7 r=h
 |_,[],v,h,_,s,_,q=>aN (s h) q
 |f,r::S,v,h,A,⟨c,s⟩,z,q=>by
  have e:=A.coef s;by_cases hc:c=0
  .subst hc;have s':Span (vecs S) v:=Span.congr (λk=>by simp) s;obtain⟨x,hx,e⟩:=A.2.2.2.2.first s' z q;exact⟨x,wc _ hx,e⟩
  .have hn:v (b7 r)≠0:=by
     rw[e];intro z;rcases vH.mp z with z|z
     .exact hc z
     .have:=A.2.2.2.1;rfl'
   have h1:¬b7 r<h:=λz'=>hn (z _ z');by_cases h2:h<b7 r
   .exfalso;have e2:v h-c*at0 r h=0:=A.2.2.2.2.low s h (by rfl');rw[v9 r h h2]at e2;exact q (by simpa using e2)
   .exact⟨r,we,by rfl'⟩
def even:aA->aA
 |[]=>[]
 |r::rs=>j7 r (even rs)::even rs
theorem Y9{n:Nat}:∀{f:Nat}{S:aA},Asc n f S->Asc n f (even S)/\(even S).map b7=S.map b7/\(even S).map hd=S.map hd
 |_,[],_=>⟨trivial,rfl,rfl⟩
 |f,r::rs,⟨h1,h2,h3,h4,h5⟩=>by
  obtain⟨i1,i2,i3⟩:=Y9 h5;have low:=Cd i1 h1;have e1:at0 (j7 r (even rs)) (b7 r)=hd r:=low _ (vE _);have e2:b7 (j7 r (even rs))=b7 r:=T9 _ _ (λk hk=>by rw[low k (by rfl')];exact v9 r k hk) (by rw[e1];rfl');have e3:hd (j7 r (even rs))=hd r:=by unfold hd;rw[e2];exact e1
  refine⟨⟨L0 i1 h1,by rw[e2];exact h2,by rw[e2];exact h3,by rw[e3];exact h4,by rw[e2];exact i1⟩,?_,?_⟩
  .rw[even,wq,wq,e2,i2]
  .rw[even,wq,wq,e3,i3]
def F3(S:aA):List (Nat×Vec):=S.map λr=>(b7 r,vec r)
theorem Nv{n:Nat}:∀{f:Nat}{S:aA},Asc n f S->Form f (F3 (even S))
 |_,[],_=>trivial
 |f,r::rs,A=>by
  obtain⟨j1,_,_⟩:=Y9 A;obtain⟨h1,h2,h3,h4,h5⟩:=A;obtain⟨i1,i2,i3⟩:=Y9 h5;obtain⟨k1,k2,k3,k4,k5⟩:=j1;have low:=Cd i1 h1;have e1:at0 (j7 r (even rs)) (b7 r)=hd r:=low _ (vE _);have e2:b7 (j7 r (even rs))=b7 r:=T9 _ _ (λk hk=>by rw[low k (by rfl')];exact v9 r k hk) (by rw[e1];rfl');refine⟨k2,λk hk=>v9 _ k hk,k4,λp hp=>?_,by rw[e2];exact Nv h5⟩;obtain⟨x,hx,rfl⟩:=wg.mp hp;exact M6 i1 h1 x hx
theorem Nw{n:Nat}:∀{f:Nat}{S:aA},Asc n f S->SameSpan (vecs (even S)) (vecs S)
 |_,[],_=>SameSpan.refl
 |f,r::rs,A=>by
  obtain⟨h1,h2,h3,h4,h5⟩:=A;obtain⟨i1,i2,i3⟩:=Y9 h5;have ih:=Nw h5;have sp:=G6 i1 h1;constructor
  .intro v hv;obtain⟨x,hx,rfl⟩:=wg.mp hv;rcases wn.mp hx with rfl|hx
   .refine⟨1,Span.congr (λk=>?_) ((ih.iff.mp sp).neg)⟩;show -(at0 r k-at0 (j7 r (even rs)) k)=at0 (j7 r (even rs)) k-1*at0 r k;rfl'
   .exact(ih.1 _ (KJ hx)).cons
  .intro v hv;obtain⟨x,hx,rfl⟩:=wg.mp hv;rcases wn.mp hx with rfl|hx
   .refine⟨1,Span.congr (λk=>?_) sp⟩;show at0 x k-at0 (j7 x (even rs)) k=at0 x k-1*at0 (j7 x (even rs)) k;rfl'
   .exact(ih.2 _ (KJ hx)).cons
end St
end
section
local macro_rules|`(tactic|rfl')=>`(tactic|first|lia|omega +splitDisjunctions)
namespace St
open Lat
theorem Asc.iff{n:Nat}:∀{f:Nat}{S:aA},Asc n f S↔(∀r∈S,r.length=n/\f<=b7 r/\b7 r<n/\0<hd r)/\(S.map b7).Pairwise (·<·)
 |f,[]=>by simp[Asc]
 |f,r::rs=>by
  constructor
  .intro A;refine⟨λx hx=>A.mem hx,?_⟩;rw[wq,vi];refine⟨λh hh=>?_,(Asc.iff.mp A.2.2.2.2).2⟩;obtain⟨x,hx,rfl⟩:=wg.mp hh;exact(A.2.2.2.2.mem hx).2.1
  .rintro⟨h1,h2⟩;rw[wq,vi]at h2;have q:=h1 r we;refine⟨q.1,q.2.1,q.2.2.1,q.2.2.2,Asc.iff.mpr ⟨λx hx=>?_,h2.2⟩⟩;have q2:=h1 x (wc _ hx);exact⟨q2.1,h2.1 _ (wg.mpr ⟨x,hx,rfl⟩),q2.2.2.1,q2.2.2.2⟩
theorem sub_zero{a b:Row}(h:a.length=b.length):sub a 0 b=a:=ext0 (P2 h) λk=>by rw[N2 h];simp
theorem Da{n:Nat}{t:Nat}:∀{S:aA}{left:Row},(∀r∈S,r.length=n)->left.length=n->(∀k,k<t->at0 left k=0)->(∀k,k<t->at0 (j7 left S) k=0)/\(j7 left S).length=n
 |[],left,_,hl,z=>⟨z,hl⟩
 |r::rs,left,hw,hl,z=>by
  have h1:=hw r we;rw[j7];refine Da (λx hx=>hw x (wc _ hx)) (by rw[P2 (by rfl')];exact hl) λk hk=>?_;rw[N2 (by rfl'),z k hk];by_cases hh:b7 r<t
  .have:C0 left r=0:=by unfold C0;rw[z _ hh];simp
   rw[this];simp
  .rw[v9 r k (by rfl')];simp
def LowB(m:Nat):Row->aA->Prop
 |_,[]=>True
 |left,r::rs=>(C0 left r=0\/((C0 left r).natAbs<2^m/\Lt (2^m) r))/\LowB m (sub left (C0 left r) r) rs
theorem Q9{n t s e m:Nat}:∀{S:aA}{left:Row},(∀r∈S,r.length=n/\0<hd r)->left.length=n->(∀k,k<t->at0 left k=0)->(∀r∈S,t<=b7 r->Lt (2^e) r)->Lt (2^s) left->s+S.length*(e+1)<=m->e<=m ->
  Lt (2^(s+S.length*(e+1))) (j7 left S)/\LowB m left S
 |[],left,_,hl,z,_,hs,_,_=>⟨by simpa[j7]using hs,trivial⟩
 |r::rs,left,hw,hl,z,hb,hs,hm,hem=>by
  have h1:=hw r we;have lenE:(r::rs).length*(e+1)=rs.length*(e+1)+(e+1):=by rw[wo,uU]
  have e2:∀q,(sub left q r).length=n:=λq=>by rw[P2 (by rfl')];exact hl
  by_cases hh:b7 r<t
  .have o:C0 left r=0:=by unfold C0;rw[z _ hh];simp
   have es:sub left (C0 left r) r=left:=by rw[o];exact sub_zero (by rfl')
   obtain⟨i1,i2⟩:=Q9 (t:=t) (s:=s) (e:=e) (m:=m) (S:=rs) (left:=left) (λx hx=>hw x (wc _ hx)) hl z (λx hx=>hb x (wc _ hx)) hs (by rfl') hem;rw[j7,LowB,es];exact⟨i1.mono (wm (by decide) (by rfl')),.inl o,i2⟩
  .have hr:Lt (2^e) r:=hb r we (by rfl');have st:=z22 (s:=2^s) (t:=2^e) (by rfl') h1.2 hs hr;have st':Lt (2^(s+(e+1))) (sub left (C0 left r) r):=by
    refine st.mono ?_;rw[vB];refine wY _ ?_;have:0<2^e:=wU e;rw[vZ];rfl'
   obtain⟨i1,i2⟩:=Q9 (t:=t) (s:=s+(e+1)) (e:=e) (m:=m) (S:=rs) (left:=sub left (C0 left r) r) (λx hx=>hw x (wc _ hx)) (e2 _)
    (λk hk=>by rw[N2 (by rfl'),z k hk,v9 r k (by rfl')];simp) (λx hx=>hb x (wc _ hx)) st' (by rfl') hem
   rw[j7,LowB];refine⟨i1.mono (wm (by decide) (by rfl')),.inr ⟨?_,hr.mono (wm (by decide) hem)⟩,i2⟩;refine w09 (Bo (at0 left (b7 r)) h1.2) (ww (hs _) (wm (by decide) (by rfl')))
def B4(r left:Row)(x y:Int):Row:=lin x r y left
def J3(r left:Row)(g:Int):Row:=lin ((at0 r (b7 r)).fdiv g) left (-((at0 left (b7 r)).fdiv g)) r
structure Wi(n e eh m0 kk:Nat)(S0:aA)(v:Row)(S:aA)(left:Row):Prop where
 asc:Asc n 0 S
 len:left.length=n
 heads:S.map b7=S0.map b7
 span:SameSpan (vecs (left::S)) (vecs (v::S0))
 low:∀r∈S,0<=at0 left (b7 r)/\at0 left (b7 r)<hd r
 right:∀r∈S,b7 left<=b7 r->Lt (2^e) r
 hds:∀r∈S,hd r<2^eh
 size:Lt (2^(m0+b7 left*kk)) left
 all:∀r∈S,Lt (2^(e+3+(m0+b7 left*kk))) r
theorem z23{a b:Row}{x y:Int}{p q s:Nat}(h:a.length=b.length)(hx:x.natAbs<2^p)(hy:y.natAbs<2^p)(ha:Lt (2^q) a)(hb:Lt (2^q) b)(hs:p+q+1<=s):Lt (2^s) (lin x a y b):=λk=>by
 rw[JM h];have h1:(x*at0 a k).natAbs<2^(p+q):=by
  rw[wW,vB];exact uq hx (ha k)
 have h2:(y*at0 b k).natAbs<2^(p+q):=by
  rw[wW,vB];exact uq hy (hb k)
 have h3:2^(p+q+1)<=2^s:=wm (by decide) hs;rw[vZ]at h3;omega +splitDisjunctions
theorem u4{S:aA}{r:Row}(h:r∈S):Span (vecs S) (λk=>at0 r k):=Span.mem (KJ h)
theorem GA{T:List Vec}{u v:Vec}(x y:Int)(hu:Span T u)(hv:Span T v):Span T (λk=>x*u k+y*v k):=(hu.smul x).add (hv.smul y)
theorem Ef{A B:aA}(h1:∀r∈A,Span (vecs B) (λk=>at0 r k))(h2:∀r∈B,Span (vecs A) (λk=>at0 r k)):SameSpan (vecs A) (vecs B):=by
 constructor
 .intro v hv;obtain⟨r,hr,rfl⟩:=wg.mp hv;exact h1 r hr
 .intro v hv;obtain⟨r,hr,rfl⟩:=wg.mp hv;exact h2 r hr
theorem Wi.step{n e eh m0 kk:Nat}{S0:aA}{v:Row}{S1 S2:aA}{r left:Row}{g x y:Int}(I:Wi n e eh m0 kk S0 v (S1++r::S2) left)(hh:b7 r=b7 left)(hn:b7 left<n)
   (hg:0<g) (ga:g∣hd r) (gb:g∣at0 left (b7 r)) (hxy:hd r*x+at0 left (b7 r)*y=g) (hx:x.natAbs<2^(e+2)) (hy:y.natAbs<2^(e+2)) (he:e<=m0)
   (hk:2*e+3+(S1.length+S2.length+1)*(e+1)<=kk) :
   Wi n e eh m0 kk S0 v (S1++B4 r left x y::S2) (j7 (J3 r left g) (S1++B4 r left x y::S2))/\b7 left<b7 (j7 (J3 r left g) (S1++B4 r left x y::S2)) /\
     LowB (m0+n*kk) (J3 r left g) (S1++B4 r left x y::S2)/\(∀q∈S1++B4 r left x y::S2,hd q<2^eh):=by
 have hrm:r∈S1++r::S2:=wu.mpr (.inr we);have q:=I.asc.mem hrm;have hl:r.length=left.length:=by rw[q.1,I.len]
 have hlow:=I.low r hrm;have hu:∀k,at0 (B4 r left x y) k=x*at0 r k+y*at0 left k:=λk=>JM hl k;have hlo:∀k,at0 (J3 r left g) k=((at0 r (b7 r)).fdiv g)*at0 left k+(-((at0 left (b7 r)).fdiv g))*at0 r k:=λk=>JM hl.symm k;have lu:(B4 r left x y).length=n:=by unfold B4;rw[JL hl];exact q.1
 have llo:(J3 r left g).length=n:=by unfold J3;rw[JL hl.symm];exact I.len
 obtain⟨a',ea⟩:=ga;obtain⟨b',eb⟩:=gb;have da:(hd r).fdiv g=a':=by rw[ea];exact w0k _ (by rfl')
 have db:(at0 left (b7 r)).fdiv g=b':=by rw[eb];exact w0k _ (by rfl')
 have hlo:∀k,at0 (J3 r left g) k=a'*at0 left k+(-b')*at0 r k:=λk=>by
   have:=hlo k;rw[db,show at0 r (b7 r)=hd r from rfl,da]at this;exact this
 have det:a'*x+b'*y=1:=by
   have:g*(a'*x+b'*y)=g*1:=by rw[w0y,<-vQ,<-vQ,<-ea,<-eb];rfl'
   exact w0c (by rfl') this
 have zb:∀k,k<b7 left->at0 r k=0/\at0 left k=0:=λk hk=>⟨v9 r k (by rfl'),v9 left k hk⟩;have us:at0 (B4 r left x y) (b7 r)=g:=by rw[hu,<-hxy];show x*hd r+y*_=_;rw[wN x,wN y]
 have uh:b7 (B4 r left x y)=b7 r:=T9 _ _ (λk hk=>by rw[hu,(zb k (by rfl')).1,(zb k (by rfl')).2];simp) (by rw[us];rfl');have uhd:hd (B4 r left x y)=g:=by unfold hd;rw[uh];exact us
 have gle:g<=hd r:=uc q.2.2.2 ⟨a',ea⟩;have lz:∀k,k<b7 left+1->at0 (J3 r left g) k=0:=λk hk=>by
   rw[hlo];by_cases h:k<b7 left
   .rw[(zb k h).1,(zb k h).2];simp
   .have:k=b7 r:=by rfl'
    subst this;rw[eb,show at0 r (b7 r)=hd r from rfl,ea,uW a' g b',w01,uW b' g a',wN a' b'];rfl'
 have asc':Asc n 0 (S1++B4 r left x y::S2):=by
   have A:=Asc.iff.mp I.asc;refine Asc.iff.mpr ⟨λz hz=>?_,?_⟩
   .rcases wu.mp hz with h|h
    .exact A.1 z (wu.mpr (.inl h))
    .rcases wn.mp h with rfl|h
     .exact⟨lu,wQ _,by rw[uh];exact q.2.2.1,by rw[uhd];exact hg⟩
     .exact A.1 z (wu.mpr (.inr (wc _ h)))
   .have e1:(S1++B4 r left x y::S2).map b7=(S1++r::S2).map b7:=by simp[uh]
    rw[e1];exact A.2
 have hw':∀z∈S1++B4 r left x y::S2,z.length=n:=λz hz=>(asc'.mem hz).1;obtain⟨nz,nl⟩:=Da (t:=b7 left+1) hw' llo lz;have hhead:b7 left+1<=b7 (j7 (J3 r left g) (S1++B4 r left x y::S2)):=z0n _ _ nz (by rw[nl];rfl');have mm:∀z∈S1++B4 r left x y::S2,z=B4 r left x y\/z∈S1++r::S2:=λz hz=>by
   rcases wu.mp hz with h|h
   .exact .inr (wu.mpr (.inl h))
   .rcases wn.mp h with rfl|h
    .exact .inl rfl
    .exact .inr (wu.mpr (.inr (wc _ h)))
 have right':∀z∈S1++B4 r left x y::S2,b7 left+1<=b7 z->Lt (2^e) z:=λz hz hk=>by
   rcases mm z hz with rfl|h
   .rw[uh]at hk;rfl'
   .exact I.right z h (by rfl')
 have rlt:Lt (2^e) r:=I.right r hrm (by rfl');have hds':∀z∈S1++B4 r left x y::S2,hd z<2^eh:=λz hz=>by
   rcases mm z hz with rfl|h
   .rw[uhd];have:=I.hds r hrm;rfl'
   .exact I.hds z h
 have aS:(a').natAbs<2^e:=by
   have h1:(hd r).natAbs<2^e:=rlt (b7 r);rw[ea,wW]at h1;have:1*a'.natAbs<=g.natAbs*a'.natAbs:=wE _ (by rfl');rfl'
 have bS:(-b').natAbs<2^e:=by
   have h1:(hd r).natAbs<2^e:=rlt (b7 r);have h2:(at0 left (b7 r)).natAbs<2^e:=by rfl'
   rw[eb,wW]at h2;have:1*b'.natAbs<=g.natAbs*b'.natAbs:=wE _ (by rfl');rfl'
 have m1:e<=m0+b7 left*kk:=by rfl'
 have sl:Lt (2^(e+(m0+b7 left*kk)+1)) (J3 r left g):=by
   unfold J3;rw[show at0 r (b7 r)=hd r from rfl,da,db];exact z23 hl.symm aS bS I.size (rlt.mono (wm (by decide) m1)) (wv _)
 have hk1:(b7 left+1)*kk=b7 left*kk+kk:=by rw[uU]
 have hkn:(b7 left+1)*kk<=n*kk:=wE _ (by rfl');have hkh:(b7 left+1)*kk<=b7 (j7 (J3 r left g) (S1++B4 r left x y::S2))*kk:=wE _ hhead;have lenS:(S1++B4 r left x y::S2).length=S1.length+S2.length+1:=by simp;rfl'
 obtain⟨z1,z2⟩:=Q9 (n:=n) (t:=b7 left+1) (s:=e+(m0+b7 left*kk)+1) (e:=e) (m:=m0+n*kk) (S:=S1++B4 r left x y::S2) (left:=J3 r left g)
   (λz hz=>⟨hw' z hz,(asc'.mem hz).2.2.2⟩) llo lz right' sl (by rw[lenS];rfl') (by rfl')
 have low':=M6 asc' llo;refine⟨⟨asc',nl,?_,?_,low',λz hz hk=>right' z hz (by rfl'),hds',z1.mono (wm (by decide) (by rw[lenS];rfl')),λz hz=>?_⟩,hhead,z2,hds'⟩
 .rw[<-I.heads];simp[uh]
 .refine SameSpan.trans (Ef (B:=left::(S1++r::S2)) ?_ ?_) I.span
  ·
    have oldr:Span (vecs (left::(S1++r::S2))) (λk=>at0 r k):=u4 (wc _ hrm);have oldl:Span (vecs (left::(S1++r::S2))) (λk=>at0 left k):=u4 we;have nu:Span (vecs (left::(S1++r::S2))) (λk=>at0 (B4 r left x y) k):=Span.congr (λk=>(hu k).symm) (GA x y oldr oldl);have nlo:Span (vecs (left::(S1++r::S2))) (λk=>at0 (J3 r left g) k):=Span.congr (λk=>(hlo k).symm) (GA a' (-b') oldl oldr);have all:∀z∈S1++B4 r left x y::S2,Span (vecs (left::(S1++r::S2))) (λk=>at0 z k):=λz hz=>by
      rcases mm z hz with rfl|h
      .exact nu
      .exact u4 (wc _ h)
    intro z hz;rcases wn.mp hz with rfl|hz
    .have d:=G6 asc' llo;have d':Span (vecs (left::(S1++r::S2))) (λk=>at0 (J3 r left g) k-at0 (j7 (J3 r left g) (S1++B4 r left x y::S2)) k):=
       d.trans λw hw=>by obtain⟨z,hz,rfl⟩:=wg.mp hw;exact all z hz
     exact Span.congr (λk=>by rfl') (nlo.sub d')
    .exact all z hz
  .have um:B4 r left x y∈S1++B4 r left x y::S2:=wu.mpr (.inr we);have nu:Span (vecs (j7 (J3 r left g) (S1++B4 r left x y::S2)::(S1++B4 r left x y::S2))) (λk=>at0 (B4 r left x y) k):=u4 (wc _ um);have nlo:Span (vecs (j7 (J3 r left g) (S1++B4 r left x y::S2)::(S1++B4 r left x y::S2))) (λk=>at0 (J3 r left g) k):=by
     have d:=G6 asc' llo;have t:Span (vecs (j7 (J3 r left g) (S1++B4 r left x y::S2)::(S1++B4 r left x y::S2))) (λk=>at0 (j7 (J3 r left g) (S1++B4 r left x y::S2)) k):=u4 we;exact Span.congr (λk=>by rfl') (t.add d.cons)
   have nr:∀k,at0 r k=a'*at0 (B4 r left x y) k+(-y)*at0 (J3 r left g) k:=λk=>by
     rw[hu,hlo];have:at0 r k=(a'*x+b'*y)*at0 r k:=by rw[det];rfl'
     rw[this]
     grind
   have nle:∀k,at0 left k=b'*at0 (B4 r left x y) k+x*at0 (J3 r left g) k:=λk=>by
     rw[hu,hlo];have:at0 left k=(a'*x+b'*y)*at0 left k:=by rw[det];rfl'
     rw[this]
     grind
   intro z hz;rcases wn.mp hz with rfl|hz
   .exact Span.congr (λk=>(nle k).symm) (GA _ _ nu nlo)
   .rcases wu.mp hz with h|h
    .exact u4 (wc _ (wu.mpr (.inl h)))
    .rcases wn.mp h with rfl|h
     .exact Span.congr (λk=>(nr k).symm) (GA _ _ nu nlo)
     .exact u4 (wc _ (wu.mpr (.inr (wc _ h))))
 .rcases mm z hz with rfl|h
  .exact z23 (q:=m0+b7 left*kk) hl hx hy (rlt.mono (wm (by decide) m1)) I.size (by rfl')
  .exact(I.all z h).mono (wm (by decide) (by rfl'))
end St
end
section
namespace St
open Lat
def Ind(R:aA):Prop:=∀cs:aG,cs.length=R.length->(∀k,mix R cs k=0)->∀c∈cs,c=0
theorem GB{T:List Vec}:∀{R:aA}{cs:aG},(∀r∈R,Span T (λk=>at0 r k))->Span T (mix R cs)
 |[],cs,_=>by unfold mix;exact Span.zero
 |r::R,[],_=>by unfold mix;exact Span.zero
 |r::R,c::cs,h=>by
  unfold mix;exact((h r we).smul c).add (GB λx hx=>h x (wc _ hx))
def dif(a b:aG):aG:=ce (λx y=>x-y) a b
theorem YE{a b:aG}(h:a.length=b.length):(dif a b).length=a.length:=by unfold dif;rw[vW];rfl'
theorem YF:∀{R:aA}{a b:aG},a.length=b.length->∀k,mix R (dif a b) k=mix R a k-mix R b k
 |[],a,b,h,k=>by simp[mix]
 |r::R,[],[],h,k=>by simp[mix,dif]
 |r::R,x::a,y::b,h,k=>by
  have ih:=YF (R:=R) (a:=a) (b:=b) (by simpa using h) k;show(x-y)*at0 r k+mix R (dif a b) k=(x*at0 r k+mix R a k)-(y*at0 r k+mix R b k);rw[ih,w0z];rfl'
theorem RO:∀{a b:aG},a.length=b.length->(∀c∈dif a b,c=0)->a=b
 |[],[],_,_=>rfl
 |x::a,y::b,h,z=>by
  have h1:x-y=0:=z _ (we);rw[RO (a:=a) (b:=b) (by simpa using h) λc hc=>z c (wc _ hc),show x=y by rfl']
theorem Nx{N:Nat}:∀{a b:aG},(∀c∈a,0<=c/\c<=N)->(∀c∈b,0<=c/\c<=N)->∀c∈dif a b,c.natAbs<=N
 |[],_,_,_,c,hc=>by simp[dif]at hc
 |x::a,[],_,_,c,hc=>by simp[dif]at hc
 |x::a,y::b,ha,hb,c,hc=>by
  have hc:c∈(x-y)::dif a b:=hc;rcases wn.mp hc with rfl|hc
  .have:=ha x we;have:=hb y we;rfl'
  .exact Nx (λc h=>ha c (wc _ h)) (λc h=>hb c (wc _ h)) c hc
theorem Pc{N B:Nat}:∀{R:aA}{cs:aG},(∀r∈R,Lt B r)->(∀c∈cs,c.natAbs<=N)->∀k,(mix R cs k).natAbs<=R.length*(N*B)
 |[],cs,_,_,k=>by simp[mix]
 |r::R,[],_,_,k=>by simp[mix]
 | r::R,c::cs,hr,hc,k=>by
  have ih:=Pc (R:=R) (cs:=cs) (λx hx=>hr x (wc _ hx)) (λx hx=>hc x (wc _ hx)) k;show(c*at0 r k+mix R cs k).natAbs<=_;have h1:(c*at0 r k).natAbs<=N*B:=by
   rw[wW];exact vT (hc c we) (vX (hr r we k))
  rw[wo,uU];rfl'
theorem HR{N:Nat}:∀{r:Nat}{t:aG},L6 (bg r (N+1)) t↔t.length=r/\∀c∈t,0<=c/\c<=N
 |0,[]=>by simp[L6]
 |0,x::t=>by simp[L6]
 |r+1,[]=>by simp[L6,bg]
 |r+1,x::t=>by
  rw[w0G,L6,HR,wo];constructor
  .rintro⟨h1,h2,h3,h4⟩;refine⟨by rfl',λc hc=>?_⟩;rcases wn.mp hc with rfl|hc
   .rfl'
   .exact h4 c hc
  .rintro⟨h1,h2⟩;have:=h2 x we;exact⟨by rfl',by rfl',by rfl',λc hc=>h2 c (wc _ hc)⟩
theorem KK(N:Nat):∀r,prod (bg r N)=N^r
 |0=>rfl
 |r+1=>by rw[w0G,prod,KK,vZ,uG]
theorem siegel{R:aA}{B:Nat}(hR:Ind R)(hb:∀r∈R,Lt B r)(hp:0<B)(hs:fQ)(hl:hs.length+1=R.length):
   ∃cs:aG,cs.length=R.length/\(∀h∈hs,mix R cs h=0)/\(∃k,mix R cs k≠0)/\∀k,(mix R cs k).natAbs<=(2*R.length*B)^R.length:=by
 let r:=R.length;let N:=(2*R.length*B) ^ hs.length;let W:=R.length*(N*B);let f:aG->aG:=λcs=>hs.map λh=>mix R cs h+(W:Int);have main:∃ a b:aG,L6 (List.replicate r (N+1)) a/\L6 (List.replicate r (N+1)) b/\f a=f b/\a≠b:=by
   apply wZ;intro no;have inj:∀s t,L6 (bg r (N+1)) s->L6 (bg r (N+1)) t->f s=f t->s=t:=λs t h1 h2 h3=>wZ λhne=>no ⟨s,t,h1,h2,h3,hne⟩;have h1:=YB (ns:=bg r (N+1)) (ms:=bg hs.length (2*W+1)) f inj λs hsr=>by
    rw[HR]at hsr|-;refine⟨by simp[f],λc hc=>?_⟩;obtain⟨h,_,rfl⟩:=wg.mp hc;have:=Pc (N:=N) hb (cs:=s) (λc hc=>by have:=hsr.2 c hc;rfl') h;have:(mix R s h).natAbs<=W:=this;rfl'
   rw[KK,KK]at h1;have hr1:1<=R.length:=by rfl'
   have h2:2*W+1<=(2*R.length*B)*(N+1):=by
    have e:(2*R.length*B)*(N+1)=2*W+2*R.length*B:=by
     show _=2*(R.length*(N*B))+_;rw[w0g,Nat.mul_one];congr 1;rw[uG N B,vR,vR]
    have:1<=2*R.length*B:=w0A (by rfl') hp;rfl'
   have h3:(2*W+1)^hs.length<=((2*R.length*B)*(N+1))^hs.length:=uI h2 _;rw[Nat.mul_pow]at h3;have h4:(N+1)^r=(N+1)*(N+1)^hs.length:=by rw[show r=hs.length+1 from hl.symm,vZ,uG]
   rw[h4]at h1;have h5:(N+1)*(N+1)^hs.length<=N*(N+1)^hs.length:=wF h1 h3;have h6:0<(N+1)^hs.length:=w1f (by rfl');rw[uU]at h5;rfl'
 obtain⟨a,b,ha,hb',hf,hne⟩:=main;rw[HR]at ha hb';have hab:a.length=b.length:=by rw[ha.1,hb'.1]
 refine⟨dif a b,by rw[YE hab];exact ha.1,λh hh=>?_,?_,λk=>?_⟩
 .rw[YF hab];have:mix R a h+(W:Int)=mix R b h+(W:Int):=List.map_inj_left.mp hf h hh;rfl'
 .apply wZ;intro no;have z:∀k,mix R (dif a b) k=0:=λk=>wZ λh=>no ⟨k,h⟩;exact hne (RO hab (hR (dif a b) (by rw[YE hab];exact ha.1) z))
 .have:=Pc (N:=N) hb (cs:=dif a b) (Nx ha.2 hb'.2) k;refine wF this ?_;rw[<-hl,vZ,hl,uG];show(N*B)*R.length<=N*(2*R.length*B);rw[vR,uG B];refine wY _ ?_;rw[vR];rfl'
theorem RP(v:Vec):∀m,v m≠0->∃h,(∀k,k<h->v k=0)/\v h≠0:=by
 intro m
 induction m using uv with
 |_ m ih=>
  intro hm;by_cases q:∃k,k<m/\v k≠0
  .obtain⟨k,h1,h2⟩:=q;exact ih k h1 h2
  .exact⟨m,λk hk=>wZ λh=>q ⟨k,hk,h⟩,hm⟩
theorem RQ{E:Nat}:∀{T:aA}{n f Q:Nat}{u:Vec},Asc n f T->Form f (F3 T)->(∀r∈T,Lt E r)->Span (vecs T) u->(∀r∈T,(u (b7 r)).natAbs<=Q*(hd r).natAbs)->∀k,(u k).natAbs<=Q*((2^T.length-1)*E)
 |[],n,f,Q,u,_,_,_,s,_,k=>by rw[s k];simp
 | r::T,n,f,Q,u,A,F,hE,⟨c,s⟩,hu,k=>by
  have hp:=A.2.2.2.1;have ec:=A.coef s;have hc:c.natAbs<=Q:=by
   have:=hu r we;rw[ec,wW]at this;exact Nat.le_of_mul_le_mul_right this (by rfl')
  have ih:=RQ (T:=T) (Q:=2*Q) A.2.2.2.2 F.2.2.2.2 (λx hx=>hE x (wc _ hx)) s (λx hx=>by
   have h1:=hu x (wc _ hx);have h2:=F.2.2.2.1 (b7 x,vec x) (wg.mpr ⟨x,hx,rfl⟩);have h2:0<=at0 r (b7 x)/\at0 r (b7 x)<hd x:=h2;show(u (b7 x)-c*at0 r (b7 x)).natAbs<=_;have h3:(c*at0 r (b7 x)).natAbs<=Q*(hd x).natAbs:=by rw[wW];exact vT hc (by rfl')
   rw[vR];rfl') k
  have ih:(u k-c*at0 r k).natAbs<=2*Q*((2^T.length-1)*E):=ih;have h4:(c*at0 r k).natAbs<=Q*E:=by rw[wW];exact vT hc (vX (hE r we k))
  have h5:Q*((2^(r::T).length-1)*E)=2*Q*((2^T.length-1)*E)+Q*E:=by
   have p:0<2^T.length:=wU _;rw[wo,vZ,show 2^T.length*2-1=2*(2^T.length-1)+1 by rfl',w1d,Nat.one_mul,w0g,vR 2,Nat.mul_left_comm Q 2,vR 2]
  rfl'
theorem z24{W E n f:Nat}{r:Row}{T:aA}{w:Vec}(A:Asc n f (r::T))(F:Form f (F3 (r::T)))(hE:∀x∈T,Lt E x)(s:Span (vecs (r::T)) w)(h0:w (b7 r)≠0)(hz:∀x∈T,w (b7 x)=0)(hw:∀k,(w k).natAbs<=W):
  ∀k,(at0 r k).natAbs<=W+(2^T.length-1)*E:=by
 obtain⟨c,s⟩:=s;have ec:=A.coef s;have c0:c≠0:=by intro z;rw[z]at ec;simp at ec;exact h0 ec
 intro k;have q:=RQ (E:=E) (Q:=c.natAbs) A.2.2.2.2 F.2.2.2.2 hE s (λx hx=>by
  have h2:=F.2.2.2.1 (b7 x,vec x) (wg.mpr ⟨x,hx,rfl⟩);have h2:0<=at0 r (b7 x)/\at0 r (b7 x)<hd x:=h2;show(w (b7 x)-c*at0 r (b7 x)).natAbs<=_;rw[hz x hx];have h3:(c*at0 r (b7 x)).natAbs<=c.natAbs*(hd x).natAbs:=by rw[wW];exact wY _ (by rfl')
  rfl') k
 have q:(w k-c*at0 r k).natAbs<=c.natAbs*((2^T.length-1)*E):=q;have hwk:=hw k;have e1:(c*at0 r k).natAbs=c.natAbs*(at0 r k).natAbs:=wW _ _;apply ud;intro hlt;generalize (2^T.length-1)*E=X at *;have h6:c.natAbs*(W+X+1)<=c.natAbs*(at0 r k).natAbs:=wY _ hlt;have h7:c.natAbs*(W+X+1)=c.natAbs*X+c.natAbs*(W+1):=by rw[<-w0g];congr 1;rfl'
 have h8:1*(W+1)<=c.natAbs*(W+1):=wE _ (by rfl');rfl'
def bnd(r B:Nat):Nat:=(2*r*B)^r*2^(r*r)
theorem Ny{W n:Nat}:∀{T:aA}{f:Nat},Asc n f T->Form f (F3 T)->(∀r∈T,∃w:Vec,Span (vecs T) w/\w (b7 r)≠0/\(∀k,k<b7 r->w k=0)/\(∀x∈T,x≠r->w (b7 x)=0)/\∀k,(w k).natAbs<=W)->∀r∈T,Lt (W*2^(T.length*T.length)+1) r
 |r::T,f,A,F,h,x,hx=>by
  have nd:∀y∈T,b7 r<b7 y:=λy hy=>(A.2.2.2.2.mem hy).2.1;have ih:=Ny (T:=T) A.2.2.2.2 F.2.2.2.2 (λy hy=>by
    obtain⟨w,w1,w2,w3,w4,w5⟩:=h y (wc _ hy);refine⟨w,?_,w2,w3,λz hz hne=>w4 z (wc _ hz) hne,w5⟩;exact Form.tail F (show Span (AZ (F3 (r::T))) w by
     have:AZ (F3 (r::T))=vecs (r::T):=by simp[F3,AZ]
     rw[this];exact w1) (w3 _ (nd y hy)) |> λs=>by
      have:AZ (F3 T)=vecs T:=by simp[F3,AZ]
      have s:Span (AZ (F3 T)) w:=s;rw[this]at s;exact s)
  have hW:W*2^(T.length*T.length)+1<=W*2^((r::T).length*(r::T).length)+1:=by
    refine w18 (wY _ (wm (by decide) ?_));exact vT (by simp) (by simp)
  rcases wn.mp hx with rfl|hx
  .obtain⟨w,w1,w2,w3,w4,w5⟩:=h x we;intro k;have q:=z24 (E:=W*2^(T.length*T.length)+1) A F ih w1 w2 (λy hy=>w4 y (wc _ hy) λe=>by have:=nd y hy;rw[e]at this;rfl') w5 k;refine Nat.lt_succ_of_le (wF q ?_);have hW1:1<=W:=by have:=w5 (b7 x);rfl'
   have e2:(x::T).length*(x::T).length=T.length*T.length+T.length+T.length+1:=by rw[wo];grind
   rw[e2,vZ,vB];generalize hP:2^(T.length*T.length+T.length)=P;have p1:2^(T.length*T.length)*2^T.length=P:=by rw[<-hP,vB]
   have p2:1<=2^T.length:=wU _;have p3:1<=2^(T.length*T.length):=wU _;generalize 2^T.length=a at *;generalize 2^(T.length*T.length)=b at *;have h1:(a-1)*(W*b+1)<=a*(2*(W*b)):=vT (by rfl') (by have:1<=W*b:=w0A hW1 p3;rfl');have h1':(a-1)*(W*b+1)+(W*b+1)=a*(W*b+1):=by
    have:a=(a-1)+1:=by rfl'
    rw[show a*(W*b+1)=((a-1)+1)*(W*b+1) by rw[<-this],uU]
   have h2:W<=W*b:=w0m _ p3;have h3:a*(W*b+1)<=a*(2*(W*b)):=wY _ (by have:1<=W*b:=w0A hW1 p3;rfl');have h4:a*(2*(W*b))=W*(b*a)*2:=by grind
   have h5:W*(b*a)*2<=W*(P*a*2):=by
    rw[p1,vR];refine wY _ (wE _ (w0m _ p2))
   rfl'
  .exact(ih x hx).mono hW
theorem Uk{n B:Nat}{S R:aA}(A:Asc n 0 S)(F:Form 0 (F3 S))(hR:Ind R)(hl:R.length=S.length)(hs:∀r∈R,Span (vecs S) (λk=>at0 r k))(hb:∀r∈R,Lt B r)(hp:0<B):
  ∀r∈S,Lt (bnd S.length B+1) r:=by
 refine Ny A F λr hr=>?_;have hpw:=(Asc.iff.mp A).2;obtain⟨S1,S2,rfl⟩:=w0K hr;obtain⟨cs,c1,c2,⟨m,c3⟩,c4⟩:=siegel hR hb hp ((S1++S2).map b7) (by rw[hl];simp;rfl');have sp:Span (vecs (S1++r::S2)) (mix R cs):=GB hs;obtain⟨h,z,q⟩:=RP _ m c3;obtain⟨x,hx,ex⟩:=A.first sp z q;have oth:∀y∈S1++r::S2,y≠r->y∈S1++S2:=λy hy hne=>by
  rcases wu.mp hy with h|h
  .exact wu.mpr (.inl h)
  .rcases wn.mp h with rfl|h
   .exact aN rfl hne
   .exact wu.mpr (.inr h)
 have zo:∀y∈S1++r::S2,y≠r->mix R cs (b7 y)=0:=λy hy hne=>c2 _ (wg.mpr ⟨y,oth y hy hne,rfl⟩);have er:x=r:=wZ λhne=>q (by rw[<-ex];exact zo x hx hne);subst er;rw[hl]at c4;exact⟨mix R cs,sp,by rw[ex];exact q,λk hk=>z k (by rfl'),zo,c4⟩
end St
end
section
local macro_rules|`(tactic|rfl')=>`(tactic|first|lia|omega +splitDisjunctions)
namespace St
open Lat
structure Post(n u:Nat)(S0:aA)(v:Row)(S:aA):Prop where
 asc:Asc n 0 S
 span:SameSpan (vecs S) (vecs (v::S0))
 size:∀r∈S,Lt (2^u) r
 more:S.map b7=S0.map b7\/(S.length=S0.length+1/\∃r∈S,∀x∈S0,b7 x≠b7 r)
theorem Wi.start{n e eh s m0 kk:Nat}{S0:aA}{v:Row}(A:Asc n 0 S0)(hv:v.length=n)(h0:∀r∈S0,Lt (2^e) r)(hh:∀r∈S0,hd r<2^eh)(hs:Lt (2^s) v)(hm:s+S0.length*(e+1)<=m0)(he:e<=m0):
   Wi n e eh m0 kk S0 v S0 (j7 v S0)/\LowB m0 v S0:=by
 obtain⟨z1,z2⟩:=Q9 (n:=n) (t:=0) (s:=s) (e:=e) (m:=m0) (S:=S0) (left:=v) (λr hr=>⟨(A.mem hr).1,(A.mem hr).2.2.2⟩) hv (λk hk=>by rfl') (λr hr _=>h0 r hr) hs hm he;have sp:=G6 A hv;refine⟨⟨A,L0 A hv,rfl,?_,M6 A hv,λr hr _=>h0 r hr,λr hr=>?_,z1.mono (wm (by decide) (by rfl')),λr hr=>(h0 r hr).mono (wm (by decide) (by rfl'))⟩,z2⟩
 .refine Ef (λr hr=>?_) λr hr=>?_
  .rcases wn.mp hr with rfl|hr
   .have t:Span (vecs (v::S0)) (λk=>at0 v k):=u4 we;exact Span.congr (λk=>by rfl') (t.sub sp.cons)
   .exact u4 (wc _ hr)
  .rcases wn.mp hr with rfl|hr
   .have t:Span (vecs (j7 r S0::S0)) (λk=>at0 (j7 r S0) k):=u4 we;exact Span.congr (λk=>by rfl') (t.add sp.cons)
   .exact u4 (wc _ hr)
 .exact hh r hr
theorem Wi.done{n e eh m0 kk:Nat}{S0:aA}{v:Row}{S:aA}{left:Row}(I:Wi n e eh m0 kk S0 v S left)(h:¬b7 left<n):Post n (e+3+(m0+n*kk)) S0 v S:=by
 have hl:=HP left;rw[I.len]at hl;have e:b7 left=n:=by rfl'
 refine⟨I.asc,SameSpan.trans (Ef (λr hr=>u4 (wc _ hr)) λr hr=>?_) I.span,λr hr=>by have:=I.all r hr;rw[e]at this;exact this,.inl I.heads⟩;rcases wn.mp hr with rfl|hr
 .refine Span.congr (λk=>?_) Span.zero;by_cases hk:k<n
  .exact(v9 r k (by rfl')).symm
  .exact(C9 (by rw[I.len];rfl')).symm
 .exact u4 hr
theorem Wi.new{n e eh m0 kk:Nat}{S0:aA}{v:Row}{S S':aA}{left t:Row}(I:Wi n e eh m0 kk S0 v S left)(h:b7 left<n)(hn:∀r∈S,b7 r≠b7 left)
   (ht:t.length=n) (c:Int) (hc:c=1\/c = -1) (et:∀k,at0 t k=c*at0 left k) (hp:0<at0 t (b7 left)) (pm:S'.Perm (t::S)) (pw:(S'.map b7).Pairwise (·<·)):Post n (e+3+(m0+n*kk)) S0 v S':=by
 have hh:b7 t=b7 left:=T9 _ _ (λk hk=>by rw[et,v9 left k hk];simp) (by rfl');have mem:∀r∈S',r=t\/r∈S:=λr hr=>wn.mp (pm.mem_iff.mp hr);have tm:t∈S':=pm.mem_iff.mpr we;have sm:∀r∈S,r∈S':=λr hr=>pm.mem_iff.mpr (wc _ hr);have hk:m0+b7 left*kk<=m0+n*kk:=by have:=wE kk (vX h);rfl'
 refine⟨Asc.iff.mpr ⟨λr hr=>?_,pw⟩,SameSpan.trans (Ef (λr hr=>?_) λr hr=>?_) I.span,λr hr=>?_,.inr ⟨?_,t,tm,λx hx e=>?_⟩⟩
 .rcases mem r hr with rfl|hr
  .exact⟨ht,wQ _,by rw[hh];exact h,by unfold hd;rw[hh];exact hp⟩
  .exact I.asc.mem hr
 .rcases mem r hr with rfl|hr
  .exact Span.congr (λk=>(et k).symm) ((u4 we:Span (vecs (left::S)) (λk=>at0 left k)).smul c)
  .exact u4 (wc _ hr)
 .rcases wn.mp hr with rfl|hr
  .refine Span.congr (λk=>?_) ((u4 tm:Span (vecs S') (λk=>at0 t k)).smul c);show c*at0 t k=at0 r k;rw[et];rcases hc with rfl|rfl<;>rfl'
  .exact u4 (sm r hr)
 .rcases mem r hr with rfl|hr
  .intro k;rw[et];have h1:=I.size k;have h2:2^(m0+b7 left*kk)<=2^(e+3+(m0+n*kk)):=wm (by decide) (by rfl');rcases hc with rfl|rfl<;>rfl'
  .exact(I.all r hr).mono (wm (by decide) (by rfl'))
 .have h1:=pm.length_eq;have h2:=bI dB I.heads;simp at h1 h2;rfl'
 .have:b7 x∈S.map b7:=by rw[I.heads];exact wg.mpr ⟨x,hx,rfl⟩
  obtain⟨y,hy,ey⟩:=wg.mp this;exact hn y hy (by rfl')
structure Good(n B:Nat)(rows:aA)(S:aA):Prop where
 asc:Asc n 0 S
 form:Form 0 (F3 S)
 span:SameSpan (vecs S) (vecs rows)
 ind:∃R:aA,Ind R/\R.length=S.length/\(∀r∈R,r∈rows)
 len:S.length<=rows.length
 full:Ind rows->S.length=rows.length
theorem Good.nil{n B:Nat}:Good n B [] []:=⟨trivial,trivial,SameSpan.refl,⟨[],(λcs h _ c hc=>by have h:cs=[]:=w0n.mp h;subst h;cases hc),rfl,λr hr=>by cases hr⟩,wv _,λ_=>rfl⟩
theorem Good.small{n B:Nat}{rows S:aA}(G:Good n B rows S)(hb:∀r∈rows,Lt B r)(hp:0<B):∀r∈S,Lt (bnd S.length B+1) r:=by
 obtain⟨R,h1,h2,h3⟩:=G.ind;exact Uk G.asc G.form h1 h2 (λr hr=>G.span.iff.mpr (u4 (h3 r hr))) (λr hr=>hb r (h3 r hr)) hp
theorem AJ:∀{R:aA}{v:Vec},Span (vecs R) v->∃c:aG,c.length=R.length/\∀k,v k=mix R c k
 |[],v,s=>⟨[],rfl,s⟩
 |r::R,v,⟨c,s⟩=>by
  obtain⟨cs,h1,h2⟩:=AJ s;refine⟨c::cs,by simp[h1],λk=>?_⟩;have:=h2 k;have this:v k-c*at0 r k=mix R cs k:=this;show v k=c*at0 r k+mix R cs k;rfl'
theorem KL{v:Row}{d:Int}:∀{R:aA}{c:aG},c.length=R.length->∀k,mix (R++[v]) (c++[d]) k=mix R c k+d*at0 v k
 |[],[],_,k=>by simp[mix]
 |r::R,x::c,h,k=>by
  show x*at0 r k+mix (R++[v]) (c++[d]) k=x*at0 r k+mix R c k+d*at0 v k;rw[KL (R:=R) (c:=c) (by simpa using h)];rfl'
theorem Ind.left{R:aA}{v:Row}(h:Ind (R++[v])):Ind R:=λc hl hz x hx=>by
 exact h (c++[0]) (by simp[hl]) (λk=>by rw[KL hl,hz k];simp) x (wu.mpr (.inl hx))
theorem Nz{n:Nat}:∀{f:Nat}{S T:aA}{u:Vec},Asc n f S->Asc n f T->T.map b7=S.map b7->(∀r∈T,Span (vecs S) (λk=>at0 r k))->Span (vecs S) u->∃D:Int,D≠0/\Span (vecs T) (λk=>D*u k)
 |f,[],[],u,_,_,_,_,s=>⟨1,by decide,λk=>by have:=s k;show 1*u k=0;rfl'⟩
 |f,r::S,t::T,u,A,A',hh,hT,s=>by
  have hh':b7 t=b7 r/\T.map b7=S.map b7:=by simpa using hh
  have tz:∀{w:Vec},Span (vecs (r::S)) w->w (b7 r)=0->Span (vecs S) w:=λ{w}hw z=>by
    obtain⟨c,q⟩:=hw;have e:=A.coef q;have c0:c=0:=by
      rw[z]at e;rcases vH.mp e.symm with h|h
      .exact h
      .have:=A.2.2.2.1;rfl'
    subst c0;exact Span.congr (λk=>by simp) q
  have ht:Span (vecs (r::S)) (λk=>at0 t k):=hT t we;have w1:Span (vecs (r::S)) (λk=>hd t*u k-u (b7 r)*at0 t k):=(s.smul (hd t)).sub (ht.smul (u (b7 r)));have w2:=tz w1 (by show hd t*u (b7 r)-u (b7 r)*at0 t (b7 r)=0;rw[<-hh'.1];show hd t*_-_*hd t=0;rw[wN];rfl');obtain⟨D,hD,q⟩:=Nz A.2.2.2.2 (by rw[<-hh'.1];exact A'.2.2.2.2) hh'.2 (λx hx=>tz (hT x (wc _ hx)) (v9 x _ (by have:=(A'.2.2.2.2.mem hx).2.1;rfl'))) w2;refine⟨D*hd t,λz=>?_,D*u (b7 r),Span.congr (λk=>?_) q⟩
  .rcases vH.mp z with z|z
   .exact hD z
   .have:=A'.2.2.2.1;rfl'
  .show D*(hd t*u k-u (b7 r)*at0 t k)=D*hd t*u k-D*u (b7 r)*at0 t k
   grind
 |f,[],t::T,u,_,_,hh,_,_=>by simp at hh
 |f,r::S,[],u,_,_,hh,_,_=>by simp at hh
theorem Ak:∀S:aA,(even S).length=S.length
 |[]=>rfl
 |r::rs=>by rw[even,wo,wo,Ak rs]
theorem Good.step{n u B:Nat}{rows S0 S:List Row}{v:Row}(G:Good n B rows S0)(P:Post n u S0 v S):Good n B (rows++[v]) (even S):=by
  have es:=Nw P.asc;have sp:SameSpan (vecs (v::S0)) (vecs (rows++[v])):=Ef (λr hr=>by
      rcases wn.mp hr with rfl|hr
      .exact u4 (wu.mpr (.inr we))
      .exact(G.span.iff.mp (u4 hr)).trans λw hw=>by
         obtain⟨z,hz,rfl⟩:=wg.mp hw;exact u4 (wu.mpr (.inl hz))) λr hr=>by
      rcases wu.mp hr with hr|hr
      .exact(G.span.iff.mpr (u4 hr)).trans λw hw=>by
         obtain⟨z,hz,rfl⟩:=wg.mp hw;exact u4 (wc _ hz)
      .rcases wI.mp hr with rfl
       exact u4 we
  obtain⟨R,h1,h2,h3⟩:=G.ind;have hlen:(even S).length<=(rows++[v]).length:=by
    rw[Ak,wB];have:=G.len;rcases P.more with h|⟨h,_⟩
    .have h:=bI dB h;simp at h|-;rfl'
    .simp;rfl'
  refine⟨(Y9 P.asc).1,Nv P.asc,SameSpan.trans es (P.span.trans sp),?_,hlen,λhI=>?_⟩
  rotate_left
  .have hI0:=hI.left;have hl0:=G.full hI0;rcases P.more with h|⟨h,_⟩
   .exfalso;have hv:Span (vecs S) (λk=>at0 v k):=P.span.iff.mpr (u4 we);obtain⟨D,hD,q⟩:=Nz P.asc G.asc h.symm (λr hr=>P.span.iff.mpr (u4 (wc _ hr))) hv;obtain⟨c,hc,ec⟩:=AJ (G.span.iff.mp q);have:=hI (c++[-D]) (by simp[hc]) (λk=>by rw[KL hc];have:=ec k;rw[<-this,w01];show D*at0 v k+_=0;rfl') (-D) (by simp);rfl'
   .rw[Ak,h,hl0];simp
  rcases P.more with h|⟨h,r,hr,hne⟩
  .exact⟨R,h1,by have h:=bI dB h;simp at h;rw[Ak,h,h2],λr hr=>wu.mpr (.inl (h3 r hr))⟩
  .refine⟨ v::R,?_,by rw[Ak,h,List.length_cons,h2],fun r hr=>?_⟩
   .intro cs hl hz
    cases cs with
    |nil=>intro c hc;cases hc
    | cons c cs =>
      have hl':cs.length=R.length:=by simpa using hl
      have hz:∀k,c*at0 v k+mix R cs k=0:=hz;by_cases c0:c=0
      .subst c0;have z:=h1 cs hl' (λk=>by have:=hz k;rfl');intro d hd;rcases wn.mp hd with rfl|hd
       .rfl
       .exact z d hd
      .exfalso;have cv:Span (vecs S0) (λk=>c*at0 v k):=by
         have:Span (vecs S0) (mix R cs):=GB λr hr=>G.span.iff.mpr (u4 (h3 r hr));exact Span.congr (λk=>by have:=hz k;rfl') this.neg
       have all:∀w:Vec,Span (vecs (v::S0)) w->Span (vecs S0) (λk=>c*w k):=λw hw=>by
         obtain⟨d,s⟩:=hw;have s2:=(cv.smul d).add (s.smul c);refine Span.congr (λk=>?_) s2;show d*(c*at0 v k)+c*(w k-d*at0 v k)=c*w k
         grind
       have rs:Span (vecs (v::S0)) (λk=>at0 r k):=P.span.iff.mp (u4 hr);have q:=P.asc.mem hr;obtain⟨x,hx,e⟩:=G.asc.first (h:=b7 r) (all _ rs) (λk hk=>by show c*at0 r k=0;rw[v9 r k hk];simp) (by
         show c*hd r≠0;intro z;rcases vH.mp z with z|z
         .exact c0 z
         .rfl')
       exact hne x hx e
   .rcases wn.mp hr with rfl|hr
    .exact wu.mpr (.inr we)
    .exact wu.mpr (.inl (h3 r hr))
theorem GD{r s B:Nat}(h:r<=s)(hB:0<B)(hs:0<s):bnd r B<=bnd s B:=by
 unfold bnd;refine vT ?_ (wm (by decide) (vT h h));have h1:2*r*B<=2*s*B:=wE _ (wY _ h);have h2:0<2*s*B:=w0A (by rfl') hB;exact wF (uI h1 r) (wm h2 h)
theorem Ce{n:Nat}:∀{f:Nat}{S:aA},Asc n f S->f<=n->S.length<=n-f
 |f,[],_,_=>wQ _
 |f,r::rs,⟨h1,h2,h3,h4,h5⟩,h=>by
  have:=Ce h5 (by rfl');rw[wo];rfl'
end St
end
section
set_option exponentiation.threshold 3000
namespace St
open Lat
theorem KM:∀{f:Nat}{S:aA},Form f (F3 S)->∀{j k:Nat},j<k->k<S.length->0<=at0 (S.getD j []) (b7 (S.getD k []))/\at0 (S.getD j []) (b7 (S.getD k []))<hd (S.getD k [])
 |f,r::S,F,0,k+1,_,hk=>by
  have hk:k<S.length:=by simpa using hk
  have hm:S.getD k []∈S:=by simp[au,wa hk]
  have:=F.2.2.2.1 (b7 (S.getD k []),vec (S.getD k [])) (wg.mpr ⟨_,hm,rfl⟩);exact this
 |f,r::S,F,j+1,k+1,hjk,hk=>by
  have:=KM (S:=S) F.2.2.2.2 (j:=j) (k:=k) (by rfl') (by simpa using hk);simpa[au]using this
theorem GE{n f:Nat}{S:aA}(A:Asc n f S){k:Nat}(hk:k<S.length):(S.getD k []).length=n/\f<=b7 (S.getD k [])/\b7 (S.getD k [])<n/\0<hd (S.getD k []):=
 A.mem (by simp[au,wa hk])
theorem Ul{n:Nat}:∀{f:Nat}{S:aA},Asc n f S->∀{j k:Nat},j<k->k<S.length->b7 (S.getD j [])<b7 (S.getD k [])
 |f,r::S,A,0,k+1,_,hk=>by
  have hk:k<S.length:=by simpa using hk
  have hm:S.getD k []∈S:=by simp[au,wa hk]
  have:=(A.2.2.2.2.mem hm).2.1;exact this
 |f,r::S,A,j+1,k+1,hjk,hk=>by
  have:=Ul (S:=S) A.2.2.2.2 (j:=j) (k:=k) (by rfl') (by simpa using hk);simpa[au]using this
theorem YG(k:Nat)(h:k<=8):bnd k (10^30)+1<=2^900:=by
 have:=GD (B:=10^30) h (by decide) (by decide);have e:bnd 8 (10^30)+1<=2^900:=by unfold bnd;decide
 rfl'
theorem HS{r:Row}{B:Nat}(hB:0<B)(h:∀x∈r,x.natAbs<B):Lt B r:=λk=>by
 unfold at0 au;by_cases hk:k<r.length
 .rw[wa hk];exact h _ (vA _)
 .rw[wK (by rfl')];exact hB
end St
end
section
local macro_rules|`(tactic|rfl')=>`(tactic|first|lia|omega +splitDisjunctions)
namespace St
open Lat
theorem Asc.tz{n f:Nat}{r:Row}{S:aA}{w:Vec}(A:Asc n f (r::S))(hw:Span (vecs (r::S)) w)(z:w (b7 r)=0):Span (vecs S) w:=by
 obtain⟨c,q⟩:=hw;have e:=A.coef q;have c0:c=0:=by
  rw[z]at e;rcases vH.mp e.symm with h|h
  .exact h
  .have:=A.2.2.2.1;rfl'
 subst c0;exact Span.congr (λk=>by simp) q
theorem Asc.small0{n:Nat}:∀{f:Nat}{S:aA}{u:Vec},Asc n f S->Span (vecs S) u->(∀r∈S,0<=u (b7 r)/\u (b7 r)<hd r)->∀k,u k=0
 |f,[],u,_,s,_=>s
 | f,r::S,u,A,s,h=>by
  have hr:=h r we;have z:u (b7 r)=0:=by
   obtain⟨c,q⟩:=s;have e:=A.coef q;have c0:c=0:=EK e A.2.2.2.1 (by rfl') hr.2;rw[e,c0];simp
  exact A.2.2.2.2.small0 (A.tz s z) λx hx=>h x (wc _ hx)
def KN(n:Nat):Row:=bg n 0
theorem HU(n k:Nat):at0 (KN n) k=0:=by
 unfold at0 KN au;rw[vx];split<;>rfl
theorem z25{n:Nat}{r:Row}(hl:r.length=n)(h:∀k,at0 r k=0):r=KN n:=ext0 (by unfold KN;simp[hl]) λk=>by rw[h,HU]
theorem MS{n:Nat}{S:aA}{v:Row}(A:Asc n 0 S)(hv:v.length=n):j7 v S=KN n↔Span (vecs S) (λk=>at0 v k):=by
 have sp:=G6 A hv;constructor
 .intro e;rw[e]at sp;exact Span.congr (λk=>by rw[HU];rfl') sp
 .intro s;refine z25 (L0 A hv) (A.small0 (u:=λk=>at0 (j7 v S) k) ?_ (M6 A hv));exact Span.congr (λk=>by rfl') (s.sub sp)
theorem z26{R:aA}(c:aG):Span (vecs R) (mix R c):=GB λr hr=>u4 hr
theorem Pd{n:Nat}:∀{R:aA}{c:aG},(∀r∈R,r.length=n)->∀k,n<=k->mix R c k=0
 |[],c,_,k,_=>by simp[mix]
 |r::R,[],_,k,_=>by simp[mix]
 |r::R,x::c,h,k,hk=>by
  show x*at0 r k+mix R c k=0;rw[Pd (λy hy=>h y (wc _ hy)) k hk,C9 (by rw[h r we];exact hk)];simp
abbrev Ab(a b:Row):Prop:=0<=at0 a (b7 b)/\at0 a (b7 b)<hd b
theorem KO{n:Nat}:∀{f:Nat}{S:aA},Asc n f S->(Form f (F3 S)↔S.Pairwise Ab)
 |f,[],_=>by simp[F3,Form]
 |f,r::S,A=>by
  have ih:=KO A.2.2.2.2;rw[vi,<-ih];constructor
  .intro F;exact⟨λb hb=>F.2.2.2.1 (b7 b,vec b) (wg.mpr ⟨b,hb,rfl⟩),F.2.2.2.2⟩
  .rintro⟨h1,h2⟩;refine⟨A.2.1,λk hk=>v9 r k hk,A.2.2.2.1,λp hp=>?_,h2⟩;obtain⟨b,hb,rfl⟩:=wg.mp hp;exact h1 b hb
theorem Eg{n:Nat}{a b:Row}(h:a.length=n)(k:Nat):at0 (a++b) k=if k<n then at0 a k else at0 b (k-n):=by
 subst h;unfold at0 au;rw[List.getElem?_append];split<;>rfl
theorem L7(r:Row)(n k:Nat):at0 (r.take n) k=if k<n then at0 r k else 0:=by
 unfold at0 au;rw[w0L];split<;>rfl
theorem W1(r:Row)(n k:Nat):at0 (r.drop n) k=at0 r (n+k):=by
 unfold at0 au;rw[uM]
def O1(m j:Nat):Row:=(av m).map λk=>if k=j then 1 else 0
theorem NA(m j:Nat):(O1 m j).length=m:=by unfold O1;simp
theorem GH(m j k:Nat):at0 (O1 m j) k=if k=j/\k<m then 1 else 0:=by
 unfold at0 O1 au;rw[wy];by_cases hk:k<m
 .rw[w05 hk];simp[hk]
 .rw[wK (by simpa using hk)];simp[hk]
def tagF(m:Nat):Nat->aA->aA
 |_,[]=>[]
 |s,b::bs=>(b++O1 m s)::tagF m (s+1) bs
abbrev Db(bills:aA):aA:=tagF bills.length 0 bills
theorem Dc(m:Nat):∀(s:Nat)(bs:aA),(tagF m s bs).length=bs.length
 |s,[]=>rfl
 |s,b::bs=>by rw[tagF,wo,wo,Dc]
theorem RR(m:Nat):∀{s:Nat}{bs:aA}{r:Row},r∈tagF m s bs->∃b∈bs,∃j,r=b++O1 m j
 |s,b::bs,r,h=>by
  rcases wn.mp h with rfl|h
  .exact⟨b,we,s,rfl⟩
  .obtain⟨b',hb,j,e⟩:=RR m h;exact⟨b',wc _ hb,j,e⟩
theorem Dd{n m:Nat}:∀{s:Nat}{bs:aA}{c:aG}{k:Nat},(∀b∈bs,b.length=n)->k<n->mix (tagF m s bs) c k=mix bs c k
 |s,[],c,k,_,_=>by simp[tagF,mix]
 |s,b::bs,[],k,_,_=>by simp[tagF,mix]
 |s,b::bs,x::c,k,h,hk=>by
  show x*at0 (b++O1 m s) k+mix (tagF m (s+1) bs) c k=x*at0 b k+mix bs c k;rw[Dd (λy hy=>h y (wc _ hy)) hk,Eg (h b we),ar hk]
theorem GI{n m:Nat}:∀{s:Nat}{bs:aA}{c:aG}{i:Nat},(∀b∈bs,b.length=n)->c.length=bs.length->s+bs.length<=m->mix (tagF m s bs) c (n+i)=if s<=i/\i<s+bs.length then at0 c (i-s) else 0
 |s,[],[],i,_,_,_=>by simp[tagF,mix];intros;rfl'
 |s,b::bs,x::c,i,h,hl,hs=>by
  have ih:=GI (n:=n) (m:=m) (s:=s+1) (bs:=bs) (c:=c) (i:=i) (λy hy=>h y (wc _ hy)) (by simpa using hl) (by simp at hs;rfl');show x*at0 (b++O1 m s) (n+i)+mix (tagF m (s+1) bs) c (n+i)=_;rw[ih,Eg (h b we),aw (by rfl'),GH,show n+i-n=i by rfl'];have hlen:(b::bs).length=bs.length+1:=rfl;rw[hlen];have hm:s<m:=by simp at hs;rfl'
  by_cases h1:i=s
  .subst h1;rw[ar ⟨rfl,hm⟩,aw (by rfl'),ar (by rfl')];simp[at0]
  .rw[aw (by rfl')];by_cases h2:s+1<=i/\i<s+1+bs.length
   .rw[ar h2,ar (by rfl')];have:i-s=(i-(s+1))+1:=by rfl'
    rw[this];simp[at0]
   .rw[aw h2,aw (by rfl')];simp
theorem KP{n:Nat}{bills:aA}{c:aG}(h:∀b∈bills,b.length=n)(hl:c.length=bills.length)(i:Nat):mix (Db bills) c (n+i)=at0 c i:=by
 rw[GI h hl (by rfl')];split
 .simp
 .rw[C9 (by rfl')]
theorem KQ{n:Nat}{bills:aA}(h:∀b∈bills,b.length=n):Ind (Db bills):=λc hl hz x hx=>by
 rw[Dc]at hl;obtain⟨i,hi,e⟩:=w02.mp hx;have:=hz (n+i);rw[KP h hl]at this;rw[<-e];simpa[at0,au,wa hi]using this
theorem z27{n:Nat}{bills:aA}{u:Row}(h:∀b∈bills,b.length=n)(hu:u.length=n+bills.length):Span (vecs (Db bills)) (λk=>at0 u k)↔∀k,k<n->at0 u k=mix bills (u.drop n) k:=by
 have hd:(u.drop n).length=bills.length:=by rw[vd];rfl'
 constructor
 .intro s k hk;obtain⟨c,hc,e⟩:=AJ s;rw[Dc]at hc;have:c=u.drop n:=ext0 (by rw[hc,hd]) λi=>by
    rw[W1,<-KP h hc i];exact(e (n+i)).symm
  have e1:=e k;rw[Dd h hk,this]at e1;exact e1
 .intro q;refine Span.congr (λk=>?_) (z26 (u.drop n));by_cases hk:k<n
  .rw[Dd h hk,q k hk]
  .have:k=n+(k-n):=by rfl'
   rw[this,KP h hd,W1]
theorem KR{N n:Nat}:∀{f:Nat}{S:aA},Asc N f S->S=S.filter (λr=>decide (b7 r<n))++S.filter (λr=>!decide (b7 r<n))
 |f,[],_=>rfl
 |f,r::S,A=>by
  have ih:=KR (n:=n) A.2.2.2.2;by_cases h:b7 r<n
  .rw[uf,uf];simp only[h,decide_true,if_true,Bool.not_true,w08,if_false];rw[uZ,<-ih]
  .have e:S.filter (λr=>decide (b7 r<n))=[]:=List.filter_eq_nil_iff.mpr λx hx=>by have:=(A.2.2.2.2.mem hx).2.1;simp;rfl'
   rw[e,w0t]at ih;rw[uf,uf];simp only[h,decide_false,w1q,if_true,w08,if_false];rw[e,w0t,<-ih]
def tops(n:Nat)(S:aA):aA:=(S.filter λr=>decide (b7 r<n)).map (·.take n)
def bots(n:Nat)(S:aA):aA:=(S.filter λr=>!decide (b7 r<n)).map (·.drop n)
theorem HV{r:Row}{n:Nat}(h:b7 r<n)(hl:b7 r<r.length):b7 (r.take n)=b7 r:=T9 _ _ (λk hk=>by rw[L7,ar (by rfl')];exact v9 r k hk) (by rw[L7,ar h];exact Gz r hl)
section
variable {n N:Nat}{S:aA}
theorem KS(A:Asc N 0 S)(hN:n<=N):Asc n 0 (tops n S)/\(tops n S).length=(S.filter λr=>decide (b7 r<n)).length:=by
 have Q:=Asc.iff.mp A;refine⟨Asc.iff.mpr ⟨λx hx=>?_,?_⟩,by unfold tops;simp⟩
 .obtain⟨r,hr,rfl⟩:=wg.mp hx;obtain⟨hr,hd'⟩:=vm.mp hr;have hd':b7 r<n:=by simpa using hd'
  have q:=Q.1 r hr;have e:=HV hd' (by rfl');refine⟨by rw[vI];rfl',wQ _,by rw[e];exact hd',?_⟩;unfold hd;rw[e,L7,ar hd'];exact q.2.2.2
 .have e:(tops n S).map b7=(S.filter λr=>decide (b7 r<n)).map b7:=by
   unfold tops;rw[wS];apply w06;intro r hr;obtain⟨hr,hd'⟩:=vm.mp hr;exact HV (by simpa using hd') (by have:=Q.1 r hr;rfl')
  rw[e];exact Q.2.sublist (vj.map _)
theorem NB(A:Asc N 0 S)(F:Form 0 (F3 S))(hN:n<=N):Form 0 (F3 (tops n S)):=by
 have Q:=Asc.iff.mp A;rw[KO (KS A hN).1];have P:=(KO A).mp F;unfold tops;rw[w0T];refine fL (λ{a b}ha hb h=>?_) (P.sublist vj);obtain⟨hb,hd'⟩:=vm.mp hb;have hd':b7 b<n:=by simpa using hd'
 have e:=HV hd' (by have:=Q.1 b hb;rfl');unfold Ab hd at *;rw[e,L7,ar hd',L7,ar hd'];exact h
theorem NC(A:Asc N 0 S){v:Vec}(s:Span (vecs S) v):Span (vecs (tops n S)) (λk=>if k<n then v k else 0):=by
 refine Span.least (P:=λv=>Span (vecs (tops n S)) (λk=>if k<n then v k else 0)) ?_ (λv w hv hw=>?_) (λc v hv=>?_) (λx hx=>?_) s
 .exact Span.congr (λk=>by split<;>rfl) Span.zero
 .exact Span.congr (λk=>by split<;>rfl) (hv.add hw)
 .refine Span.congr (λk=>?_) (hv.smul c);split
  .rfl
  .simp
 .obtain⟨r,hr,rfl⟩:=wg.mp hx;by_cases h:b7 r<n
  .have hm:r.take n∈tops n S:=wg.mpr ⟨r,vm.mpr ⟨hr,by simpa using h⟩,rfl⟩;exact Span.congr (λk=>L7 r n k) (u4 hm)
  .refine Span.congr (λk=>?_) Span.zero;split
   .rw[show vec r k=0 from v9 r k (by rfl')]
   .rfl
end
structure Tag(n:Nat)(bills S:aA):Prop where
 wide:∀b∈bills,b.length=n
 asc:Asc (n+bills.length) 0 S
 form:Form 0 (F3 S)
 span:SameSpan (vecs S) (vecs (Db bills))
 full:S.length=bills.length
theorem Good.tag{n B:Nat}{bills S:aA}(h:∀b∈bills,b.length=n)(G:Good (n+bills.length) B (Db bills) S):Tag n bills S:=
 ⟨h,G.asc,G.form,G.span,by rw[G.full (KQ h),Dc]⟩
end St
end
section
local macro_rules|`(tactic|rfl')=>`(tactic|first|lia|omega +splitDisjunctions)
namespace St
open Lat
theorem G7{B:aA}{i:Nat}(h:i<B.length):B.getD i []∈B:=by simp[au,wa h]
end St
namespace St
open Lat
theorem Asc.small{n:Nat}:∀{f:Nat}{S:aA}{u:Vec},Asc n f S->Span (vecs S) u->(∀r∈S,-(hd r)<u (b7 r)/\u (b7 r)<hd r)->∀k,u k=0
 |f,[],u,_,s,_=>s
 | f,r::S,u,A,s,h=>by
  have hr:=h r we;have z:u (b7 r)=0:=by
   obtain⟨c,q⟩:=s;have e:=A.coef q;have c0:c=0:=EK e A.2.2.2.1 hr.1 hr.2;rw[e,c0];simp
  exact A.2.2.2.2.small (A.tz s z) λx hx=>h x (wc _ hx)
theorem z0o{n:Nat}{S:aA}{u v:Row}(A:Asc n 0 S)(hu:u.length=n)(hv:v.length=n)(s:Span (vecs S) (λk=>at0 u k-at0 v k))(h1:∀r∈S,0<=at0 u (b7 r)/\at0 u (b7 r)<hd r)(h2:∀r∈S,0<=at0 v (b7 r)/\at0 v (b7 r)<hd r):u=v:=by
 refine ext0 (by rfl') λk=>?_;have:=A.small s (λr hr=>by have:=h1 r hr;have:=h2 r hr;rfl') k;rfl'
theorem RS{n:Nat}{S:aA}{u v:Row}(A:Asc n 0 S)(hu:u.length=n)(hv:v.length=n)(s:Span (vecs S) (λk=>at0 u k-at0 v k)):j7 u S=j7 v S:=by
 refine z0o A (L0 A hu) (L0 A hv) ?_ (M6 A hu) (M6 A hv);have s1:=G6 A hu;have s2:=G6 A hv;exact Span.congr (λk=>by rfl') ((s.sub s1).add s2)
end St
end
section
namespace St
open Lat
end St
end
section
namespace St
open Lat
end St
end
section
namespace St
open Lat
end St
end
section
set_option maxHeartbeats 1000000
namespace St
open Lat
end St
end
section
set_option maxHeartbeats 1000000
namespace St
open Lat
end St
end
section
namespace St
open Lat
def sm:Nat->(Nat->Int)->Int
 |0,_=>0
 |m+1,f=>f 0+sm m (λk=>f (k+1))
theorem w6:∀{m:Nat}{f g:Nat->Int},(∀k,k<m->f k=g k)->sm m f=sm m g
 |0,_,_,_=>rfl
 |m+1,f,g,h=>by rw[sm,sm,h 0 (by rfl'),w6 λk hk=>h (k+1) (by rfl')]
theorem A8{m:Nat}{f:Nat->Int}(h:∀k,k<m->f k=0):sm m f=0:=by
 rw[w6 h]
 induction m with
 |zero=>rfl
 |succ m ih=>rw[sm,ih λk hk=>h k (by rfl')];rfl
theorem HZ:∀(m:Nat)(f g:Nat->Int),sm m (λk=>f k+g k)=sm m f+sm m g
 |0,_,_=>rfl
 |m+1,f,g=>by rw[sm,sm,sm,HZ m];rfl'
theorem U0(c:Int):∀(m:Nat)(f:Nat->Int),sm m (λk=>c*f k)=c*sm m f
 |0,_=>by simp[sm]
 |m+1,f=>by rw[sm,sm,U0 c m,w0y]
theorem Pe(c:Int)(m:Nat)(f:Nat->Int):sm m (λk=>f k*c)=sm m f*c:=by
 rw[wN,<-U0];exact w6 λk _=>wN _ _
theorem KT(m:Nat)(f g:Nat->Int):sm m (λk=>f k-g k)=sm m f-sm m g:=by
 have:=HZ m f (λk=>(-1)*g k);rw[U0]at this;rw[w6 (g:=λk=>f k+(-1)*g k) λk _=>by rfl',this];rfl'
theorem JN:∀(m p:Nat)(f:Nat->Nat->Int),sm m (λi=>sm p (λj=>f i j))=sm p (λj=>sm m (λi=>f i j))
 |0,p,f=>by rw[sm];exact(A8 λk _=>rfl).symm
 |m+1,p,f=>by rw[sm,JN m p,<-HZ];rfl
theorem R9:∀{m i:Nat}{f:Nat->Int},i<m->(∀k,k<m->k≠i->f k=0)->sm m f=f i
 |m+1,0,f,_,z=>by rw[sm,A8 λk hk=>z (k+1) (by rfl') (by rfl')];rfl'
 |m+1,i+1,f,h,z=>by rw[sm,z 0 (by rfl') (by rfl'),R9 (i:=i) (by rfl') λk hk hn=>z (k+1) (by rfl') (by rfl')];rfl'
def ent(A:aA)(i j:Nat):Int:=at0 (A.getD i []) j
theorem z50(k:Nat):at0 [] k=0:=by simp[at0]
theorem C5{A:aA}{i:Nat}(h:A.length<=i)(j:Nat):ent A i j=0:=by
 unfold ent;rw[show A.getD i []=[] by simp[au,wK h],z50]
theorem Pf{A:aA}{m i j:Nat}(hl:∀r∈A,r.length=m)(h:m<=j):ent A i j=0:=by
 by_cases hi:i<A.length
 .unfold ent;exact C9 (by rw[hl _ (G7 hi)];exact h)
 .exact C5 (by rfl') j
theorem RT(r:Row)(A:aA)(i j:Nat):ent (r::A) (i+1) j=ent A i j:=rfl
theorem G8:∀{A:aA}{v:Vec},Span (vecs A) v↔∃c:Nat->Int,∀k,v k=sm A.length (λi=>c i*ent A i k)
 |[],v=>⟨λh=>⟨λ_=>0,h⟩,λ⟨_,h⟩=>h⟩
 |r::A,v=>by
  constructor
  .rintro⟨c0,h⟩;obtain⟨c,h⟩:=G8.mp h;refine⟨λi=>match i with|0=>c0|i+1=>c i,λk=>?_⟩;have:v k-c0*at0 r k=sm A.length (λi=>c i*ent A i k):=h k;rw[wo,sm];show v k=c0*at0 r k+sm A.length (λi=>c i*ent A i k);rfl'
  .rintro⟨c,h⟩;refine⟨c 0,G8.mpr ⟨λi=>c (i+1),λk=>?_⟩⟩;have:=h k;rw[wo,sm]at this;show v k-c 0*at0 r k=sm A.length (λi=>c (i+1)*ent A i k);have e:ent (r::A) 0 k=at0 r k:=rfl;rw[e]at this;simp only[RT]at this;rfl'
theorem S3{A:aA}{i:Nat}(h:i<A.length):Span (vecs A) (λk=>ent A i k):=u4 (G7 h)
def trn(m:Nat)(A:aA):aA:=(av m).map λk=>A.map λr=>at0 r k
theorem D7(m:Nat)(A:aA):(trn m A).length=m:=by simp[trn]
theorem Y3{m:Nat}{A:aA}{r:Row}(h:r∈trn m A):r.length=A.length:=by
 obtain⟨k,_,rfl⟩:=wg.mp h;simp
theorem z28(m:Nat)(A:aA)(k i:Nat):ent (trn m A) k i=if k<m then ent A i k else 0:=by
 by_cases h:k<m
 .rw[ar h];unfold ent trn at0;rw[show((av m).map λk=>A.map λr=>r.getD k 0).getD k []=A.map λr=>r.getD k 0 by simp[au,h]];by_cases hi:i<A.length
  .simp[au,wa hi]
  .simp[au,wK (ud hi)]
 .rw[aw h,C5 (by rw[D7];rfl')]
theorem L1{m:Nat}{A:aA}(hl:∀r∈A,r.length=m)(k i:Nat):ent (trn m A) k i=ent A i k:=by
 rw[z28];split
 .rfl
 .exact(Pf hl (by rfl')).symm
theorem z51{A B:aA}{m:Nat}(h:A.length=B.length)(ha:∀r∈A,r.length=m)(hb:∀r∈B,r.length=m)(q:∀i k,ent A i k=ent B i k):A=B:=by
 refine ue h λi h1 h2=>?_;have e1:A.getD i []=A[i]:=by simp[au,wa h1]
 have e2:B.getD i []=B[i]:=by simp[au,wa h2]
 refine ext0 (by rw[ha _ (vA h1),hb _ (vA h2)]) λk=>?_;have:=q i k;unfold ent at this;rw[e1,e2]at this;exact this
theorem z52{m p:Nat}{A:aA}(hl:∀r∈A,r.length=m)(hp:A.length=p):trn p (trn m A)=A:=by
 refine z51 (m:=m) (by rw[D7,hp]) (λr hr=>by rw[Y3 hr,D7]) hl λi k=>?_;rw[L1 (λr hr=>by rw[Y3 hr,hp]),L1 hl]
structure Sq(r:Nat)(A:aA):Prop where
 asc:Asc r 0 A
 form:Form 0 (F3 A)
 len:A.length=r
theorem ND{n:Nat}:∀{f:Nat}{S:aA}{i:Nat},Asc n f S->i<S.length->f+i<=b7 (S.getD i [])/\b7 (S.getD i [])+(S.length-i)<=n
 |f,r::S,0,⟨h1,h2,h3,h4,h5⟩,_=>by
  have:=Ce h5 (by rfl');show f+0<=b7 r/\b7 r+(S.length+1-0)<=n;rfl'
 |f,r::S,i+1,⟨h1,h2,h3,h4,h5⟩,h=>by
  obtain⟨a,b⟩:=ND (i:=i) h5 (by simpa using h);have e:(r::S).getD (i+1) []=S.getD i []:=rfl;rw[e,wo];rfl'
variable {r:Nat}{A:aA}
theorem Sq.rows(q:Sq r A):∀x∈A,x.length=r:=λx hx=>(q.asc.mem hx).1
theorem Sq.head(q:Sq r A){i:Nat}(hi:i<r):b7 (A.getD i [])=i:=by
 have:=ND q.asc (i:=i) (by rw[q.len];exact hi);have:=q.len;rfl'
theorem Sq.pos(q:Sq r A){i:Nat}(hi:i<r):0<ent A i i:=by
 have:=(GE q.asc (k:=i) (by rw[q.len];exact hi)).2.2.2;unfold hd at this;rw[q.head hi]at this;exact this
theorem Sq.low(q:Sq r A){i j:Nat}(h:j<i):ent A i j=0:=by
 by_cases hi:i<r
 .exact v9 _ _ (by rw[q.head hi];exact h)
 .exact C5 (by rw[q.len];rfl') j
theorem Sq.red(q:Sq r A){i j:Nat}(h:i<j)(hj:j<r):0<=ent A i j/\ent A i j<ent A j j:=by
 have:=KM q.form (j:=i) (k:=j) h (by rw[q.len];exact hj);unfold hd at this;rw[q.head hj]at this;exact this
theorem Sq.far(q:Sq r A){i j:Nat}(h:r<=j):ent A i j=0:=Pf q.rows h
theorem Pg{n:Nat}:∀{f:Nat}{S:aA}{v:Vec}{x:Row},Asc n f S->Span (vecs S) v->(∀k,k<b7 x->v k=0)->x∈S->hd x∣v (b7 x)
 |f,r::S,v,x,A,⟨c,s⟩,z,hx=>by
  have e:=A.coef s;rcases wn.mp hx with rfl|hx
  .exact⟨c,by rw[e];exact wN _ _⟩
  .have hh:=(A.2.2.2.2.mem hx).2.1;have e0:=z (b7 r) (by rfl');have hp:=A.2.2.2.1;have hc:c=0:=by
    rw[e0]at e;rcases vH.mp e.symm with h|h
    .exact h
    .rfl'
   subst hc;exact Pg A.2.2.2.2 (Span.congr (λk=>by simp) s) z hx
theorem Sq.dvd(q:Sq r A){v:Vec}{i:Nat}(hi:i<r)(s:Span (vecs A) v)(z:∀k,k<i->v k=0):ent A i i∣v i:=by
 have h:=Pg q.asc s (x:=A.getD i []) (λk hk=>z k (by rw[q.head hi]at hk;exact hk)) (G7 (by rw[q.len];exact hi));unfold hd at h;rw[q.head hi]at h;exact h
abbrev pt(i:Nat)(d:Int):Vec:=λk=>if k=i then d else 0
theorem Sq.clean(q:Sq r A){i:Nat}{d:Int}(hi:i<r)(hd:0<d)(h1:Span (vecs A) (pt i d))(h2:∀y,Span (vecs A) y->d∣y i):∀k,ent A i k=pt i d k:=by
 have a:=q.dvd hi h1 λk hk=>by simp[pt];rfl'
 have b:=h2 _ (S3 (by rw[q.len];exact hi));have e:ent A i i=d:=Int.dvd_antisymm (Int.le_of_lt (q.pos hi)) (Int.le_of_lt hd) (by simpa[pt]using a) b;have u:Span (vecs A) (λk=>ent A i k-pt i d k):=(S3 (by rw[q.len];exact hi)).sub h1;have z:=Asc.small0 q.asc u λx hx=>by
  obtain⟨j,hj,rfl⟩:=wH hx;have ej:A[j]=A.getD j []:=by simp[au,wa hj]
  rw[q.len]at hj;have hp:=q.pos hj;unfold St.hd;rw[ej,q.head hj];show 0<=ent A i j-pt i d j/\ent A i j-pt i d j<ent A j j;rcases w0h j i with h|h|h
  .rw[q.low h];simp only[pt];rw[aw (by rfl')];rfl'
  .subst h;simp only[pt,if_true];rfl'
  .have:=q.red h hj;simp only[pt];rw[aw (by rfl')];rfl'
 intro k;have:=z k;rfl'
def Clean(t:Nat)(A:aA):Prop:=∀i,i<t->∀k,k≠i->ent A i k=0
theorem W3{y:Vec}(hl:∀x∈A,x.length=r):Span (vecs (trn r A)) y↔∃c:Nat->Int,∀k,y k=sm r (λj=>c j*ent A k j):=by
 rw[G8];simp only[D7,L1 hl]
theorem Clean.dvd(q:Sq r A){t i:Nat}(c:Clean t A)(hi:i<t){y:Vec}(s:Span (vecs (trn r A)) y):ent A i i∣y i:=by
 by_cases hr:i<r
 .obtain⟨c',h⟩:=(W3 q.rows).mp s;rw[h i,R9 hr λk _ hn=>by rw[c i hi k hn];simp];exact⟨c' i,wN _ _⟩
 .rw[q.far (by rfl')];obtain⟨c',h⟩:=(W3 q.rows).mp s;rw[h i,A8 λk hk=>by rw[c i hi k (by rfl')];simp];exact⟨0,rfl⟩
theorem Clean.col(q:Sq r A){t:Nat}(c:Clean t A){i:Nat}(hi:i<=t)(hr:i<r):Span (vecs (trn r A)) (pt i (ent A i i)):=by
 refine Span.congr (λk=>?_) (S3 (A:=trn r A) (i:=i) (by rw[D7];exact hr));rw[L1 q.rows];simp only[pt];by_cases h:k=i
 .subst h;rw[ar rfl]
 .rw[aw h];by_cases hk:k<i
  .exact c k (by rfl') i (by rfl')
  .exact q.low (by rfl')
theorem half{X Y:aA}{t:Nat}(x:Sq r X)(y:Sq r Y)(s:SameSpan (vecs Y) (vecs (trn r X)))(c:Clean t X)(ht:t<=r):
   Clean t Y/\(∀i,i<t->ent Y i i=ent X i i)/\(t<r->ent Y t t∣ent X t t/\(ent Y t t=ent X t t->Clean (t+1) Y)):=by
 have key:∀i,i<t->∀k,ent Y i k=pt i (ent X i i) k:=λi hi=>y.clean (by rfl') (x.pos (by rfl')) (s.iff.mpr (c.col x (by rfl') (by rfl'))) λv hv=>c.dvd x hi (s.iff.mp hv);have cl:Clean t Y:=λi hi k hn=>by rw[key i hi];simp[pt,hn]
 refine⟨cl,λi hi=>by rw[key i hi];simp[pt],λh=>?_⟩;have sp:=s.iff.mpr (c.col x (wv t) h);have d:=y.dvd h sp λk hk=>by simp[pt];rfl'
 simp only[pt,if_true]at d;refine⟨d,λe=>?_⟩;have k2:=y.clean (i:=t) (d:=ent X t t) h (x.pos h) sp λv hv=>by
   obtain⟨c',hc⟩:=G8.mp hv;rw[hc t,y.len,R9 h λk hk hn=>?_]
   .rw[e];exact⟨c' t,wN _ _⟩
   .rcases ut hn with hlt|hgt
    .rw[cl k hlt t (by rfl')];simp
    .rw[y.low hgt];simp
 intro i hi k hn;by_cases ht:i<t
 .exact cl i ht k hn
 .have:i=t:=by rfl'
  subst this;rw[k2];simp[pt,hn]
theorem RU{X Y Z:aA}{t:Nat}(x:Sq r X)(y:Sq r Y)(z:Sq r Z)(s:SameSpan (vecs Y) (vecs (trn r X)))(s':SameSpan (vecs Z) (vecs (trn r Y)))(c:Clean t X)(ht:t<r):
   Clean t Z/\(Clean (t+1) Z\/ent Z t t<ent X t t):=by
 obtain⟨a1,a2,a3⟩:=half x y s c (by rfl');obtain⟨b1,b2,b3⟩:=half y z s' a1 (by rfl');obtain⟨a4,a5⟩:=a3 ht;obtain⟨b4,b5⟩:=b3 ht;have xp:=x.pos ht;have yp:=y.pos ht;have zp:=z.pos ht;have l1:=uc xp a4;have l2:=uc yp b4;refine⟨b1,?_⟩;by_cases e:ent Z t t=ent X t t
 .left;have cy:=a5 (by rfl');obtain⟨d1,_,_⟩:=half y z s' cy (by rfl');exact d1
 .right;rfl'
def S4(r:Nat)(w:Int)(A:aA):Prop:=∀i,i<r->Span (vecs A) (pt i w)
theorem Sq.comm(q:Sq r A){w:Int}(h:S4 r w A):S4 r w (trn r A):=by
 have hM:∃M:Nat->Nat->Int,∀i,i<r->∀k,pt i w k=sm r (λj=>M i j*ent A j k):=by
   have:∀i,∃c:Nat->Int,i<r->∀k,pt i w k=sm r (λj=>c j*ent A j k):=λi=>by
     by_cases hi:i<r
     .obtain⟨c,hc⟩:=G8.mp (h i hi);rw[q.len]at hc;exact⟨c,λ_=>hc⟩
     .exact⟨λ_=>0,λh=>aN h hi⟩
   exact⟨λi=>vK (this i),λi hi=>wP (this i) hi⟩
 obtain⟨M,hM⟩:=hM;have indep:∀z:Nat->Int,(∀k,k<r->sm r (λj=>z j*ent A j k)=0)->∀j,j<r->z j=0:=λz hz j=>by
   induction j using uv with
   | ind j ih =>
     intro hj;have e:=hz j hj;rw[R9 hj λk hk hn=>?_]at e
     .rcases vH.mp e with h|h
      .exact h
      .have:=q.pos hj;rfl'
     .rcases ut hn with h|h
      .rw[ih k h hk];simp
      .rw[q.low h];simp
 intro i hi;refine(W3 q.rows).mpr ⟨λj=>M j i,λk=>?_⟩;by_cases hk:k<r
 .have:=indep (λi=>sm r (λj=>M j i*ent A k j)-pt i w k) (λm hm=>?_) i hi
  .have hs:pt i w k=pt k w i:=by simp only[pt];split<;>split<;>first|rfl|rfl'
   show pt i w k=sm r (λj=>M j i*ent A k j);rw[hs];have this:sm r (λj=>M j i*ent A k j)-pt i w k=0:=this;rfl'
  .rw[w6 (g:=λi=>sm r (λj=>(ent A k j*(M j i*ent A i m)))-pt i w k*ent A i m) λi _=>?_]
   .rw[KT,JN,w6 (g:=λj=>ent A k j*pt j w m) λj hj=>?_]
    .rw[R9 (i:=m) hm λj _ hn=>by simp only[pt];rw[aw (by rfl')];simp];rw[R9 (i:=k) hk λj _ hn=>by simp only[pt];rw[aw (by rfl')];simp];simp only[pt,if_true];rw[wN];rfl'
    .rw[U0,<-hM j hj m]
   .rw[w0z,<-Pe];congr 1;exact w6 λj _=>by rw[wN (M j i),vQ]
 .have:pt i w k=0:=by simp only[pt];rw[aw (by rfl')]
  rw[show(pt i w) k=0 from this,A8 λj _=>by rw[C5 (A:=A) (i:=k) (by rw[q.len];rfl')];simp]
theorem Sq.whole(q:Sq r A){w:Int}(h:S4 r w A){i:Nat}(hi:i<r):ent A i i∣w:=by
 have:=q.dvd hi (h i hi) λk hk=>by simp[pt];rfl'
 simpa[pt]using this
end St
end
section
namespace St
open Lat
theorem z29:∀{m k:Nat}{f:Nat->Int},k<=m->(∀i,k<=i->i<m->f i=0)->sm m f=sm k f
 |m,0,f,_,z=>A8 λi hi=>z i (wQ _) hi
 |m+1,k+1,f,h,z=>by rw[sm,sm,z29 (k:=k) (by rfl') λi h1 h2=>z (i+1) (by rfl') (by rfl')]
theorem GJ{m a:Nat}{c:Nat->Int}{D:Nat->Nat->Int}(hd:∀l,l<m->D l l≠0)(hl:∀l j,l<j->j<m->D l j=0)(h:∀j,a<=j->j<m->sm m (λl=>c l*D l j)=0):
  ∀d l,l+d=m->a<=l->l<m->c l=0:=λd=>by
 induction d using uv with
 |ind d ih=>
  intro l e ha hm;have q:=h l ha hm;rw[R9 hm λk hk hn=>?_]at q
  .rcases vH.mp q with q|q
   .exact q
   .exact aN q (hd l hm)
  .rcases ut hn with x|x
   .rw[hl k l x hm];simp
   .rw[ih (m-k) (by rfl') k (by rfl') (by rfl') hk];simp
theorem KU{P:aA}{k i:Nat}(h:i<k)(j:Nat):ent (P.take k) i j=ent P i j:=by
 unfold ent;congr 1;simp[au,w0L,h]
structure Below(r N:Nat)(w:Int)(P:aA):Prop where
 len:P.length=r
 wid:r<=N
 rows:∀x∈P,x.length=N
 pos:∀i,i<r->ent P i i≠0
 low:∀i j,i<j->j<r->ent P i j=0
 whole:∀i,i<r->∃v:Vec,Span (vecs P) v/\v i=w/\∀k,k<r->k≠i->v k=0
theorem Below.heads{r N:Nat}{w:Int}{P S:aA}(B:Below r N w P){k:Nat}(hk:k<=r)(A:Asc N 0 S)(s:SameSpan (vecs S) (vecs (P.take k))){x:Row}(hx:x∈S):b7 x<k/\hd x∣w:=by
 have kl:(P.take k).length=k:=by rw[vI,B.len];rfl'
 obtain⟨c,hc⟩:=G8.mp (s.iff.mp (u4 hx));rw[kl]at hc;have hh:b7 x<k:=by
  refine Nat.lt_of_not_le λhge=>?_;have z:=GJ (m:=k) (a:=0) (c:=c) (D:=λl j=>ent P l j) (λl hl=>B.pos l (by rfl')) (λl j h1 h2=>B.low l j h1 (by rfl')) (λj _ hj=>by
   have:=hc j;rw[w6 (g:=λl=>c l*ent P l j) λl hl=>by rw[KU hl]]at this;rw[<-this];exact v9 x j (by rfl'))
  have:=(A.mem hx).2.2.2;unfold hd at this;have e:=hc (b7 x);rw[A8 λl hl=>by rw[z (k-l) l (by rfl') (by rfl') hl];simp]at e;rfl'
 refine⟨hh,?_⟩;obtain⟨v,v1,v2,v3⟩:=B.whole (b7 x) (by rfl');obtain⟨d,hd'⟩:=G8.mp v1;rw[B.len]at hd';have z:=GJ (m:=r) (a:=b7 x+1) (c:=d) (D:=λl j=>ent P l j) B.pos B.low λj h1 h2=>by rw[<-hd' j];exact v3 j h2 (by rfl')
 have sv:Span (vecs S) v:=s.iff.mpr (G8.mpr ⟨d,λj=>by
  rw[hd' j,kl,z29 hk λi h1 h2=>by rw[z (r-i) i (by rfl') (by rfl') h2];simp];exact w6 λl hl=>by rw[KU hl]⟩)
 have:=Pg A sv (x:=x) (λj hj=>v3 j (by rfl') (by rfl')) hx;rw[v2]at this;exact this
structure Lin(F:Vec->Int):Prop where
 add:∀u v:Vec,F (λk=>u k+v k)=F u+F v
 smul:∀(c:Int)(u:Vec),F (λk=>c*u k)=c*F u
theorem Lin.zero{F:Vec->Int}(h:Lin F):F (λ_=>0)=0:=by
 have:=h.smul 0 (λ_=>0);simpa using this
theorem Lin.sum{F:Vec->Int}(h:Lin F):∀(m:Nat)(c:Nat->Int)(R:Nat->Vec),F (λk=>sm m (λi=>c i*R i k))=sm m (λi=>c i*F (R i))
 |0,_,_=>h.zero
 |m+1,c,R=>by
  have:=h.sum m (λi=>c (i+1)) (λi=>R (i+1));rw[sm,<-this,<-h.smul,<-h.add];rfl
theorem Lin.span{F:Vec->Int}(h:Lin F){P:aA}{v:Vec}(z:∀l,l<P.length->F (λk=>ent P l k)=0)(s:Span (vecs P) v):F v=0:=by
 obtain⟨c,hc⟩:=G8.mp s;rw[show v=λk=>sm P.length (λi=>c i*ent P i k)from funext hc,h.sum];exact A8 λi hi=>by rw[z i hi];simp
theorem NE{N:Nat}:∀{f:Nat}{S:aA}{z:Nat->Int},Asc N f S->(∀k,sm S.length (λi=>z i*ent S i k)=0)->∀i,i<S.length->z i=0
 |f,r::S,z,A,h,i,hi=>by
  have e:=h (b7 r);rw[wo,sm,A8 λk hk=>?_]at e
  .have z0:z 0=0:=by
    have p:=A.2.2.2.1;have e:z 0*hd r+0=0:=e;rcases vH.mp (show z 0*hd r=0 by rfl')with q|q
    .exact q
    .rfl'
   match i,hi with
   |0,_=>exact z0
   |i+1,hi=>
    refine NE (z:=λi=>z (i+1)) A.2.2.2.2 (λk=>?_) i (by simpa using hi);have e:=h k;rw[wo,sm,z0]at e;have e:0*ent (r::S) 0 k+sm S.length (λi=>z (i+1)*ent S i k)=0:=e;rfl'
  .rw[RT];have:=(A.2.2.2.2.mem (G7 hk)).2.1;rw[show ent S k (b7 r)=0 from v9 _ _ (by rfl')];simp
theorem lift{N:Nat}{P S:aA}(s:SameSpan (vecs P) (vecs S))(A:Asc N 0 S)(ζ:Nat->Int):
  ∃z:Nat->Int,∀F,Lin F->(∀l,l<P.length->F (λk=>ent P l k)=z l)->∀i,i<S.length->F (λk=>ent S i k)=ζ i:=by
 have hU:∀i,∃c:Nat->Int,i<S.length->∀k,ent S i k=sm P.length (λl=>c l*ent P l k):=λi=>by
  by_cases hi:i<S.length
  .obtain⟨c,hc⟩:=G8.mp (s.iff.mpr (S3 hi));exact⟨c,λ_=>hc⟩
  .exact⟨λ_=>0,λh=>aN h hi⟩
 have hV:∀i,∃c:Nat->Int,i<P.length->∀k,ent P i k=sm S.length (λl=>c l*ent S l k):=λi=>by
  by_cases hi:i<P.length
  .obtain⟨c,hc⟩:=G8.mp (s.iff.mp (S3 hi));exact⟨c,λ_=>hc⟩
  .exact⟨λ_=>0,λh=>aN h hi⟩
 obtain⟨U,hU⟩:∃U:Nat->Nat->Int,∀i,i<S.length->∀k,ent S i k=sm P.length (λl=>U i l*ent P l k):=⟨λi=>vK (hU i),λi=>wP (hU i)⟩;obtain⟨V,hV⟩:∃V:Nat->Nat->Int,∀i,i<P.length->∀k,ent P i k=sm S.length (λl=>V i l*ent S l k):=⟨λi=>vK (hV i),λi=>wP (hV i)⟩
 have key:∀i,i<S.length→∀m,m<S.length→sm P.length (fun l=>U i l*V l m)=if m=i then 1 else 0:=fun i hi m hm=>by
  have:=NE (z:=λm=>sm P.length (λl=>U i l*V l m)-if m=i then 1 else 0) A (λk=>?_) m hm
  .have this:sm P.length (λl=>U i l*V l m)-(if m=i then 1 else 0)=0:=this;rfl'
  .rw[w6 (g:=λm=>sm P.length (λl=>U i l*(V l m*ent S m k))-(if m=i then 1 else 0)*ent S m k) λm _=>?_]
   .rw[KT,JN,w6 (g:=λl=>U i l*ent P l k) λl hl=>by rw[U0,<-hV l hl k],<-hU i hi k,R9 hi λm _ hn=>by rw[aw hn];simp];simp
   .rw[w0z,<-Pe];congr 1;exact w6 λl _=>by rw[vQ]
 refine⟨λl=>sm S.length (λm=>V l m*ζ m),λF h hF i hi=>?_⟩;rw[show(λk=>ent S i k)=λk=>sm P.length (λl=>U i l*ent P l k)from funext (hU i hi),h.sum P.length (U i) (λl k=>ent P l k)];rw[w6 (g:=λl=>sm S.length (λm=>U i l*V l m*ζ m)) λl hl=>by rw[hF l hl,<-U0];exact w6 λm _=>(vQ _ _ _).symm];rw[JN,w6 (g:=λm=>(if m=i then 1 else 0)*ζ m) λm hm=>by rw[Pe,key i hi m hm],R9 hi λm _ hn=>by rw[aw hn];simp];simp
def fun_(r n:Nat)(c b v:Vec):Int:=sm n (λk=>v (r+k)*b k)-sm r (λj=>c j*v j)
theorem JO(r n:Nat)(c b:Vec):Lin (fun_ r n c b) where
 add u v:=by
  unfold fun_;rw[w6 (g:=λk=>u (r+k)*b k+v (r+k)*b k) λk _=>w1c _ _ _,HZ,w6 (m:=r) (g:=λj=>c j*u j+c j*v j) λk _=>w0y _ _ _,HZ];rfl'
 smul a u:=by
  unfold fun_;rw[w6 (g:=λk=>a*(u (r+k)*b k)) λk _=>vQ _ _ _,U0,w6 (m:=r) (g:=λj=>a*(c j*u j)) λk _=>by rw[<-vQ,wN (c k),vQ],U0,w0w]
def EqP(r n:Nat)(P:aA)(b:Vec):Prop:=∃c:Vec,∀l,l<P.length->fun_ r n c b (λk=>ent P l k)=0
theorem EqP.same{r n:Nat}{P S:aA}{b:Vec}(s:SameSpan (vecs P) (vecs S)):EqP r n P b↔EqP r n S b:=
 ⟨λ⟨c,h⟩=>⟨c,λl hl=>(JO r n c b).span h (s.iff.mpr (S3 hl))⟩,λ⟨c,h⟩=>⟨c,λl hl=>(JO r n c b).span h (s.iff.mp (S3 hl))⟩⟩
end St
end
section
namespace St
open Lat
def wts(n:Nat)(W:aA)(b:Vec):Vec:=λi=>sm n (λk=>ent W i k*b k)
def pair(A W:aA):aA:=ce (·++·) A W
theorem S5{A W:aA}(h:A.length=W.length):(pair A W).length=A.length:=by unfold pair;rw[vW];rfl'
theorem z2a{A W:aA}{i:Nat}(h:i<A.length)(h':i<W.length):(pair A W).getD i []=A.getD i []++W.getD i []:=by
 simp[pair,au,uX,wa h,wa h']
theorem Dg{r n:Nat}{A W:aA}(ha:∀x∈A,x.length=r){i:Nat}(h:i<A.length)(h':i<W.length)(k:Nat):ent (pair A W) i k=if k<r then ent A i k else ent W i (k-r):=by
 unfold ent;rw[z2a h h',Eg (ha _ (G7 h))]
theorem NF{r n:Nat}{A W:aA}(ha:∀x∈A,x.length=r)(hw:∀x∈W,x.length=n):∀x∈pair A W,x.length=r+n:=λx hx=>by
 obtain⟨i,hi,rfl⟩:=wH hx;simp only[pair,w0B,wB];rw[ha _ (vA _),hw _ (vA _)]
theorem Di{r n:Nat}{A W:aA}{b:Vec}(ha:∀x∈A,x.length=r)(hl:A.length=W.length)(c:Vec)(l:Nat)(h:l<A.length):fun_ r n c b (λk=>ent (pair A W) l k)=wts n W b l-sm r (λj=>c j*ent A l j):=by
 unfold fun_ wts;rw[w6 (g:=λk=>ent W l k*b k) λk _=>by show ent (pair A W) l (r+k)*b k=_;rw[Dg (n:=n) ha h (by rfl'),aw (by rfl'),show r+k-r=k by rfl']];rw[w6 (m:=r) (g:=λj=>c j*ent A l j) λj hj=>by show c j*ent (pair A W) l j=_;rw[Dg (n:=n) ha h (by rfl'),ar hj]]
theorem YH{r n:Nat}{A W:aA}{b:Vec}(ha:∀x∈A,x.length=r)(hl:A.length=W.length):EqP r n (pair A W) b↔Span (vecs (trn r A)) (wts n W b):=by
 rw[W3 ha];have e:=Di (r:=r) (n:=n) (b:=b) ha hl;constructor
 .rintro⟨c,h⟩;refine⟨c,λk=>?_⟩;by_cases hk:k<A.length
  .have:=h k (by rw[S5 hl];exact hk);rw[e c k hk]at this;rfl'
  .rw[show wts n W b k=0 from A8 λj _=>by rw[C5 (by rfl')];simp];exact(A8 λj _=>by rw[C5 (by rfl')];simp).symm
 .rintro⟨c,h⟩;refine⟨c,λl hl'=>?_⟩;rw[S5 hl]at hl';rw[e c l hl',h l];rfl'
theorem Um{r:Nat}{w:Int}{B:aA}(h:S4 r w B){u:Vec}(hu:∀k,r<=k->u k=0):Span (vecs B) (λk=>w*u k):=by
 have key:∀ m,m≤r→Span (vecs B) (fun k=>if k<m then w*u k else 0):=fun m=>by
   induction m with
   |zero=>intro _;exact Span.congr (λk=>by simp) Span.zero
   |succ m ih=>
    intro hm;refine Span.congr (λk=>?_) ((ih (by rfl')).add ((h m (by rfl')).smul (u m)));by_cases e:k=m
    .subst e;rw[aw (by rfl'),ar (by rfl')];simp[pt,wN]
    .simp only[pt,aw e];by_cases q:k<m
     .rw[ar q,ar (by rfl')];simp
     .rw[aw q,aw (by rfl')];simp
 refine Span.congr (λk=>?_) (key r (wv _));by_cases q:k<r
 .rw[ar q]
 .rw[aw q,hu k (by rfl')];simp
theorem z0p{r:Nat}{P:aA}{v:Vec}(s:Span (vecs P) v):Span (vecs (P.map (·.take r))) (λk=>if k<r then v k else 0):=by
 obtain⟨c,h⟩:=G8.mp s;refine G8.mpr ⟨c,λk=>?_⟩;have e:∀i,ent (P.map (·.take r)) i k=if k<r then ent P i k else 0:=λi=>by
   by_cases hi:i<P.length
   .unfold ent;rw[show(P.map (·.take r)).getD i []=(P.getD i []).take r by simp[au,wa hi],L7]
   .rw[C5 (by simpa using ud hi),C5 (by rfl')];simp
 rw[wj];by_cases hk:k<r
 .rw[ar hk,h k];exact w6 λi _=>by rw[e,ar hk]
 .rw[aw hk];exact(A8 λi _=>by rw[e,aw hk];simp).symm
theorem Eh{r:Nat}{P S:aA}(s:SameSpan (vecs P) (vecs S)):SameSpan (vecs (P.map (·.take r))) (vecs (S.map (·.take r))):=by
 have one:∀{P S:aA},SameSpan (vecs P) (vecs S)->∀x∈P.map (·.take r),Span (vecs (S.map (·.take r))) (λk=>at0 x k):=λ{P S}s x hx=>by
  obtain⟨y,hy,rfl⟩:=wg.mp hx;exact Span.congr (λk=>by rw[L7]) (z0p (r:=r) (s.iff.mp (u4 hy)))
 exact Ef (one s) (one s.symm)
theorem Ei{r:Nat}{A W:aA}(ha:∀x∈A,x.length=r)(hl:A.length=W.length):(pair A W).map (·.take r)=A:=by
 refine ue (by rw[wj,S5 hl]) λi h1 h2=>?_;simp only[pair,List.getElem_map,w0B];rw[w1l (ha _ (vA _))]
theorem RV{r:Nat}(S:aA):pair (S.map (·.take r)) (S.map (·.drop r))=S:=by
 induction S with
 |nil=>rfl
 |cons x S ih=>show(x.take r++x.drop r)::_=_;rw[List.take_append_drop];congr 1
theorem z2b{r N:Nat}{S:aA}(h:∀x∈S,b7 x<r):tops r S=S.map (·.take r):=by
 unfold tops;congr 1;exact List.filter_eq_self.mpr λx hx=>aM (h x hx)
structure Mst(r n:Nat)(w:Int)(G K A W:aA):Prop where
 sq:Sq r A
 wl:W.length=r
 wr:∀x∈W,x.length=n
 whole:S4 r w (trn r A)
 ker:∀b:Vec,(∀k,n<=k->b k=0)->(Span (vecs G) b↔(∀j,j<K.length->wts n K b j=0)/\Span (vecs (trn r A)) (wts n W b))
 onto:∀ζ κ:Vec,∃b:Vec,(∀k,n<=k->b k=0)/\(∀j,j<K.length->wts n K b j=κ j)/\Span (vecs (trn r A)) (λi=>wts n W b i-if i<r then ζ i else 0)
variable {r n:Nat}{w:Int}{G K A W T S W':aA}
theorem Mst.rest(m:Mst r n w G K A W)(hl:W'.length=r)(hr:∀x∈W',x.length=n)(q:Nat->Nat->Int)(e:∀i k,i<r->ent W' i k=ent W i k-w*q i k):Mst r n w G K A W':=by
 have key:∀b:Vec,Span (vecs (trn r A)) (λi=>wts n W b i-wts n W' b i):=λb=>by
   refine Span.congr (λi=>?_) (Um m.whole (u:=λi=>if i<r then sm n (λk=>q i k*b k) else 0) λk hk=>by simp;rfl');by_cases hi:i<r
   .unfold wts;rw[ar hi,<-KT,<-U0];exact w6 λk _=>by rw[e i k hi,w0z,vQ];rfl'
   .have z1:wts n W b i=0:=A8 λk _=>by rw[C5 (by rw[m.wl];rfl')];simp
    have z2:wts n W' b i=0:=A8 λk _=>by rw[C5 (by rfl')];simp
    rw[aw hi,z1,z2];simp
 refine⟨m.sq,hl,hr,m.whole,λb hb=>?_,λζ κ=>?_⟩
 .rw[m.ker b hb];refine and_congr_right λ_=>⟨λh=>Span.congr (λi=>by rfl') (h.sub (key b)),λh=>Span.congr (λi=>by rfl') (h.add (key b))⟩
 .obtain⟨b,h1,h2,h3⟩:=m.onto ζ κ;exact⟨b,h1,h2,Span.congr (λi=>by rfl') (h3.sub (key b))⟩
theorem Mst.step(m:Mst r n w G K A W)(t:Sq r T)(sT:SameSpan (vecs T) (vecs (trn r A)))(As:Asc (r+n) 0 S)(Fs:Form 0 (F3 S))(sl:S.length=r)(sh:∀x∈S,b7 x<r)(ss:SameSpan (vecs S) (vecs (pair (trn r T) W))):
   Mst r n w G K (S.map (·.take r)) (S.map (·.drop r)):=by
 have et:tops r S=S.map (·.take r):=z2b (N:=0) sh;obtain⟨a1,a2⟩:=KS As (show r<=r+n by rfl');rw[et]at a1 a2;have sq:Sq r (S.map (·.take r)):=⟨a1,by rw[<-et];exact NB As Fs (by rfl'),by rw[wj,sl]⟩;have cl:(trn r T).length=r:=D7 _ _;have cr:∀x∈trn r T,x.length=r:=λx hx=>by rw[Y3 hx,t.len]
 have tt:trn r (trn r T)=T:=z52 t.rows t.len;have dr:∀x∈S.map (·.drop r),x.length=n:=λx hx=>by
   obtain⟨y,hy,rfl⟩:=wg.mp hx;rw[vd,(As.mem hy).1];rfl'
 have hs:=Eh (r:=r) ss;rw[Ei cr (by rw[cl,m.wl])]at hs;have wT:S4 r w T:=λi hi=>sT.iff.mpr (m.whole i hi);have wC:=t.comm wT;have wA:S4 r w (S.map (·.take r)):=λi hi=>hs.iff.mpr (wC i hi);have eq:∀y,Span (vecs (trn r A)) y↔Span (vecs (trn r (trn r T))) y:=λy=>by rw[tt];exact sT.symm.iff
 have pc:=RV (r:=r) S;refine⟨sq,by rw[wj,sl],dr,sq.comm wA,λb hb=>?_,λζ κ=>?_⟩
 .rw[m.ker b hb];refine and_congr_right λ_=>?_;rw[eq,<-YH (n:=n) cr (by rw[cl,m.wl]),<-YH (n:=n) sq.rows (by simp),pc];exact EqP.same ss.symm
 .obtain⟨z,hz⟩:=lift ss.symm As ζ;obtain⟨b,h1,h2,h3⟩:=m.onto z κ;refine⟨b,h1,h2,?_⟩;obtain⟨c,hc⟩:=(W3 cr).mp ((eq _).mp h3);have pl:(pair (trn r T) W).length=r:=by rw[S5 (by rw[cl,m.wl]),cl]
  have:=hz (fun_ r n c b) (JO r n c b) λl hl=>by
    rw[pl]at hl;have e:=hc l;rw[ar hl]at e;rw[Di cr (by rw[cl,m.wl]) c l (by rfl')];rfl'
  refine(W3 sq.rows).mpr ⟨c,λi=>?_⟩;by_cases hi:i<r
  .have e:=this i (by rfl');rw[<-pc]at e;rw[Di sq.rows (by simp) c i (by rw[sq.len];exact hi)]at e;rw[ar hi];rfl'
  .rw[aw hi,show wts n (S.map (·.drop r)) b i=0 from A8 λk _=>by rw[C5 (by simp[sl];rfl')];simp];rw[A8 λj _=>by rw[C5 (by rw[sq.len];rfl')];simp];rfl
end St
end
section
namespace St
open Lat
def pr(A:aA):Nat->Int
 |0=>1
 |k+1=>pr A k*ent A k k
theorem z2c{T:List Vec}{R:Nat->Vec}(c:Nat->Int):∀m,(∀j,j<m->Span T (R j))->Span T (λk=>sm m (λj=>c j*R j k)):=by
 intro m
 induction m generalizing c R with
 |zero=>intro _;exact Span.zero
 |succ m ih=>intro h;exact((h 0 (by rfl')).smul (c 0)).add (ih (R:=λj=>R (j+1)) (λj=>c (j+1)) λj hj=>h (j+1) (by rfl'))
theorem RW{D:aA}(hl:∀i j,i<j->ent D i j=0):∀i,i<=D.length->∀j,j<i->Span (vecs D) (pt j (pr D i)):=by
 intro i
 induction i with
 |zero=>intro _ j hj;rfl'
 |succ i ih=>
  intro hi j hj;have ih:=ih (by rfl');by_cases e:j<i
  .refine Span.congr (λk=>?_) ((ih j e).smul (ent D i i));simp only[pt,pr];split
   .exact wN _ _
   .simp
  .have e:j=i:=by rfl'
   subst e;refine Span.congr (λk=>?_) (((S3 (A:=D) (i:=j) (by rfl')).smul (pr D j)).sub (z2c (R:=λl=>pt l (pr D j)) (λl=>ent D j l) j ih));by_cases h1:k<j
   .rw[R9 h1 λl _ hn=>by simp only[pt];rw[aw (by rfl')];simp];simp only[pt,if_true];rw[aw (by rfl'),wN];rfl'
   .rw[A8 λl hl=>by simp only[pt];rw[aw (by rfl')];simp];by_cases h2:k=j
    .subst h2;simp[pt,pr]
    .rw[hl j k (by rfl')];simp[pt,h2]
theorem RX{A B:aA}:∀{k:Nat},(∀i,i<k->ent A i i=ent B i i)->pr A k=pr B k
 |0,_=>rfl
 |k+1,h=>by rw[pr,pr,RX λi hi=>h i (by rfl'),h k (by rfl')]
theorem Uo{A:aA}:∀{k:Nat},(∀i,i<k->0<ent A i i)->0<pr A k
 |0,_=>by show(0:Int)<1;decide
 |k+1,h=>by rw[pr];exact w0C (Uo λi hi=>h i (by rfl')) (h k (by rfl'))
variable {r n:Nat}{w:Int}{G K A W T S:aA}
theorem Sq.prod(q:Sq r A):S4 r (pr A r) (trn r A):=λi hi=>by
 have:=RW (D:=trn r A) (λi j h=>by rw[L1 q.rows];exact q.low h) r (by rw[D7];exact wv _) i hi;rw[RX (B:=A) λi _=>by rw[L1 q.rows]]at this;exact this
theorem Sq.below(q:Sq r A)(h:S4 r w (trn r A)):Below r r w (trn r A) where
 len:=D7 _ _
 wid:=wv _
 rows x hx:=by rw[Y3 hx,q.len]
 pos i hi:=by rw[L1 q.rows];have:=q.pos hi;rfl'
 low i j h1 h2:=by rw[L1 q.rows];exact q.low h1
 whole i hi:=⟨_,h i hi,by simp[pt],λk _ hn=>by simp[pt,hn]⟩
theorem Sq.below_pair(t:Sq r T)(h:S4 r w (trn r T))(wl:W.length=r)(wr:∀x∈W,x.length=n):Below r (r+n) w (pair (trn r T) W):=by
 have B:=t.below h;have pl:(pair (trn r T) W).length=r:=by rw[S5 (by rw[B.len,wl]),B.len]
 have e:∀i k,i<r->k<r->ent (pair (trn r T) W) i k=ent (trn r T) i k:=λi k hi hk=>by
   rw[Dg (n:=n) B.rows (by rw[B.len];exact hi) (by rfl'),ar hk]
 refine⟨pl,by rfl',NF B.rows wr,λi hi=>by rw[e i i hi hi];exact B.pos i hi,λi j h1 h2=>by rw[e i j (by rfl') h2];exact B.low i j h1 h2,λi hi=>?_⟩;obtain⟨c,hc⟩:=G8.mp (h i hi);rw[D7]at hc;refine⟨λk=>sm r (λl=>c l*ent (pair (trn r T) W) l k),G8.mpr ⟨c,λk=>by rw[pl]⟩,?_,λk hk hn=>?_⟩
 .show sm r (λl=>c l*ent (pair (trn r T) W) l i)=w;rw[w6 (g:=λl=>c l*ent (trn r T) l i) λl hl=>by rw[e l i hl hi],<-hc i];simp[pt]
 .show sm r (λl=>c l*ent (pair (trn r T) W) l k)=0;rw[w6 (g:=λl=>c l*ent (trn r T) l k) λl hl=>by rw[e l k hl hk],<-hc k];simp[pt,hn]
theorem z2d:∀{R:aA}{cs:aG}(k:Nat),cs.length=R.length->mix R cs k=sm R.length (λi=>at0 cs i*ent R i k)
 |[],[],_,_=>rfl
 |x::R,c::cs,k,h=>by
  rw[mix,wo,sm];show c*at0 x k+mix R cs k=_;rw[z2d k (by simpa using h)];rfl
theorem Below.ind{N:Nat}{P:aA}(B:Below r N w P):Ind P:=λcs hl hz c hc=>by
 have z:=GJ (m:=r) (a:=0) (c:=λi=>at0 cs i) (D:=λl j=>ent P l j) B.pos B.low λj _ _=>by
  have:=hz j;rw[z2d j hl,B.len]at this;exact this
 obtain⟨i,hi,rfl⟩:=wH hc;have e:=z (r-i) i (by rw[hl,B.len]at hi;rfl') (by rfl') (by rw[hl,B.len]at hi;exact hi);simpa[at0,au,wa hi]using e
theorem Below.full{N:Nat}{P:aA}(B:Below r N w P)(As:Asc N 0 S)(ss:SameSpan (vecs S) (vecs P)):∀x∈S,b7 x<r/\hd x∣w:=λx hx=>
 B.heads (wv r) As (by rw[show P.take r=P by rw[<-B.len];exact w13];exact ss) hx
def units(n:Nat):aA:=(av n).map (O1 n)
theorem R0(n:Nat):(units n).length=n:=by simp[units]
theorem z0q(n:Nat):∀x∈units n,x.length=n:=λx hx=>by obtain⟨i,_,rfl⟩:=wg.mp hx;exact NA n i
theorem Ia{i k:Nat}(hi:i<n):ent (units n) i k=if k=i/\k<n then 1 else 0:=by
 unfold ent units;rw[show((av n).map (O1 n)).getD i []=O1 n i by simp[au,hi],GH]
theorem z0r{f:Nat}(As:Asc r f T)(h:∀i,i<r->∃x∈T,b7 x=i):r<=T.length:=by
 have:=Ba (l:=av r) (m:=T.map b7) id List.nodup_range (λx _ y _ e=>e) λi hi=>by
  obtain⟨x,hx,e⟩:=h i (wO.mp hi);exact wg.mpr ⟨x,hx,e⟩
 simpa using this
theorem start(Ag:Asc n 0 G)(gl:G.length=r)(As:Asc (r+n) 0 S)(Fs:Form 0 (F3 S))(sl:S.length=n)(ss:SameSpan (vecs S) (vecs (pair (trn n G) (units n)))):
   ∃W,S.filter (λx=>decide (b7 x<r))=S.take r/\W=(S.take r).map (·.drop r)/\(bots r S).length=n-r/\Mst r n (pr (tops r S) r) G (bots r S) (tops r S) W/\tops r S=(S.take r).map (·.take r)/\r<=n:=by
 have gr:∀x∈G,x.length=n:=λx hx=>(Ag.mem hx).1;have rn:r<=n:=by have:=Ce Ag (wQ _);rfl'
 have cr:∀x∈trn n G,x.length=r:=λx hx=>by rw[Y3 hx,gl]
 have cl:(trn n G).length=n:=D7 _ _;obtain⟨a1,a2⟩:=KS As (show r<=r+n by rfl');have hs:=Eh (r:=r) ss;rw[Ei cr (by rw[cl,R0])]at hs;have cover:∀i,i<r->∃x∈tops r S,b7 x=i:=λi hi=>by
   let D:aA:=(av r).map λi=>(trn n G).getD (b7 (G.getD i [])) [];have dl:D.length=r:=by simp[D]
   have de:∀i j,i<r->ent D i j=ent G j (b7 (G.getD i [])):=λi j hi=>by
     have:D.getD i []=(trn n G).getD (b7 (G.getD i [])) []:=by simp[D,au,hi]
     rw[<-L1 gr];unfold ent;rw[this]
   have low:∀i j,i<j->ent D i j=0:=λi j h=>by
     by_cases hi:i<r
     .rw[de i j hi];by_cases hj:j<r
      .exact v9 _ _ (Ul Ag h (by rw[gl];exact hj))
      .exact C5 (by rw[gl];rfl') _
     .exact C5 (by rw[dl];rfl') _
   have sp:=RW low r (by rw[dl];exact wv _) i hi;have pos:0<pr D r:=Uo λi hi=>by
     rw[de i i hi];exact(GE Ag (k:=i) (by rw[gl];exact hi)).2.2.2
   have sp2:Span (vecs (trn n G)) (pt i (pr D r)):=Span.trans (λv hv=>by
     obtain⟨x,hx,rfl⟩:=wg.mp hv;obtain⟨j,hj,rfl⟩:=wg.mp hx;have hj:=wO.mp hj;exact u4 (G7 (by rw[cl];exact(GE Ag (k:=j) (by rw[gl];exact hj)).2.2.1))) sp
   have sp3:=hs.iff.mpr sp2;have sp4:Span (vecs (tops r S)) (pt i (pr D r)):=by
     refine Span.trans (λv hv=>?_) sp3;obtain⟨x,hx,rfl⟩:=wg.mp hv;obtain⟨y,hy,rfl⟩:=wg.mp hx;exact Span.congr (λk=>by simp only[vec];rw[L7]) (NC (n:=r) As (u4 hy))
   exact Asc.first a1 sp4 (λk hk=>by simp[pt];rfl') (by simp[pt];rfl')
 have tl:(tops r S).length=r:=by
   have h1:=z0r a1 cover;have h2:=Ce a1 (wQ _);rfl'
 have fl:(S.filter λx=>decide (b7 x<r)).length=r:=by rw[<-a2];exact tl
 have sp:=KR As (n:=r);have tk:S.filter (λx=>decide (b7 x<r))=S.take r:=by
   have:=bI (List.take r) sp;rw[w1l fl]at this;exact this.symm
 have dk:S.filter (λx=>!decide (b7 x<r))=S.drop r:=by
   have:=bI (List.drop r) sp;rw[List.drop_left' fl]at this;exact this.symm
 have te:tops r S=(S.take r).map (·.take r):=by unfold tops;rw[tk]
 have be:bots r S=(S.drop r).map (·.drop r):=by unfold bots;rw[dk]
 have bl:(bots r S).length=n-r:=by rw[be,wj,vd,sl]
 have sq:Sq r (tops r S):=⟨a1,NB As Fs (by rfl'),tl⟩;have hS:∀i,i<r->∀k,ent S i k=ent (pair (tops r S) ((S.take r).map (·.drop r))) i k:=λi hi k=>by
   rw[te,RV,KU hi]
 have wl:((S.take r).map (·.drop r)).length=r:=by rw[wj,vI,sl];rfl'
 have zl:∀j,j<n-r->∀k,k<r->ent S (r+j) k=0:=λj hj k hk=>by
   have m:S.getD (r+j) []∈S.filter (λx=>!decide (b7 x<r)):=by
     rw[dk,show S.getD (r+j) []=(S.drop r).getD j [] by simp[au,uM]];exact G7 (by rw[vd,sl];exact hj)
   have:=(vm.mp m).2;rw[w0Q,decide_eq_false_iff_not]at this;exact v9 _ _ (by rfl')
 have bk:∀j,j<n-r->∀k,ent S (r+j) (r+k)=ent (bots r S) j k:=λj hj k=>by
   rw[be];unfold ent;rw[show((S.drop r).map (·.drop r)).getD j []=(S.getD (r+j) []).drop r by simp[au,uM,wa (show r+j<S.length by rfl')],W1]
 have fb:∀(c b:Vec)(j:Nat),j<n-r->fun_ r n c b (λk=>ent S (r+j) k)=wts n (bots r S) b j:=λc b j hj=>by
   unfold fun_ wts;rw[w6 (g:=λk=>ent (bots r S) j k*b k) λk _=>by show ent S (r+j) (r+k)*b k=_;rw[bk j hj],A8 (m:=r) λk hk=>by show c k*ent S (r+j) k=0;rw[zl j hj k hk];simp];rfl'
 have fa:∀(c b:Vec)(i:Nat),i<r->fun_ r n c b (λk=>ent S i k)=wts n ((S.take r).map (·.drop r)) b i-sm r (λj=>c j*ent (tops r S) i j):=λc b i hi=>by
   rw[show(λk=>ent S i k)=λk=>ent (pair (tops r S) ((S.take r).map (·.drop r))) i k from funext (hS i hi)];exact Di sq.rows (by rw[tl,wl]) c i (by rw[tl];exact hi)
 have fp:∀(c b:Vec)(l:Nat),l<n->fun_ r n c b (λk=>ent (pair (trn n G) (units n)) l k)=b l-sm r (λj=>c j*ent G j l):=λc b l hl=>by
   rw[Di cr (by rw[cl,R0]) c l (by rw[cl];exact hl)];congr 1
   .unfold wts;rw[R9 hl λk _ hn=>by rw[Ia hl,aw (by rfl')];simp,Ia hl,ar ⟨rfl,hl⟩];simp
   .exact w6 λj _=>by rw[L1 gr]
 have pl:(pair (trn n G) (units n)).length=n:=by rw[S5 (by rw[cl,R0]),cl]
 refine⟨_,tk,rfl,bl,⟨sq,wl,λx hx=>?_,sq.prod,λb hb=>?_,λζ κ=>?_⟩,te,rn⟩
 .obtain⟨y,hy,rfl⟩:=wg.mp hx;rw[vd,(As.mem (uC hy)).1];rfl'
 .have e1:Span (vecs G) b↔EqP r n (pair (trn n G) (units n)) b:=by
    rw[G8,gl];constructor
    .rintro⟨c,h⟩;exact⟨c,λl hl=>by rw[fp c b l (by rfl'),h l];rfl'⟩
    .rintro⟨c,h⟩;refine⟨c,λk=>?_⟩;by_cases hk:k<n
     .have:=h k (by rfl');rw[fp c b k hk]at this;rfl'
     .rw[hb k (by rfl')];exact(A8 λj _=>by rw[Pf gr (by rfl')];simp).symm
  rw[e1,EqP.same ss.symm,bl,W3 sq.rows];constructor
  .rintro⟨c,h⟩;refine⟨λj hj=>by rw[<-fb c b j hj];exact h _ (by rfl'),c,λk=>?_⟩;by_cases hk:k<r
   .have:=h k (by rfl');rw[fa c b k hk]at this;rfl'
   .rw[show wts n ((S.take r).map (·.drop r)) b k=0 from A8 λj _=>by rw[C5 (by rw[wl];rfl')];simp];exact(A8 λj _=>by rw[C5 (by rw[tl];rfl')];simp).symm
  .rintro⟨h1,c,h2⟩;refine⟨c,λl hl=>?_⟩;by_cases hk:l<r
   .rw[fa c b l hk,h2 l];rfl'
   .have:=h1 (l-r) (by rfl');rw[<-fb c b (l-r) (by rfl'),show r+(l-r)=l by rfl']at this;exact this
 .obtain⟨z,hz⟩:=lift ss.symm As (λi=>if i<r then ζ i else κ (i-r));have:=hz (fun_ r n (λ_=>0) (λk=>if k<n then z k else 0)) (JO _ _ _ _) λl hl=>by
    rw[fp _ _ l (by rfl'),ar (by rfl'),A8 λj _=>by simp];rfl'
  refine⟨λk=>if k<n then z k else 0,λk hk=>aw (by rfl'),λj hj=>?_,?_⟩
  .have e:=this (r+j) (by rfl');rw[fb _ _ j (by rfl'),aw (by rfl'),show r+j-r=j by rfl']at e;exact e
  .refine Span.congr (λi=>?_) Span.zero;by_cases hi:i<r
   .have e:=this i (by rfl');rw[fa _ _ i hi,ar hi,A8 λj _=>by simp]at e;rw[ar hi];rfl'
   .rw[aw hi,show wts n ((S.take r).map (·.drop r)) _ i=0 from A8 λj _=>by rw[C5 (by rw[wl];rfl')];simp];rfl
end St
end
section
namespace St
open Lat
abbrev Meas:=List (Row×Int)
def mw(M:Meas)(i:Nat):Row:=(M.getD i ([],0)).1
def mp(M:Meas)(i:Nat):Int:=(M.getD i ([],0)).2
def dt(n:Nat)(w:Row)(b:Vec):Int:=sm n (λk=>at0 w k*b k)
structure Ms(n:Nat)(G:aA)(M:Meas):Prop where
 rows:∀x∈M,x.1.length=n
 ker:∀b:Vec,(∀k,n<=k->b k=0)->(Span (vecs G) b↔∀i,i<M.length->mp M i∣dt n (mw M i) b)
 onto:∀ζ:Vec,∃b:Vec,(∀k,n<=k->b k=0)/\∀i,i<M.length->mp M i∣dt n (mw M i) b-ζ i
variable {n:Nat}{G:aA}{M M':Meas}
theorem Ms.rest(m:Ms n G M)(hr:∀x∈M',x.1.length=n)(hl:M'.length=M.length)(hp:∀i,i<M.length->mp M' i=mp M i)(hd:∀i,i<M.length->∀b:Vec,mp M i∣dt n (mw M' i) b-dt n (mw M i) b):Ms n G M':=by
 refine⟨hr,λb hb=>?_,λζ=>?_⟩
 .rw[m.ker b hb,hl];refine forall_congr' λi=>forall_congr' λhi=>?_;rw[hp i hi];have:=hd i hi b;constructor
  .intro h;have:=w1g this h;rwa [Int.sub_add_cancel]at this
  .intro h;have:=Int.dvd_sub h this;rwa [show dt n (mw M' i) b-(dt n (mw M' i) b-dt n (mw M i) b)=dt n (mw M i) b by rfl']at this
 .obtain⟨b,h1,h2⟩:=m.onto ζ;refine⟨b,h1,λi hi=>?_⟩;rw[hl]at hi;rw[hp i hi];have:=w1g (hd i hi b) (h2 i hi)
  rwa [show dt n (mw M' i) b-dt n (mw M i) b+(dt n (mw M i) b-ζ i)=dt n (mw M' i) b-ζ i by rfl']at this
theorem Ms.link(m:Ms n G M){p q:Nat}{g f1 f2 a b:Int}(hp:p<M.length)(hq:q<M.length)(hn:p≠q)(ea:mp M p=g*a)(eb:mp M q=g*b)(hg:g≠0)(e1:f1*a+f2*b=1)
   (hr:∀x∈M',x.1.length=n) (hl:M'.length=M.length) (ho:∀i,i≠p->i≠q->mp M' i=mp M i/\mw M' i=mw M i) (hp1:mp M' p=g) (hq1:mp M' q=a*(g*b))
   (hp2:∀v:Vec,g∣dt n (mw M' p) v-(dt n (mw M p) v+dt n (mw M q) v)) (hq2:∀v:Vec,a*(g*b)∣dt n (mw M' q) v-(-(f2*b)*dt n (mw M p) v+f1*a*dt n (mw M q) v)):Ms n G M':=by
 have key:∀X Y U V:Int,g∣U-(X+Y)->a*(g*b)∣V-(-(f2*b)*X+f1*a*Y)->((g*a∣X/\g*b∣Y)↔(g∣U/\a*(g*b)∣V)):=by
   rintro X Y U V ⟨u,hu⟩ ⟨v,hv⟩;constructor
   .rintro⟨⟨x,rfl⟩,⟨y,rfl⟩⟩;exact⟨⟨u+a*x+b*y,by grind⟩,⟨v-f2*x+f1*y,by grind⟩⟩
   .rintro⟨⟨x,rfl⟩,⟨y,rfl⟩⟩;refine⟨⟨f1*(x-u)-b*(y-v),?_⟩,⟨f2*(x-u)+a*(y-v),?_⟩⟩
    .grind
    .grind
 refine⟨hr,λb' hb=>?_,λζ=>?_⟩
 .rw[m.ker b' hb,hl];have k:=key (dt n (mw M p) b') (dt n (mw M q) b') (dt n (mw M' p) b') (dt n (mw M' q) b') (hp2 b') (hq2 b');constructor
  .intro h i hi;have:=k.mp ⟨by rw[<-ea];exact h p hp,by rw[<-eb];exact h q hq⟩;by_cases i1:i=p
   .subst i1;rw[hp1];exact this.1
   .by_cases i2:i=q
    .subst i2;rw[hq1];exact this.2
    .rw[(ho i i1 i2).1,(ho i i1 i2).2];exact h i hi
  .intro h i hi;have:=k.mpr ⟨by rw[<-hp1];exact h p hp,by rw[<-hq1];exact h q hq⟩;by_cases i1:i=p
   .subst i1;rw[ea];exact this.1
   .by_cases i2:i=q
    .subst i2;rw[eb];exact this.2
    .have:=h i hi;rw[(ho i i1 i2).1,(ho i i1 i2).2]at this;exact this
 .obtain⟨v,h1,h2⟩:=m.onto λi=>if i=p then f1*a*ζ p-ζ q else if i=q then f2*b*ζ p+ζ q else ζ i
  refine⟨v,h1,λi hi=>?_⟩;have x1:=h2 p hp;rw[ar rfl,ea]at x1;have x2:=h2 q hq;rw[aw (by rfl'),ar rfl,eb]at x2;have k:=(key (dt n (mw M p) v-(f1*a*ζ p-ζ q)) (dt n (mw M q) v-(f2*b*ζ p+ζ q)) (dt n (mw M' p) v-ζ p) (dt n (mw M' q) v-ζ q)
    (by have:=hp2 v;rwa [show dt n (mw M' p) v-ζ p-(dt n (mw M p) v-(f1*a*ζ p-ζ q)+(dt n (mw M q) v-(f2*b*ζ p+ζ q)))=dt n (mw M' p) v-(dt n (mw M p) v+dt n (mw M q) v) by grind])
    (by have:=hq2 v;rwa [show dt n (mw M' q) v-ζ q-(-(f2*b)*(dt n (mw M p) v-(f1*a*ζ p-ζ q))+f1*a*(dt n (mw M q) v-(f2*b*ζ p+ζ q)))=dt n (mw M' q) v-(-(f2*b)*dt n (mw M p) v+f1*a*dt n (mw M q) v) by grind])).mp ⟨x1,x2⟩
  by_cases i1:i=p
  .subst i1;rw[hp1];exact k.1
  .by_cases i2:i=q
   .subst i2;rw[hq1];exact k.2
   .have:=h2 i (by rfl');rw[aw i1,aw i2]at this;rw[(ho i i1 i2).1,(ho i i1 i2).2];exact this
theorem z53{g a b f1 f2 w:Int}(hg:g≠0)(e1:f1*a+f2*b=1)(h1:g*a∣w)(h2:g*b∣w):a*(g*b)∣w:=by
 obtain⟨s,hs⟩:=h1;obtain⟨t,ht⟩:=h2;exact⟨f1*t+f2*s,by grind⟩
theorem z54{p:Int}{x y:Row}{q:Nat->Int}(e:∀k,at0 x k=at0 y k-p*q k)(b:Vec):p∣dt n x b-dt n y b:=by
 refine⟨- sm n (λk=>q k*b k),?_⟩;unfold dt;rw[<-KT,w6 (g:=λk=>(-p)*(q k*b k)) λk _=>by rw[e k];grind,U0];grind
theorem Mst.meas{r:Nat}{w:Int}{K A W:aA}(m:Mst r n w G K A W)(hc:Clean r A)(kr:∀x∈K,x.length=n)(M:Meas)(hl:M.length=r+K.length)(h1:∀i,i<r->mw M i=W.getD i []/\mp M i=ent A i i)(h2:∀j,j<K.length->mw M (r+j)=K.getD j []/\mp M (r+j)=0):Ms n G M:=by
 have sp:∀y:Vec,(∀k,r<=k->y k=0)->(Span (vecs (trn r A)) y↔∀i,i<r->ent A i i∣y i):=λy hy=>by
   rw[W3 m.sq.rows];constructor
   .rintro⟨c,h⟩ i hi;rw[h i,R9 hi λk _ hn=>by rw[hc i hi k hn];simp];exact⟨c i,wN _ _⟩
   .intro h;refine⟨λi=>y i/ent A i i,λk=>?_⟩;by_cases hk:k<r
    .rw[R9 hk λj _ hn=>by rw[hc k hk j hn];simp];exact(Int.ediv_mul_cancel (h k hk)).symm
    .rw[hy k (by rfl')];exact(A8 λj _=>by rw[C5 (by rw[m.sq.len];rfl')];simp).symm
 have wz:∀b k,r<=k->wts n W b k=0:=λb k hk=>A8 λj _=>by rw[C5 (by rw[m.wl];exact hk)];simp
 have d1:∀b i,i<r->dt n (mw M i) b=wts n W b i:=λb i hi=>by rw[(h1 i hi).1];rfl
 have d2:∀b j,j<K.length->dt n (mw M (r+j)) b=wts n K b j:=λb j hj=>by rw[(h2 j hj).1];rfl
 refine⟨λx hx=>?_,λb hb=>?_,λζ=>?_⟩
 .obtain⟨i,hi,rfl⟩:=wH hx;have e:M[i].1=mw M i:=by simp[mw,au,wa hi]
  rw[e];by_cases q:i<r
  .rw[(h1 i q).1];exact m.wr _ (G7 (by rw[m.wl];exact q))
  .rw[show i=r+(i-r) by rfl',(h2 (i-r) (by rfl')).1];exact kr _ (G7 (by rfl'))
 .rw[m.ker b hb,sp _ (wz b),hl];constructor
  .rintro⟨a1,a2⟩ i hi;by_cases q:i<r
   .rw[(h1 i q).2,d1 b i q];exact a2 i q
   .rw[show i=r+(i-r) by rfl',(h2 (i-r) (by rfl')).2,d2 b _ (by rfl'),a1 _ (by rfl')];exact w0U 0
  .intro h;refine⟨λj hj=>?_,λi hi=>?_⟩
   .have:=h (r+j) (by rfl');rw[(h2 j hj).2,d2 b j hj]at this;exact w0V.mp this
   .have:=h i (by rfl');rw[(h1 i hi).2,d1 b i hi]at this;exact this
 .obtain⟨b,b1,b2,b3⟩:=m.onto ζ (λj=>ζ (r+j));rw[sp _ λk hk=>by rw[wz b k hk,aw (by rfl')];rfl]at b3;refine⟨b,b1,λi hi=>?_⟩;by_cases q:i<r
  .have:=b3 i q;rw[ar q]at this;rw[(h1 i q).2,d1 b i q];exact this
  .have:=b2 (i-r) (by rfl');rw[show i=r+(i-r) by rfl',(h2 (i-r) (by rfl')).2,d2 b _ (by rfl'),this];simp
end St
end
section
namespace St
open Lat
theorem Ej:∀{n:Nat}{f:Nat->Nat}{t:aG},L6 ((av n).map f) t↔t.length=n/\∀i,i<n->0<=at0 t i/\at0 t i<f i:=by
 have key:∀(ns:List Nat) (t:List Int),L6 ns t↔t.length=ns.length∧∀ i,i<ns.length→0≤at0 t i∧at0 t i<(ns.getD i 0:Int):=by
  intro ns
  induction ns with
  |nil=>
   intro t;cases t with
   |nil=>simp[L6]
   |cons x t=>simp[L6]
  | cons a ns ih =>
   intro t;cases t with
   |nil=>simp[L6]
   |cons x t=>
    rw[L6,ih];constructor
    .rintro⟨h0,h1,h2,h3⟩;refine⟨by simp[h2],λi hi=>?_⟩;cases i with
     |zero=>exact⟨h0,h1⟩
     |succ i=>exact h3 i (by simpa using hi)
    .rintro⟨h2,h3⟩;have a:=h3 0 (by simp);exact⟨a.1,a.2,by simpa using h2,λi hi=>h3 (i+1) (by simpa using hi)⟩
 intro n f t;rw[key];simp only[wj,uz];refine and_congr_right λ_=>forall_congr' λi=>forall_congr' λhi=>?_;rw[show((av n).map f).getD i 0=f i by simp[au,hi]]
def mkr(n:Nat)(f:Nat->Int):Row:=(av n).map f
theorem YI(n:Nat)(f:Nat->Int):(mkr n f).length=n:=by simp[mkr]
theorem YJ{n:Nat}{f:Nat->Int}{k:Nat}(h:k<n):at0 (mkr n f) k=f k:=by simp[at0,mkr,au,h]
theorem RY{n:Nat}{f:Nat->Int}(hf:∀k,n<=k->f k=0)(k:Nat):at0 (mkr n f) k=f k:=by
 by_cases h:k<n
 .exact YJ h
 .rw[hf k (by rfl')];exact C9 (by rw[YI];rfl')
variable {n:Nat}{G:aA}{M:Meas}
end St
end
section
namespace St
open Lat
theorem RZ(l:fQ)(x:Nat):prod (l++[x])=prod l*x:=by
 induction l with
 |nil=>simp[prod]
 |cons a l ih=>rw[uZ,prod,prod,ih,vR]
theorem YK{A:aA}:∀{r:Nat},(∀i,i<r->0<ent A i i)->pr A r=(prod ((av r).map λi=>(ent A i i).toNat):Int)
 |0,_=>rfl
 |r+1,h=>by
  have:=h r (by rfl');rw[pr,YK λi hi=>h i (by rfl'),uK,vV,wq,w0N,RZ,Int.natCast_mul];congr 1;rfl'
theorem Sa{f:Nat->Nat}{e:Nat}:∀{r:Nat},(∀i,i<r->f i<=2^e)->prod ((av r).map f)<=2^(e*r)
 |0,_=>by simp[prod]
 |r+1,h=>by
  rw[uK,vV,wq,w0N,RZ,w0r,vB];exact vT (Sa λi hi=>h i (by rfl')) (h r (by rfl'))
variable {r:Nat}{A D:aA}
theorem z0s(dl:D.length=r)(low:∀i j,i<j->ent D i j=0)(pos:∀i,i<r->0<ent D i i):∀k,k<=r->∀t:Vec,(∀j,k<=j->t j=0) ->
  ∃x:Vec,(∀j,j<k->0<=x j/\x j<ent D j j)/\(∀j,k<=j->x j=0)/\Span (vecs D) (λj=>t j-x j):=by
 intro k
 induction k with
 |zero=>intro _ t ht;exact⟨λ_=>0,λj hj=>by rfl',λ_ _=>rfl,Span.congr (λj=>by rw[ht j (by rfl')];rfl) Span.zero⟩
 |succ k ih=>
  intro hk t ht;have p:=pos k (by rfl');obtain⟨f0,f1⟩:=HQ (t k) p;have sd:Span (vecs D) (λj=>ent D k j):=S3 (by rfl');obtain⟨x,x1,x2,x3⟩:=ih (by rfl') (λj=>if j<k then t j-(t k).fdiv (ent D k k)*ent D k j else 0) λj hj=>aw (by rfl');refine⟨λj=>if j=k then t k-(t k).fdiv (ent D k k)*ent D k k else x j,λj hj=>?_,λj hj=>?_,?_⟩
  .dsimp only;by_cases e:j=k
   .subst e;rw[ar rfl];exact⟨f0,f1⟩
   .rw[aw e];exact x1 j (by rfl')
  .dsimp only;rw[aw (by rfl')];exact x2 j (by rfl')
  .refine Span.congr (λj=>?_) (x3.add (sd.smul ((t k).fdiv (ent D k k))));dsimp only;by_cases e:j=k
   .subst e;rw[aw (by rfl'),ar rfl,x2 j (by rfl')];rfl'
   .rw[aw e];by_cases h:j<k
    .rw[ar h];rfl'
    .rw[aw h,low k j (by rfl'),ht j (by rfl')];simp
theorem Sq.prod_bound(q:Sq r A)(dl:D.length=r)(low:∀i j,i<j->ent D i j=0)(pos:∀i,i<r->0<ent D i i)(sp:∀x∈D,Span (vecs A) (λk=>at0 x k)):
   Lat.prod ((av r).map λi=>(ent A i i).toNat)<=Lat.prod ((av r).map λi=>(ent D i i).toNat):=by
 have sub:∀v,Span (vecs D) v->Span (vecs A) v:=λv hv=>Span.trans (λu hu=>by obtain⟨x,hx,rfl⟩:=wg.mp hu;exact sp x hx) hv;have ch:∀t:Row,t.length=r->∃x:Vec,(∀j,j<r->0<=x j/\x j<ent D j j)/\(∀j,r<=j->x j=0)/\Span (vecs D) (λj=>at0 t j-x j):=λt ht=>z0s dl low pos r (wv _) _ λj hj=>C9 (by rfl');have ch':∀t:Row,∃x:Vec,t.length=r->(∀j,j<r->0<=x j/\x j<ent D j j)/\(∀j,r<=j->x j=0)/\Span (vecs D) (λj=>at0 t j-x j):=λt=>by
   by_cases h:t.length=r
   .obtain⟨x,hx⟩:=ch t h;exact⟨x,λ_=>hx⟩
   .exact⟨λ_=>0,λh'=>aN h' h⟩
 refine YB (λt=>mkr r (vK (ch' t))) (λs t hs ht e=>?_) λs hs=>?_
 .obtain⟨sl,sb⟩:=Ej.mp hs;obtain⟨tl,tb⟩:=Ej.mp ht;obtain⟨s1,s2,s3⟩:=wP (ch' s) sl;obtain⟨t1,t2,t3⟩:=wP (ch' t) tl;generalize vK (ch' s)=b at e s1 s2 s3;generalize vK (ch' t)=c at e t1 t2 t3;have e:mkr r b=mkr r c:=e;have bc:∀k,b k=c k:=λk=>by
    have:=bI (λx=>at0 x k) e;simp only[RY s2,RY t2]at this;exact this
  have d:Span (vecs A) (λk=>at0 s k-at0 t k):=sub _ (Span.congr (λk=>by have:=bc k;rfl') (s3.sub t3));refine ext0 (by rfl') λk=>?_;have z:=Asc.small q.asc d (λx hx=>by
    obtain⟨j,hj,rfl⟩:=wH hx;have ej:A[j]=A.getD j []:=by simp[au,wa hj]
    rw[q.len]at hj;unfold hd;rw[ej,q.head hj];have a:=sb j hj;have b:=tb j hj;have p:=q.pos hj;show -(ent A j j)<at0 s j-at0 t j/\at0 s j-at0 t j<ent A j j;rfl') k
  rfl'
 .obtain⟨sl,sb⟩:=Ej.mp hs;obtain⟨s1,s2,s3⟩:=wP (ch' s) sl;refine Ej.mpr ⟨YI _ _,λi hi=>?_⟩;rw[YJ hi];have:=s1 i hi;have p:=pos i hi;rfl'
theorem Sb{n e:Nat}{G T:aA}(Ag:Asc n 0 G)(gl:G.length=r)(q:Sq r T)(s:∀x∈trn n G,Span (vecs T) (λk=>at0 x k))(hb:∀x∈G,hd x<2^e):pr T r<=2^(e*r):=by
 let D:aA:=(av r).map λi=>(trn n G).getD (b7 (G.getD i [])) [];have gr:∀x∈G,x.length=n:=λx hx=>(Ag.mem hx).1;have dl:D.length=r:=by simp[D]
 have de:∀i j,i<r->ent D i j=ent G j (b7 (G.getD i [])):=λi j hi=>by
  have:D.getD i []=(trn n G).getD (b7 (G.getD i [])) []:=by simp[D,au,hi]
  rw[<-L1 gr];unfold ent;rw[this]
 have low:∀i j,i<j->ent D i j=0:=λi j h=>by
  by_cases hi:i<r
  .rw[de i j hi];by_cases hj:j<r
   .exact v9 _ _ (Ul Ag h (by rw[gl];exact hj))
   .exact C5 (by rw[gl];rfl') _
  .exact C5 (by rw[dl];rfl') _
 have pos:∀i,i<r->0<ent D i i:=λi hi=>by
  rw[de i i hi];exact(GE Ag (k:=i) (by rw[gl];exact hi)).2.2.2
 have b:=q.prod_bound dl low pos λx hx=>by
  obtain⟨j,hj,rfl⟩:=wg.mp hx;have hj:=wO.mp hj;exact s _ (G7 (by rw[D7];exact(GE Ag (k:=j) (by rw[gl];exact hj)).2.2.1))
 have b2:=Sa (f:=λi=>(ent D i i).toNat) (e:=e) (r:=r) λi hi=>by
  have h:ent D i i<2^e:=by rw[de i i hi];exact hb _ (G7 (by rw[gl];exact hi))
  have p2:(0:Int)<2^e:=Int.pow_pos (by decide);have:((2^e:Nat):Int)=(2:Int)^e:=by norm_cast
  rfl'
 rw[YK λi hi=>q.pos hi];have:((2^(e*r):Nat):Int)=(2:Int)^(e*r):=by norm_cast
 rfl'
theorem Sq.entry(q:Sq r A){w:Int}(h:S4 r w A)(hw:0<w)(i j:Nat):0<=ent A i j/\ent A i j<=w:=by
 by_cases hj:j<r
 .have d:=uc hw (q.whole h hj);rcases w0h i j with x|x|x
  .have:=q.red x hj;rfl'
  .subst x;have:=q.pos hj;rfl'
  .rw[q.low x];rfl'
 .rw[q.far (by rfl')];rfl'
end St
end
section
namespace St
open Lat
variable {n:Nat}{G:aA}{M K0:Meas}
theorem X3{i:Nat}(h:i<M.length):mp (M++K0) i=mp M i/\mw (M++K0) i=mw M i:=by
 unfold mp mw;simp[au,wV h]
theorem KW{p q i:Nat}{x y:Row×Int}(hpq:p≠q)(hp:p<M.length)(hq:q<M.length):((M.set p x).set q y).getD i ([],0)=if i=q then y else if i=p then x else M.getD i ([],0):=by
 by_cases h1:i=q
 .subst h1;simp[au,hq]
 .rw[aw h1];by_cases h2:i=p
  .subst h2;simp[au,vz,hp,bL h1,aw (bL h1)]
  .rw[aw h2];simp[au,vz,bL h1,bL h2]
theorem AK{i:Nat}:(M++K0).getD i ([],0)=if i<M.length then M.getD i ([],0) else K0.getD (i-M.length) ([],0):=by
 by_cases h:i<M.length
 .rw[ar h];simp[au,wV h]
 .rw[aw h];simp[au,vv (ud h)]
structure Bz(g f1 f2 a b a' b':Int):Prop where
 gp:0<g
 ea:a=g*a'
 eb:b=g*b'
 one:f1*a'+f2*b'=1
theorem Bz.of{g f1 f2 a b:Int}(gp:0<g)(ga:g∣a)(gb:g∣b)(h:f1*a+f2*b=g):Bz g f1 f2 a b (a/g) (b/g):=by
 obtain⟨a',rfl⟩:=ga;obtain⟨b',rfl⟩:=gb;rw[w0l _ (by rfl'),w0l _ (by rfl')];refine⟨gp,rfl,rfl,?_⟩;have:g*(f1*a'+f2*b')=g*1:=by grind
 exact w0c (by rfl') this
theorem z55{p q:Nat}{g f1 f2 a' b' lc:Int}{u l:Row}{qu ql:Nat->Int}(m:Ms n G (M++K0))(hlc:lc=a'*mp M q)(hpq:p≠q)(hp:p<M.length)(hq:q<M.length)(z:Bz g f1 f2 (mp M p) (mp M q) a' b')(hu:u.length=n)(hl:l.length=n)
   (eu:∀k,at0 u k=(at0 (mw M p) k+at0 (mw M q) k)-g*qu k) (el:∀k,at0 l k=((-(f2*b'))*at0 (mw M p) k+(f1*a')*at0 (mw M q) k)-lc*ql k) :
   Ms n G ((M.set p (u,g)).set q (l,lc)++K0):=by
 have len:((M.set p (u,g)).set q (l,lc)).length=M.length:=by simp
 have get:∀i,((M.set p (u,g)).set q (l,lc)++K0).getD i ([],0)=if i=q then(l,lc) else if i=p then(u,g) else(M++K0).getD i ([],0):=λi=>by
   rw[AK,len,KW hpq hp hq];by_cases h1:i=q
   .subst h1;rw[ar hq,ar rfl,ar rfl]
   .by_cases h2:i=p
    .subst h2;rw[ar hp,aw h1,aw h1,ar rfl,ar rfl]
    .rw[aw h1,aw h2,aw h1,aw h2,AK]
 obtain⟨x1,x2⟩:=X3 (K0:=K0) hp;obtain⟨y1,y2⟩:=X3 (K0:=K0) hq;have dl:∀(x y:Row)(c d:Int)(w:Row)(s:Int)(t:Nat->Int)(v:Vec),(∀k,at0 w k=(c*at0 x k+d*at0 y k)-s*t k)->s∣dt n w v-(c*dt n x v+d*dt n y v):=λx y c d w s t v h=>by
   refine⟨- sm n (λk=>t k*v k),?_⟩;unfold dt;rw[<-U0,<-U0,<-HZ,<-KT,w6 (g:=λk=>(-s)*(t k*v k)) λk _=>by rw[h k];grind,U0];grind
 have hg:=z.gp;refine m.link (p:=p) (q:=q) (g:=g) (f1:=f1) (f2:=f2) (a:=a') (b:=b') (by rw[wB];rfl') (by rw[wB];rfl') hpq (by rw[x1];exact z.ea) (by rw[y1];exact z.eb) (by rfl') z.one ?_ ?_ ?_ ?_ ?_ ?_ ?_
 .intro x hx;rcases wu.mp hx with hx|hx
  .rcases vN hx with hx|rfl
   .rcases vN hx with hx|rfl
    .exact m.rows x (wu.mpr (.inl hx))
    .exact hu
   .exact hl
  .exact m.rows x (wu.mpr (.inr hx))
 .rw[wB,wB,len]
 .intro i h1 h2;unfold mp mw;rw[get,aw h2,aw h1];exact⟨rfl,rfl⟩
 .unfold mp;rw[get,aw hpq,ar rfl]
 .have e:=z.eb;unfold mp;rw[get,ar rfl];show lc=_;rw[hlc,e]
 .intro v;rw[x2,y2];have h:=dl (mw M p) (mw M q) 1 1 u g qu v λk=>by rw[eu k];rfl'
  rw[show mw ((M.set p (u,g)).set q (l,lc)++K0) p=u by unfold mw;rw[get,aw hpq,ar rfl]];simpa using h
 .intro v;have e:=z.eb;rw[x2,y2,<-e,<-hlc];have h:=dl (mw M p) (mw M q) (-(f2*b')) (f1*a') l lc ql v el;rw[show mw ((M.set p (u,g)).set q (l,lc)++K0) q=l by unfold mw;rw[get,ar rfl]];exact h
structure Chn(w:Int)(t s:Nat)(M:Meas):Prop where
 pos:∀i,i<M.length->0<mp M i
 whole:∀i,i<M.length->mp M i∣w
 all:∀i j,i<t->i<j->j<M.length->mp M i∣mp M j
 here:∀j,t<j->j<s->j<M.length->mp M t∣mp M j
theorem Chn.link{w g f1 f2 a' b' lc:Int}{t s:Nat}{u l:Row}(c:Chn w t s M)(hts:t<s)(hs:s<M.length)(z:Bz g f1 f2 (mp M t) (mp M s) a' b')(hlc:lc=a'*mp M s):Chn w t (s+1) ((M.set t (u,g)).set s (l,lc)):=by
 have len:((M.set t (u,g)).set s (l,lc)).length=M.length:=by simp
 have get:∀i,mp ((M.set t (u,g)).set s (l,lc)) i=if i=s then lc else if i=t then g else mp M i:=λi=>by
   unfold mp;rw[KW (by rfl') (by rfl') hs];split
   .rfl
   .split<;>rfl
 have hg:=z.gp;have pt:=c.pos t (by rfl');have ps:=c.pos s hs;have ap:0<a':=by
   have e:=z.ea;rcases w0f a' 0 with h|h|h
   .have:=Int.mul_neg_of_pos_of_neg hg h;rfl'
   .rw[h]at e;rfl'
   .exact h
 refine⟨λi hi=>?_,λi hi=>?_,λi j h1 h2 h3=>?_,λj h1 h2 h3=>?_⟩
 .rw[len]at hi;rw[get];split
  .rw[hlc];exact w0C ap ps
  .split
   .exact hg
   .exact c.pos i hi
 .rw[len]at hi;rw[get];split
  .have e:=z.eb;rw[hlc,e];exact z53 (by rfl') z.one (by rw[<-z.ea];exact c.whole t (by rfl')) (by rw[<-e];exact c.whole s hs)
  .split
   .exact w00 ⟨a',z.ea⟩ (c.whole t (by rfl'))
   .exact c.whole i hi
 .rw[len]at h3;rw[get i,aw (by rfl'),aw (by rfl'),get j];split
  .rw[hlc];exact w00 (c.all i s h1 (by rfl') hs) ⟨a',wN _ _⟩
  .split
   .have d1:=c.all i t h1 (by rfl') (by rfl');have d2:=c.all i s h1 (by rfl') hs;have e:g=f1*mp M t+f2*mp M s:=by
     rw[z.ea,z.eb];have:=z.one
     grind
    rw[e];exact w1g (w00 d1 ⟨f1,wN _ _⟩) (w00 d2 ⟨f2,wN _ _⟩)
   .exact c.all i j h1 h2 h3
 .rw[len]at h3;rw[get t,aw (by rfl'),ar rfl,get j];split
  .rw[hlc,z.eb];exact⟨a'*b',by grind⟩
  .rw[aw (by rfl')];exact w00 ⟨a',z.ea⟩ (c.here j h1 (by rfl') h3)
theorem Chn.next{w:Int}{t s:Nat}(c:Chn w t s M)(h:M.length<=s):Chn w (t+1) (t+2) M:=
 ⟨c.pos,c.whole,fun i j h1 h2 h3=>by
  by_cases e:i<t
  .exact c.all i j e h2 h3
  .have:i=t:=by rfl'
   subst this;exact c.here j h2 (by rfl') h3,λj h1 h2=>by rfl'⟩
theorem Chn.first{w:Int}(hp:∀i,i<M.length->0<mp M i)(hw:∀i,i<M.length->mp M i∣w):Chn w 0 1 M:=⟨hp,hw,λi j h=>by rfl',λj h1 h2=>by rfl'⟩
end St
end
section
namespace St
open Lat
theorem Sq.whole_col{r:Nat}{A:aA}{w:Int}(q:Sq r A)(h:S4 r w (trn r A)){i:Nat}(hi:i<r):ent A i i∣w:=by
 obtain⟨c,hc⟩:=G8.mp (h i hi);rw[D7]at hc;have B:=q.below h;have z:=GJ (m:=r) (a:=i+1) (c:=c) (D:=λl j=>ent (trn r A) l j) B.pos B.low λj h1 h2=>by rw[<-hc j];simp only[pt];rw[aw (by rfl')]
 have e:=hc i;rw[R9 hi λk hk hn=>?_]at e
 .rw[L1 q.rows]at e;simp only[pt,if_true]at e;exact⟨c i,by rw[e];exact wN _ _⟩
 .rcases ut hn with x|x
  .rw[B.low k i x hi];simp
  .rw[z (r-k) k (by rfl') (by rfl') hk];simp
theorem Sq.entryC{r:Nat}{A:aA}(q:Sq r A){w:Int}(h:S4 r w (trn r A))(hw:0<w)(i j:Nat):0<=ent A i j/\ent A i j<=w:=by
 by_cases hj:j<r
 .have d:=uc hw (q.whole_col h hj);rcases w0h i j with x|x|x
  .have:=q.red x hj;rfl'
  .subst x;have:=q.pos hj;rfl'
  .rw[q.low x];rfl'
 .rw[q.far (by rfl')];rfl'
theorem Good.sq{r N B:Nat}{w:Int}{P S:aA}(G:Good N B P S)(b:Below r N w P):S.length=r/\∀x∈S,b7 x<r:=by
 refine⟨by rw[G.full b.ind,b.len],λx hx=>(b.full G.asc G.span x hx).1⟩
end St
end
section
set_option maxHeartbeats 1000000
namespace St
open Lat
end St
namespace St
open Lat
end St
end
section
set_option maxHeartbeats 1000000
namespace St
open Lat
end St
end
section
local macro_rules|`(tactic|rfl')=>`(tactic|first|lia|omega +splitDisjunctions)
namespace L2
theorem GK{a b:aG}(h:a.length=b.length)(k:Nat):St.at0 (addR a b) k=St.at0 a k+St.at0 b k:=by
 have e:addR a b=St.lin 1 a 1 b:=by unfold addR St.lin;congr 1;funext x y;rfl'
 rw[e,St.JM h];rfl'
theorem Bp{a b:aG}(h:a.length=b.length)(k:Nat):St.at0 (subR a b) k=St.at0 a k-St.at0 b k:=by
 have e:subR a b=St.sub a 1 b:=by unfold subR St.sub;congr 1;funext x y;rfl'
 rw[e,St.N2 h];rfl'
theorem AL(q:Int)(a:aG)(k:Nat):St.at0 (sclR q a) k=q*St.at0 a k:=by
 simp only[St.at0,sclR,au,wy];cases a[k]?<;>simp
theorem Ji(n:Nat):o6 n=St.KN n:=by unfold o6 St.KN;simp
theorem L8(n k:Nat):St.at0 (o6 n) k=0:=by rw[Ji];exact St.HU n k
theorem Sc{n:Nat}:∀(rows:aA)(cs:aG)(t:aG),t.length=n->(∀r∈rows,r.length=n)->∀k,St.at0 ((rows.zip cs).foldl (λt p=>addR t (sclR p.2 p.1)) t) k=St.at0 t k+St.mix rows cs k
 |[],cs,t,_,_,k=>by simp[St.mix]
 |r::rows,[],t,_,_,k=>by simp[St.mix]
 |r::rows,c::cs,t,ht,hw,k=>by
  have hr:=hw r we;rw[uu,uL,Sc rows cs _ (by rw[W0 (by rw[A4,ht,hr])];exact ht) (λx hx=>hw x (wc _ hx)),GK (by rw[A4,ht,hr]),AL];show St.at0 t k+c*St.at0 r k+St.mix rows cs k=St.at0 t k+(c*St.at0 r k+St.mix rows cs k);rfl'
theorem z2e{n:Nat}{rows:aA}{cs:aG}(hw:∀r∈rows,r.length=n)(k:Nat):St.at0 (mixR n rows cs) k=St.mix rows cs k:=by
 unfold mixR;rw[Sc rows cs (o6 n) E4 hw,L8];rfl'
theorem z56(v:aG):sclR 1 v=v:=by unfold sclR;simp
theorem Sd{r:aG}{x:Int}(h:x∈r):∃k,St.at0 r k=x:=by
 obtain⟨k,hk,e⟩:=w02.mp h;exact⟨k,by simp[St.at0,au,wa hk,e]⟩
theorem z2f{r:aG}{B:Nat}(h:St.Lt B r):∀x∈r,x.natAbs<B:=λx hx=>by
 obtain⟨k,rfl⟩:=Sd hx;exact h k
end L2
namespace L2
theorem Cf{n i:Nat}(h:i<n):ixN n (i:Int)=aa i:=by
 unfold ixN;rw[ar (by rfl'),ar (by rfl')];simp
theorem C6{i j:Int}(h:0<j):N9 i j=ac:=by unfold N9;rw[aM (show j≠0 by rfl')]
end L2
namespace L2
theorem NG{α γ:Type}{g:Tg}{F:FS}(e:α->Dt)(bad:α->Prop)(R:γ->Rho)(f:Fl)(d:Dt):∀(xs:List α)(j:γ),(∀x∈xs,∀j,bad x->(g.put (e x) (R j)).bind F=aa (.rt f d))->(∀x∈xs,∀j,¬bad x->∃j',(g.put (e x) (R j)).bind F=aa (.nx (R j'))) ->
  ((∃x∈xs,bad x)->forF g F (xs.map e) (R j)=aa (.rt f d))/\((∀x∈xs,¬bad x)->∃j',forF g F (xs.map e) (R j)=aa (.nx (R j')))
 |[],j,_,_=>⟨λ⟨x,hx,_⟩=>(nomatch hx),λ_=>⟨j,rfl⟩⟩
 |x::xs,j,h1,h2=>by
  by_cases hb:bad x
  .have e1:=h1 x we j hb;refine⟨λ_=>?_,λh=>aN hb (h x we)⟩;rw[wq,F6,e1];rfl
  .obtain⟨j1,e1⟩:=h2 x we j hb;obtain⟨i1,i2⟩:=NG e bad R f d xs j1 (λy hy=>h1 y (wc _ hy)) (λy hy=>h2 y (wc _ hy));rw[wq,F6,e1];refine⟨λ⟨y,hy,by_⟩=>?_,λh=>i2 λy hy=>h y (wc _ hy)⟩;rcases wn.mp hy with rfl|hy
   .exact aN by_ hb
   .exact i1 ⟨y,hy,by_⟩
theorem us0{P:aF->Prop}(h:P []):∀us:aF,us.length=0->P us:=λus hl=>(w0n.mp hl).symm ▸ h
theorem usS{P:aF->Prop}{n:Nat}(h:∀a us,us.length=n->P (a::us)):∀us:aF,us.length=n+1->P us:=λus hl=>by
 cases us with
 |nil=>cases hl
 |cons a us=>exact h a us (Nat.succ.inj hl)
theorem us1{P:aF->Prop}(h:∀a,P [a]):∀us:aF,us.length=1->P us:=usS λa=>us0 (h a)
theorem us2{P:aF->Prop}(h:∀a b,P [a,b]):∀us:aF,us.length=2->P us:=usS λa=>(usS λb=>us0 (h a b))
theorem us3{P:aF->Prop}(h:∀a b c,P [a,b,c]):∀us:aF,us.length=3->P us:=usS λa=>(usS λb=>(usS λc=>us0 (h a b c)))
theorem us4{P:aF->Prop}(h:∀a b c d,P [a,b,c,d]):∀us:aF,us.length=4->P us:=usS λa=>(usS λb=>(usS λc=>(usS λd=>us0 (h a b c d))))
end L2
end
section
namespace L2
open Builtin Builtin.Str
section
variable {X:Cx}{a b c e:aK}{Fa Fb Fe:FE}{pos:Pos}
def okS(x:Str):Bool:=decide (x.length<=100000)
section
variable {prog:aL}{w:aH}{A:bj}{E:aC}{s:am}
end
end
end L2
end
section
namespace L2
open PySem.W
section
variable {X:Cx}{x:Str}{e j:aK}{Fe Fj:FE}{i:Nat}{px spos pos:Pos}
def KY(i:Nat)(Fj Fe:FE):FS:=λρ=>(Gs ρ i).bind λo=>(Fe ρ).bind λx=>if x.1.isNw then(Fj ρ).bind λj=>(intD j.2).bind λn=>(setD o.2 n x.2).map λds=>.nx (ρ.set i (.ow o.1 ds)) else ag
theorem z2g(hN:X.N[i]?=aa x)(hv:Vis X.env.scope x)(hj:PF X j Fj)(he:PF X e Fe)(hd:(x==("__debug__":Str))=af:=by decide)(hcd:(x==("__classdict__":Str))=af:=by decide)
   (ha:∀ v,assign (.Subscript (.Name x px) j spos) X.env v=(do
    let ov <-holding [v] (eval (.Name x px) X.env);let iv <-holding [v,ov] (eval j X.env)
    eM spos
    holding [v,ov,iv] (setItem ov iv v)
    release [v,ov,iv] []):=by intro _;rfl)
   (hs:swapsWithSole [.Subscript (.Name x px) j spos] e pos.line X.env=pure af:=by rfl) (hw:swappedStores [.Subscript (.Name x px) j spos] e X.env=pure ag:=by rfl)
   (h1:(cb [.Subscript (.Name x px) j spos] X.env).map (·.2)=[assign (.Subscript (.Name x px) j spos) X.env]:=by rfl) :
   PFS X (.Assign [.Subscript (.Name x px) j spos] e pos) (KY i Fj Fe):=by
 intro π s σ H D I ⟨H₀,ρ,oc,⟨O,rb⟩,e0,k⟩;obtain⟨⟨f,ds⟩,e1,e2⟩:=i0 e0;obtain⟨z,e3,e4⟩:=i0 e2;split at e4
 .rename_i qn;obtain⟨⟨fj,dj⟩,e5,e6⟩:=i0 e4;obtain⟨n,e7,e8⟩:=i0 e6;obtain⟨a,vs,q1,q2,q3,q4⟩:=rb.get (CU e1);unfold setD at e8;cases hx:ixN ds.length n with
  |none=>rw[hx]at e8;cases e8
  |some m=>
   rw[hx]at e8;cases e8;refine TL he (TK (AV hN hv hd hcd) hj Ki ha) hs hw h1 π s σ H D I ⟨ρ,z.1,z.2,rb.all,e3,λv H' sm r=>?_⟩;have r1:=Yx rb sm qn r;have rb2:=rb.mono sm;refine⟨.ref a,q2,ρ,fj,dj,rb2.all,e5,λv2 H2 s2 r2=>?_⟩;have ed:dj=.int n:=BY e7;subst ed;refine⟨a,vs,n,m,rfl,Rp.int_.mp r2.sh,s2 _ _ (sm _ _ q3),by rw[q4.length];exact hx,k _ _ ⟨O,(rb2.mono s2).upd (CU e1) q1 ?_⟩⟩;exact Rps.set m (Rps.mono _ (A7 (sm.trans s2)) q4) (Rp.mono _ (A7 s2) (Rp.anti (by cases f<;>first|exact Same.refl _|exact Same.emp) _ r1))
 .cases e4
end
end L2
end
section
namespace L2
open PySem.W
def sOr(F G:FS):FS:=λρ=>(F ρ).orElse λ_=>G ρ
theorem s_or{X:Cx}{st:aJ}{F G:FS}(h:PFS X st F)(h':PFS X st G):PFS X st (sOr F G):=λπ s σ H D I⟨H₀,ρ,oc,rb,e,k⟩=>by
 unfold sOr at e;cases q:F ρ with
 |some o=>rw[q]at e;cases e;exact h π s σ H D I ⟨H₀,ρ,oc,rb,q,k⟩
 |none=>rw[q]at e;exact h' π s σ H D I ⟨H₀,ρ,oc,rb,e,k⟩
section
variable {X:Cx}{e a b:aK}{es:fR}{pos pos' p:Pos}{Fs:FA}{R:FR}{fr:Bool}{k k':Nat}{f:aj}{fd:ak}{ps:fO}{x:Str}{st:aJ}{ct:FX}
end
section
variable {M:Model}{A:bj}{E:aC}{s:am}{h0:aV}{H:Hp}{ea C L:aj}
end
section
variable {X:Cx}{N:fO}{scope:Scope}{nt:Nat}{js:fQ}{π:aB}{σ:St}{H2:Hp}{s2:am}{fp:fP}{C:aj}{cl:List (Str×aj)}{E:XK}{Q0:aC}
def cxErr(X:Cx)(scope:Scope)(cl:List (Str×aj))(C:aj)(Q0:aC)(e:ao)(s':am):Prop:=
 ∃m,s'.heap.Ns C m/\∀h',dD C s'.heap h'->ay (model X.prog X.w) X.A (PySem.passOn "comprehension.variables-let-go" e (compEnvC scope cl C X.env)) Q0 X.xe { s' with heap:=h' }
abbrev cY(X:Cx)(N:fO)(scope:Scope)(cl:List (Str×aj))(C:aj)(fp:fP)(s:am)(H:Hp)(Q0:aC):Cx:=(C1 X N scope cl C fp s H).wish (notedBy (model X.prog X.w) X.A (compEnvC scope cl C X.env) (cxErr X scope cl C Q0))
end
section
variable {X:Cx}{N:fO}{scope:Scope}{nt:Nat}{js:fQ}{tg elt iter:aK}{Fi:FI}{g:Tg}{Fe:FE}{Re:FR}{pos:Pos}
end
section
variable {X:Cx}{x:Str}{e j:aK}{Fe Fj:FE}{i:Nat}{px spos pos:Pos}
end
end L2
end
section
namespace L2
open PySem.W
section
variable {X:Cx}{x:Str}{e hi:aK}{Fe Fu:FE}{i:Nat}{p0 p1 p2 p3 p4 p5 pos:Pos}
end
section
variable {X:Cx}{st:aJ}{rest:fT}{F G:FS}
end
def rowF:Dt->Bool
 |.lst es=>J7 es
 |d=>d.flat
def mix(S:Nat->Bool)(new:Dt):Nat->gf->gf
 |_,[]=>[]
 |q,d::ds=>(if S q then new else d)::mix S new (q+1) ds
section
variable {K:aD}{B H:Hp}
theorem Ph{b:aj}{o:HO}:Same (hidL [b] H) (upd H b o):=λc p e=>by
 obtain⟨q1,q2⟩:=P0 e;rw[u6 (by simpa using q1)];exact q2
theorem Rp.flat_upd{d:Dt}{v:V}{b:aj}{us vs:gg}(hf:d.flat=ac)(hb:H b=aa (.lst us))(h:Rp K B d H v):Rp K B d (upd H b (.lst vs)) v:=by
 have h1:Rp K (λc=>if c=b then aa (.lst []) else ag) d H v:=Rp.flat d hf h;have h2:=Rp.hid (A:=[b]) (λc hc=>by rw[wI.mp hc];simp) d (λc hc o e=>by rw[wI.mp hc,hb]at e;cases e;exact⟨us,rfl⟩) h1;exact Rp.flat d hf (Rp.mono d Ph h2)
theorem Rps.flat_upd:∀{ds:gf}{ws:gg}{b:aj}{us vs:gg},J7 ds=ac->H b=aa (.lst us)->Rps K B ds H ws->Rps K B ds (upd H b (.lst vs)) ws
 |[],ws,b,us,vs,_,_,h=>Rps.nil_.mpr (Rps.nil_.mp h)
 |d::ds,ws,b,us,vs,hf,hb,h=>by
  unfold J7 at hf;rw[wG]at hf;obtain⟨w,r,rfl,h1,h2⟩:=Rps.cons_.mp h;exact Rps.cons_.mpr ⟨w,r,rfl,Rp.flat_upd hf.1 hb h1,Rps.flat_upd hf.2 hb h2⟩
theorem Up{b c:aj}{o:HO}(h:c≠b):hidL [c] (upd H b o)=upd (hidL [c] H) b o:=funext λx=>by
 by_cases q:x=c
 .subst q;rw[K9 (by simp),u6 h,K9 (by simp)]
 .rw[r9 (by simpa using q)];by_cases q2:x=b
  .subst q2;rw[A0,A0]
  .rw[u6 q2,u6 q2,r9 (by simpa using q)]
theorem YL{us vs:gg}{b:aj}{new:Dt}(hb:H b=aa (.lst us))(hn:Rp K B new (upd H b (.lst vs)) (.ref b))(T:Nat->Option V):∀{ds:gf}{ws:gg}(q:Nat),(∀j,T (q+j)=ws[j]?)->ds.all rowF=ac->Rps K B ds H ws->Rps K B (mix (λq=>decide (T q=aa (.ref b))) new q ds) (upd H b (.lst vs)) ws
 |[],ws,q,_,_,h=>Rps.nil_.mpr (Rps.nil_.mp h)
 |d::ds,ws,q,hT,ha,h=>by
  rw[w0I,wG]at ha;obtain⟨w,r,rfl,h1,h2⟩:=Rps.cons_.mp h;have t0:T q=aa w:=hT 0;rw[mix];refine Rps.cons_.mpr ⟨w,r,rfl,?_,YL hb hn T (q+1) (λj=>by have:=hT (j+1);rw[show q+1+j=q+(j+1) by rfl',this];rfl) ha.2 h2⟩;rw[t0];by_cases e:w=.ref b
  .subst e;rw[ar (by simp)];exact hn
  .rw[aw (by simpa using e)];have hr:=ha.1;cases d with
   |lst es=>
    obtain⟨c,us',rfl,g1,g2,g3⟩:=Rp.lst_.mp h1;have hcb:c≠b:=λz=>e (by rw[z]);refine Rp.lst_.mpr ⟨c,us',rfl,g1,by rw[u6 hcb];exact g2,?_⟩;rw[Up hcb];exact Rps.flat_upd (us:=us) hr (by rw[r9 (by simpa using bL hcb)];exact hb) g3
   |non=>exact Rp.flat_upd hr hb h1
   |bl _=>exact Rp.flat_upd hr hb h1
   |int _=>exact Rp.flat_upd hr hb h1
   |str _=>exact Rp.flat_upd hr hb h1
   |tup _=>exact Rp.flat_upd hr hb h1
   |scr _=>exact Rp.flat_upd hr hb h1
   |dic=>exact Rp.flat_upd hr hb h1
   |obj _ _ _ _=>exact Rp.flat_upd hr hb h1
end
section
variable {X:Cx}{x:Str}{e ei ej:aK}{Fi Fj Fv:FE}{i:Nat}{px s1 s2 pos:Pos}{rest:fT}{G:FS}
end
end L2
end
section
namespace L2
open PySem.W
section
variable {X:Cx}{e o:aK}{es:fR}{pos apos:Pos}{F Fo:FE}{Fs:FA}{fr:Bool}{k k':Nat}{f C:aj}{fd:ak}{ps:fO}{m qual:Str}{st:aJ}{ct:FX}{cf:FC}
end
end L2
end
section
namespace L2
open PySem.W
section
variable {P:aL}{w:aH}{K:aD}{mg:aE}{base:aV}
end
section
variable {X:Cx}{e:aK}{es:fR}{pos p:Pos}{Fs:FA}{k k':Nat}{f C:aj}{fd:ak}{ps:fO}{x:Str}{ct:FX}
end
end L2
end
section
namespace L2
open PySem.W
section
variable {CX:CXT}{P:aL}{w:aH}{K:aD}{mg:aE}{base:aV}{x qual:Str}{st:aJ}{f:aj}{fd:ak}{N ps:fO}{k:Nat}
end
section
variable {X:Cx}{e:aK}{es:fR}{pos p:Pos}{Fs:FA}{k k':Nat}{f C:aj}{fd:ak}{ps:fO}{x:Str}{ok:Dt->Prop}
end
end L2
end
section
namespace L2
open PySem.W
section
variable {K:aD}{B H:Hp}
theorem z2h{A:fP}{b:aj}{o:HO}(h:b∉A):hidL A (upd H b o)=upd (hidL A H) b o:=funext λc=>by
 by_cases y:c∈A
 .rw[K9 y,u6 (show c≠b from λz=>h (z ▸ y)),K9 y]
 .rw[r9 y];by_cases z:c=b
  .subst z;rw[A0,A0]
  .rw[u6 z,u6 z,r9 y]
end
end L2
end
section
namespace L2
open PySem.W
section
variable {K:aD}{B B' H:Hp}
end
section
variable {X:Cx}{y:Str}{e:aK}{Fe:FE}{i:Nat}{py apos cpos pos:Pos}{rest:fT}{G:FS}{C f:aj}{fd:ak}{ps:fO}{qual:Str}{st:aJ}{k k':Nat}{nbf:Dt->Dt->gf->Dt->Option (gf)}
end
end L2
end
section
namespace L2
open PySem.W
section
variable {X:Cx}{y:Str}{A:aK}{FA:FT}{a:fT}{i:Nat}{py apos cpos p1 p2 pos npos:Pos}{nj:Nat}{rest:fT}{G Gb:FS}{C f:aj}{fd:ak}{ps:fO}{qual:Str}{st:aJ}{k k':Nat}
end
end L2
end
section
namespace L2
open PySem.W
section
variable {X:Cx}{π:aB}{σ:St}{H H1 H' H₀:Hp}{s s1:am}{ea C M:aj}{cx:ao}{E:aC}
end
section
variable {X:Cx}{C:aj}{n:Nat}{e:aK}{es:fR}{pos pos' tpos hpos np:Pos}{Fs:FA}{fr:Bool}{k k':Nat}{f:aj}{fd:ak}{ps:fO}{x y:Str}{st:aJ}{p:Pos}{ct:FX}
end
end L2
end
section
namespace L2
open PySem.W
abbrev Cx.pw(X:Cx)(π:aB)(E:aC):Cx:={ X with pn:=X.pn++π,xe:=E }
section
variable {X:Cx}{π pins':aB}{σ:St}{H:Hp}{s:am}{E:aC}
end
section
variable {X:Cx}{body:fT}{y y2:Str}{M M2:aj}{v1 v2:Str}{np np2 hpos hpos2 rp rp2 cp cp2 tpos:Pos}{k1 k2:Nat}
def Ends.no:Ends:={ nx:=λ_ _=>False,bk:=λ_ _=>False,ct:=λ_ _=>False,rt:=λ_ _=>False }
end
end L2
end
section
namespace L2
open PySem.W
section
variable {CX:CXT}{P:aL}{w:aH}{K:aD}{mg:aE}{base:aV}{x qual:Str}{st:aJ}{f:aj}{fd:ak}{N ps:fO}{k:Nat}
end
end L2
end
section
namespace L2
open PySem.W
section
variable {P:aL}{w:aH}{K:aD}{mg:aE}{base:aV}{x qual:Str}{st:aJ}{f:aj}{fd:ak}{N ps:fO}{k:Nat}
end
end L2
end
section
namespace L2
open PySem.W
section
variable {X:Cx}{D:Ends}{σ:St}{H:Hp}{ρ:Rho}{c:FT}{t u:TS}
theorem tIf_t(rs:RepS X.ky H ρ σ)(e:c ρ=aa ac)(h:∀H',Same H H'->t D σ H'):tIfS (upB X c) t u D σ H:=⟨ρ,ac,rs,e,λH' s=>by show(if ac=ac then _ else _);rw[ar rfl];exact h H' s⟩
end
section
variable {P:aL}{w:aH}{K:aD}{mg:aE}{base:aV}{x qual:Str}{st:aJ}{f:aj}{fd:ak}{N ps:fO}{k:Nat}
end
end L2
end
section
namespace L2
open PySem.W
section
variable {K:aD}{H₀:Hp}{C:aj}{n:Nat}{ns:aG}{A:fP}{S0:List (aA)}{bs:aA}{S1:List (aA)}{cs:aA}{H H':Hp}{vp vo:V}{a dx e s:aj}{vb:V}{ws ss:gg}{vc:V}
end
end L2
end
section
namespace L2
open PySem.W
def spP(K:aD)(Pre:gf->Prop)(Post:gf->Dt->Prop):Sp:=λvs H Q _=>∃ds,Rps K emp ds H vs/\Pre ds/\∀d v H',Post ds d->Same H H'->Rp K emp d H' v->Q v H'
open Classical in
noncomputable def fUnl(c:FC)(Pre:gf->Prop)(Post:gf->Dt->Prop)(F1 F2:FE)(Fs:FA)(F4:FE):FE:=λρ=>(F1 ρ).bind λx1=>(F2 ρ).bind λx2=>(Fs ρ).bind λys=>(F4 ρ).bind λx4=>
 if Pre (sndL ys)/\∀d,Post (sndL ys) d->c [x1.2,x2.2,d,x4.2]=aa (.bl ac) then aa (.nw,.bl ac) else ag
theorem z57{c:FC}{Pre:gf->Prop}{Post:gf->Dt->Prop}{F1 F2 F4:FE}{Fs:FA}{ρ:Rho}{x1 x2 x4:Dv}{ys:gh}(h1:F1 ρ=aa x1)(h2:F2 ρ=aa x2)(h3:Fs ρ=aa ys)(h4:F4 ρ=aa x4)(p:Pre (sndL ys))(q:∀d,Post (sndL ys) d->c [x1.2,x2.2,d,x4.2]=aa (.bl ac)):fUnl c Pre Post F1 F2 Fs F4 ρ=aa (.nw,.bl ac):=by
 unfold fUnl;rw[h1,h2,h3,h4];exact ar ⟨p,q⟩
section
variable {X:Cx}{e1 e2 e4 g:aK}{gs:fR}{F1 F2 F4:FE}{Fs:FA}{k k2 k':Nat}{f f2:aj}{fd fd2:ak}{ps ps2:fO}{x y:Str}{st st2:aJ}{c:FC}{Pre:gf->Prop}{Post:gf->Dt->Prop}{p py pos pos2:Pos}
theorem p_unl(F:FnOk X.prog X.w X.K X.mg X.base CX0 k f fd ps (spc X.K ac c))(D:Df X.K X.mg x st ps f fd)(F2':FnOk X.prog X.w X.K X.mg X.base CX0 k2 f2 fd2 ps2 (spP X.K Pre Post))(D2:Df X.K X.mg y st2 ps2 f2 fd2)(hr:Room k' X.A)(hg:Gl X x)(hg2:Gl X y)(h1:PF X e1 F1)(h2:PF X e2 F2)(h3:PFA X (g::gs) Fs)(h4:PF X e4 F4)(hle:k<=k':=by decide)(hle2:k2<=k':=by decide)(hdb:(x==("__debug__":Str))=af:=by decide)(hdb2:(y==("__debug__":Str))=af:=by decide)
  (hst2:aq (g::gs) X.env=(af,eval g X.env)::aq gs X.env:=by rfl) (hpl2:(bH pos2 (aq gs X.env)).any (·.1)=af:=by rfl)
  (a1:aq [e1,e2,.Call (.Name y py) (g::gs) [] pos2,e4] X.env=(af,eval e1 X.env)::aq [e2,.Call (.Name y py) (g::gs) [] pos2,e4] X.env:=by rfl) (a2:aq [e2,.Call (.Name y py) (g::gs) [] pos2,e4] X.env=(af,eval e2 X.env)::aq [.Call (.Name y py) (g::gs) [] pos2,e4] X.env:=by rfl)
  (a3:aq [.Call (.Name y py) (g::gs) [] pos2,e4] X.env=(af,eval (.Call (.Name y py) (g::gs) [] pos2) X.env)::aq [e4] X.env:=by rfl) (a4:aq [e4] X.env=[(af,eval e4 X.env)]:=by rfl)
  (hpl:(bH pos (aq [e2,.Call (.Name y py) (g::gs) [] pos2,e4] X.env)).any (·.1)=af:=by rfl) :
  PF X (.Call (.Name x p) [e1,e2,.Call (.Name y py) (g::gs) [] pos2,e4] [] pos) (fUnl c Pre Post F1 F2 Fs F4):=
 (AD (E:=E0) (dvs:=[]) F (hr.mono hle) hg D.mg D.fn.kp D.bd .nil z1d (L9 h1 (L9 h2 (L9 (AD (E:=E0) (dvs:=[]) F2' (hr.mono hle2) hg2 D2.mg D2.fn.kp D2.bd .nil z1d h3 hdb2 hst2 hpl2) (L9 h4 CM a4) a3) a2) a1) hdb a1 hpl).imp fun σ H Q ⟨ρ,fl,d,rs,e0,kk⟩=>by
  obtain⟨⟨fx1,d1⟩,q1,e0⟩:=i0 e0;obtain⟨⟨fx2,d2⟩,q2,e0⟩:=i0 e0;obtain⟨ys,q3,e0⟩:=i0 e0;obtain⟨⟨fx4,d4⟩,q4,e0⟩:=i0 e0;split at e0
  .rename_i hc;cases e0;refine⟨ρ,fx1,d1,rs,q1,λv1 H1 s1 r1=>⟨ρ,fx2,d2,rs.mono s1,q2,λv2 H2 s2 r2=>⟨ρ,ys,rs.mono (s1.trans s2),q3,λus H3 s3 r3=>?_⟩⟩⟩;show spP _ _ _ (us++[]) H3 _ _;rw[vn];refine⟨sndL ys,r3.sh,hc.1,λdz v3 H4 hz s4 r4=>⟨ρ,fx4,d4,rs.mono (s1.trans (s2.trans (s3.trans s4))),q4,λv4 H5 s5 r5=>?_⟩⟩;have s35:=s3.trans (s4.trans s5);refine⟨[d1,d2,dz,d4],.bl ac,?_,hc.2 dz hz,λv H6 s6 r6=>kk v H6 (s1.trans (s2.trans (s35.trans s6))) (show Rp X.K H (.bl ac) H6 v from Rp.flat _ rfl r6)⟩;exact Rps.cons_.mpr ⟨_,_,rfl,Rp.mono _ (s2.trans s35) r1.sh,Rps.cons_.mpr ⟨_,_,rfl,Rp.mono _ s35 r2.sh,Rps.cons_.mpr ⟨_,_,rfl,Rp.mono _ s5 r4,Rps.one r5.sh⟩⟩⟩
  .cases e0
theorem s_ifN{e:aK}{R:FR}{a b:fT}{pu pos:Pos}(ha:PFX X e R)(he:∀whole,isTrue e X.env whole=(do let v <-whole;eM e.pos;holding [v] (truthy v)):=by intro _;rfl):PFS X (.If (.UnaryOp .Not e pu) a b pos) (sEx R):=
 (Gh (z0W (pt_val ha he)) B0 B0).imp fun D σ H ⟨H₀,ρ,oc,rb,e0,k⟩=>by
  unfold sEx at e0;cases q:R ρ with
  |none=>rw[q]at e0;cases e0
  |some n=>rw[q]at e0;cases e0;exact⟨H₀,ρ,n,rb,q,k⟩
end
section
variable {X:Cx}{H:Hp}{O:Own}{ρ:Rho}{σ:St}{i k:Nat}{ds row:gf}
theorem YM(rb:RepO X X.H₀ H O ρ σ)(e:ρ[i]?=aa (.ow ac ds))(hk:ds[k]?=aa (.lst row))(hall:ds.all rowF=ac):∃a vs b us,σ[i]?=aa (aa (.ref a))/\H a=aa (.lst vs)/\vs.length=ds.length/\vs[k]?=aa (.ref b)/\X.H₀ b=ag/\H b=aa (.lst us)/\us.length=row.length /\
  (∀H',Same H H'->Rps X.K X.H₀ row (hidL [b] (hidL O.adr H')) us)/\∀H' us' row',Same H H'->Rps X.K X.H₀ row' (hidL [b] (hidL O.adr H')) us'->∃S:Nat->Bool,S k=ac/\Rp X.K emp (.lst (mix S (.lst row') 0 ds)) (upd H' b (.lst us')) (.ref a):=by
 obtain⟨o,e1,a,vs,q1,q2,q3,q4⟩:=rb.at_ i _ e;subst q2;have q4:Rps X.K X.H₀ ds (hidL O.adr H) vs:=q4;obtain⟨w,w1,w2⟩:=q4.get hk;obtain⟨b,us,rfl,g1,g2,g3⟩:=Rp.lst_.mp w2;have bO:b∉O.adr:=λy=>by rw[K9 y]at g2;cases g2
 refine⟨a,vs,b,us,e1,q3,q4.length,w1,g1,(P0 g2).2,g3.length,λH' sm=>Rps.mono _ (A7 (A7 sm)) g3,λH' us' row' sm r=>⟨λq=>decide (vs[q]?=aa (.ref b)),by simp[w1],?_⟩⟩;have hbH:(hidL O.adr H') b=aa (.lst us):=A7 sm _ _ g2;have aO:a∈O.adr:=AG q1;have hU:hidL O.adr (upd H' b (.lst us'))=upd (hidL O.adr H') b (.lst us'):=z2h bO;have new:Rp X.K X.H₀ (.lst row') (upd (hidL O.adr H') b (.lst us')) (.ref b):=by
  refine Rp.lst_.mpr ⟨b,us',rfl,g1,A0,?_⟩;rw[JK];exact r
 have m:=YL hbH new (λq=>vs[q]?) 0 (λj=>by simp) hall (Rps.mono _ (A7 sm) q4);rw[<-hU]at m;refine Rp.lst_.mpr ⟨a,vs,rfl,rfl,?_,Rps.anti Same.emp _ (Rps.mono _ (V5 λz hz=>by rw[wI.mp hz];exact aO) m)⟩;rw[u6 (show a≠b from λy=>bO (y ▸ aO))];exact sm _ _ q3
end
end L2
end
section
namespace L2
theorem Dh.ex{K:aD}{x:Str}{st:aJ}{f:aj}(d:Dh K x st f):∃(fd:ak)(oc kV doc pm cdv ct:ao)(od an:fZ)(osl:Array (fY)),fd=bB x x (O9 st) (G3 st) (b9 st) .none kV doc pm an cdv ct/\aR K az x=aa (aa (.ref f))/\K.lookup f=aa ⟨oc,od,.func fd,osl⟩/\cq K cdv x=ac/\bQ K (.ref f)=ac:=by
 obtain⟨_,_,_,_,_,_,_,_,_,e,l,c,k⟩:=d;exact⟨_,_,_,_,_,_,_,_,_,_,rfl,e,l,c,k⟩
noncomputable def Dh.fd{K:aD}{x:Str}{st:aJ}{f:aj}(d:Dh K x st f):ak:=vK d.ex
theorem Dh.b{K:aD}{x:Str}{st:aJ}{f:aj}{ps:fO}(d:Dh K x st f)
  (hb:∀(kV doc pm:ao)(an:fZ)(cdv ct:ao)(us:aF),us.length=ps.length->fe (bB x x (O9 st) (G3 st) (b9 st) .none kV doc pm an cdv ct) ⟨us,[]⟩=pure (ps.zip us)) (us:aF) (h:us.length=ps.length):fe d.fd ⟨us,[]⟩=pure (ps.zip us):=by
 obtain⟨_,_,_,_,_,_,_,_,_,z,_⟩:=wP d.ex;rw[show d.fd=_ from z];exact hb _ _ _ _ _ _ us h
theorem Dh.q{K:aD}{h:aV}{mg:aE}(X:K.In h)(G:h.Ns az mg){x:Str}{st:aJ}{f:aj}{ps:fO}(d:Dh K x st f)
  (hb:∀(kV doc pm:Value) (an:Option Addr) (cdv ct:Value) (us:List Value),us.length=ps.length→bindArgs (PySem.W.fnOf x x (O9 st) (G3 st) (b9 st) .none kV doc pm an cdv ct) ⟨us,[]⟩=pure (ps.zip us):=by
   intro _ _ _ _ _ _
   first|exact us1 λ_=>rfl|exact us2 λ_ _=>rfl|exact us3 λ_ _ _=>rfl|exact us4 λ_ _ _ _=>rfl|exact us0 rfl|exact us5 λ_ _ _ _ _=>rfl):Df K mg x st ps f d.fd:=by
 obtain⟨_,_,_,_,_,_,_,_,_,z,e,l,c,k⟩:=wP d.ex;have w:d.fd=_:=z;rw[z]at l;rw[w];exact df_mk X G e l c k hb
abbrev FK(P:aL)(w:aH)(K:aD)(mg:aE)(base:aV)(k:Nat)(f:aj)(fd:ak)(ps:fO)(r:Bool)(c:FC):Prop:=FnOk P w K mg base CX0 k f fd ps (spc K r c)
end L2
end
end
section
set_option maxHeartbeats 1000000
namespace K25
open PySem L2
noncomputable section
def h_HallError:Nat->Bool:=(λn=>n==7||n==5)
def h_NotWithin:Nat->Bool:=(λn=>n==7)
def h_Unlike:Nat->Bool:=(λn=>n==5)
def EZ:FS:=(sRet (vAnd (fIsi "int" (fN 0)) (vNot (fIsi "bool" (fN 0)))))
def P9:FC:=cOf 1 1 ac EZ
def Dj:FS:=(sSeq (sIf (fOr (fNot (fTru (fIsi "list" (fN 0)))) (j8 (fOp opNe (fBlt bLen (b6 (fN 0) fNil)) (fN 1)))) (sRet (fC (.bl af))) o7)
 (sRet (fBlt bAll (b6 (j6 1 [] (iSeq (fN 0)) (Tg.one 0) fYes (i6 ac P9 (b6 (fN 0) fNil))) fNil))))
def K2:FC:=cOf 2 2 ac Dj
def Ib:FS:=(sRet (j6 1 [] (o0 (fN 0)) (Tg.one 0) fYes (fC (.int 0))))
def U1:FC:=cOf 1 1 ac Ib
def Fd:FS:=(sRet (j6 1 [1] (o0 (fN 0)) (Tg.one 0) fYes (fIf (j8 (fOp opEq (fN 0) (fN 1))) (fC (.int 1)) (fC (.int 0)))))
def Q1:FC:=cOf 2 2 ac Fd
def Pi:FS:=(sRet (j6 2 [] (iZip (fN 0) (fN 1)) (Tg.many [0,1]) fYes (fOp u9 (fN 0) (fN 1))))
def Ek:FC:=cOf 2 2 ac Pi
def Pj:FS:=(sRet (j6 2 [] (iZip (fN 0) (fN 1)) (Tg.many [0,1]) fYes (fOp IY (fN 0) (fN 1))))
def Cg:FC:=cOf 2 2 ac Pj
def KZ:FS:=(sRet (j6 1 [1] (iSeq (fN 0)) (Tg.one 0) fYes (fOp D9 (fN 1) (fN 0))))
def K3:FC:=cOf 2 2 ac KZ
def Ic:FS:=(sRet (fBlt bSum (b6 (j6 2 [] (iZip (fN 0) (fN 1)) (Tg.many [0,1]) fYes (fOp D9 (fN 0) (fN 1))) fNil)))
def El:FC:=cOf 2 2 ac Ic
def Ie:FS:=(sSeq (sFor [] (Ah (fN 0)) (Tg.many [1,2])
 (sIf (j8 (fOp opNe (fN 2) (fC (.int 0)))) (sRet (fN 1)) o7))
 (sRet (fBlt bLen (b6 (fN 0) fNil))))
def o9:FC:=cOf 1 3 ac Ie
def Dk:FS:=(sRet (vAnd (i6 ac P9 (b6 (fN 0) fNil)) (OU opLe opLe (fC (.int 1)) (fN 0) (fC (.int 6)))))
def AM:FC:=cOf 1 1 ac Dk
def Ig:FS:=(sRet (vAnd (i6 ac K2 (b6 (fN 0) (b6 (fN 1) fNil))) (fBlt bAll (b6 (j6 1 [] (iSeq (fN 0)) (Tg.one 0) fYes (fOp opLt (fBlt bAbs (b6 (fN 0) fNil)) (fOp Ni (fC (.int 10)) (fC (.int 30))))) fNil))))
def Em:FC:=cOf 2 2 ac Ig
def Ch:FS:=(sIf (fNot (fTru (i6 ac AM (b6 (fN 0) fNil)))) C3 o7)
def Y4:FC:=cOf 1 1 ac Ch
def Dl:FS:=(sIf (fNot (fTru (i6 ac Em (b6 (fN 0) (b6 (fN 1) fNil))))) C3 o7)
def R1:FC:=cOf 2 2 ac Dl
def Ih:FS:=(sRet (fTup (b6 (fN 0) (b6 (fBlt bTup (b6 (j6 1 [] (iSeq (fN 1)) (Tg.one 0) fYes (fBlt bTup (b6 (fN 0) fNil))) fNil)) fNil))))
def En:FC:=cOf 2 2 ac Ih
def Ii:FS:=(sSeq (Bi (i6 ac Y4 (b6 (fN 0) fNil)))
 (sSeq (sIf (fOr (fNot (fTru (fIsi "list" (fN 1)))) (j8 (fOp opGt (fBlt bLen (b6 (fN 1) fNil)) (fC (.int 8))))) C3 o7)
 (sSeq (sFor [] (iSeq (fN 1)) (Tg.one 2)
 (Bi (i6 ac R1 (b6 (fN 2) (b6 (fN 0) fNil)))))
 (sRet (i6 ac En (b6 (fN 0) (b6 (fN 1) fNil)))))))
def F7:FC:=cOf 2 3 ac Ii
def U2:FS:=(sIf (fNot (fTru (i6 ac K2 (b6 (fN 1) (b6 (fN 0) fNil))))) C3 o7)
def N3:FC:=cOf 2 2 ac U2
def Bb:FS:=(Bi (i6 ac N3 (b6 (fAt (fN 0) (fC (.int 0))) (b6 (fN 1) fNil))))
def O3:FC:=cOf 2 2 ac Bb
def La:FS:=(sRet (i6 ac U1 (b6 (fAt (fN 0) (fC (.int 0))) fNil)))
def GL:FC:=cOf 1 1 ac La
def Pk:FS:=(sSeq (Bi (i6 ac O3 (b6 (fN 0) (b6 (fN 1) fNil))))
 (sSeq (Bi (i6 ac O3 (b6 (fN 0) (b6 (fN 2) fNil))))
 (sRet (i6 ac Cg (b6 (fN 2) (b6 (fN 1) fNil))))))
def Eo:FC:=cOf 3 3 ac Pk
def Lb:FS:=(sSeq (sSet [] 2 (fLst (b6 (fN 0) (b6 (fC (.int 1)) (b6 (fC (.int 0)) fNil)))))
 (sSeq (sSet [] 3 (fLst (b6 (fN 1) (b6 (fC (.int 0)) (b6 (fC (.int 1)) fNil)))))
 (sSeq (AY (j8 (fOp opNe (fAt (fN 3) (fC (.int 0))) (fC (.int 0)))) (sSeq (sSet [] 4 (fOp L5 (fAt (fN 2) (fC (.int 0))) (fAt (fN 3) (fC (.int 0)))))
 (sSeq (sSet [] 5 (j6 1 [2,4,3] (o0 (fC (.int 3))) (Tg.one 0) fYes (fOp IY (fAt (fN 1) (fN 0)) (fOp D9 (fN 2) (fAt (fN 3) (fN 0))))))
 (sSeq (sSet [] 2 (fN 3))
 (sSet [] 3 (fN 5))))))
 (sSeq (sIf (j8 (fOp opLt (fAt (fN 2) (fC (.int 0))) (fC (.int 0)))) (sSet [] 2 (j6 1 [] (iSeq (fN 2)) (Tg.one 0) fYes (fNeg (fN 0)))) o7)
 (sRet (fBlt bTup (b6 (fN 2) fNil)))))))
def Dm:FC:=cOf 2 6 ac Lb
def Pl:FS:=(sSeq (sIf (j8 (fOp opEq (fN 1) (fC (.int 0)))) (sRet (fN 0)) o7)
 (sRet (fOp B3 (fN 0) (fN 1))))
def Dn:FC:=cOf 2 2 ac Pl
def Ij:FS:=(sSeq (sSet [] 1 (fC (.int 1)))
 (sSeq (sFor [] (iSeq (fN 0)) (Tg.one 2)
 (sSet [] 1 (fOp D9 (fN 1) (fN 2))))
 (sRet (fN 1))))
def Bq:FC:=cOf 1 3 ac Ij
def Ff:FS:=(sSeq (sSet [] 2 (fBlt bLst (b6 (fN 0) fNil)))
 (sSeq (sOwn 3 (fLst fNil))
 (sSeq (sFor [] (iSeq (fN 1)) (Tg.one 4)
 (sSeq (sSet [] 5 (i6 ac o9 (b6 (fN 4) fNil)))
 (sSeq (sSet [] 6 (fOp L5 (fAt (fN 2) (fN 5)) (fAt (fN 4) (fN 5))))
 (sSeq (sIf (j8 (fOp opNe (fN 6) (fC (.int 0)))) (sSet [] 2 (i6 ac Cg (b6 (fN 2) (b6 (i6 ac K3 (b6 (fN 4) (b6 (fN 6) fNil))) fNil)))) o7)
 (sWr wApp 3 (fN 6))))))
 (sRet (fTup (b6 (fN 3) (b6 (fN 2) fNil)))))))
def Ci:FC:=cOf 2 7 ac Ff
def Ik:FS:=(sRet (fAt (i6 ac Ci (b6 (fN 0) (b6 (fN 1) fNil))) (fC (.int 1))))
def B9:FC:=cOf 2 2 ac Ik
def Il:FS:=(sSeq (sSet [] 2 (i6 ac o9 (b6 (fN 0) fNil)))
 (sSeq (sSet [] 3 (i6 ac Dm (b6 (fAt (fN 0) (fN 2)) (b6 (fAt (fN 1) (fN 2)) fNil))))
 (sSeq (sSet [] 4 (i6 ac Ek (b6 (i6 ac K3 (b6 (fN 0) (b6 (fAt (fN 3) (fC (.int 1))) fNil))) (b6 (i6 ac K3 (b6 (fN 1) (b6 (fAt (fN 3) (fC (.int 2))) fNil))) fNil))))
 (sSeq (sSet [] 5 (i6 ac Cg (b6 (i6 ac K3 (b6 (fN 1) (b6 (fOp L5 (fAt (fN 0) (fN 2)) (fAt (fN 3) (fC (.int 0)))) fNil))) (b6 (i6 ac K3 (b6 (fN 0) (b6 (fOp L5 (fAt (fN 1) (fN 2)) (fAt (fN 3) (fC (.int 0)))) fNil))) fNil))))
 (sRet (fTup (b6 (fN 4) (b6 (fN 5) fNil))))))))
def Z0:FC:=cOf 2 6 ac Il
def Dp:FS:=(sRet (fIf (j8 (fOp opLt (fAt (fN 0) (i6 ac o9 (b6 (fN 0) fNil))) (fC (.int 0)))) (i6 ac K3 (b6 (fN 0) (b6 (fNeg (fC (.int 1))) fNil))) (fBlt bLst (b6 (fN 0) fNil))))
def G9:FC:=cOf 1 1 ac Dp
def Al:FS:=(sSeq (sOwn 2 (fBlt bLst (b6 (fN 0) fNil)))
 (sSeq (Q8 3 (i6 ac B9 (b6 (fN 1) (b6 (fN 2) fNil))))
 (sSeq (AY (j8 (fOp opLt (i6 ac o9 (b6 (fN 3) fNil)) (fBlt bLen (b6 (fN 3) fNil)))) (sSeq (Q8 4 (j6 2 [3] (Ah (fN 2)) (Tg.many [0,1]) (j8 (fOp opEq (i6 ac o9 (b6 (fN 1) fNil)) (i6 ac o9 (b6 (fN 2) fNil)))) (fN 0)))
 (sSeq (sIf (j8 (fOp opEq (fBlt bLen (b6 (fN 4) fNil)) (fC (.int 0)))) (sRet (EX o9 (fOp u9 (fN 2) (fLst (b6 (i6 ac G9 (b6 (fN 3) fNil)) fNil))))) o7)
 (sSeq (Q8 5 (i6 ac Z0 (b6 (fAt (fN 2) (fAt (fN 4) (fC (.int 0)))) (b6 (fN 3) fNil))))
 (sSeq (sPut 2 (fAt (fN 4) (fC (.int 0))) (fAt (fN 5) (fC (.int 0))))
 (Q8 3 (i6 ac B9 (b6 (fAt (fN 5) (fC (.int 1))) (b6 (fN 2) fNil)))))))))
 (sRet (fN 2)))))
def U3:FC:=cOf 2 6 af Al
def Lc:FS:=(sSeq (sOwn 1 (fLst fNil))
 (sSeq (sFor [] (iRev (fN 0)) (Tg.one 2)
 (sWrA Ku 1 (i6 ac B9 (b6 (fN 2) (b6 (fN 1) fNil)))))
 (sRet (fN 1))))
def Dq:FC:=cOf 1 3 ac Lc
def Im:FS:=(sSeq (sSet [] 1 (fLst fNil))
 (sSeq (sFor [] (iSeq (fN 0)) (Tg.one 2)
 (sSet [] 1 (i6 ac Dq (b6 (i6 af U3 (b6 (fN 1) (b6 (fN 2) fNil))) fNil))))
 (sRet (fN 1))))
def R3:FC:=cOf 1 3 ac Im
def S6:FS:=(sRet (i6 ac R3 (b6 (j6 2 [] (iZip (fN 0) (fN 1)) (Tg.many [0,1]) fYes (fOp u9 (fBlt bLst (b6 (fN 0) fNil)) (fBlt bLst (b6 (fN 1) fNil)))) fNil)))
def B7:FC:=cOf 2 2 ac S6
def U4:FS:=(sRet (j6 1 [1] (iSeq (fN 0)) (Tg.one 0) (j8 (fOp opGe (i6 ac o9 (b6 (fN 0) fNil)) (fN 1))) (fSl (fN 0) (J2 (fN 1)) z9)))
def C7:FC:=cOf 2 2 ac U4
def X4:FS:=(sRet (i6 ac Bq (b6 (j6 1 [] (iSeq (fN 0)) (Tg.one 0) fYes (fAt (fN 0) (i6 ac o9 (b6 (fN 0) fNil)))) fNil)))
def A9:FC:=cOf 1 1 ac X4
def Pm:FS:=(sRet (i6 ac R3 (b6 (fAt (fN 0) (fC (.int 1))) fNil)))
def L3:FC:=cOf 1 1 ac Pm
def S7:FS:=(sSeq (sSet [] 1 (fBlt bLen (b6 (fAt (fN 0) (fC (.int 1))) fNil)))
 (sRet (i6 ac B7 (b6 (fAt (fN 0) (fC (.int 1))) (b6 (j6 1 [1] (o0 (fN 1)) (Tg.one 0) fYes (i6 ac Q1 (b6 (fN 1) (b6 (fN 0) fNil)))) fNil)))))
def A6:FC:=cOf 1 2 ac S7
def Dr:FS:=(sIf (j8 (fOp opNe (fAt (fN 0) (fC (.int 0))) (fAt (fN 1) (fC (.int 0))))) (P7 5) o7)
def W4:FX:=xOf 2 2 ac Dr
def AN:FS:=(sIf (j8 (fOp opNe (fAt (fN 0) (fC (.int 0))) (fAt (fN 1) (fC (.int 0))))) C3 o7)
def K7:FC:=cOf 2 2 ac AN
def Ld:FS:=(sSeq (CV W4 (b6 (fN 0) (b6 (fN 1) fNil)))
 C3)
def Lf:FX:=xOf 2 2 ac Ld
def z2i:FS:=(sSeq (CV W4 (b6 (fN 0) (b6 (fN 1) fNil)))
 C3)
def z2j:FX:=xOf 2 5 ac z2i
def Lg:FS:=(sSeq (CV W4 (b6 (fN 0) (b6 (fN 1) fNil)))
 C3)
def Am:FX:=xOf 2 3 ac Lg
def GM:FS:=(sSeq (Bi (i6 ac K7 (b6 (fN 0) (b6 (fN 1) fNil))))
 (sSeq (sSet [] 2 (i6 ac L3 (b6 (fN 1) fNil)))
 (sRet (fBlt bAll (b6 (j6 1 [2,0] (iSeq (fAt (fN 0) (fC (.int 1)))) (Tg.one 0) fYes (fOp opEq (i6 ac B9 (b6 (fN 0) (b6 (fN 1) fNil))) (i6 ac U1 (b6 (fAt (fN 2) (fC (.int 0))) fNil)))) fNil)))))
def D5:FC:=cOf 2 3 ac GM
def U5:FS:=(sSeq (sOr (sIf (fNot (fTru (i6 ac D5 (b6 (fN 0) (b6 (fN 1) fNil))))) (P7 7) o7) (sEx (Kw Am (b6 (fN 0) (b6 (fN 1) fNil)))))
 (sSeq (sSet [] 2 (i6 ac L3 (b6 (fN 0) fNil)))
 (sSeq (sSet [] 3 (i6 ac L3 (b6 (fN 1) fNil)))
 (sSeq (sIf (j8 (fOp opLt (fBlt bLen (b6 (fN 2) fNil)) (fBlt bLen (b6 (fN 3) fNil)))) (sRet (fC .non)) o7)
 (sRet (fOp L5 (i6 ac A9 (b6 (fN 2) fNil)) (i6 ac A9 (b6 (fN 3) fNil))))))))
def M7:FX:=xOf 2 4 ac U5
def Io:FS:=(sSeq (sSet [] 3 (i6 ac K3 (b6 (i6 ac Eo (b6 (fN 0) (b6 (fN 1) (b6 (fN 2) fNil)))) (b6 (fNeg (fC (.int 1))) fNil))))
 (sSeq (sSet [] 4 (i6 ac B9 (b6 (fOp u9 (fN 3) (i6 ac U1 (b6 (fBlt bLen (b6 (fAt (fN 0) (fC (.int 1))) fNil)) fNil))) (b6 (i6 ac A6 (b6 (fN 0) fNil)) fNil))))
 (sSeq (sIf (j8 (fOp opNe (fSl (fN 4) z9 (J2 (fAt (fN 0) (fC (.int 0))))) (i6 ac GL (b6 (fN 0) fNil)))) (sRet (fC .non)) o7)
 (sRet (fSl (fN 4) (J2 (fAt (fN 0) (fC (.int 0)))) z9)))))
def Ep:FC:=cOf 3 5 ac Io
def Pn:FS:=(sRet (i6 ac Ep (b6 (fN 0) (b6 (fN 1) (b6 (fN 2) fNil)))))
def Ip:FC:=cOf 3 3 ac Pn
def Lh:FS:=(sRet (j6 1 [0] (o0 (fN 1)) (Tg.one 0) fYes (j6 1 [0] (iSeq (fN 1)) (Tg.one 0) fYes (fAt (fN 0) (fN 1)))))
def W5:FC:=cOf 2 2 ac Lh
def Cj:FS:=(sSeq (sFor [] (Ah (fN 0)) (Tg.many [1,2])
 (sIf (fOr (j8 (fOp opNe (i6 ac o9 (b6 (fN 2) fNil)) (fN 1))) (fTru (fBlt bAny (b6 (j6 1 [] (iSeq (fSl (fN 2) (J2 (fOp u9 (fN 1) (fC (.int 1)))) z9)) (Tg.one 0) fYes (fOp opNe (fN 0) (fC (.int 0)))) fNil)))) (sRet (fC (.bl af))) o7))
 (sRet (fC (.bl ac))))
def Q2:FC:=cOf 1 3 ac Cj
def Po:FS:=(sRet (j6 1 [1] (iSeq (fN 0)) (Tg.one 0) fYes (i6 ac Dn (b6 (fN 0) (b6 (fN 1) fNil)))))
def V4:FC:=cOf 2 2 ac Po
def Bs:FS:=(sSeq (sSet [] 3 (fBlt bLen (b6 (fN 0) fNil)))
 (sSeq (sSet [] 4 (fN 0))
 (sSeq (sSet [] 5 (fN 1))
 (sSeq (AY (fNot (fTru (i6 ac Q2 (b6 (fN 4) fNil)))) (sSeq (sSet [] 6 (i6 ac W5 (b6 (i6 ac R3 (b6 (i6 ac W5 (b6 (fN 4) (b6 (fN 3) fNil))) fNil)) (b6 (fN 3) fNil))))
 (sSeq (sSet [] 7 (i6 ac B7 (b6 (fN 6) (b6 (fN 5) fNil))))
 (sSeq (sSet [] 4 (j6 1 [3] (iSeq (fN 7)) (Tg.one 0) fYes (fSl (fN 0) z9 (J2 (fN 1)))))
 (sSet [] 5 (j6 1 [3,2] (iSeq (fN 7)) (Tg.one 0) fYes (i6 ac V4 (b6 (fSl (fN 0) (J2 (fN 1)) z9) (b6 (fN 2) fNil)))))))))
 (sRet (j6 2 [4] (Ah (fN 5)) (Tg.many [0,1]) fYes (fTup (b6 (fN 1) (b6 (fAt (fAt (fN 2) (fN 0)) (fN 0)) fNil)))))))))
def Er:FC:=cOf 3 8 af Bs
def Ds:FS:=(sSeq (sSet [] 2 (i6 ac Dm (b6 (fAt (fN 0) (fC (.int 1))) (b6 (fAt (fN 1) (fC (.int 1))) fNil))))
 (sSeq (sSet [] 3 (fAt (fN 2) (fC (.int 0))))
 (sSeq (sSet [] 4 (fOp D9 (fOp L5 (fAt (fN 0) (fC (.int 1))) (fN 3)) (fAt (fN 1) (fC (.int 1)))))
 (sSeq (sSet [] 5 (i6 ac Ek (b6 (fAt (fN 0) (fC (.int 0))) (b6 (fAt (fN 1) (fC (.int 0))) fNil))))
 (sSeq (sSet [] 6 (i6 ac Ek (b6 (i6 ac K3 (b6 (fAt (fN 0) (fC (.int 0))) (b6 (fOp D9 (fNeg (fAt (fN 2) (fC (.int 2)))) (fOp L5 (fAt (fN 1) (fC (.int 1))) (fN 3))) fNil))) (b6 (i6 ac K3 (b6 (fAt (fN 1) (fC (.int 0))) (b6 (fOp D9 (fAt (fN 2) (fC (.int 1))) (fOp L5 (fAt (fN 0) (fC (.int 1))) (fN 3))) fNil))) fNil))))
 (sRet (fTup (b6 (fTup (b6 (i6 ac V4 (b6 (fN 5) (b6 (fN 3) fNil))) (b6 (fN 3) fNil))) (b6 (fTup (b6 (i6 ac V4 (b6 (fN 6) (b6 (fN 4) fNil))) (b6 (fN 4) fNil))) fNil)))))))))
def An:FC:=cOf 2 7 ac Ds
def Bt:FS:=(sSeq (sOwn 1 (fBlt bLst (b6 (fN 0) fNil)))
 (sSeq (Jd (o0 (fBlt bLen (b6 (fN 1) fNil))) (Tg.one 2)
 (Jd (JJ (fOp u9 (fN 2) (fC (.int 1))) (fBlt bLen (b6 (fN 1) fNil))) (Tg.one 3)
 (sSeq (Q8 4 (i6 ac An (b6 (fAt (fN 1) (fN 2)) (b6 (fAt (fN 1) (fN 3)) fNil))))
 (sSeq (sPut 1 (fN 2) (fAt (fN 4) (fC (.int 0))))
 (sPut 1 (fN 3) (fAt (fN 4) (fC (.int 1))))))))
 (sRet (j6 2 [] (iSeq (fN 1)) (Tg.many [0,1]) fYes (fTup (b6 (i6 ac V4 (b6 (fN 0) (b6 (fN 1) fNil))) (b6 (fN 1) fNil)))))))
def Z1:FC:=cOf 1 5 ac Bt
def Ao:FS:=(sSeq (sSet [] 1 (fAt (fN 0) (fC (.int 0))))
 (sSeq (sSet [] 2 (i6 ac L3 (b6 (fN 0) fNil)))
 (sSeq (sSet [] 3 (fBlt bLen (b6 (fN 2) fNil)))
 (sSeq (sSet [] 4 (i6 ac B7 (b6 (i6 ac W5 (b6 (fN 2) (b6 (fN 1) fNil))) (b6 (j6 1 [1] (o0 (fN 1)) (Tg.one 0) fYes (i6 ac Q1 (b6 (fN 1) (b6 (fN 0) fNil)))) fNil))))
 (sSeq (sSet [] 5 (j6 1 [3] (iSeq (fSl (fN 4) z9 (J2 (fN 3)))) (Tg.one 0) fYes (fSl (fN 0) z9 (J2 (fN 1)))))
 (sSeq (sSet [] 6 (i6 ac Bq (b6 (j6 2 [] (Ah (fN 5)) (Tg.many [0,1]) fYes (fAt (fN 1) (fN 0))) fNil)))
 (sSeq (sSet [] 7 (i6 af Er (b6 (fN 5) (b6 (j6 1 [3] (iSeq (fSl (fN 4) z9 (J2 (fN 3)))) (Tg.one 0) fYes (fSl (fN 0) (J2 (fN 1)) z9)) (b6 (fN 6) fNil)))))
 (sRet (fOp u9 (i6 ac Z1 (b6 (fN 7) fNil)) (j6 1 [] (iSeq (i6 ac C7 (b6 (fN 4) (b6 (fN 3) fNil)))) (Tg.one 0) fYes (fTup (b6 (fN 0) (b6 (fC (.int 0)) fNil)))))))))))))
def M8:FC:=cOf 1 8 af Ao
def Du:FS:=(sRet (j6 2 [] (iSeq (i6 af M8 (b6 (fN 0) fNil))) (Tg.many [0,1]) (j8 (fOp opNe (fN 1) (fC (.int 1)))) (fTup (b6 (fN 0) (b6 (fN 1) fNil)))))
def S8:FC:=cOf 1 1 af Du
def Uq:FS:=(sRet (i6 ac Dn (b6 (i6 ac El (b6 (fN 0) (b6 (fAt (fN 1) (fC (.int 0))) fNil))) (b6 (fAt (fN 1) (fC (.int 1))) fNil))))
def Dw:FC:=cOf 2 2 ac Uq
def U6:FS:=(sRet (fTup (b6 (fAt (fN 0) (fC (.int 0))) (b6 (fIf (j8 (fOp opEq (fAt (fN 0) (fC (.int 1))) (fC (.int 0)))) (fOp u9 (fBlt bAbs (b6 (fN 1) fNil)) (fC (.int 1))) (fAt (fN 0) (fC (.int 1)))) fNil))))
def K4:FC:=cOf 2 2 af U6
def Bu:FS:=(sSeq (sSet [] 3 (i6 ac Eo (b6 (fN 0) (b6 (fN 1) (b6 (fN 2) fNil)))))
 (sSeq (sFor [] (iSeq (i6 af S8 (b6 (fN 0) fNil))) (Tg.one 4)
 (sSeq (sSet [] 5 (i6 ac Dw (b6 (fN 3) (b6 (fN 4) fNil))))
 (sIf (j8 (fOp opNe (fN 5) (fC (.int 0)))) (sRet (i6 af K4 (b6 (fN 4) (b6 (fN 5) fNil)))) o7)))
 (sRet (fC .non))))
def Ap:FC:=cOf 3 6 af Bu
def Fg:FS:=(sSeq (sIf (fOr (fNot (fTru (fIsi "list" (fN 1)))) (j8 (fOp opNe (fBlt bLen (b6 (fN 1) fNil)) (fAt (fN 0) (fC (.int 0)))))) (sRet (fC (.bl af))) o7)
 (sRet (fBlt bAll (b6 (j6 1 [2] (iSeq (fN 1)) (Tg.one 0) fYes (i6 ac K2 (b6 (fN 0) (b6 (fAt (fN 1) (fC (.int 0))) fNil)))) fNil))))
def Ck:FC:=cOf 3 3 ac Fg
def Cl:FS:=(sIf (fNot (fTru (i6 ac Ck (b6 (fN 0) (b6 (fN 1) (b6 (fN 2) fNil)))))) (P7 5) o7)
def Y5:FX:=xOf 3 3 ac Cl
def Pp:FS:=(sSeq (CV Y5 (b6 (fN 0) (b6 (fN 1) (b6 (fN 2) fNil))))
 C3)
def Pq:FX:=xOf 3 4 ac Pp
def Li:FS:=(sSeq (CV Y5 (b6 (fN 0) (b6 (fN 1) (b6 (fN 2) fNil))))
 C3)
def Lj:FX:=xOf 3 6 ac Li
def Dx:FS:=(sSeq (sIf (j8 (fOp opLt (fN 1) (fBlt bLen (b6 (fN 0) fNil)))) (sRet (fAt (fN 0) (fN 1))) o7)
 (sSeq (sIf (j8 (fOp opEq (fN 0) (fLst fNil))) (sRet (fC (.int 0))) o7)
 (sRet (fOp u9 (fOp D9 (fAt (fN 0) (fOp B3 (fN 1) (fBlt bLen (b6 (fN 0) fNil)))) (fC (.int 31))) (fN 1)))))
def A5:FC:=cOf 2 2 ac Dx
def Es:FS:=(sRet (vAnd (fIsi "int" (fN 0)) (vNot (fIsi "bool" (fN 0)))))
def N4:FC:=cOf 1 1 ac Es
def Fh:FS:=(sSeq (sIf (fOr (fNot (fTru (fIsi "list" (fN 0)))) (j8 (fOp opNe (fBlt bLen (b6 (fN 0) fNil)) (fN 1)))) (sRet (fC (.bl af))) o7)
 (sSeq (sFor [] (iSeq (fN 0)) (Tg.one 2)
 (sIf (fNot (fTru (i6 ac N4 (b6 (fN 2) fNil)))) (sRet (fC (.bl af))) o7))
 (sRet (fC (.bl ac)))))
def Aq:FC:=cOf 2 3 ac Fh
def Ar:FS:=(sSeq (sIf (j8 (fOp opEq (fN 1) (fC (.int 2)))) (sSeq (sSet [] 2 (fOp B3 (fN 0) (fOp Ni (fC (.int 10)) (fC (.int 30)))))
 (sSeq (sIf (j8 (fOp opEq (fOp B3 (fOp L5 (fN 0) (fOp Ni (fC (.int 10)) (fC (.int 30)))) (fC (.int 2))) (fC (.int 1)))) (sRet (fNeg (fN 2))) o7)
 (sRet (fN 2)))) o7)
 (sSeq (sSet [] 3 (fAt (fLst (b6 (fC (.int 9)) (b6 (fC (.int 61)) fNil))) (fN 1)))
 (sSeq (sSet [] 2 (fOp B3 (fN 0) (fN 3)))
 (sSeq (sIf (j8 (fOp opGt (fN 2) (fOp L5 (fN 3) (fC (.int 2))))) (sRet (fOp IY (fN 2) (fN 3))) o7)
 (sRet (fN 2))))))
def U7:FC:=cOf 2 4 ac Ar
def Pr:FS:=(sRet (j6 1 [0,1,3] (o0 (fN 2)) (Tg.one 0) fYes (i6 ac U7 (b6 (i6 ac A5 (b6 (fN 1) (b6 (fOp u9 (fN 2) (fN 0)) fNil))) (b6 (fN 3) fNil)))))
def P3:FC:=cOf 4 4 ac Pr
def Ps:FS:=(sSeq (sSet [] 3 (j6 1 [] (o0 (fN 0)) (Tg.one 0) fYes (fC (.int 0))))
 (sSeq (sFor [] (o0 (fBlt bLen (b6 (fN 1) fNil))) (Tg.one 4)
 (sSet [] 3 (j6 1 [3,2,4,1] (o0 (fN 0)) (Tg.one 0) fYes (fOp u9 (fAt (fN 1) (fN 0)) (fOp D9 (fAt (fN 2) (fN 3)) (fAt (fAt (fN 4) (fN 3)) (fN 0)))))))
 (sRet (fN 3))))
def JP:FC:=cOf 3 5 ac Ps
def Lk:FS:=(sRet (j6 1 [0,2,1] (o0 (fBlt bLen (b6 (fN 0) fNil))) (Tg.one 0) fYes (fOp u9 (fAt (fN 1) (fN 0)) (fOp D9 (fN 2) (fAt (fN 3) (fN 0))))))
def Dy:FC:=cOf 3 3 ac Lk
def Iq:FS:=(sSeq (sSet [] 2 (fC (.int 0)))
 (sSeq (sFor [] (o0 (fBlt bLen (b6 (fN 1) fNil))) (Tg.one 3)
 (sSet [] 2 (fOp u9 (fN 2) (fOp D9 (fAt (fN 0) (fN 3)) (fAt (fN 1) (fN 3))))))
 (sRet (fN 2))))
def U8:FC:=cOf 2 4 ac Iq
def Ir:FS:=(sSeq (sIf (fNot (fTru (i6 ac Aq (b6 (fN 3) (b6 (fBlt bLen (b6 (fN 0) fNil)) fNil))))) (sRet (fC (.bl af))) o7)
 (sRet (fOp opEq (i6 ac Dy (b6 (fN 1) (b6 (i6 ac JP (b6 (fBlt bLen (b6 (fN 1) fNil)) (b6 (fN 0) (b6 (fN 3) fNil)))) (b6 (fC (.int 1)) fNil)))) (fN 2))))
def Bv:FC:=cOf 4 4 ac Ir
def Fm:FS:=(sSeq (sIf (fOr (fNot (fTru (fIsi "tuple" (fN 3)))) (fOr (j8 (fOp opNe (fBlt bLen (b6 (fN 3) fNil)) (fC (.int 2)))) (fNot (fTru (i6 ac N4 (b6 (fAt (fN 3) (fC (.int 1))) fNil)))))) (sRet (fC (.bl af))) o7)
 (sSeq (sIf (fOr (fNot (fTru (i6 ac Aq (b6 (fAt (fN 3) (fC (.int 0))) (b6 (fBlt bLen (b6 (fN 1) fNil)) fNil))))) (j8 (fOp opLt (fAt (fN 3) (fC (.int 1))) (fC (.int 2))))) (sRet (fC (.bl af))) o7)
 (sSeq (sFor [] (iSeq (fN 0)) (Tg.one 4)
 (sIf (j8 (fOp opNe (fOp B3 (i6 ac U8 (b6 (fAt (fN 3) (fC (.int 0))) (b6 (fN 4) fNil))) (fAt (fN 3) (fC (.int 1)))) (fC (.int 0)))) (sRet (fC (.bl af))) o7))
 (sRet (fOp opNe (fOp B3 (i6 ac U8 (b6 (fAt (fN 3) (fC (.int 0))) (b6 (i6 ac Dy (b6 (fN 2) (b6 (fN 1) (b6 (fNeg (fC (.int 1))) fNil)))) fNil))) (fAt (fN 3) (fC (.int 1)))) (fC (.int 0)))))))
def Au:FC:=cOf 4 5 ac Fm
def JQ:FS:=(sSeq (sSet [] 1 (fAt (fLst (b6 (fC (.int 0)) (b6 (fC (.int 0)) (b6 (fC (.int 0)) (b6 (fC (.int 1)) (b6 (fC (.int 2)) fNil)))))) (fOp B3 (i6 ac A5 (b6 (fN 0) (b6 (fC (.int 2)) fNil))) (fC (.int 5)))))
 (sSeq (sSet [] 2 (fOp u9 (fC (.int 1)) (fOp B3 (i6 ac A5 (b6 (fN 0) (b6 (fC (.int 0)) fNil))) (fC (.int 3)))))
 (sSeq (sSet [] 3 (fOp B3 (i6 ac A5 (b6 (fN 0) (b6 (fC (.int 1)) fNil))) (fC (.int 4))))
 (sSeq (sSet [] 4 (fOp B3 (i6 ac A5 (b6 (fN 0) (b6 (fC (.int 3)) fNil))) (fC (.int 4))))
 (sSeq (sIf (j8 (fOp opEq (fOp B3 (i6 ac A5 (b6 (fN 0) (b6 (fC (.int 4)) fNil))) (fC (.int 7))) (fC (.int 6)))) (sSeq (sSet [] 2 (fC (.int 6)))
 (sSet [] 1 (fC (.int 0)))) o7)
 (sSeq (sIf (fAnd (j8 (fOp opLt (fN 2) (fC (.int 4)))) (fAnd (j8 (fOp opEq (fN 1) (fC (.int 0)))) (j8 (fOp opEq (fOp B3 (i6 ac A5 (b6 (fN 0) (b6 (fC (.int 7)) fNil))) (fC (.int 3))) (fC (.int 1)))))) (sSeq (sSet [] 3 (fOp u9 (fN 3) (fC (.int 5))))
 (sSet [] 4 (fOp u9 (fN 4) (fC (.int 5))))) o7)
 (sSeq (sIf (j8 (fOp opEq (fN 1) (fC (.int 2)))) (sSeq (sSet [] 2 (fOp u9 (fC (.int 1)) (fOp B3 (fN 2) (fC (.int 2)))))
 (sSeq (sSet [] 3 (fOp B3 (fN 3) (fC (.int 3))))
 (sSet [] 4 (fOp B3 (fN 4) (fC (.int 3)))))) o7)
 (sSeq (sSet [] 5 (j6 1 [0,2,1] (o0 (fN 3)) (Tg.one 0) fYes (i6 ac P3 (b6 (fN 1) (b6 (fOp u9 (fC (.int 8)) (fOp D9 (fN 2) (fN 0))) (b6 (fN 2) (b6 (fN 3) fNil)))))))
 (sSeq (sSet [] 6 (j6 1 [0,2,1] (o0 (fN 4)) (Tg.one 0) fYes (i6 ac P3 (b6 (fN 1) (b6 (fOp u9 (fC (.int 27)) (fOp D9 (fN 2) (fN 0))) (b6 (fN 2) (b6 (fN 3) fNil)))))))
 (sRet (fTup (b6 (fN 2) (b6 (fN 5) (b6 (fN 6) fNil))))))))))))))
def Pt:FC:=cOf 1 7 ac JQ
def Fn:FS:=(sRet (j6 1 [] (iSeq (fN 0)) (Tg.one 0) fYes (fBlt bLst (b6 (fN 0) fNil))))
def Q3:FC:=cOf 1 1 ac Fn
def GN:FS:=(sSeq (sSet [] 4 (i6 ac Ip (b6 (fN 0) (b6 (fBlt bLst (b6 (fN 2) fNil)) (b6 (fBlt bLst (b6 (fN 3) fNil)) fNil)))))
 (sSeq (sIf (j8 (fOp Km (fN 4) (fC .non))) (sRet (fAt (fLst (b6 (fC .non) (b6 (fC (.bl ac)) fNil))) (fBlt bInt (b6 (i6 ac Bv (b6 (fN 1) (b6 (fN 2) (b6 (fN 3) (b6 (fN 4) fNil))))) fNil)))) o7)
 (sSeq (sSet [] 5 (i6 af Ap (b6 (fN 0) (b6 (fBlt bLst (b6 (fN 2) fNil)) (b6 (fBlt bLst (b6 (fN 3) fNil)) fNil)))))
 (sSeq (sIf (fOr (j8 (fOp EI (fN 5) (fC .non))) (fNot (fTru (i6 ac Au (b6 (fN 1) (b6 (fN 2) (b6 (fN 3) (b6 (fN 5) fNil)))))))) (sRet (fC .non)) o7)
 (sRet (fC (.bl af)))))))
def O6:FC:=cOf 4 6 ac GN
def Et:FS:=(sSeq (sIf (j8 (fOp opEq (fN 3) (fC (.int 0)))) (Gu ac Lf (b6 (fN 0) (b6 (fN 1) fNil))) o7)
 (sSeq (sIf (j8 (fOp opEq (fN 3) (fC (.int 1)))) (Gu ac z2j (b6 (fN 0) (b6 (fN 1) fNil))) o7)
 (sSeq (sIf (j8 (fOp opEq (fN 3) (fC (.int 2)))) (Gu ac Am (b6 (fN 0) (b6 (fN 1) fNil))) o7)
 (sSeq (sIf (j8 (fOp opEq (fN 3) (fC (.int 3)))) (Gu ac M7 (b6 (fN 0) (b6 (fN 1) fNil))) o7)
 (sSeq (sIf (j8 (fOp opEq (fN 3) (fC (.int 4)))) (Gu ac Pq (b6 (fN 0) (b6 (fN 2) (b6 (fN 1) fNil)))) o7)
 (Gu ac Lj (b6 (fN 0) (b6 (fN 2) (b6 (fN 1) fNil)))))))))
def Z2:FX:=xOf 4 4 ac Et
def Fp:FS:=(sSeq (sSet [] 4 (fC (.int 0)))
 (sSeq (sTry Z2 (b6 (fN 0) (b6 (fN 1) (b6 (fN 2) (b6 (fN 3) fNil)))) h_Unlike (sSet [] 4 (fOp u9 (fN 4) (fC (.int 1)))))
 (sSeq (Pb Z2 (b6 (fN 0) (b6 (fN 1) (b6 (fN 2) (b6 (fN 3) fNil)))) h_HallError 5 (sSet [] 4 (fOp u9 (fN 4) (fBlt bInt (b6 (fIsx 5) fNil)))))
 (sRet (fOp opEq (fN 4) (fC (.int 2)))))))
def U9:FC:=cOf 4 6 ac Fp
def Q4:FS:=(sSeq (sOwn 3 (j6 1 [] (iSeq (fN 0)) (Tg.one 0) fYes (fBlt bLst (b6 (fN 0) fNil))))
 (sSeq (sIf (j8 (fOp opEq (fN 1) (fC (.int 0)))) (sRet (fBlt bTup (b6 (fN 3) fNil))) o7)
 (sSeq (sIf (j8 (fOp opEq (fN 1) (fC (.int 1)))) (sRet (fOp u9 (fN 3) (fLst (b6 (fBlt bLst (b6 (fAt (fN 3) (fC (.int 0))) fNil)) fNil)))) o7)
 (sSeq (sIf (j8 (fOp opEq (fN 1) (fC (.int 2)))) (sRet (fSl (fN 3) (J2 (fC (.int 1))) z9)) o7)
 (sSeq (Q8 4 (fOp B3 (fN 2) (fBlt bLen (b6 (fN 3) fNil))))
 (sSeq (sIf (j8 (fOp opEq (fN 1) (fC (.int 3)))) (KY 3 (fN 4) (fBlt bTup (b6 (fAt (fN 3) (fN 4)) fNil))) (sIf (j8 (fOp opEq (fN 1) (fC (.int 4)))) C3 (sIf (j8 (fOp opEq (fN 1) (fC (.int 5)))) (KY 3 (fN 4) (fSl (fAt (fN 3) (fN 4)) (J2 (fC (.int 1))) z9)) (sIf (j8 (fOp opEq (fN 1) (fC (.int 6)))) (sPut 3 (fN 4) (fAt (fLst (b6 (fC .non) (b6 (fC (.int 5)) (b6 (fC (.str "12")) (b6 (fC .dic) fNil))))) (fOp B3 (fOp L5 (fN 2) (fC (.int 5))) (fC (.int 4))))) (sIf (j8 (fOp opEq (fN 1) (fC (.int 7)))) C3 (sRet (fAt (fLst (b6 (fC .non) (b6 (fC (.int 5)) (b6 (fC (.str "12")) (b6 (fC .dic) fNil))))) (fOp B3 (fN 2) (fC (.int 4))))))))))
 (sRet (fN 3))))))))
def Fq:FC:=cOf 3 5 af Q4
def Ft:FS:=(sSeq (sSet [] 2 (j6 1 [] (o0 (fAt (fN 0) (fC (.int 0)))) (Tg.one 0) fYes (fC (.int 0))))
 (sSeq (sSet [] 3 (fC (.bl ac)))
 (sSeq (sFor [] (iSeq (fAt (fN 0) (fC (.int 1)))) (Tg.one 4)
 (sSeq (sSet [] 5 (i6 ac O6 (b6 (fN 1) (b6 (fAt (fN 0) (fC (.int 2))) (b6 (fN 2) (b6 (fN 4) fNil))))))
 (sSeq (sIf (j8 (fOp EI (fN 5) (fC .non))) (sRet (fC .non)) o7)
 (sSet [] 3 (vAnd (fN 3) (fN 5))))))
 (sRet (fN 3)))))
def Cm:FC:=cOf 2 6 ac Ft
def rwB(m:Nat):Dt->Bool
 |.lst es=>decide ((es.length:Int)=m)&&es.all isWh
 |_=>af
def okR:Dt->Bool
 |.scr _=>af
 |_=>ac
def TB(n m:Nat)(d:Dt):Prop:=(tyN d=="list")=af\/∃ds,d=.lst ds/\(ds.length≠n\/(ds.all okR=ac/\ds.all (rwB m)=af))
def wid:gf->Nat
 |.lst r::_=>r.length
 |_=>0
def preS(ds:gf):Prop:=∃(tb:aA)(m w:Nat)(c:Int),ds=[LL tb,.int w,.int c]/\1<=tb.length/\tb.length<=6/\(∀r∈tb,r.length=m)/\1<=m/\m<=6/\w<9
def YN(ds:gf)(d:Dt):Prop:=∃tb rest,ds=.lst tb::rest/\TB tb.length (wid tb) d
abbrev q0S:FS:=sOwn 3 (j6 1 [] (iSeq (fN 0)) (Tg.one 0) fYes (fBlt bLst (b6 (fN 0) fNil)))
abbrev cIS(j:Int):FT:=j8 (fOp opEq (fN 1) (fC (.int j)))
abbrev q4S:FS:=Q8 4 (fOp B3 (fN 2) (fBlt bLen (b6 (fN 3) fNil)))
abbrev fVS:FE:=fAt (fLst (b6 (fC (.bl ac)) (b6 (fC (.str "1")) (b6 (fC .non) fNil)))) (fOp B3 (fOp L5 (fN 2) (fC (.int 5))) (fC (.int 3)))
abbrev tHd(X:Cx)(rest:TS):TS:=tSeq (upS X q0S) (tSeq (upS X (sIf (cIS 0) C3 o7)) (tSeq (upS X (sIf (cIS 1) C3 o7)) (tSeq (upS X (sIf (cIS 2) C3 o7)) (tSeq (upS X q4S) rest))))
abbrev tSp4(X:Cx):TS:=tHd X (tSeq (tIfS (upB X (cIS 3)) (upS X C3) (tIfS (upB X (cIS 4)) (tDrop (tBM X.K "list" Yh (tOp (rIxL X.K) (tVar 3) (upF X (fN 4))) (z17 (upF X (fOp B3 (fN 2) (fC (.int 5)))) tNil))) (upS X C3))) (tRet (tVar 3)))
abbrev tSp7(X:Cx):TS:=tHd X (tSeq (tIfS (upB X (cIS 3)) (upS X C3) (tIfS (upB X (cIS 4)) (upS X C3) (tIfS (upB X (cIS 5)) (upS X C3) (tIfS (upB X (cIS 6)) (upS X C3) (tIfS (upB X (cIS 7)) (tAsg (upF X fVS) (gSub (tOp (rIxL X.K) (tVar 3) (upF X (fN 4))) (tC (.int 0)) rSetL)) (upS X C3)))))) (tRet (tVar 3)))
def z2k:FS:=(sSeq (sSet [] 1 (i6 ac Pt (b6 (fN 0) fNil)))
 (sSeq (sSet [] 2 (fAt (fN 1) (fC (.int 0))))
 (sSeq (sSet [] 3 (i6 ac A5 (b6 (fN 0) (b6 (fC (.int 6)) fNil))))
 (sSeq (sSet [] 4 (i6 ac F7 (b6 (fN 2) (b6 (i6 ac Q3 (b6 (fAt (fN 1) (fC (.int 1))) fNil)) fNil))))
 (sSeq (sSet [] 5 (i6 ac F7 (b6 (fN 2) (b6 (i6 ac Q3 (b6 (fAt (fN 1) (fC (.int 2))) fNil)) fNil))))
 (sSeq (sSet [] 6 (fOp B3 (i6 ac A5 (b6 (fN 0) (b6 (fC (.int 5)) fNil))) (fC (.int 3))))
 (sSeq (sIf (fAnd (j8 (fOp opEq (fN 6) (fC (.int 0)))) (j8 (fOp opLt (fN 2) (fC (.int 6))))) (sSeq (sSet [] 7 (i6 ac F7 (b6 (fOp u9 (fN 2) (fC (.int 1))) (b6 (j6 1 [3] (iSeq (fAt (fN 1) (fC (.int 2)))) (Tg.one 0) fYes (fOp u9 (fN 0) (fLst (b6 (fOp B3 (fN 1) (fC (.int 2))) fNil)))) fNil))))
 (sRet (vAnd (i6 ac U9 (b6 (fN 4) (b6 (fN 7) (b6 (fLst fNil) (b6 (fOp B3 (fOp L5 (fN 3) (fC (.int 2))) (fC (.int 4))) fNil))))) (i6 ac U9 (b6 (fN 7) (b6 (fN 4) (b6 (fLst fNil) (b6 (fOp B3 (fOp L5 (fN 3) (fC (.int 2))) (fC (.int 4))) fNil)))))))) o7)
 (sSeq (sIf (j8 (fOp opEq (fN 6) (fC (.int 1)))) (sSeq (sSet [] 8 (fOp u9 (fC (.int 1)) (fOp B3 (i6 ac A5 (b6 (fN 0) (b6 (fC (.int 7)) fNil))) (fC (.int 4)))))
 (sSeq (sSet [] 9 (i6 ac F7 (b6 (fN 8) (b6 (fLst (b6 (i6 ac P3 (b6 (fN 0) (b6 (fC (.int 27)) (b6 (fN 8) (b6 (fC (.int 0)) fNil))))) fNil)) fNil))))
 (sSeq (sSet [] 10 (j6 1 [0,8] (o0 (fN 2)) (Tg.one 0) fYes (i6 ac P3 (b6 (fN 1) (b6 (fOp u9 (fC (.int 40)) (fN 0)) (b6 (fN 2) (b6 (fC (.int 0)) fNil)))))))
 (sRet (fUnl U9 preS YN (fN 4) (fN 9) (b6 (fN 10) (b6 (fOp B3 (fN 3) (fC (.int 9))) (b6 (fOp L5 (fN 3) (fC (.int 9))) fNil))) (fOp u9 (fC (.int 4)) (fOp B3 (fOp L5 (fN 3) (fC (.int 7))) (fC (.int 2))))))))) o7)
 (sSeq (sSet [] 11 (i6 ac Cm (b6 (fN 1) (b6 (fN 5) fNil))))
 (sSeq (sSet [] 12 (i6 ac D5 (b6 (fN 4) (b6 (fN 5) fNil))))
 (sSeq (sIf (fOr (j8 (fOp EI (fN 11) (fC .non))) (fOr (fNot (fTru (fIsi "bool" (fN 12)))) (j8 (fOp opNe (fN 12) (fN 11))))) (sRet (fC (.bl af))) o7)
 (sSeq (sSet [] 13 (fC (.bl af)))
 (sSeq (sTry M7 (b6 (fN 4) (b6 (fN 5) fNil)) h_NotWithin (sSet [] 13 (fC (.bl ac))))
 (sRet (fOp opNe (fN 13) (fN 11))))))))))))))))
def YO:FC:=cOf 1 14 ac z2k
theorem D3(ns:aG)(k:Int)(h0:0<=k):A5 [.scr ns,.int k]=aa (.int (u5 ns k)):=by
 unfold A5 Dx u5;by_cases h:k<ns.length
 .have e:atI ns k=aa (ns.getD k.toNat 0):=by
    rw[YA h0,wa (by rfl')];simp[au,wa (show k.toNat<ns.length by rfl')]
  simp[cOf,h,e]
 .by_cases h2:ns=[]
  .subst h2;simp[cOf,h,RH [] [],show ¬k<0 by rfl'];rfl
  .have hp:0<ns.length:=List.length_pos_iff.mpr h2;obtain⟨f1,f2⟩:=M3 k (show(0:Int)<ns.length by rfl');have e:atI ns (k.fmod ns.length)=aa (ns.getD (k.fmod ns.length).toNat 0):=by
    rw[YA f1,wa (by rfl')];simp[au,wa (show(k.fmod ns.length).toNat<ns.length by rfl')]
   have e2:opEq (.scr ns) (.lst [])=aa (.nw,.bl af):=by have:=RH ns [];rw[aU h2]at this;exact this
   simp[cOf,h,h2,e,e2,Jf,N9,show ¬((ns.length:Int)=0) by rfl']
theorem Se(c m:Int)(h0:0<=m)(h3:m<3):U7 [.int c,.int m]=aa (.int (CY c m)):=by
 unfold U7 CY;have hm:m=0\/m=1\/m=2:=by rfl'
 have d30:E7 c 1000000000000000000000000000000=ac:=by unfold E7;decide
 have d9:E7 9 2=ac:=by unfold E7;decide
 have d61:E7 61 2=ac:=by unfold E7;decide
 have p30:Kl 10 30=ac:=by unfold Kl;decide
 have two:∀(m w v:Int),m≠2->atI [Dt.int 9,Dt.int 61] m=aa (.int w)->0<w->E7 w 2=ac->w.fdiv 2=v->cOf 2 4 ac Ar [.int c,.int m]=aa (.int (if v<c.fmod w then c.fmod w-w else c.fmod w)):=λm w v hm2 ha hw hd hv=>by
   refine Y2 (f:=.nw) rfl (run (ρ':=[.sh af (.int c),.sh af (.int m),.no,.no]) (by simp[cOf,v6,hm2]) (run (ρ':=[.sh af (.int c),.sh af (.int m),.no,.sh ac (.int w)]) (by simp[cOf,ha]) (run (ρ':=[.sh af (.int c),.sh af (.int m),.sh ac (.int (c.fmod w)),.sh ac (.int w)]) (by simp[cOf,N9,show ¬w=0 by rfl']) ?_))) rfl;by_cases h:v<c.fmod w
   .simp[cOf,hd,hv,h]
   .simp[cOf,hd,hv,h]
 rcases hm with rfl|rfl|rfl
 .exact(two 0 9 4 (by decide) rfl (by decide) d9 rfl).trans (by simp)
 .exact(two 1 61 30 (by decide) rfl (by decide) d61 rfl).trans (by simp)
 .by_cases h:(c.fdiv 1000000000000000000000000000000).fmod 2=1
  .simp[cOf,Ar,v6,N9,p30,d30,h]
  .simp[cOf,Ar,v6,N9,p30,d30,h]
theorem Ll(ns:aG)(a:Int)(n:Nat)(m:Int)(ha:0<=a)(hn:n<=1000)(h0:0<=m)(h3:m<3):P3 [.scr ns,.int a,.int n,.int m]=aa (L (K1 ns a n m)):=by
 unfold P3 Pr;have q:j6 1 [0,1,3] (o0 (fN 2)) (Tg.one 0) fYes (i6 ac U7 (b6 (i6 ac A5 (b6 (fN 1) (b6 (fOp u9 (fN 2) (fN 0)) fNil))) (b6 (fN 3) fNil))) (rho0 4 [.scr ns,.int a,.int n,.int m])=aa (.nw,L (K1 ns a n m)):=by
  have:=n9 (nt:=1) (js:=[0,1,3]) (Fi:=o0 (fN 2)) (g:=Tg.one 0) (Fe:=i6 ac U7 (b6 (i6 ac A5 (b6 (fN 1) (b6 (fOp u9 (fN 2) (fN 0)) fNil))) (b6 (fN 3) fNil))) (ρ:=rho0 4 [.scr ns,.int a,.int n,.int m]) (e:=λ(k:Nat)=>.int (0+(k:Int))) (h:=λ(k:Nat)=>.int (CY (u5 ns (a+(k:Int))) m)) (xs:=av n)
   (by simp[cOf,o0,intD,V7,A3,show(n:Int)<=1000000 by rfl',show -1000000<=(n:Int) by rfl'])
   (λk hk=>by simp[cOf,Tg.put,sigD,Jb,D3 ns (a+(k:Int)) (by rfl'),Se _ m h0 h3])
  rw[this];simp[L,K1]
 exact Y2 rfl (f:=.nw) (by unfold sRet;rw[q];rfl) rfl
theorem Dz(d:Dt):P9 [d]=aa (.bl (isWh d)):=by
 unfold P9 EZ;cases d<;>simp[cOf,isWh,Dt.flat,nrm]<;>simp[tyN,Dt.flat]
theorem NH(a:aG)(n:Int):K2 [L a,.int n]=aa (.bl (decide ((a.length:Int)=n))):=by
 unfold K2 Dj;have q:j6 1 [] (iSeq (fN 0)) (Tg.one 0) fYes (i6 ac P9 (b6 (fN 0) fNil)) [.sh af (L a),.sh af (.int n)]=aa (.nw,.lst (a.map λ_=>.bl ac)):=
   n9 (e:=Dt.int) (h:=λ_=>.bl ac) (xs:=a) (by simp[cOf]) (λx _=>by simp[cOf,Tg.put,sigD,Dz,isWh])
 by_cases h:(a.length:Int)=n
 .simp[cOf,x9,h,q,bAll,T7 (λ_=>ac) a]
 .simp[cOf,x9,h]
theorem Fw(n:Nat)(h:n<=1000):U1 [.int n]=aa (L (o6 n)):=by
 unfold U1 Ib;have q:j6 1 [] (o0 (fN 0)) (Tg.one 0) fYes (fC (.int 0)) [.sh af (.int n)]=aa (.nw,L (o6 n)):=by
  rw[n9 (e:=λ(k:Nat)=>.int (0+(k:Int))) (h:=λ_=>.int 0) (xs:=av n) (by simp[cOf,o0,intD,V7,A3,show(n:Int)<=1000000 by rfl',show -1000000<=(n:Int) by rfl']) (λx _=>by simp[cOf,Tg.put])];simp[L,o6,w0u]
 simp[cOf,q]
theorem Lm(a b:aG)(h:a.length=b.length):Ek [L a,L b]=aa (L (addR a b)):=by
 unfold Ek Pi;have q:j6 2 [] (iZip (fN 0) (fN 1)) (Tg.many [0,1]) fYes (fOp u9 (fN 0) (fN 1)) [.sh af (L a),.sh af (L b)]=aa (.nw,L (addR a b)):=by
  rw[n9 (e:=λp:Int×Int=>.tup [.int p.1,.int p.2]) (h:=λp=>.int (p.1+p.2)) (xs:=a.zip b) (by simp[cOf,iZip,h,Bn]) (λp _=>by simp[cOf,Tg.put,AX,sigD]),z1Y]
 simp[cOf,q]
theorem Ln(a b:aG)(h:a.length=b.length):Cg [L a,L b]=aa (L (subR a b)):=by
 unfold Cg Pj;have q:j6 2 [] (iZip (fN 0) (fN 1)) (Tg.many [0,1]) fYes (fOp IY (fN 0) (fN 1)) [.sh af (L a),.sh af (L b)]=aa (.nw,L (subR a b)):=by
  rw[n9 (e:=λp:Int×Int=>.tup [.int p.1,.int p.2]) (h:=λp=>.int (p.1-p.2)) (xs:=a.zip b) (by simp[cOf,iZip,h,Bn]) (λp _=>by simp[cOf,Tg.put,AX,sigD]),z0k]
 simp[cOf,q]
theorem N5(a:aG)(k:Int)(h:∀x∈a,G5 k x=ac):K3 [L a,.int k]=aa (L (sclR k a)):=by
 unfold K3 KZ;have q:j6 1 [1] (iSeq (fN 0)) (Tg.one 0) fYes (fOp D9 (fN 1) (fN 0)) [.sh af (L a),.sh af (.int k)]=aa (.nw,L (sclR k a)):=by
  rw[n9 (e:=Dt.int) (h:=λx=>.int (k*x)) (xs:=a) (by simp[cOf]) (λx hx=>by simp[cOf,Tg.put,sigD,Jb,h x hx])];simp[L,sclR]
 simp[cOf,q]
theorem Pu(n:Nat)(h1:1<=n)(h2:n<=6):AM [.int n]=aa (.bl ac):=by
 unfold AM Dk;have e:=Dz (.int n);simp[cOf,e,isWh,OU,show(1:Int)<=n by rfl',show(n:Int)<=6 by rfl']
theorem MT(n:Nat)(h1:1<=n)(h2:n<=6):Y4 [.int n]=aa .non:=by
 unfold Y4 Ch;simp[cOf,Pu n h1 h2]
theorem Ur(a:aG)(n:Nat)(hl:a.length=n)(h:∀x∈a,x.natAbs<10^30):Em [L a,.int n]=aa (.bl ac):=by
 unfold Em Ig;have e:=NH a n;have p30:Kl 10 30=ac:=by unfold Kl;decide
 have q:j6 1 [] (iSeq (fN 0)) (Tg.one 0) fYes (fOp opLt (fBlt bAbs (b6 (fN 0) fNil)) (fOp Ni (fC (.int 10)) (fC (.int 30)))) [.sh af (L a),.sh af (.int n)]=aa (.nw,.lst (a.map λ_=>.bl ac)):=
  n9 (e:=Dt.int) (h:=λ_=>.bl ac) (xs:=a) (by simp[cOf]) (λx hx=>by
   have:=h x hx;have:(if x<0 then -x else x)<1000000000000000000000000000000:=by split<;>rfl'
   simp[cOf,Tg.put,sigD,bAbs,p30,this])
 simp[cOf,e,hl,q,bAll,T7 (λ_=>ac) a]
theorem Pv(a:aG)(n:Nat)(hl:a.length=n)(h:∀x∈a,x.natAbs<10^30):R1 [L a,.int n]=aa .non:=by
 unfold R1 Dl;simp[cOf,Ur a n hl h]
theorem Us(k:Int)(rows:aA):En [.int k,LL rows]=aa (f8 k rows):=by
 unfold En Ih;have q:j6 1 [] (iSeq (fN 1)) (Tg.one 0) fYes (fBlt bTup (b6 (fN 0) fNil)) [.sh af (.int k),.sh af (LL rows)]=aa (.nw,.lst (rows.map T)):=
  n9 (e:=L) (h:=T) (xs:=rows) (by simp[cOf]) (λx hx=>by simp[cOf,Tg.put,sigD,bTup,T5])
 simp[cOf,q,bTup,Nt]
theorem Ut(n:Nat)(bills:aA)(h1:1<=n)(h2:n<=6)(hm:bills.length<=8)(hw:Wide n bills)(hb:∀r∈bills,∀x∈r,x.natAbs<10^30):F7 [.int n,LL bills]=aa (f8 n bills):=by
 unfold F7 Ii;obtain⟨j,q⟩:=Bm (g:=Tg.one 2) (F:=Bi (i6 ac R1 (b6 (fN 2) (b6 (fN 0) fNil)))) (e:=L) (R:=λ(_:Unit)(c:Cell)=>[.sh af (.int n),.sh af (LL bills),c]) (step:=λ_ _=>()) bills () .no
  (λb x j hx=>⟨.sh af (L x),by simp[cOf,Tg.put,Pv x n (hw x hx) (hb x hx)]⟩)
 have q:forF (Tg.one 2) (Bi (i6 ac R1 (b6 (fN 2) (b6 (fN 0) fNil)))) (bills.map L) [.sh af (.int n),.sh af (LL bills),.no]=aa (.nx [.sh af (.int n),.sh af (LL bills),j]):=q;simp[cOf,MT n h1 h2,show ¬(8<(bills.length:Int)) by rfl',q,Us]
theorem DA(n:Nat)(bills:aA)(b:aG)(h:b.length=n):O3 [f8 n bills,L b]=aa .non:=by
 have e:N3 [.int n,L b]=aa .non:=by
  unfold N3 U2;simp[cOf,NH,h]
 unfold O3 Bb;simp[cOf,atI,ixN,e]
theorem z0t(n:Nat)(bills:aA)(h:n<=1000):GL [f8 n bills]=aa (L (o6 n)):=by
 unfold GL La;simp[cOf,atI,ixN,Fw n h]
theorem Sf(n:Nat)(bills:aA)(a b:aG)(ha:a.length=n)(hb:b.length=n):Eo [f8 n bills,L a,L b]=aa (L (subR b a)):=by
 unfold Eo Pk;have e:=Ln b a (by rw[ha,hb]);simp[cOf,DA n bills a ha,DA n bills b hb,e]
abbrev HF:FS:=sIf (j8 (fOp opNe (fN 2) (fC (.int 0)))) (sRet (fN 1)) o7
theorem NI(c0:Cell):∀(r:aG)(j:Nat)(c1 c2:Cell),(St.b7 r<r.length->forF (Tg.many [1,2]) HF (Af j (r.map .int)) [c0,c1,c2]=aa (.rt .nw (.int ((j+St.b7 r:Nat):Int)))) /\
  (¬St.b7 r<r.length->∃c1' c2',forF (Tg.many [1,2]) HF (Af j (r.map .int)) [c0,c1,c2]=aa (.nx [c0,c1',c2']))
 |[],j,c1,c2=>⟨λh=>by simp[St.b7]at h,λ_=>⟨c1,c2,rfl⟩⟩
 |x::r,j,c1,c2=>by
  obtain⟨i1,i2⟩:=NI c0 r (j+1) (.sh af (.int j)) (.sh af (.int x));rw[wq,Af,F6];by_cases hx:x=0
  .have e:(Tg.put (Tg.many [1,2]) (.tup [.int j,.int x]) [c0,c1,c2]).bind HF=aa (.nx [c0,.sh af (.int j),.sh af (.int x)]):=by simp[cOf,x9,hx]
   have eh:St.b7 (x::r)=St.b7 r+1:=by simp[St.b7,hx]
   rw[e,eh,wo];refine⟨λh=>?_,λh=>i2 (by rfl')⟩;have:=i1 (by rfl');rw[show j+(St.b7 r+1)=j+1+St.b7 r by rfl'];exact this
  .have e:(Tg.put (Tg.many [1,2]) (.tup [.int j,.int x]) [c0,c1,c2]).bind HF=aa (.rt .nw (.int j)):=by simp[cOf,x9,hx]
   have eh:St.b7 (x::r)=0:=by simp[St.b7,hx]
   rw[e,eh,wo];exact⟨λ_=>rfl,λh=>aN (Nat.succ_pos _) h⟩
theorem C8(r:aG):o9 [L r]=aa (.int (St.b7 r)):=by
 unfold o9 Ie;obtain⟨h1,h2⟩:=NI (.sh af (L r)) r 0 .no .no;have hl:=St.HP r;by_cases h:St.b7 r<r.length
 .have h1:=h1 h;simp only[uj]at h1;simp[cOf,h1]
 .obtain⟨c1,c2,h2⟩:=h2 h;simp[cOf,h2,show St.b7 r=r.length by rfl']
theorem Iu{r:aG}{k:Nat}(h:k<r.length):atI (r.map Dt.int) (k:Int)=aa (.int (St.at0 r k)):=by
 rw[Ai,z1Z h];simp[St.at0,au,wa h]
theorem z58(a b:aG)(q:Int):subR a (sclR q b)=St.sub a q b:=by
 unfold subR sclR St.sub;rw[w0q]
theorem YQ{r:aG}{x:Int}(h:x∈r):∃k,St.at0 r k=x:=by
 obtain⟨k,hk,e⟩:=w02.mp h;exact⟨k,by simp[St.at0,au,wa hk,e]⟩
theorem YR{x:Int}{m:Nat}(h:x.natAbs<2^m):bC x<=m:=OS h
theorem Z3{i j:Int}{m k:Nat}(h1:i.natAbs<2^m)(h2:j.natAbs<2^k)(h:m+k<=134217728):G5 i j=ac:=by
 unfold G5;rw[aM (show bC i+bC j<=134217728 from by have:=YR h1;have:=YR h2;rfl')];rfl
theorem Z4{i j:Int}(h0:0<j)(h:j<2^9000):E7 i j=ac:=by
 unfold E7;rw[aM (show j≠0 by rfl'),aM (show j.natAbs.log2<9000 from ?_)]
 .rfl
 .rw[w1b (by rfl')];have:((2^9000:Nat):Int)=(2:Int)^9000:=by norm_cast
  rfl'
abbrev LF:FS:=(sSeq (sSet [] 5 (i6 ac o9 (b6 (fN 4) fNil)))
 (sSeq (sSet [] 6 (fOp L5 (fAt (fN 2) (fN 5)) (fAt (fN 4) (fN 5))))
 (sSeq (sIf (j8 (fOp opNe (fN 6) (fC (.int 0)))) (sSet [] 2 (i6 ac Cg (b6 (fN 2) (b6 (i6 ac K3 (b6 (fN 4) (b6 (fN 6) fNil))) fNil)))) o7)
 (sWr wApp 3 (fN 6)))))
theorem Lo{n m:Nat}(hm:2*m<=134217728)(c0 c1:Cell):∀(S:aA)(left:aG)(cs:aG)(c4 c5 c6:Cell),(∀r∈S,r.length=n/\St.b7 r<n/\0<St.hd r/\St.hd r<2^9000)->left.length=n->St.LowB m left S->cs.length+S.length<=1000 ->
  ∃c4' c5' c6',forF (Tg.one 4) LF (S.map L) [c0,c1,.sh ac (L left),.ow ac (cs.map .int),c4,c5,c6]=aa (.nx [c0,c1,.sh ac (L (St.j7 left S)),.ow ac ((cs++St.KI left S).map .int),c4',c5',c6'])
 |[],left,cs,c4,c5,c6,_,_,_,_=>⟨c4,c5,c6,by simp[z1U,St.j7,St.KI]⟩
 | r::S,left,cs,c4,c5,c6,hr,hl,hb,hc=>by
  obtain⟨r1,r2,r3,r4⟩:=hr r we;have hs:(St.sub left (St.C0 left r) r).length=n:=by rw[St.P2 (by rfl')];exact hl
  obtain⟨d4,d5,d6,ih⟩:=Lo hm c0 c1 S (St.sub left (St.C0 left r) r) (cs++[St.C0 left r]) (.sh af (L r)) (.sh ac (.int (St.b7 r))) (.sh ac (.int (St.C0 left r))) (λx hx=>hr x (wc _ hx)) hs hb.2 (by simp at hc|-;rfl');refine⟨d4,d5,d6,?_⟩;rw[wq,F6];have a1:=Iu (r:=left) (k:=St.b7 r) (by rfl');have a2:=Iu (r:=r) (k:=St.b7 r) (by rfl');have dv:E7 (St.at0 left (St.b7 r)) (St.at0 r (St.b7 r))=ac:=Z4 r3 r4;have ef:(St.at0 left (St.b7 r)).fdiv (St.at0 r (St.b7 r))=St.C0 left r:=rfl;have hcs:cs.length<1000000:=by simp at hc;rfl'
  have e:(Tg.put (Tg.one 4) (L r) [c0,c1,.sh ac (L left),.ow ac (cs.map .int),c4,c5,c6]).bind LF=aa (.nx [c0,c1,.sh ac (L (St.sub left (St.C0 left r) r)),.ow ac ((cs++[St.C0 left r]).map .int),.sh af (L r),.sh ac (.int (St.b7 r)),.sh ac (.int (St.C0 left r))]):=by
   refine(show LF [c0,c1,.sh ac (L left),.ow ac (cs.map .int),.sh af (L r),c5,c6]=_ from run (ρ':=[c0,c1,.sh ac (L left),.ow ac (cs.map .int),.sh af (L r),.sh ac (.int (St.b7 r)),c6]) (by simp[cOf,C8]) (run (ρ':=[c0,c1,.sh ac (L left),.ow ac (cs.map .int),.sh af (L r),.sh ac (.int (St.b7 r)),.sh ac (.int (St.C0 left r))]) (by simp[cOf,a1,a2,dv,ef]) (run (ρ':=[c0,c1,.sh ac (L (St.sub left (St.C0 left r) r)),.ow ac (cs.map .int),.sh af (L r),.sh ac (.int (St.b7 r)),.sh ac (.int (St.C0 left r))]) ?_ (by simp[cOf,hcs]))));by_cases ho:St.C0 left r=0
   .have es:St.sub left (St.C0 left r) r=left:=by rw[ho];exact St.sub_zero (by rfl')
    rw[es];simp[cOf,ho,x9]
   .have mo:∀x∈r,G5 (St.C0 left r) x=ac:=λx hx=>by
     obtain⟨k,rfl⟩:=YQ hx;rcases hb.1 with h|⟨h1,h2⟩
     .exact aN h ho
     .exact Z3 h1 (h2 k) (by rfl')
    have e1:=N5 r (St.C0 left r) mo;have e2:=Ln left (sclR (St.C0 left r) r) (by rw[A4];rfl');rw[z58]at e2;simp[cOf,ho,x9,e1,e2]
  rw[e];show forF (Tg.one 4) LF (S.map L) _=_;rw[ih,St.j7,St.KI];simp
def RowD(d:Dt)(v:aG):Prop:=d=L v\/d=T v
theorem Sg{n m:Nat}(d:Dt)(v:aG)(S:aA)(hd:RowD d v)(hm:2*m<=134217728)(hr:∀r∈S,r.length=n/\St.b7 r<n/\0<St.hd r/\St.hd r<2^9000)(hl:v.length=n)(hb:St.LowB m v S)(hc:S.length<=1000):
   Ci [d,LL S]=aa (.tup [L (St.KI v S),L (St.j7 v S)]):=by
 unfold Ci Ff;rcases hd with rfl|rfl
 .obtain⟨d4,d5,d6,q⟩:=Lo hm (.sh af (L v)) (.sh af (LL S)) S v [] .no .no .no hr hl hb (by simpa using hc);simp[cOf]at q|-;simp[q]
 .obtain⟨d4,d5,d6,q⟩:=Lo hm (.sh af (T v)) (.sh af (LL S)) S v [] .no .no .no hr hl hb (by simpa using hc);simp[cOf]at q|-;simp[q]
theorem Av{n m:Nat}(d:Dt)(v:aG)(S:aA)(hd:RowD d v)(hm:2*m<=134217728)(hr:∀r∈S,r.length=n/\St.b7 r<n/\0<St.hd r/\St.hd r<2^9000)(hl:v.length=n)(hb:St.LowB m v S)(hc:S.length<=1000):
  B9 [d,LL S]=aa (L (St.j7 v S)):=by
 have e:=Sg d v S hd hm hr hl hb hc;have hn:nrm (flOf af) d=(if d.flat then .nw else .sh,d):=rfl;unfold B9 Ik;rcases hd with rfl|rfl<;>simp[cOf,e,KD]
theorem z0u{i j:Int}(h0:j≠0)(h:j.natAbs<2^9000):E7 i j=ac:=by
 unfold E7;rw[aM h0,aM (show j.natAbs.log2<9000 from(w1b (by rfl')).mpr h)];rfl
abbrev BC:FT:=j8 (fOp opNe (fAt (fN 3) (fC (.int 0))) (fC (.int 0)))
abbrev BF:FS:=(sSeq (sSet [] 4 (fOp L5 (fAt (fN 2) (fC (.int 0))) (fAt (fN 3) (fC (.int 0)))))
 (sSeq (sSet [] 5 (j6 1 [2,4,3] (o0 (fC (.int 3))) (Tg.one 0) fYes (fOp IY (fAt (fN 1) (fN 0)) (fOp D9 (fN 2) (fAt (fN 3) (fN 0))))))
 (sSeq (sSet [] 2 (fN 3))
 (sSet [] 3 (fN 5)))))
theorem Sh(c0 c1 c4 c5:Cell)(u0 u1 u2 l0 l1 l2:Int)(hl:l0≠0)(h:l0.natAbs<2^9000)(m0:G5 (u0.fdiv l0) l0=ac)(m1:G5 (u0.fdiv l0) l1=ac)(m2:G5 (u0.fdiv l0) l2=ac):
  BF [c0,c1,.sh ac (L [u0,u1,u2]),.sh ac (L [l0,l1,l2]),c4,c5]=aa (.nx [c0,c1,.sh ac (L [l0,l1,l2]),.sh ac (L [u0-u0.fdiv l0*l0,u1-u0.fdiv l0*l1,u2-u0.fdiv l0*l2]),.sh ac (.int (u0.fdiv l0)),.sh ac (L [u0-u0.fdiv l0*l0,u1-u0.fdiv l0*l1,u2-u0.fdiv l0*l2])]):=by
 have dv:=z0u (i:=u0) hl h;have q:j6 1 [2,4,3] (o0 (fC (.int 3))) (Tg.one 0) fYes (fOp IY (fAt (fN 1) (fN 0)) (fOp D9 (fN 2) (fAt (fN 3) (fN 0)))) [Gq c0,Gq c1,.sh ac (L [u0,u1,u2]),.sh ac (L [l0,l1,l2]),.sh ac (.int (u0.fdiv l0)),Gq c5]=aa (.nw,L [u0-u0.fdiv l0*l0,u1-u0.fdiv l0*l1,u2-u0.fdiv l0*l2]):=by
  rw[n9 (e:=λ(k:Nat)=>.int (0+(k:Int))) (h:=λ(k:Nat)=>.int ([u0,u1,u2].getD k 0-u0.fdiv l0*[l0,l1,l2].getD k 0)) (xs:=av 3) (by simp[cOf,show V7 3=ac from Cc (n:=3) (by decide),A3]) (λk hk=>by
   have hk:k<3:=wO.mp hk;have a1:=M4 (xs:=[u0,u1,u2]) (i:=k) 0 hk;have a2:=M4 (xs:=[l0,l1,l2]) (i:=k) 0 hk;have mk:G5 (u0.fdiv l0) ([l0,l1,l2].getD k 0)=ac:=by
    have:k=0\/k=1\/k=2:=by rfl'
    rcases this with rfl|rfl|rfl
    .exact m0
    .exact m1
    .exact m2
   generalize [u0,u1,u2].getD k 0=uk at *;generalize [l0,l1,l2].getD k 0=lk at *;generalize [u0,u1,u2]=us at *;generalize [l0,l1,l2]=ls at *;simp[cOf,Ai,a1,a2,mk])]
  rfl
 exact run (ρ':=[c0,c1,.sh ac (L [u0,u1,u2]),.sh ac (L [l0,l1,l2]),.sh ac (.int (u0.fdiv l0)),c5]) (by simp[cOf,dv]) (run (ρ':=[c0,c1,.sh ac (L [u0,u1,u2]),.sh ac (L [l0,l1,l2]),.sh ac (.int (u0.fdiv l0)),.sh ac (L [u0-u0.fdiv l0*l0,u1-u0.fdiv l0*l1,u2-u0.fdiv l0*l2])]) (by simp[cOf,q]) (run (ρ':=[c0,c1,.sh ac (L [l0,l1,l2]),.sh ac (L [l0,l1,l2]),.sh ac (.int (u0.fdiv l0)),.sh ac (L [u0-u0.fdiv l0*l0,u1-u0.fdiv l0*l1,u2-u0.fdiv l0*l2])]) (by simp[cOf]) (by simp[cOf])))
theorem Si{a b:Int}{e:Nat}(he:e<=9000)(ha:a.natAbs<2^e)(hb:b.natAbs<2^e)(c0 c1:Cell):∀(k:Nat)(u0 u1 u2 l0 l1 l2:Int)(c4 c5:Cell),Br.BI a b u0 u1 u2 l0 l1 l2->l0.natAbs<=k ->
 ∃v0 v1 v2 w1 w2 d4 d5,F0 BC BF (k+1) [c0,c1,.sh ac (L [u0,u1,u2]),.sh ac (L [l0,l1,l2]),c4,c5]=aa (.nx [c0,c1,.sh ac (L [v0,v1,v2]),.sh ac (L [0,w1,w2]),d4,d5])/\Br.BI a b v0 v1 v2 0 w1 w2:=by
 intro k
 induction k using uv with
 |_ k IH=>
 intro u0 u1 u2 l0 l1 l2 c4 c5 B hk;have hc:BC [c0,c1,.sh ac (L [u0,u1,u2]),.sh ac (L [l0,l1,l2]),c4,c5]=aa (!decide (l0=0)):=by simp[cOf,x9]
 rw[F0,hc,n8];by_cases hl:l0=0
 .subst hl;exact⟨u0,u1,u2,l1,l2,c4,c5,by simp,B⟩
 .have p3:2^(e+3)=8*2^e:=by rw[vB];rfl'
  obtain⟨z1,z2,z3,z4⟩:=Br.YC u0 l0 hl;have c1':=B.c1;have c2':=B.c2;have b3:=B.b3;have b4:=B.b4;have hq:(u0.fdiv l0).natAbs<2^(e+3):=by
   have:1*(u0.fdiv l0).natAbs<=l0.natAbs*(u0.fdiv l0).natAbs:=wE _ (by rfl');rw[uG l0.natAbs]at this;rfl'
  have h9:(2:Nat)^e<=2^9000:=wm (by decide) he;have st:=Sh c0 c1 c4 c5 u0 u1 u2 l0 l1 l2 hl (by rfl') (Z3 hq (show l0.natAbs<2^(e+3) by rfl') (by rfl')) (Z3 hq (show l1.natAbs<2^(e+3) by rfl') (by rfl')) (Z3 hq (show l2.natAbs<2^(e+3) by rfl') (by rfl'));cases k with
  |zero=>rfl'
  |succ k=>
   obtain⟨v0,v1,v2,w1,w2,d4,d5,ih,B'⟩:=IH k (vE k) _ _ _ _ _ _ (.sh ac (.int (u0.fdiv l0))) (.sh ac (L [u0-u0.fdiv l0*l0,u1-u0.fdiv l0*l1,u2-u0.fdiv l0*l2])) (B.turn hl) (by rfl');refine⟨v0,v1,v2,w1,w2,d4,d5,?_,B'⟩;rw[st];simp only[hl,decide_false,w1q,if_true,n8];exact ih
theorem NJ(a b:Int)(e:Nat)(he:e<=9000)(ha:a.natAbs<2^e)(hb:b.natAbs<2^e):∃x y,Dm [.int a,.int b]=aa (T [(uA a b:Int),x,y])/\a*x+b*y=uA a b/\x.natAbs<=a.natAbs+2*b.natAbs+1/\y.natAbs<=a.natAbs+2*b.natAbs+1:=by
 obtain⟨v0,v1,v2,w1,w2,d4,d5,lp,B⟩:=Si he ha hb (.sh af (.int a)) (.sh af (.int b)) b.natAbs a 1 0 b 0 1 .no .no (Br.BI.start a b) (wv _);have lp:=Eb lp;have fin:=B.fin;have up:=B.up;have b1:=B.b1;have b2:=B.b2;have pre:∀{r:Option Oc},(sSeq (sIf (j8 (fOp opLt (fAt (fN 2) (fC (.int 0))) (fC (.int 0)))) (sSet [] 2 (j6 1 [] (iSeq (fN 2)) (Tg.one 0) fYes (fNeg (fN 0)))) o7) (sRet (fBlt bTup (b6 (fN 2) fNil)))) [.sh af (.int a),.sh af (.int b),.sh ac (L [v0,v1,v2]),.sh ac (L [0,w1,w2]),d4,d5]=r->Lb (rho0 6 [.int a,.int b])=r:=λh=>run (ρ':=[.sh af (.int a),.sh af (.int b),.sh ac (L [a,1,0]),.no,.no,.no]) (by simp[cOf,L]) (run (ρ':=[.sh af (.int a),.sh af (.int b),.sh ac (L [a,1,0]),.sh ac (L [b,0,1]),.no,.no]) (by simp[cOf,L]) (run lp h));have at0:atI ([v0,v1,v2].map Dt.int) 0=aa (.int v0):=rfl;by_cases h0:v0<0
 .refine⟨-v1,-v2,?_,by rw[w1e,w1e];rfl',by rfl',by rfl'⟩;have q:j6 1 [] (iSeq (fN 2)) (Tg.one 0) fYes (fNeg (fN 0)) [.sh af (.int a),.sh af (.int b),.sh ac (L [v0,v1,v2]),.sh ac (L [0,w1,w2]),Gq d4,Gq d5]=aa (.nw,L [-v0,-v1,-v2]):=by
   rw[n9 (e:=Dt.int) (h:=λx=>.int (-x)) (xs:=[v0,v1,v2]) (by simp[cOf,L]) (λx hx=>by simp[cOf])];rfl
  have e0:(uA a b:Int) = -v0:=by rfl'
  rw[e0];refine Y2 (f:=.nw) rfl (pre (run (ρ':=[.sh af (.int a),.sh af (.int b),.sh ac (L [-v0,-v1,-v2]),.sh ac (L [0,w1,w2]),d4,d5]) ?_ (by simp[cOf,T]))) rfl;generalize [v0,v1,v2]=vs at *;simp[cOf,at0,h0,q]
 .refine⟨v1,v2,?_,by rfl',by rfl',by rfl'⟩;have e0:(uA a b:Int)=v0:=by rfl'
  rw[e0];refine Y2 (f:=.nw) rfl (pre (run (ρ':=[.sh af (.int a),.sh af (.int b),.sh ac (L [v0,v1,v2]),.sh ac (L [0,w1,w2]),d4,d5]) ?_ (by simp[cOf,T]))) rfl;generalize [v0,v1,v2]=vs at *;simp[cOf,at0,h0]
theorem z59(a b:aG)(x y:Int):addR (sclR x a) (sclR y b)=St.lin x a y b:=by
 unfold addR sclR St.lin;rw[w19]
theorem z2l(a b:aG)(x y:Int):subR (sclR x a) (sclR y b)=St.lin x a (-y) b:=by
 unfold subR sclR St.lin;rw[w19];congr 1
 funext p q
 rw[w01];rfl'
theorem Eu{q:Int}{r:aG}{m k:Nat}(h1:q.natAbs<2^m)(h2:St.Lt (2^k) r)(h:m+k<=134217728):∀x∈r,G5 q x=ac:=λx hx=>by
 obtain⟨i,rfl⟩:=YQ hx;exact Z3 h1 (h2 i) h
theorem Uu{n e q:Nat}(r left:aG)(hr:r.length=n)(hl:left.length=n)(hh:St.b7 r<n)(hp:0<St.hd r)(h1:St.hd r<2^e)(h2:0<=St.at0 left (St.b7 r))(h3:St.at0 left (St.b7 r)<St.hd r)(he:e<=8990)(s1:St.Lt (2^q) r)(s2:St.Lt (2^q) left)(hq:q<=100000000):
  ∃g x y,Z0 [L r,L left]=aa (.tup [L (St.B4 r left x y),L (St.J3 r left g)])/\0<g/\g∣St.hd r/\g∣St.at0 left (St.b7 r)/\St.hd r*x+St.at0 left (St.b7 r)*y=g/\x.natAbs<2^(e+2)/\y.natAbs<2^(e+2):=by
 have cast:((2^e:Nat):Int)=(2:Int)^e:=by norm_cast
 have a1:(St.hd r).natAbs<2^e:=by rfl'
 have a2:(St.at0 left (St.b7 r)).natAbs<2^e:=by rfl'
 obtain⟨x,y,eb,exy,bx,bY⟩:=NJ (St.hd r) (St.at0 left (St.b7 r)) e (by rfl') a1 a2;have g0:0<uA (St.hd r) (St.at0 left (St.b7 r)):=w07 _ (by rfl');have d1:(uA (St.hd r) (St.at0 left (St.b7 r)):Int)∣St.hd r:=w1a _ _;have d2:(uA (St.hd r) (St.at0 left (St.b7 r)):Int)∣St.at0 left (St.b7 r):=w0W _ _;generalize eg:(uA (St.hd r) (St.at0 left (St.b7 r)):Int)=g at *;have g0:0<g:=by rfl'
 have p2:2^(e+2)=4*2^e:=by rw[vB];rfl'
 have x1:x.natAbs<2^(e+2):=by rfl'
 have y1:y.natAbs<2^(e+2):=by rfl'
 refine⟨g,x,y,?_,g0,d1,d2,exy,x1,y1⟩;have gle:g<=St.hd r:=uc hp d1;have g9:g<2^9000:=by
  have h9:(2:Nat)^e<=2^9000:=wm (by decide) (by rfl');have:((2^9000:Nat):Int)=(2:Int)^9000:=by norm_cast
  rfl'
 have dv1:E7 (St.hd r) g=ac:=Z4 g0 g9;have dv2:E7 (St.at0 left (St.b7 r)) g=ac:=Z4 g0 g9;have k1:((St.hd r).fdiv g).natAbs<2^(e+2):=by have:=St.Bo (St.hd r) g0;rfl'
 have k2:((St.at0 left (St.b7 r)).fdiv g).natAbs<2^(e+2):=by have:=St.Bo (St.at0 left (St.b7 r)) g0;rfl'
 have t1:=Iu (r:=r) (k:=St.b7 r) (by rfl');have t2:=Iu (r:=left) (k:=St.b7 r) (by rfl');have t1:atI (r.map Dt.int) (St.b7 r:Int)=aa (.int (St.hd r)):=t1;have e1:=N5 r x (Eu x1 s1 (by rfl'));have e2:=N5 left y (Eu y1 s2 (by rfl'));have e3:=N5 left ((St.hd r).fdiv g) (Eu k1 s2 (by rfl'));have e4:=N5 r ((St.at0 left (St.b7 r)).fdiv g) (Eu k2 s1 (by rfl'));have e5:=Lm (sclR x r) (sclR y left) (by rw[A4,A4];rfl');have e6:=Ln (sclR ((St.hd r).fdiv g) left) (sclR ((St.at0 left (St.b7 r)).fdiv g) r) (by rw[A4,A4];rfl');rw[z59]at e5;rw[z2l]at e6;have hT:T [g,x,y]=.tup [.int g,.int x,.int y]:=rfl;have nT:∀f,nrm f (.tup [.int g,.int x,.int y])=(.nw,.tup [.int g,.int x,.int y]):=λf=>nrm_T f [g,x,y];rw[hT]at eb;unfold Z0 Il;have eL:St.J3 r left g=St.lin ((St.hd r).fdiv g) left (-((St.at0 left (St.b7 r)).fdiv g)) r:=rfl;simp[cOf,C8,t1,t2,eb,nT,dv1,dv2,e1,e2,e3,e4,e5,e6,St.B4,eL]
theorem Pw{n q:Nat}(left:aG)(hl:left.length=n)(hh:St.b7 left<n):G9 [L left]=aa (L (if St.at0 left (St.b7 left)<0 then sclR (-1) left else left)):=by
 have t2:=Iu (r:=left) (k:=St.b7 left) (by rfl');have e1:=N5 left (-1) (λx _=>Y1 (by decide));unfold G9 Dp;by_cases h:St.at0 left (St.b7 left)<0
 .simp[cOf,C8,t2,h,e1]
 .simp[cOf,C8,t2,h,T6]
def N6(S:aA):aA:=(X9 (S.map λr=>((St.b7 r:Int),r))).map (·.2)
theorem GO(S:aA):(N6 S).Perm S:=by
 have:=(P8 (S.map λr=>((St.b7 r:Int),r))).map (·.2);rw[wS]at this;have e:S.map ((λx:Int×aG=>x.2)∘λr=>((St.b7 r:Int),r))=S:=by
  have:((λx:Int×aG=>x.2)∘λr:aG=>((St.b7 r:Int),r))=id:=rfl;rw[this,List.map_id]
 rw[e]at this;exact this
theorem Lp(S:aA)(hn:(S.map St.b7).Nodup):((N6 S).map St.b7).Pairwise (·<·):=by
 have h1:((N6 S).map St.b7).Pairwise (·<=·):=by
  have q:=Ca (S.map λr=>((St.b7 r:Int),r));have mem:∀p∈X9 (S.map λr=>((St.b7 r:Int),r)),p.1=(St.b7 p.2:Int):=λp hp=>by
   obtain⟨r,_,rfl⟩:=wg.mp ((P8 _).mem_iff.mp hp);rfl
  unfold N6;rw[wS,w0T];refine fL (λ{a b}ha hb hab=>?_) q;have e1:=mem a ha;have e2:=mem b hb;show St.b7 a.2<=St.b7 b.2;have hab:a.1<=b.1:=hab;rfl'
 have h2:((N6 S).map St.b7).Nodup:=((GO S).map St.b7).nodup_iff.mpr hn;exact(List.pairwise_and_iff.mpr ⟨h1,h2⟩).imp λ{a b}⟨p,q⟩=>by rfl'
theorem Lq:∀S:aA,X2 o9 (S.map L)=aa (S.map λr=>(St.b7 r:Int))
 |[]=>rfl
 |r::S=>by rw[wq,X2,C8,Lq S];rfl
theorem z0v(S:aA):(X9 ((S.map λr=>(St.b7 r:Int)).zip (S.map L))).map (·.2)=(N6 S).map L:=by
 have e:(S.map λr=>(St.b7 r:Int)).zip (S.map L)=(S.map λr=>((St.b7 r:Int),r)).map λq=>(q.1,L q.2):=by
  rw[List.zip_map,wS];have:S.zip S=S.map λr=>(r,r):=by
   induction S with
   |nil=>rfl
   |cons r S ih=>rw[uu,ih];rfl
  rw[this,wS];rfl
 rw[e,Ec];unfold N6;rw[wS,wS];rfl
def K5:Nat->aA->List (Nat×aG)
 |_,[]=>[]
 |j,r::S=>(j,r)::K5 (j+1) S
theorem Bw:∀(j:Nat)(S:aA),Af j (S.map L)=(K5 j S).map λp=>.tup [.int p.1,L p.2]
 |j,[]=>rfl
 |j,r::S=>by rw[wq,Af,K5,wq,Bw (j+1) S]
theorem Fx(h:Nat):∀(j:Nat)(S:aA),(∀r∈S,St.b7 r≠h)->(K5 j S).filter (λp=>decide (St.b7 p.2=h))=[]
 |j,[],_=>rfl
 |j,r::S,q=>by
  rw[K5,uf,Fx h (j+1) S λx hx=>q x (wc _ hx)];simp[q r we]
theorem NK(h:Nat):∀(j:Nat)(S1:aA)(r:aG)(S2:aA),St.b7 r=h->((S1++r::S2).map St.b7).Pairwise (·<·)->(K5 j (S1++r::S2)).filter (λp=>decide (St.b7 p.2=h))=[(j+S1.length,r)]
 |j,[],r,S2,hr,pw=>by
  rw[w0t]at pw|-;rw[wq,vi]at pw;rw[K5,uf,Fx h (j+1) S2 λx hx=>by have:=pw.1 _ (wg.mpr ⟨x,hx,rfl⟩);rfl'];simp[hr]
 |j,x::S1,r,S2,hr,pw=>by
  rw[uZ]at pw|-;rw[wq,vi]at pw;have hx:=pw.1 (St.b7 r) (wg.mpr ⟨r,by simp,rfl⟩);rw[K5,uf,NK h (j+1) S1 r S2 hr pw.2];simp[show St.b7 x≠h by rfl'];rfl'
theorem NL(S:aA)(left:aG)(c0 c1 c4 c5:Cell)(f:Bool):j6 2 [3] (Ah (fN 2)) (Tg.many [0,1]) (j8 (fOp opEq (i6 ac o9 (b6 (fN 1) fNil)) (i6 ac o9 (b6 (fN 2) fNil)))) (fN 0) [c0,c1,.ow f (S.map L),.sh ac (L left),c4,c5] =
   aa (.nw,.lst (((K5 0 S).filter λp=>decide (St.b7 p.2=St.b7 left)).map λp=>.int (p.1:Int))):=by
 refine Gw (e:=λp:Nat×aG=>.tup [.int p.1,L p.2]) (h:=λp=>.int (p.1:Int)) (p:=λp=>decide (St.b7 p.2=St.b7 left)) (xs:=K5 0 S) ?_ (λx hx=>?_) (λx hx _=>?_)
 .cases f<;>simp[cOf,Bw]
 .simp[cOf,C8,v6];rfl'
 .simp[cOf]
abbrev WC:FT:=j8 (fOp opLt (i6 ac o9 (b6 (fN 3) fNil)) (fBlt bLen (b6 (fN 3) fNil)))
abbrev WF:FS:=(sSeq (Q8 4 (j6 2 [3] (Ah (fN 2)) (Tg.many [0,1]) (j8 (fOp opEq (i6 ac o9 (b6 (fN 1) fNil)) (i6 ac o9 (b6 (fN 2) fNil)))) (fN 0)))
 (sSeq (sIf (j8 (fOp opEq (fBlt bLen (b6 (fN 4) fNil)) (fC (.int 0)))) (sRet (EX o9 (fOp u9 (fN 2) (fLst (b6 (i6 ac G9 (b6 (fN 3) fNil)) fNil))))) o7)
 (sSeq (Q8 5 (i6 ac Z0 (b6 (fAt (fN 2) (fAt (fN 4) (fC (.int 0)))) (b6 (fN 3) fNil))))
 (sSeq (sPut 2 (fAt (fN 4) (fC (.int 0))) (fAt (fN 5) (fC (.int 0))))
 (Q8 3 (i6 ac B9 (b6 (fAt (fN 5) (fC (.int 1))) (b6 (fN 2) fNil))))))))
theorem z2m(S:aA)(t:aG)(h:S.length<60):u9 (.lst (S.map L)) (.lst [L t])=aa (newL ((S++[t]).map L)):=by
 have:u9 (.lst (S.map L)) (.lst [L t])=Gm (.lst (S.map L)) (.lst [L t]):=rfl;rw[this,Gm,ar (by simp;rfl')];simp
theorem z2n(S:aA)(left t:aG)(c0 c1 c4 c5:Cell)(f:Bool)(hn:∀r∈S,St.b7 r≠St.b7 left)(ht:G9 [L left]=aa (L t))(hh:((S++[t]).map St.b7).Nodup)(h60:S.length<60):
  ∃fl,WF [c0,c1,.ow f (S.map L),.sh ac (L left),c4,c5]=aa (.rt fl (LL (N6 (S++[t])))):=by
 have pl:=NL S left c0 c1 c4 c5 f;rw[Fx _ 0 S hn]at pl;have st:EX o9 (fOp u9 (fN 2) (fLst (b6 (i6 ac G9 (b6 (fN 3) fNil)) fNil))) [c0,c1,.ow f (S.map L),.sh ac (L left),.sh ac (.lst []),c5]=aa (newL ((N6 (S++[t])).map L)):=by
  have e1:fOp u9 (fN 2) (fLst (b6 (i6 ac G9 (b6 (fN 3) fNil)) fNil)) [c0,c1,.ow f (S.map L),.sh ac (L left),.sh ac (.lst []),c5]=aa (newL ((S++[t]).map L)):=by
   have:=z2m S t h60;simp[cOf,ht,this]
  unfold EX;rw[e1];have k1:=Lq (S++[t]);have nd:((S++[t]).map λr=>(St.b7 r:Int)).Nodup:=by
   have:((S++[t]).map λr=>(St.b7 r:Int))=((S++[t]).map St.b7).map (λn:Nat=>(n:Int)):=by rw[wS];rfl
   rw[this];exact List.Pairwise.map _ (λa b hab e=>hab (by rfl')) hh
  show(X2 o9 ((S++[t]).map L)).bind _=_;rw[k1,n8,ar ⟨by simp;rfl',nd⟩,z0v]
 refine⟨lfl ((N6 (S++[t])).map L),?_⟩;have e1:Q8 4 (j6 2 [3] (Ah (fN 2)) (Tg.many [0,1]) (j8 (fOp opEq (i6 ac o9 (b6 (fN 1) fNil)) (i6 ac o9 (b6 (fN 2) fNil)))) (fN 0)) [c0,c1,.ow f (S.map L),.sh ac (L left),c4,c5]=aa (.nx [c0,c1,.ow f (S.map L),.sh ac (L left),.sh ac (.lst []),c5]):=by
  unfold Q8;rw[pl];rfl
 refine run e1 ?_;have e2:sIf (j8 (fOp opEq (fBlt bLen (b6 (fN 4) fNil)) (fC (.int 0)))) (sRet (EX o9 (fOp u9 (fN 2) (fLst (b6 (i6 ac G9 (b6 (fN 3) fNil)) fNil))))) o7 [c0,c1,.ow f (S.map L),.sh ac (L left),.sh ac (.lst []),c5]=aa (.rt (lfl ((N6 (S++[t])).map L)) (LL (N6 (S++[t])))):=by
  have c:j8 (fOp opEq (fBlt bLen (b6 (fN 4) fNil)) (fC (.int 0))) [c0,c1,.ow f (S.map L),.sh ac (L left),.sh ac (.lst []),c5]=aa ac:=by simp[cOf,v6]
  unfold sIf;rw[c,n8,ar rfl,sRet,st];rfl
 unfold sSeq;rw[e2];rfl
theorem Uv(S1 S2:aA)(r left up lo:aG)(c0 c1 c4 c5:Cell)(f:Bool)(hh:St.b7 r=St.b7 left)(pw:((S1++r::S2).map St.b7).Pairwise (·<·))(hc:Z0 [L r,L left]=aa (.tup [L up,L lo]))(res:aG)(hl:B9 [L lo,LL (S1++up::S2)]=aa (L res)):
   ∃d4 d5,WF [c0,c1,.ow f ((S1++r::S2).map L),.sh ac (L left),c4,c5]=aa (.nx [c0,c1,.ow f ((S1++up::S2).map L),.sh ac (L res),d4,d5]):=by
 have pl:=NL (S1++r::S2) left c0 c1 c4 c5 f;rw[NK _ 0 S1 r S2 hh pw]at pl;have pl:j6 2 [3] (Ah (fN 2)) (Tg.many [0,1]) (j8 (fOp opEq (i6 ac o9 (b6 (fN 1) fNil)) (i6 ac o9 (b6 (fN 2) fNil)))) (fN 0) [c0,c1,.ow f ((S1++r::S2).map L),.sh ac (L left),c4,c5]=aa (.nw,.lst [.int (S1.length:Int)]):=by rw[pl];simp
 refine⟨.sh ac (.lst [.int (S1.length:Int)]),.sh ac (.tup [L up,L lo]),?_⟩;have at1:atI ((S1++r::S2).map L) (S1.length:Int)=aa (L r):=BR (by simp);have ix:ixN ((S1++r::S2).map L).length (S1.length:Int)=aa S1.length:=by
   unfold ixN;rw[ar (by rfl'),ar (by simp;rfl')];simp
 have set1:((S1++r::S2).map L).set S1.length (L up)=(S1++up::S2).map L:=by
   rw[vV,vV,List.set_append];simp
 have hl:B9 [L lo,.lst ((S1++up::S2).map L)]=aa (L res):=hl;generalize (S1++r::S2).map L=D at *;generalize (S1++up::S2).map L=D' at *;have e1:Q8 4 (j6 2 [3] (Ah (fN 2)) (Tg.many [0,1]) (j8 (fOp opEq (i6 ac o9 (b6 (fN 1) fNil)) (i6 ac o9 (b6 (fN 2) fNil)))) (fN 0)) [c0,c1,.ow f D,.sh ac (L left),c4,c5]=aa (.nx [c0,c1,.ow f D,.sh ac (L left),.sh ac (.lst [.int (S1.length:Int)]),c5]):=by
   unfold Q8;rw[pl];rfl
 refine run e1 (run (ρ':=[c0,c1,.ow f D,.sh ac (L left),.sh ac (.lst [.int (S1.length:Int)]),c5]) ?_ (run (ρ':=[c0,c1,.ow f D,.sh ac (L left),.sh ac (.lst [.int (S1.length:Int)]),.sh ac (.tup [L up,L lo])]) ?_ (run (ρ':=[c0,c1,.ow f D',.sh ac (L left),.sh ac (.lst [.int (S1.length:Int)]),.sh ac (.tup [L up,L lo])]) ?_ ?_)))
 .simp[cOf,v6]
 .simp[cOf,at1,hc]
 .simp[cOf,ix,set1]
 .simp[cOf,hl]
theorem z0w(S:aA)(h:Nat):(∀r∈S,St.b7 r≠h)\/∃S1 r S2,S=S1++r::S2/\St.b7 r=h:=by
 by_cases q:∃r∈S,St.b7 r=h
 .obtain⟨r,hr,e⟩:=q;obtain⟨S1,S2,rfl⟩:=w0K hr;exact .inr ⟨S1,r,S2,rfl,e⟩
 .exact .inl λr hr e=>q ⟨r,hr,e⟩
theorem GP{n e:Nat}{S:aA}(A:St.Asc n 0 S)(hd:∀r∈S,St.hd r<2^e)(he:e<=8990):∀r∈S,r.length=n/\St.b7 r<n/\0<St.hd r/\St.hd r<2^9000:=λr hr=>by
 have q:=A.mem hr;refine⟨q.1,q.2.2.1,q.2.2.2,?_⟩;have h1:=hd r hr;have h9:(2:Nat)^e<=2^9000:=wm (by decide) (by rfl');have c1:((2^9000:Nat):Int)=(2:Int)^9000:=by norm_cast
 have c2:((2^e:Nat):Int)=(2:Int)^e:=by norm_cast
 rfl'
structure Sz(n e eh m0 kk:Nat):Prop where
 n20:n<=20
 e90:eh<=8990
 ehe:eh<=e
 e33:e<=33000
 m0e:m0=e+20*(e+1)
 kke:kk=2*e+3+20*(e+1)
theorem Sz.lim{n e eh m0 kk:Nat}(z:Sz n e eh m0 kk):m0+n*kk<=16000000:=by
 have h1:=z.n20;have h2:=z.e33;have h3:=z.m0e;have h4:=z.kke;have:n*kk<=20*kk:=wE _ h1;rfl'
theorem z5a{n e eh m0 kk:Nat}(z:Sz n e eh m0 kk)(S0:aA)(v:aG)(h20:S0.length<=20)(c0 c1:Cell)(f:Bool):∀(k:Nat)(S:aA)(left:aG)(c4 c5:Cell),St.Wi n e eh m0 kk S0 v S left->n-St.b7 left<=k ->
 (∃S' left' c4' c5',F0 WC WF (k+1) [c0,c1,.ow f (S.map L),.sh ac (L left),c4,c5]=aa (.nx [c0,c1,.ow f (S'.map L),.sh ac (L left'),c4',c5'])/\St.Post n (e+3+(m0+n*kk)) S0 v S') \/
 (∃S' fl,F0 WC WF (k+1) [c0,c1,.ow f (S.map L),.sh ac (L left),c4,c5]=aa (.rt fl (LL S'))/\St.Post n (e+3+(m0+n*kk)) S0 v S'):=by
 intro k
 induction k using uv with
 |_ k IH=>
 intro S left c4 c5 I hk;have lim:=z.lim;have hlen:S.length=S0.length:=by have:=bI dB I.heads;simpa using this
 have hc:WC [c0,c1,.ow f (S.map L),.sh ac (L left),c4,c5]=aa (decide (St.b7 left<n)):=by
   have:(decide ((St.b7 left:Int)<(left.length:Int)))=decide (St.b7 left<n):=by
     have:=I.len;by_cases h:St.b7 left<n
     .rw[aM h,aM (by rfl')]
     .rw[aU h,aU (by rfl')]
   simp[cOf,C8,this];have:=I.len;rfl'
 rw[F0,hc,n8];by_cases hn:St.b7 left<n
 .rw[aM hn,ar rfl];rcases z0w S (St.b7 left)with no|⟨S1,r,S2,rfl,hr⟩
  .right;have ht:=Pw (n:=n) (q:=0) left I.len hn;generalize et:(if St.at0 left (St.b7 left)<0 then sclR (-1) left else left)=t at ht;have hne:St.at0 left (St.b7 left)≠0:=St.Gz left (by rw[I.len];exact hn)
   have tc:∃ c:Int,(c=1∨c = -1)∧(∀ k,St.at0 t k=c*St.at0 left k)∧0<St.at0 t (St.b7 left)∧t.length=n:=by
     by_cases h:St.at0 left (St.b7 left)<0
     .rw[ar h]at et;subst et;have e1:∀k,St.at0 (sclR (-1) left) k = -1*St.at0 left k:=λk=>by
       simp only[St.at0,sclR,au,wy];cases left[k]?<;>simp
      exact⟨-1,.inr rfl,e1,by rw[e1];rfl',by rw[A4];exact I.len⟩
     .rw[aw h]at et;subst et;exact⟨1,.inl rfl,λk=>by rfl',by rfl',I.len⟩
   obtain⟨c,hc1,hc2,hc3,hc4⟩:=tc;have th:St.b7 t=St.b7 left:=St.T9 _ _ (λk hk=>by rw[hc2,St.v9 left k hk];simp) (by rfl');have nd:((S++[t]).map St.b7).Nodup:=by
     rw[vV,w0S];refine⟨(St.Asc.iff.mp I.asc).2.imp λ{a b}h=>by rfl',by simp,λa ha b hb=>?_⟩;obtain⟨x,hx,rfl⟩:=wg.mp ha;have:=no x hx;have hb:b=St.b7 t:=by simpa using hb
     rfl'
   obtain⟨fl,ew⟩:=z2n S left t c0 c1 c4 c5 f no ht nd (by rfl');refine⟨N6 (S++[t]),fl,by rw[ew];rfl,?_⟩;refine I.new hn no hc4 c hc1 hc2 hc3 ?_ (Lp _ nd);exact(GO _).trans (List.perm_append_comm)
  .have hm:r∈S1++r::S2:=by simp
   have q:=I.asc.mem hm;have hcast:((2^e:Nat):Int)=(2:Int)^e:=by norm_cast
   have hle:m0+St.b7 left*kk<=m0+n*kk:=by have:=wE kk (vX hn);rfl'
   obtain⟨g,x,y,ec,hg,ga,gb,hxy,hx,hy⟩:=Uu (n:=n) (e:=eh) (q:=e+3+(m0+St.b7 left*kk)) r left q.1 I.len q.2.2.1 q.2.2.2 (I.hds r hm) (I.low r hm).1 (I.low r hm).2 z.e90 (I.all r hm) (I.size.mono (wm (by decide) (by rfl'))) (by have:=z.e33;rfl');have hl2:S1.length+S2.length+1<=20:=by simp at hlen;rfl'
   obtain⟨I',hlt,lb,hds'⟩:=I.step hr hn hg ga gb hxy (ww hx (wm (by decide) (by have:=z.ehe;rfl'))) (ww hy (wm (by decide) (by have:=z.ehe;rfl'))) (by have:=z.m0e;rfl') (by
     have:=z.kke;have:(S1.length+S2.length+1)*(e+1)<=20*(e+1):=wE _ hl2;rfl')
   have el:=Av (n:=n) (m:=m0+n*kk) (L (St.J3 r left g)) (St.J3 r left g) (S1++St.B4 r left x y::S2) (.inl rfl) (by rfl') (GP I'.asc hds' z.e90) (by
     unfold St.J3;rw[St.JL (by rw[I.len,q.1])];exact I.len) lb (by simp;rfl')
   obtain⟨d4,d5,ew⟩:=Uv S1 S2 r left _ _ c0 c1 c4 c5 f hr (St.Asc.iff.mp I.asc).2 ec _ el;cases k with
   |zero=>rfl'
   | succ k =>
     rcases IH k (vE k) _ _ d4 d5 I' (by rfl') with⟨S',l',d4',d5',h1,h2⟩|⟨S',fl,h1,h2⟩
     .exact .inl ⟨S',l',d4',d5',by rw[ew];exact h1,h2⟩
     .exact .inr ⟨S',fl,by rw[ew];exact h1,h2⟩
 .rw[aU hn];exact .inl ⟨S,left,c4,c5,rfl,I.done hn⟩
theorem Sj{n e eh m0 kk:Nat}(z:Sz n e eh m0 kk)(S:aA)(d:Dt)(v:aG)(hd:RowD d v)(A:St.Asc n 0 S)(hv:v.length=n)(h0:∀r∈S,St.Lt (2^e) r)(hh:∀r∈S,St.hd r<2^eh)(hs:St.Lt (2^e) v)(h20:S.length<=20):
   ∃S',U3 [LL S,d]=aa (LL S')/\St.Post n (e+3+(m0+n*kk)) S v S':=by
 have lim:=z.lim;have hm0:=z.m0e;have hml:e+S.length*(e+1)<=m0:=by have:S.length*(e+1)<=20*(e+1):=wE _ h20;rfl'
 obtain⟨I,lb⟩:=St.Wi.start (n:=n) (e:=e) (eh:=eh) (s:=e) (m0:=m0) (kk:=kk) A hv h0 hh hs hml (by rfl');have el:=Av (n:=n) (m:=m0) d v S hd (by rfl') (GP A I.hds z.e90) hv lb (by rfl');have el:B9 [d,.lst (S.map L)]=aa (L (St.j7 v S)):=el;have fl:∃f:Bool,∀d0:Dt,sOwn 2 (fBlt bLst (b6 (fN 0) fNil)) [.sh af (LL S),.sh af d0,.no,.no,.no,.no]=aa (.nx [.sh af (LL S),.sh af d0,.ow f (S.map L),.no,.no,.no]):=by
   cases S with
   |nil=>exact⟨ac,λd0=>by simp[cOf]⟩
   |cons r S=>exact⟨af,λd0=>by simp[cOf,newL,lfl]⟩
 obtain⟨f,hf⟩:=fl;have hb:∀o,AY WC WF [.sh af (LL S),.sh af d,.ow f (S.map L),.sh ac (L (St.j7 v S)),.no,.no]=aa o->(∃S' fl,seqO (sRet (fN 2)) o=aa (.rt fl (LL S'))/\St.Post n (e+3+(m0+n*kk)) S v S')->∃S',U3 [LL S,d]=aa (LL S')/\St.Post n (e+3+(m0+n*kk)) S v S':=by
   rintro o ho ⟨S',fl,h1,h2⟩;refine⟨S',?_,h2⟩;have e2:Q8 3 (i6 ac B9 (b6 (fN 1) (b6 (fN 2) fNil))) [.sh af (LL S),.sh af d,.ow f (S.map L),.no,.no,.no]=aa (.nx [.sh af (LL S),.sh af d,.ow f (S.map L),.sh ac (L (St.j7 v S)),.no,.no]):=by
    rcases hd with rfl|rfl<;>simp[cOf,el]
   have q:Al [.sh af (LL S),.sh af d,.no,.no,.no,.no]=aa (.rt fl (LL S')):=by
    unfold Al;refine run (hf d) (run e2 ?_);show(AY WC WF _).bind (seqO (sRet (fN 2)))=_;rw[ho];exact h1
   unfold U3 cOf;rw[ar (show[LL S,d].length=2 from rfl)];show(Al [.sh af (LL S),.sh af d,.no,.no,.no,.no]).bind _=_;rw[q];rfl
 rcases z5a z S v h20 (.sh af (LL S)) (.sh af d) f (n-St.b7 (St.j7 v S)) S (St.j7 v S) .no .no I (wv _) with⟨S',l',d4',d5',h1,h2⟩|⟨S',fl,h1,h2⟩
 .exact hb _ (Eb h1) ⟨S',flOf f,rfl,h2⟩
 .exact hb _ (Eb h1) ⟨S',fl,rfl,h2⟩
theorem Jj:∀(A T:aA),∃A',St.even (A++T)=A'++St.even T
 |[],T=>⟨[],rfl⟩
 |r::A,T=>by
  obtain⟨A',e⟩:=Jj A T;exact⟨St.j7 r (St.even (A++T))::A',by rw[uZ,St.even,e];rfl⟩
theorem Lr{n:Nat}:∀{f:Nat}{A T:aA},St.Asc n f (A++T)->St.Asc n 0 T
 |f,[],T,h=>h.weak (wQ _)
 |f,r::A,T,h=>Lr (A:=A) h.2.2.2.2
abbrev EF:FS:=sWrA Ku 1 (i6 ac B9 (b6 (fN 2) (b6 (fN 1) fNil)))
theorem YS{n e eh u:Nat}(he:eh<=8990)(he3:e<=33000)(hu:u<=17000000)(c0:Cell)(S:aA)(A:St.Asc n 0 S)(hs:∀r∈S,St.Lt (2^u) r)(hE:∀r∈St.even S,St.Lt (2^e) r)(hH:∀r∈St.even S,St.hd r<2^eh)(h20:S.length<=21)(heu:e<=u):
  ∀(R T:aA)(c2:Cell),S=R.reverse++T->∃c2',forF (Tg.one 2) EF (R.map L) [c0,.ow ac ((St.even T).map L),c2]=aa (.nx [c0,.ow ac ((St.even S).map L),c2'])
 |[],T,c2,h=>⟨c2,by rw[h];rfl⟩
 | r::R,T,c2,h=>by
  have h':S=R.reverse++(r::T):=by rw[h];simp
  obtain⟨c2',ih⟩:=YS he he3 hu c0 S A hs hE hH h20 heu R (r::T) (.sh af (L r)) h';refine⟨c2',?_⟩;rw[wq,F6];have hlen:T.length+1<=21:=by have:=bI dB h';simp at this;rfl'
  have rm:r∈S:=by rw[h'];simp
  have AT:St.Asc n 0 T:=Lr (A:=R.reverse++[r]) (by rw[ui];show St.Asc n 0 (R.reverse++(r::T));rw[<-h'];exact A);have AE:=(St.Y9 AT).1;obtain⟨A',ea⟩:=Jj (R.reverse++[r]) T;have sub:∀x∈St.even T,x∈St.even S:=λx hx=>by
   rw[h',show R.reverse++(r::T)=(R.reverse++[r])++T by simp,ea];exact wu.mpr (.inr hx)
  have hE':∀x∈St.even T,St.Lt (2^e) x:=λx hx=>hE x (sub x hx);have hel:(St.even T).length<=20:=by rw[St.Ak];rfl'
  have hmul:(St.even T).length*(e+1)<=20*(e+1):=wE _ hel;obtain⟨_,lb⟩:=St.Q9 (n:=n) (t:=0) (s:=u) (e:=e) (m:=u+20*(e+1)) (S:=St.even T) (left:=r) (λx hx=>⟨(AE.mem hx).1,(AE.mem hx).2.2.2⟩) (A.mem rm).1 (λk hk=>by rfl') (λx hx _=>hE' x hx) (hs r rm) (by rfl') (by rfl');have el:=Av (n:=n) (m:=u+20*(e+1)) (L r) r (St.even T) (.inl rfl) (by rfl') (GP AE (λx hx=>hH x (sub x hx)) he) (A.mem rm).1 lb (by rfl');have el:B9 [L r,.lst ((St.even T).map L)]=aa (L (St.j7 r (St.even T))):=el;have e1:(Tg.put (Tg.one 2) (L r) [c0,.ow ac ((St.even T).map L),c2]).bind EF=aa (.nx [c0,.ow ac (L (St.j7 r (St.even T))::(St.even T).map L),.sh af (L r)]):=by
   simp[cOf,el,show(St.even T).length<1000000 by rfl']
  rw[e1];exact ih
theorem z0x{n e eh u:Nat}(S:aA)(he:eh<=8990)(he3:e<=33000)(hu:u<=17000000)(A:St.Asc n 0 S)(hs:∀r∈S,St.Lt (2^u) r)(hE:∀r∈St.even S,St.Lt (2^e) r)(hH:∀r∈St.even S,St.hd r<2^eh)(h20:S.length<=21)(heu:e<=u):Dq [LL S]=aa (LL (St.even S)):=by
 obtain⟨c2,q⟩:=YS he he3 hu (.sh af (LL S)) S A hs hE hH h20 heu S.reverse [] .no (by simp);have q:forF (Tg.one 2) EF (S.map L).reverse [.sh af (LL S),.ow ac [],.no]=aa (.nx [.sh af (LL S),.ow ac ((St.even S).map L),c2]):=by rw[<-List.map_reverse];exact q
 unfold Dq Lc;simp[cOf,q]
abbrev CF:FS:=sSet [] 1 (i6 ac Dq (b6 (i6 af U3 (b6 (fN 1) (b6 (fN 2) fNil))) fNil))
theorem Ls{n e eh B:Nat}(ed:aG->Dt)(hed:∀r,RowD (ed r) r)(hn:n<=20)(he:eh<=8990)(hee:eh<=e)(he3:e<=33000)(all:aA)(hl:∀r∈all,r.length=n)(hb:∀r∈all,St.Lt B r)(hB:0<B)(hBe:B<=2^e)(hbn:∀k,k<=all.length->St.bnd k B+1<=2^e)(hH:∀k S,k<=all.length->St.Good n B (all.take k) S->∀r∈S,St.hd r<2^eh)(h20:all.length<=20)(c0:Cell):
  ∀(todo done:aA)(S:aA)(c2:Cell),all=done++todo->St.Good n B done S->∃S' c2',forF (Tg.one 2) CF (todo.map ed) [c0,.sh ac (LL S),c2]=aa (.nx [c0,.sh ac (LL S'),c2'])/\St.Good n B all S'
 |[],done,S,c2,h,G=>⟨S,c2,rfl,by rw[h,vn];exact G⟩
 | v::todo,done,S,c2,h,G=>by
  have z:Sz n e eh (e+20*(e+1)) (2*e+3+20*(e+1)):=⟨hn,he,hee,he3,rfl,rfl⟩;have hdn:all.take done.length=done:=by rw[h];simp
  have hdv:all.take (done.length+1)=done++[v]:=by rw[h,List.take_append,vY (by rfl')];simp
  have hld:done.length+1+todo.length=all.length:=by rw[h];simp;rfl'
  have hv:v∈all:=by rw[h];simp
  have sub:∀r∈done,r∈all:=λr hr=>by rw[h];exact wu.mpr (.inl hr)
  have small:=G.small (λr hr=>hb r (sub r hr)) hB;have len:=G.len;have small:∀r∈S,St.Lt (2^e) r:=λr hr=>(small r hr).mono (hbn _ (by rfl'));obtain⟨S1,e1,P⟩:=Sj z S (ed v) v (hed v) G.asc (hl v hv) small (hH done.length S (by rfl') (by rw[hdn];exact G)) ((hb v hv).mono hBe) (by rfl');have G':=G.step P;have small':=G'.small (λr hr=>by
   rcases wu.mp hr with hr|hr
   .exact hb r (sub r hr)
   .rw[wI.mp hr];exact hb v hv) hB
  have len':=G'.len;have len2:(done++[v]).length=done.length+1:=by simp
  have small':∀r∈St.even S1,St.Lt (2^e) r:=λr hr=>(small' r hr).mono (hbn _ (by rfl'));have lim:=z.lim;have e2:=z0x (n:=n) (e:=e) (u:=e+3+(e+20*(e+1)+n*(2*e+3+20*(e+1)))) S1 he he3 (by rfl') P.asc P.size small' (hH (done.length+1) _ (by rfl') (by rw[hdv];exact G')) (by rw[<-St.Ak];rfl') (by rfl');obtain⟨S',c2',ih,GG⟩:=Ls ed hed hn he hee he3 all hl hb hB hBe hbn hH h20 c0 todo (done++[v]) (St.even S1) (.sh af (ed v)) (by rw[h];simp) G';refine⟨S',c2',?_,GG⟩;rw[wq,F6];have st:(Tg.put (Tg.one 2) (ed v) [c0,.sh ac (LL S),c2]).bind CF=aa (.nx [c0,.sh ac (LL (St.even S1)),.sh af (ed v)]):=by
   have sn:∀f,(nrm f (ed v)).2=ed v:=λf=>rfl;simp[cOf,sn,e1,e2]
  rw[st];exact ih
theorem DB{n e eh B:Nat}(ed:aG->Dt)(hed:∀r,RowD (ed r) r)(hn:n<=20)(he:eh<=8990)(hee:eh<=e)(he3:e<=33000)(rows:aA)(d:Dt)(hd:d=.lst (rows.map ed)\/d=.tup (rows.map ed))(hl:∀r∈rows,r.length=n)(hb:∀r∈rows,St.Lt B r)(hB:0<B)(hBe:B<=2^e)(hbn:∀k,k<=rows.length->St.bnd k B+1<=2^e)(hH:∀k S,k<=rows.length->St.Good n B (rows.take k) S->∀r∈S,St.hd r<2^eh)(h20:rows.length<=20):
   ∃S,R3 [d]=aa (LL S)/\St.Good n B rows S:=by
 obtain⟨S,c2,q,G⟩:=Ls ed hed hn he hee he3 rows hl hb hB hBe hbn hH h20 (.sh af d) rows [] [] .no rfl St.Good.nil;refine⟨S,?_,G⟩;have q:forF (Tg.one 2) CF (rows.map ed) [.sh af d,.sh ac (.lst []),.no]=aa (.nx [.sh af d,.sh ac (LL S),c2]):=q;unfold R3 Im;rcases hd with rfl|rfl
 .simp[cOf,q]
 .simp[cOf,q]
theorem Lu{n e B:Nat}(ed:aG->Dt)(hed:∀r,RowD (ed r) r)(hn:n<=20)(he:e<=8990)(rows:aA)(d:Dt)(hd:d=.lst (rows.map ed)\/d=.tup (rows.map ed))(hl:∀r∈rows,r.length=n)(hb:∀r∈rows,St.Lt B r)(hB:0<B)(hBe:B<=2^e)(hbn:∀k,k<=rows.length->St.bnd k B+1<=2^e)(h20:rows.length<=20):
 ∃S,R3 [d]=aa (LL S)/\St.Good n B rows S:=DB (eh:=e) ed hed hn he (wv _) (by rfl') rows d hd hl hb hB hBe hbn (λk S hk G r hr=>by
 have q:=G.small (λr hr=>hb r (uC hr)) hB r hr (St.b7 r);have l:=G.len;have b:=hbn S.length (by rw[vI]at l;rfl');have q:(St.hd r).natAbs<St.bnd S.length B+1:=q;have c2:((2^e:Nat):Int)=(2:Int)^e:=by norm_cast
 rfl') h20
theorem z2o{n e B:Nat}(k:Int)(bills:aA)(hn:n<=20)(he:e<=8990)(hl:∀r∈bills,r.length=n)(hb:∀r∈bills,St.Lt B r)(hB:0<B)(hBe:B<=2^e)(hbn:∀k,k<=bills.length->St.bnd k B+1<=2^e)(h20:bills.length<=20):
  ∃S,L3 [f8 k bills]=aa (LL S)/\St.Good n B bills S:=by
 obtain⟨S,q,G⟩:=Lu (n:=n) (e:=e) (B:=B) T (λr=>.inr rfl) hn he bills (TTu bills) (.inr rfl) hl hb hB hBe hbn h20;refine⟨S,?_,G⟩;unfold L3 Pm;simp[cOf,q]
theorem Uw(d:Dt):N4 [d]=aa (.bl (isWh d)):=by
 unfold N4 Es;cases d<;>simp[cOf,isWh,Dt.flat,nrm]<;>simp[tyN,Dt.flat]
theorem Jk(a:aG)(n:Int):Aq [L a,.int n]=aa (.bl (decide ((a.length:Int)=n))):=by
 unfold Aq Fh;obtain⟨j,q⟩:=Bm (g:=Tg.one 2) (F:=sIf (fNot (fTru (i6 ac N4 (b6 (fN 2) fNil)))) (sRet (fC (.bl af))) o7) (e:=Dt.int) (R:=λ(_:Unit)(c:Cell)=>[.sh af (L a),.sh af (.int n),c]) (step:=λ_ _=>()) a () .no
   (λb x j hx=>⟨.sh af (.int x),by simp[cOf,Tg.put,Uw,isWh]⟩)
 have q:forF (Tg.one 2) (sIf (fNot (fTru (i6 ac N4 (b6 (fN 2) fNil)))) (sRet (fC (.bl af))) o7) (a.map Dt.int) [.sh af (L a),.sh af (.int n),.no]=aa (.nx [.sh af (L a),.sh af (.int n),j]):=q;by_cases h:(a.length:Int)=n
 .simp[cOf,x9,h,q]
 .simp[cOf,x9,h]
theorem NM(a b:aG)(k:Int)(hl:a.length=b.length)(hs:a.length<=1000)(h:∀x∈b,G5 k x=ac):Dy [L a,L b,.int k]=aa (L (addR a (sclR k b))):=by
 unfold Dy Lk;have q:j6 1 [0,2,1] (o0 (fBlt bLen (b6 (fN 0) fNil))) (Tg.one 0) fYes (fOp u9 (fAt (fN 1) (fN 0)) (fOp D9 (fN 2) (fAt (fN 3) (fN 0)))) [.sh af (L a),.sh af (L b),.sh af (.int k)]=aa (.nw,L (addR a (sclR k b))):=by
  rw[n9 (e:=λ(j:Nat)=>.int (0+(j:Int))) (h:=λ(j:Nat)=>.int (a.getD j 0+k*b.getD j 0)) (xs:=av a.length) (by simp[cOf,o0,intD,Cc (show a.length<=1000000 by rfl'),A3]) (λj hj=>by
   have hj:=wO.mp hj;have e1:=M4 (xs:=a) 0 hj;have e2:=M4 (xs:=b) (i:=j) 0 (by rfl');have e3:=h _ (Gy 0 (show j<b.length by rfl'));simp[cOf,Tg.put,sigD,Jb,Ai,e1,e2,e3,-uD]),z21 (λj=>a.getD j 0+k*b.getD j 0),z20 a b k hl]
 simp[cOf,q]
theorem z2p(n:Nat)(rows:aA)(cs:aG)(hn:n<=1000)(hm:rows.length<=1000)(hw:Wide n rows)(hl:rows.length=cs.length)(h:∀r∈rows,∀c∈cs,∀x∈r,G5 c x=ac):JP [.int n,LL rows,L cs]=aa (L (mixR n rows cs)):=by
 unfold JP Ps;have z:j6 1 [] (o0 (fN 0)) (Tg.one 0) fYes (fC (.int 0)) [.sh af (.int n),.sh af (LL rows),.sh af (L cs),.no,.no]=aa (.nw,L (o6 n)):=by
  rw[n9 (e:=λ(k:Nat)=>.int (0+(k:Int))) (h:=λ_=>.int 0) (xs:=av n) (by simp[cOf,o0,intD,Cc (show n<=1000000 by rfl'),A3]) (λx _=>by simp[cOf,Tg.put])];simp[L,o6,w0u]
 obtain⟨hl2,j,q⟩:=KC (g:=Tg.one 4) (F:=sSet [] 3 (j6 1 [3,2,4,1] (o0 (fN 0)) (Tg.one 0) fYes (fOp u9 (fAt (fN 1) (fN 0)) (fOp D9 (fAt (fN 2) (fN 3)) (fAt (fAt (fN 4) (fN 3)) (fN 0))))))
  (e:=λ(j:Nat)=>.int (0+(j:Int))) (R:=λ(t:aG)(c:Cell)=>[.sh af (.int n),.sh af (LL rows),.sh af (L cs),.sh ac (L t),c]) (step:=λt j=>addR t (sclR (cs.getD j 0) (rows.getD j []))) (P:=λt=>t.length=n) (av rows.length) (o6 n) .no E4
  (fun t j c hj ht=>by
   have hj:=wO.mp hj;have hr:=Gy [] hj;have hlr:=hw _ hr;refine⟨by rw[W0 (by rw[A4,ht,hlr])];exact ht,.sh af (.int (0+(j:Int))),?_⟩;have q:j6 1 [3,2,4,1] (o0 (fN 0)) (Tg.one 0) fYes (fOp u9 (fAt (fN 1) (fN 0)) (fOp D9 (fAt (fN 2) (fN 3)) (fAt (fAt (fN 4) (fN 3)) (fN 0)))) [.sh af (.int n),.sh af (LL rows),.sh af (L cs),.sh ac (L t),.sh af (.int (0+(j:Int)))]=aa (.nw,L (addR t (sclR (cs.getD j 0) (rows.getD j [])))):=by
    rw[n9 (e:=λ(k:Nat)=>.int (0+(k:Int))) (h:=λ(k:Nat)=>.int (t.getD k 0+cs.getD j 0*(rows.getD j []).getD k 0)) (xs:=av n) (by simp[cOf,o0,intD,Cc (show n<=1000000 by rfl'),A3]) (λk hk=>by
     have hk:=wO.mp hk;have e1:=M4 (xs:=t) (i:=k) 0 (by rfl');have e2:=M4 (xs:=cs) (i:=j) 0 (by rfl');have e3:=M4 (xs:=rows) (i:=j) [] hj;have e4:=M4 (xs:=rows.getD j []) (i:=k) 0 (by rfl');have e5:=h _ hr _ (Gy 0 (show j<cs.length by rfl')) _ (Gy 0 (show k<(rows.getD j []).length by rfl'));simp only[w0X]at *;simp[cOf,Tg.put,sigD,Jb,Ai,e1,e2,e3,e4,e5,-uD]),z21 (λk=>t.getD k 0+cs.getD j 0*(rows.getD j []).getD k 0),<-ht,z20 t _ _ (by rw[ht,hlr])]
   simp only[w0X]at *;simp[cOf,Tg.put,q,-uD])
 have q:forF (Tg.one 4) (sSet [] 3 (j6 1 [3,2,4,1] (o0 (fN 0)) (Tg.one 0) fYes (fOp u9 (fAt (fN 1) (fN 0)) (fOp D9 (fAt (fN 2) (fN 3)) (fAt (fAt (fN 4) (fN 3)) (fN 0)))))) (P6 0 rows.length) [.sh af (.int n),.sh af (LL rows),.sh af (L cs),.sh ac (L (o6 n)),.no]=aa (.nx [.sh af (.int n),.sh af (LL rows),.sh af (L cs),.sh ac (L (mixR n rows cs)),j]):=by
  rw[A3,<-Ui n rows cs hl];exact q
 simp[cOf,z,o0,intD,Cc (show rows.length<=1000000 by rfl'),q]
theorem Jl(m j:Nat)(hm:m<=1000):Q1 [.int m,.int j]=aa (L (St.O1 m j)):=by
 unfold Q1 Fd;have q:j6 1 [1] (o0 (fN 0)) (Tg.one 0) fYes (fIf (j8 (fOp opEq (fN 0) (fN 1))) (fC (.int 1)) (fC (.int 0))) [.sh af (.int m),.sh af (.int j)]=aa (.nw,L (St.O1 m j)):=by
  rw[n9 (e:=λ(k:Nat)=>.int (0+(k:Int))) (h:=λk=>.int (if k=j then 1 else 0)) (xs:=av m) (by simp[cOf,y13 m (by rfl'),A3]) (λk _=>by
   by_cases h:k=j
   .simp[cOf,v6,h]
   .simp[cOf,v6,h,show ¬(k:Int)=(j:Int) by rfl'])]
  rw[z21 (λk=>if k=j then 1 else 0)];rfl
 simp[cOf,q]
theorem Px(m:Nat):∀(s:Nat)(bs:aA),(bs.zip ((List.range' s bs.length).map (St.O1 m))).map (λp=>p.1++p.2)=St.tagF m s bs
 |s,[]=>rfl
 |s,b::bs=>by rw[wo,List.range'_succ,wq,uu,wq,Px m (s+1) bs,St.tagF]
theorem JH{n e B:Nat}(hn:n<=20)(he:e<=8990)(bills tags:aA)(hlt:bills.length=tags.length)(hl:∀p∈bills.zip tags,(p.1++p.2).length=n)(hb:∀p∈bills.zip tags,St.Lt B (p.1++p.2))(hB:0<B)(hBe:B<=2^e)(hbn:∀k,k<=bills.length->St.bnd k B+1<=2^e)(h20:bills.length<=20):
  ∃S,B7 [TTu bills,LL tags]=aa (LL S)/\St.Good n B ((bills.zip tags).map λp=>p.1++p.2) S:=by
 have hlz:((bills.zip tags).map λp=>p.1++p.2).length=bills.length:=by simp;rfl'
 obtain⟨S,q,G⟩:=Lu (n:=n) (e:=e) (B:=B) L (λr=>.inl rfl) hn he ((bills.zip tags).map λp=>p.1++p.2) (LL ((bills.zip tags).map λp=>p.1++p.2)) (.inl rfl) (λr hr=>by
  obtain⟨p,hp,rfl⟩:=wg.mp hr;exact hl p hp) (λr hr=>by
  obtain⟨p,hp,rfl⟩:=wg.mp hr;exact hb p hp) hB hBe (λk hk=>hbn k (by rfl')) (by rfl')
 refine⟨S,?_,G⟩;unfold B7 S6;have z:j6 2 [] (iZip (fN 0) (fN 1)) (Tg.many [0,1]) fYes (fOp u9 (fBlt bLst (b6 (fN 0) fNil)) (fBlt bLst (b6 (fN 1) fNil))) [.sh af (TTu bills),.sh af (LL tags)]=aa (.nw,LL ((bills.zip tags).map λp=>p.1++p.2)):=by
  rw[n9 (e:=λp:aG×aG=>.tup [T p.1,L p.2]) (h:=λp=>L (p.1++p.2)) (xs:=bills.zip tags) (by simp[cOf,hlt,Bn]) (λp hp=>by
   have h1:=hl p hp;have c:=KG p.1 p.2 (by simp at h1;rfl');simp[cOf,c])]
  simp[LL]
 simp[cOf,z,q]
theorem Fy{n e B:Nat}(k:Int)(bills:aA)(hn:n+bills.length<=20)(he:e<=8990)(hl:∀r∈bills,r.length=n)(hb:∀r∈bills,St.Lt B r)(hB:1<B)(hBe:B<=2^e)(hbn:∀k,k<=bills.length->St.bnd k B+1<=2^e):
  ∃S,A6 [f8 k bills]=aa (LL S)/\St.Good (n+bills.length) B (St.Db bills) S:=by
 have ht:((av bills.length).map (St.O1 bills.length)).length=bills.length:=by simp
 have hz:∀p∈bills.zip ((av bills.length).map (St.O1 bills.length)),p.1∈bills/\∃j,p.2=St.O1 bills.length j:=λp hp=>by
  refine⟨(vU hp).1,?_⟩;obtain⟨j,_,e⟩:=wg.mp (vU hp).2;exact⟨j,e.symm⟩
 obtain⟨S,q,G⟩:=JH (n:=n+bills.length) (e:=e) (B:=B) hn he bills ((av bills.length).map (St.O1 bills.length)) ht.symm (λp hp=>by
  obtain⟨h1,j,h2⟩:=hz p hp;rw[wB,h2,St.NA,hl _ h1]) (λp hp=>by
  obtain⟨h1,j,h2⟩:=hz p hp;intro i;rw[St.Eg (hl _ h1),h2,St.GH];split
  .exact hb _ h1 i
  .split<;>simp<;>rfl') (by rfl') hBe hbn (by rfl')
 have e0:=Px bills.length 0 bills;rw[<-w0D]at e0;rw[e0]at G;refine⟨S,?_,G⟩;have z:j6 1 [1] (o0 (fN 1)) (Tg.one 0) fYes (i6 ac Q1 (b6 (fN 1) (b6 (fN 0) fNil))) [.sh af (f8 k bills),.sh ac (.int bills.length)]=aa (.nw,LL ((av bills.length).map (St.O1 bills.length))):=by
  rw[n9 (e:=λ(k:Nat)=>.int (0+(k:Int))) (h:=λk=>L (St.O1 bills.length k)) (xs:=av bills.length) (by simp[cOf,y13 bills.length (by rfl'),A3]) (λj _=>by
    have u:=Jl bills.length j (by rfl');simp[cOf,u])]
  simp[LL]
 unfold A6 S7;simp[cOf,z,q]
theorem GQ(S:aA)(n:Nat):C7 [LL S,.int n]=aa (LL (St.bots n S)):=by
 have q:j6 1 [1] (iSeq (fN 0)) (Tg.one 0) (j8 (fOp opGe (i6 ac o9 (b6 (fN 0) fNil)) (fN 1))) (fSl (fN 0) (J2 (fN 1)) z9) [.sh af (LL S),.sh af (.int n)]=aa (.nw,.lst ((S.filter λr=>!decide (St.b7 r<n)).map λr=>L (r.drop n))):=
  Gw (e:=L) (h:=λr=>L (r.drop n)) (p:=λr=>!decide (St.b7 r<n)) (xs:=S) (by simp[cOf]) (λr hr=>by
   by_cases h:St.b7 r<n
   .simp[cOf,C8,h]
   .simp[cOf,C8,h];rfl') (λr hr _=>by
   simp[cOf,CZ,M5])
 unfold C7 U4;simp[cOf,q,St.bots]
structure Hall(n:Nat)(bills:aA):Prop where
 n1:1<=n
 n6:n<=6
 m8:bills.length<=8
 wide:∀r∈bills,r.length=n
 small:∀r∈bills,∀x∈r,x.natAbs<10^30
theorem Hall.lt{n:Nat}{bills:aA}(H:Hall n bills):∀r∈bills,St.Lt (10^30) r:=λr hr=>St.HS (by decide) (H.small r hr)
theorem Ux{n:Nat}{bills:aA}(H:Hall n bills):∃S,L3 [f8 n bills]=aa (LL S)/\St.Good n (10^30) bills S/\∀r∈S,St.Lt (2^900) r:=by
 have m8:=H.m8;have n6:=H.n6;obtain⟨S,es,G⟩:=z2o (n:=n) (e:=900) (B:=10^30) n bills (by rfl') (by rfl') H.wide H.lt (by decide) (by decide) (λk hk=>St.YG k (by rfl')) (by rfl');have:=G.len;exact⟨S,es,G,λr hr=>(G.small H.lt (by decide) r hr).mono (St.YG _ (by rfl'))⟩
theorem tag_lt{n:Nat}{bills:aA}(H:Hall n bills):∀r∈St.Db bills,St.Lt (10^30) r:=λr hr=>by
 obtain⟨b,hb,j,rfl⟩:=St.RR _ hr;intro i;rw[St.Eg (H.wide b hb),St.GH];split
 .exact H.lt b hb i
 .split<;>simp
theorem z0y{n:Nat}{bills:aA}(H:Hall n bills):∃S,A6 [f8 n bills]=aa (LL S)/\St.Tag n bills S/\∀r∈S,St.Lt (2^900) r:=by
 have m8:=H.m8;have n6:=H.n6;obtain⟨S,es,G⟩:=Fy (n:=n) (e:=900) (B:=10^30) n bills (by rfl') (by rfl') H.wide H.lt (by decide) (by decide) (λk hk=>St.YG k (by rfl'));have:=G.len;rw[St.Dc]at this;exact⟨S,es,G.tag H.wide,λr hr=>(G.small (tag_lt H) (by decide) r hr).mono (St.YG _ (by rfl'))⟩
theorem hd_lt{n e:Nat}{S:aA}(A:St.Asc n 0 S)(h:∀r∈S,St.Lt (2^e) r):∀r∈S,St.hd r<2^e:=λr hr=>by
 have h1:=h r hr (St.b7 r);have h3:(St.hd r).natAbs<2^e:=h1;have:((2^e:Nat):Int)=(2:Int)^e:=by norm_cast
 rfl'
theorem Uy{n e s:Nat}{S:aA}{v:aG}(A:St.Asc n 0 S)(h:∀r∈S,St.Lt (2^e) r)(he:e<=8990)(hv:v.length=n)(hs:St.Lt (2^s) v)(h20:S.length<=20)(hsl:s<=1000000):
  (∀r∈S,r.length=n/\St.b7 r<n/\0<St.hd r/\St.hd r<2^9000)/\St.LowB (s+20*(e+1)) v S/\2*(s+20*(e+1))<=134217728/\S.length<=1000/\St.Lt (2^(s+20*(e+1))) (St.j7 v S):=by
 have hm:S.length*(e+1)<=20*(e+1):=wE _ h20;obtain⟨z1,z2⟩:=St.Q9 (n:=n) (t:=0) (s:=s) (e:=e) (m:=s+20*(e+1)) (S:=S) (left:=v) (λr hr=>⟨(A.mem hr).1,(A.mem hr).2.2.2⟩) hv (λk hk=>by rfl') (λr hr _=>h r hr) hs (by rfl') (by rfl');exact⟨GP A (hd_lt A h) he,z2,by rfl',by rfl',z1.mono (wm (by decide) (by rfl'))⟩
theorem Uz(n:Nat)(bills:aA)(one other uses:aG)(hn:n<=1000)(hm:bills.length<=1000)(h1:one.length=n)(hw:Wide n bills)(hl:bills.length=uses.length)(h:∀r∈bills,∀c∈uses,∀x∈r,G5 c x=ac):Bv [LL bills,L one,L other,L uses]=aa (.bl (decide (addR one (mixR n bills uses)=other))):=by
 have e1:=Jk uses uses.length;have e2:=z2p n bills uses hn hm hw hl h;have hml:(mixR n bills uses).length=n:=RK hw;have e3:=NM one (mixR n bills uses) 1 (by rfl') (by rfl') (λx _=>Y1 (by decide));rw[z56]at e3;have e4:=Nr (addR one (mixR n bills uses)) other;unfold Bv Ir;simp[cOf,e1,hl,h1,e2,e3,e4]
theorem UA(bills:aA)(ρ:Rho)(F:FE)(f:Fl)(h:F ρ=aa (f,LL bills)):j6 1 [] (iSeq F) (Tg.one 0) fYes (fBlt bLst (b6 (fN 0) fNil)) ρ=aa (.nw,LL bills):=
 n9 (e:=L) (h:=L) (xs:=bills) (by unfold iSeq;rw[h];rfl) (λx hx=>by simp[cOf])
theorem Hall.made{n:Nat}{bills:aA}(H:Hall n bills):F7 [.int n,LL bills]=aa (f8 n bills):=Ut n bills H.n1 H.n6 H.m8 H.wide H.small
theorem Py:∀(R:aA)(c:aG)(k:Nat),St.mix R (sclR (-1) c) k = -(St.mix R c k)
 |[],c,k=>by simp[St.mix]
 |r::R,[],k=>by simp[St.mix,sclR]
 |r::R,x::c,k=>by
  have ih:=Py R c k;show(-1*x)*St.at0 r k+St.mix R (sclR (-1) c) k = -(x*St.at0 r k+St.mix R c k);rw[ih,w01,Int.one_mul,w01];rfl'
theorem Cn{n:Nat}{a b:aG}(h:a.length=n)(k:Nat):St.at0 (a++b) k=if k<n then St.at0 a k else St.at0 b (k-n):=St.Eg h k
theorem z2q{n:Nat}{bills U:aA}(t:St.Tag n bills U){u c:aG}(hu:u.length=n+bills.length)(hc:u.drop n=sclR (-1) c):Lat.Span (St.vecs U) (λk=>St.at0 u k)↔∀k,k<n->St.at0 u k = -(St.mix bills c k):=by
 rw[t.span.iff,St.z27 t.wide hu,hc];constructor
 .intro h k hk;rw[h k hk,Py]
 .intro h k hk;rw[h k hk,Py]
theorem Sk{n m:Nat}{back w:aG}(hb:back.length=n)(hw:w.length=n+m):(St.sub (back++o6 m) 1 w).drop n=sclR (-1) (w.drop n):=by
 have hv:(back++o6 m).length=n+m:=by rw[wB,hb,E4]
 refine St.ext0 (by rw[vd,St.P2 (by rfl'),A4,vd];rfl') λk=>?_;rw[St.W1,St.N2 (by rfl'),AL,St.W1,Cn hb,aw (by rfl'),L8];rfl'
theorem z0z{n:Nat}{bills U:aA}(t:St.Tag n bills U){back:aG}(hb:back.length=n)(hz:(St.j7 (back++o6 bills.length) U).take n=o6 n):∀k,k<n->St.at0 back k = -(St.mix bills ((St.j7 (back++o6 bills.length) U).drop n) k):=by
 have hv:(back++o6 bills.length).length=n+bills.length:=by rw[wB,hb,E4]
 have hw:=St.L0 t.asc hv;have sp:=St.G6 t.asc hv;generalize St.j7 (back++o6 bills.length) U=w at *;have hs:(St.sub (back++o6 bills.length) 1 w).length=n+bills.length:=by rw[St.P2 (by rfl')];exact hv
 have q:=(z2q t hs (Sk hb hw)).mp (Lat.Span.congr (λk=>by rw[St.N2 (by rfl')];rfl') sp);intro k hk;have h1:=q k hk;have h2:St.at0 w k=0:=by
  have:=bI (λr=>St.at0 r k) hz;simp only[St.L7,ar hk,L8]at this;exact this
 rw[St.N2 (by rfl'),Cn hb,ar hk,h2]at h1;rfl'
theorem z2r{n:Nat}{bills U:aA}(t:St.Tag n bills U){back:aG}(hb:back.length=n)(hs:Lat.Span (St.vecs bills) (λk=> -(St.at0 back k))):(St.j7 (back++o6 bills.length) U).take n=o6 n:=by
 have hv:(back++o6 bills.length).length=n+bills.length:=by rw[wB,hb,E4]
 obtain⟨c,hc,ec⟩:=St.AJ hs;have hzl:(o6 n:aG).length=n:=E4;have hz:(o6 n++c).length=n+bills.length:=by rw[wB,hzl,hc]
 have hd:(St.sub (back++o6 bills.length) 1 (o6 n++c)).drop n=sclR (-1) c:=by
   rw[Sk hb hz];congr 1;rw[List.drop_append,hzl];simp[uT (show(o6 n).length<=n by rw[E4];exact wv n)]
 have hl:(St.sub (back++o6 bills.length) 1 (o6 n++c)).length=n+bills.length:=by rw[St.P2 (by rfl')];exact hv
 have sp:=(z2q t hl hd).mpr (λk hk=>by
   have:=ec k;rw[St.N2 (by rfl'),Cn hb,ar hk,Cn hzl,ar hk,L8];rfl')
 have e:=St.RS t.asc hv hz (Lat.Span.congr (λk=>by rw[St.N2 (by rfl')];rfl') sp);have z:=(St.Da (n:=n+bills.length) (t:=n) (S:=U) (left:=o6 n++c) (λr hr=>(t.asc.mem hr).1) hz (λk hk=>by rw[Cn hzl,ar hk,L8])).1;rw[e];refine St.ext0 (by rw[vI,St.L0 t.asc hz,E4];rfl') λk=>?_;rw[St.L7,L8];split
 .exact z k ‹_›
 .rfl
theorem Sl{n s e:Nat}{bills U:aA}(n6:n<=6)(m8:bills.length<=8)(eu:A6 [f8 n bills]=aa (LL U))(t:St.Tag n bills U)(sU:∀r∈U,St.Lt (2^e) r)(he:e<=8990)(one other:aG)(h1:one.length=n)(h2:other.length=n)(s1:St.Lt (2^s) one)(s2:St.Lt (2^s) other)(hs:s<=100000):
   Ep [f8 n bills,L one,L other]=aa (if(St.j7 (sclR (-1) (subR other one)++o6 bills.length) U).take n=o6 n then L ((St.j7 (sclR (-1) (subR other one)++o6 bills.length) U).drop n) else .non):=by
 have hsb:(subR other one).length=n:=by rw[Gx (by rfl')];exact h2
 have ap:=Sf n bills one other h1 h2;have sc:=N5 (subR other one) (-1) (λx _=>Y1 (by decide));have hb:(sclR (-1) (subR other one)).length=n:=by rw[A4];exact hsb
 have sb:St.Lt (2^(s+1)) (sclR (-1) (subR other one)):=λk=>by
   rw[AL,Bp (by rfl'),vZ];have:=s1 k;have:=s2 k;rfl'
 generalize sclR (-1) (subR other one)=back at *;have hv:(back++o6 bills.length).length=n+bills.length:=by rw[wB,hb,E4]
 have sv:St.Lt (2^(s+1)) (back++o6 bills.length):=λk=>by
   rw[Cn hb];split
   .exact sb k
   .rw[L8];exact w1f (by decide)
 have full:=t.full;obtain⟨o1,o2,o3,o4,_⟩:=Uy t.asc sU he hv sv (by rfl') (by rfl');have lw:=Av (L (back++o6 bills.length)) (back++o6 bills.length) U (.inl rfl) o3 o1 hv o2 o4;have no:=Fw bills.length (by rfl');have nt:=z0t n bills (by rfl');have cat:u9 (L back) (L (o6 bills.length))=aa (.nw,L (back++o6 bills.length)):=KG back (o6 bills.length) (by rw[hb,E4];rfl');generalize St.j7 (back++o6 bills.length) U=w at *;have ct:=KE (w.map Dt.int) n;have cf:=CZ (w.map Dt.int) n;have ne:=z0i (w.take n) (o6 n);have t1:newL ((w.map Dt.int).take n)=(.nw,L (w.take n)):=Aj w n;have t2:newL ((w.map Dt.int).drop n)=(.nw,L (w.drop n)):=M5 w n;unfold Ep Io;by_cases h:w.take n=o6 n
 .rw[h]at ne t1;simp[cOf,ap,sc,no,cat,eu,lw,nt,ct,cf,t1,t2,ne,h]
 .rw[aU h]at ne;simp[cOf,ap,sc,no,cat,eu,lw,nt,ct,cf,t1,t2,ne,h]
theorem Sm{n s e:Nat}{bills U:aA}{one other:aG}(n6:n<=6)(m8:bills.length<=8)(wd:Wide n bills)(lt:∀r∈bills,∀x∈r,x.natAbs<2^900)(eu:A6 [f8 n bills]=aa (LL U))(t:St.Tag n bills U)(sU:∀r∈U,St.Lt (2^e) r)(he:e<=8990)(l1:one.length=n)(l2:other.length=n)(s1:St.Lt (2^s) one)(s2:St.Lt (2^s) other)(hs:s<=100000):
   (∃us,Ip [f8 n bills,L one,L other]=aa (L us)/\Bv [LL bills,L one,L other,L us]=aa (.bl ac)/\Lat.Span (St.vecs bills) (λk=>St.at0 other k-St.at0 one k)) \/
   (Ip [f8 n bills,L one,L other]=aa .non/\¬Lat.Span (St.vecs bills) (λk=>St.at0 other k-St.at0 one k)):=by
 have se:=Sl (s:=s) n6 m8 eu t sU he one other l1 l2 s1 s2 hs;have hsb:(subR other one).length=n:=by rw[Gx (by rfl')];exact l2
 have hb:(sclR (-1) (subR other one)).length=n:=by rw[A4];exact hsb
 have hv:(sclR (-1) (subR other one)++o6 bills.length).length=n+bills.length:=by rw[wB,hb,E4]
 have hw:=St.L0 t.asc hv;have full:=t.full;have sv:St.Lt (2^(s+1)) (sclR (-1) (subR other one)++o6 bills.length):=λk=>by
   rw[Cn hb];split
   .rw[AL,Bp (by rfl'),vZ];have:=s1 k;have:=s2 k;rfl'
   .rw[L8];exact w1f (by decide)
 obtain⟨_,_,_,_,o5⟩:=Uy t.asc sU he hv sv (by rfl') (by rfl');have ld0:=λhz=>z0z t hb hz;have so:=λhs=>z2r t hb hs;have hk:∀k,St.at0 (sclR (-1) (subR other one)) k = -(St.at0 other k-St.at0 one k):=λk=>by rw[AL,Bp (by rfl')];rfl'
 generalize sclR (-1) (subR other one)=back at *;generalize St.j7 (back++o6 bills.length) U=w at *;by_cases hz:w.take n=o6 n
 .rw[ar hz]at se;have lu:(w.drop n).length=bills.length:=by rw[vd];rfl'
  have su:St.Lt (2^(s+1+20*(e+1))) (w.drop n):=λk=>by rw[St.W1];exact o5 _
  have ld:=Uz n bills one other (w.drop n) (by rfl') (by rfl') l1 wd lu.symm (λr hr c hc x hx=>Z3 (z2f su c hc) (lt r hr x hx) (by rfl'));have hml:(mixR n bills (w.drop n)).length=n:=RK wd;have sp:∀k,k<n->St.at0 other k-St.at0 one k=St.mix bills (w.drop n) k:=λk hkn=>by
    have:=ld0 hz k hkn;rw[hk]at this;rfl'
  have ho:addR one (mixR n bills (w.drop n))=other:=St.ext0 (by rw[W0 (by rfl')];rfl') λk=>by
    rw[GK (by rfl'),z2e wd];by_cases hkn:k<n
    .have:=sp k hkn;rfl'
    .rw[St.Pd wd k (by rfl'),St.C9 (by rfl'),St.C9 (by rfl')];rfl
  rw[aM ho]at ld;refine .inl ⟨w.drop n,?_,ld,Lat.Span.congr (λk=>?_) (St.z26 (w.drop n))⟩
  .generalize w.drop n=us at *;unfold Ip Pn;simp[cOf,se]
  .by_cases hkn:k<n
   .exact(sp k hkn).symm
   .rw[St.Pd wd k (by rfl'),St.C9 (by rfl'),St.C9 (by rfl')];rfl
 .rw[aw hz]at se;refine .inr ⟨?_,λhs=>hz (so (Lat.Span.congr (λk=>by rw[hk];rfl') hs))⟩;unfold Ip Pn;simp[cOf,se]
theorem YT(a p:Int)(hp:0<p):Dn [.int a,.int p]=aa (.int (a.fmod p)):=by
 unfold Dn Pl;simp[cOf,v6,show ¬p=0 by rfl',C6 hp]
def rstR(p:Int)(r:aG):aG:=r.map (·.fmod p)
theorem GR(p:Int)(r:aG):(rstR p r).length=r.length:=by simp[rstR]
theorem JR(p:Int)(r:aG)(k:Nat):St.at0 (rstR p r) k=St.at0 r k-p*(St.at0 r k).fdiv p:=by
 have e:St.at0 (rstR p r) k=(St.at0 r k).fmod p:=by
  unfold St.at0 rstR;by_cases h:k<r.length
  .simp[au,wa h]
  .simp[au,wK (ud h)]
 rw[e,Int.fmod_def]
theorem UB{p:Int}(hp:0<p){r:aG}:∀x∈rstR p r,0<=x/\x<p:=λx hx=>by
 obtain⟨y,_,rfl⟩:=wg.mp hx;exact⟨vh y hp,vC y hp⟩
theorem GS(r:aG)(p:Int)(hp:0<p):V4 [L r,.int p]=aa (L (rstR p r)):=by
 unfold V4 Po;have q:j6 1 [1] (iSeq (fN 0)) (Tg.one 0) fYes (i6 ac Dn (b6 (fN 0) (b6 (fN 1) fNil))) [.sh af (L r),.sh af (.int p)]=aa (.nw,L (rstR p r)):=by
  rw[n9 (e:=Dt.int) (h:=λx=>.int (x.fmod p)) (xs:=r) (by simp[cOf]) (λx _=>by
   have:=YT x p hp;simp[cOf,this])]
  simp[rstR,L]
 simp[cOf,q]
theorem Iv(A:aA)(m:Nat)(h:∀r∈A,r.length=m)(hm:m<=1000):W5 [LL A,.int m]=aa (LL (St.trn m A)):=by
 unfold W5 Lh
 have q:j6 1 [0] (o0 (fN 1)) (Tg.one 0) fYes (j6 1 [0] (iSeq (fN 1)) (Tg.one 0) fYes (fAt (fN 0) (fN 1))) [.sh false (LL A),.sh false (.int m)]=some (.nw,LL (St.trn m A)):=by
  rw[n9 (e:=λ(k:Nat)=>.int (0+(k:Int))) (h:=λk=>L (A.map λr=>St.at0 r k)) (xs:=av m) (by simp[cOf,y13 m (by rfl'),A3]) (λk hk=>by
   have hk:=wO.mp hk;have i:j6 1 [0] (iSeq (fN 1)) (Tg.one 0) fYes (fAt (fN 0) (fN 1)) [.sh af (.int (k:Int)),.sh af (LL A)]=aa (.nw,L (A.map λr=>St.at0 r k)):=by
    rw[n9 (e:=L) (h:=λr=>.int (St.at0 r k)) (xs:=A) (by simp[cOf]) (λr hr=>by
     have e:atI (r.map Dt.int) ((k:Nat):Int)=aa (.int (St.at0 r k)):=by
      rw[Ai,M4 0 (by rw[h r hr];exact hk)];rfl
     simp[cOf,e])]
    simp[L]
   simp[cOf,i])]
  simp[St.trn,LL]
 simp[cOf,q]
abbrev SF:FS:=(sIf (fOr (j8 (fOp opNe (i6 ac o9 (b6 (fN 2) fNil)) (fN 1))) (fTru (fBlt bAny (b6 (j6 1 [] (iSeq (fSl (fN 2) (J2 (fOp u9 (fN 1) (fC (.int 1)))) z9)) (Tg.one 0) fYes (fOp opNe (fN 0) (fC (.int 0)))) fNil)))) (sRet (fC (.bl af))) o7)
def EL(p:Nat×aG):Prop:=St.b7 p.2=p.1/\∀x∈p.2.drop (p.1+1),x=0
theorem cut1{α:Type}(xs:List α)(j:Nat):cutD xs (aa ((j:Int)+1)) ag=xs.drop (j+1):=by
 have:=CZ xs (j+1)
 rwa [show(((j+1:Nat)):Int)=(j:Int)+1 by rfl']at this
theorem Lv(c0 c1 c2:Cell)(p:Nat×aG):(¬EL p->(Tg.put (Tg.many [1,2]) (.tup [.int p.1,L p.2]) [c0,c1,c2]).bind SF=aa (.rt .nw (.bl af)))/\(EL p->(Tg.put (Tg.many [1,2]) (.tup [.int p.1,L p.2]) [c0,c1,c2]).bind SF=aa (.nx [c0,.sh af (.int p.1),.sh af (L p.2)])):=by
 obtain⟨j,r⟩:=p;have cm:j6 1 [] (iSeq (fSl (fN 2) (J2 (fOp u9 (fN 1) (fC (.int 1)))) z9)) (Tg.one 0) fYes (fOp opNe (fN 0) (fC (.int 0))) [c0,.sh af (.int j),.sh af (L r)]=aa (.nw,.lst ((r.drop (j+1)).map λx=>.bl (!decide (x=0)))):=by
   rw[n9 (e:=Dt.int) (h:=λx=>.bl (!decide (x=0))) (xs:=r.drop (j+1)) (by
    simp[cOf,cut1,M5,List.map_drop]) (λx _=>by simp[cOf,x9])]
 have e:=T7 (λx:Int=>!decide (x=0)) (r.drop (j+1));have q:EL (j,r)↔St.b7 r=j/\((r.drop (j+1)).map λx=>!decide (x=0)).any id=af:=by
   unfold EL;refine and_congr_right λ_=>?_;rw[List.any_map,w0M];simp
 generalize (r.drop (j+1)).map (λx=>Dt.bl (!decide (x=0)))=D at cm e;generalize (r.drop (j+1)).map (λx=>!decide (x=0))=bs at e q;rw[q];by_cases hh:St.b7 r=j
 .cases hb:bs.any id with
  |true=>exact⟨λ_=>by simp[cOf,C8,x9,hh,cm,bAny,e,hb],λh=>by cases h.2⟩
  |false=>exact⟨λh=>aN ⟨hh,rfl⟩ h,λ_=>by simp[cOf,C8,x9,hh,cm,bAny,e,hb]⟩
 .exact⟨λ_=>by simp[cOf,C8,x9,show ¬((St.b7 r:Int)=(j:Int)) by rfl'],λh=>aN h.1 hh⟩
theorem DC(A:aA):((∀p∈K5 0 A,EL p)->Q2 [LL A]=aa (.bl ac))/\((∃p∈K5 0 A,¬EL p)->Q2 [LL A]=aa (.bl af)):=by
 have key:=NG (g:=Tg.many [1,2]) (F:=SF) (λp:Nat×aG=>.tup [.int p.1,L p.2]) (λp=>¬EL p) (λj:Cell×Cell=>[.sh af (LL A),j.1,j.2]) .nw (.bl af) (K5 0 A) (.no,.no)
   (λp _ j hb=>(Lv _ _ _ p).1 hb) (λp _ j hb=>⟨(.sh af (.int p.1),.sh af (L p.2)),(Lv _ _ _ p).2 (Classical.not_not.mp hb)⟩)
 rw[<-Bw]at key;constructor
 .intro h;obtain⟨j,e⟩:=key.2 λp hp(k:¬EL p)=>k (h p hp);unfold Q2 Cj;simp[cOf,e]
 .intro h;have e:=key.1 h;unfold Q2 Cj;simp[cOf,e]
theorem Lw(A W:aA):St.pair A W=(A.zip W).map λp=>p.1++p.2:=by
 unfold St.pair
 induction A generalizing W with
 |nil=>rfl
 |cons a A ih=>
  cases W with
  |nil=>rfl
  |cons b W=>rw[List.zipWith_cons_cons,uu,wq,ih]
theorem Lx{n e eh B:Nat}(hn:n<=20)(he:eh<=8990)(hee:eh<=e)(he3:e<=33000)(A W:aA)(hlt:A.length=W.length)(hl:∀x∈St.pair A W,x.length=n)(hb:∀x∈St.pair A W,St.Lt B x)(hB:0<B)(hBe:B<=2^e)(hbn:∀k,k<=A.length->St.bnd k B+1<=2^e)
  (hH:∀k S,k<=A.length->St.Good n B ((St.pair A W).take k) S->∀r∈S,St.hd r<2^eh) (h20:A.length<=20):∃S,B7 [LL A,LL W]=aa (LL S)/\St.Good n B (St.pair A W) S:=by
 have hlz:(St.pair A W).length=A.length:=St.S5 hlt;obtain⟨S,q,G⟩:=DB (n:=n) (e:=e) (eh:=eh) (B:=B) L (λr=>.inl rfl) hn he hee he3 (St.pair A W) (LL (St.pair A W)) (.inl rfl) hl hb hB hBe (λk hk=>hbn k (by rfl')) (λk S hk=>hH k S (by rfl')) (by rfl');refine⟨S,?_,G⟩;unfold B7 S6;have z:j6 2 [] (iZip (fN 0) (fN 1)) (Tg.many [0,1]) fYes (fOp u9 (fBlt bLst (b6 (fN 0) fNil)) (fBlt bLst (b6 (fN 1) fNil))) [.sh af (LL A),.sh af (LL W)]=aa (.nw,LL (St.pair A W)):=by
  rw[n9 (e:=λp:aG×aG=>.tup [L p.1,L p.2]) (h:=λp=>L (p.1++p.2)) (xs:=A.zip W) (by simp[cOf,hlt,Bn]) (λp hp=>by
   have h1:=hl (p.1++p.2) (by rw[Lw];exact wg.mpr ⟨p,hp,rfl⟩);have c:=KG p.1 p.2 (by simp at h1;rfl');simp[cOf,c])]
  rw[Lw];simp[LL]
 simp[cOf,z,q]
theorem Z5:∀{j:Nat}{A:aA}{p:Nat×aG},p∈K5 j A↔∃i,i<A.length/\p=(j+i,A.getD i [])
 |j,[],p=>by simp[K5]
 |j,r::A,p=>by
  rw[K5,wn,Z5];constructor
  .rintro(rfl|⟨i,hi,rfl⟩)
   .exact⟨0,by simp,rfl⟩
   .exact⟨i+1,by simpa using hi,by rw[show j+1+i=j+(i+1) by rfl'];rfl⟩
  .rintro⟨i,hi,rfl⟩;cases i with
   |zero=>exact .inl rfl
   |succ i=>exact .inr ⟨i,by simpa using hi,by rw[show j+1+i=j+(i+1) by rfl'];rfl⟩
theorem Iw{r:Nat}{A:aA}(q:St.Sq r A):(∀p∈K5 0 A,EL p)↔St.Clean r A:=by
 constructor
 .intro h i hi k hn;have:=(h (0+i,A.getD i []) (Z5.mpr ⟨i,by rw[q.len];exact hi,rfl⟩)).2;rcases ut hn with x|x
  .exact q.low x
  .by_cases hk:k<r
   .have hl:(A.getD i []).length=r:=q.rows _ (St.G7 (by rw[q.len];exact hi));refine this (St.ent A i k) (vJ (i:=k-(0+i+1)) ?_);show((A.getD i []).drop (0+i+1))[k-(0+i+1)]?=_;rw[uM,show 0+i+1+(k-(0+i+1))=k by rfl',wa (show k<(A.getD i []).length by rw[hl];exact hk)];have e:St.ent A i k=(A.getD i []).getD k 0:=rfl;rw[e];simp[au,wa (show k<((A[i]?).getD []).length by have:=hl;simp only[au]at this;rw[this];exact hk)]
   .exact q.far (by rfl')
 .intro c p hp;obtain⟨i,hi,rfl⟩:=Z5.mp hp;rw[q.len]at hi;refine⟨by show St.b7 (A.getD i [])=0+i;rw[q.head hi];rfl',λx hx=>?_⟩;obtain⟨j,hj,rfl⟩:=wH hx;rw[List.getElem_drop];have:=c i hi (0+i+1+j) (by rfl');unfold St.ent St.at0 at this;rw[vd]at hj;have hj:0+i+1+j<(A.getD i []).length:=by have hj:j<(A.getD i []).length-(0+i+1):=hj;rfl'
  rw[au,wa hj]at this;exact this
theorem bnd6(k:Nat)(h:k<=6):St.bnd k (2^5461)+1<=2^32900:=by
 have h1:=St.GD (r:=k) (s:=6) (B:=2^5461) h (wU _) (by decide);have h2:St.bnd 6 (2^5461)<=2^32826:=by
  unfold St.bnd;have a:2*6*2^5461<=2^5465:=by
   rw[show(5465:Nat)=4+5461 from rfl,vB];exact wE _ (by decide)
  have b:=uI a 6;rw[<-Nat.pow_mul]at b;have c:(2:Nat)^32826=2^(5465*6)*2^(6*6):=by rw[<-vB]
  rw[c];exact wE _ b
 have h3:(2:Nat)^32826<2^32900:=uE (by decide) (by decide);rfl'
structure Mb(r n:Nat)(w:Int):Prop where
 r6:r<=6
 n6:n<=6
 wp:0<w
 wb:w<2^5400
theorem Mb.lt{r n:Nat}{w x:Int}(b:Mb r n w)(h0:0<=x)(h1:x<=w):x.natAbs<2^5461:=by
 have:=b.wb;have h:(2:Nat)^5400<=2^5461:=wm (by decide) (by decide);have c:((2^5400:Nat):Int)=(2:Int)^5400:=by norm_cast
 rfl'
theorem Mb.hd{r n:Nat}{w x:Int}(b:Mb r n w)(h:x∣w):x<2^5400:=by
 have:=uc b.wp h;have:=b.wb;rfl'
abbrev GC:FT:=fNot (fTru (i6 ac Q2 (b6 (fN 4) fNil)))
abbrev GF:FS:=(sSeq (sSet [] 6 (i6 ac W5 (b6 (i6 ac R3 (b6 (i6 ac W5 (b6 (fN 4) (b6 (fN 3) fNil))) fNil)) (b6 (fN 3) fNil))))
 (sSeq (sSet [] 7 (i6 ac B7 (b6 (fN 6) (b6 (fN 5) fNil))))
 (sSeq (sSet [] 4 (j6 1 [3] (iSeq (fN 7)) (Tg.one 0) fYes (fSl (fN 0) z9 (J2 (fN 1)))))
 (sSet [] 5 (j6 1 [3,2] (iSeq (fN 7)) (Tg.one 0) fYes (i6 ac V4 (b6 (fSl (fN 0) (J2 (fN 1)) z9) (b6 (fN 2) fNil))))))))
structure Mw(r n:Nat)(w:Int)(G K A W:aA):Prop where
 m:St.Mst r n w G K A W
 wb:∀x∈W,St.Lt (2^5461) x
theorem UC{r n:Nat}{w:Int}{G K A W:aA}(b:Mb r n w)(I:Mw r n w G K A W)(c0 c1 c6 c7:Cell)(f2 f3 f4 f5:Bool):
   ∃T A' W' f4' f5' c6' c7',GF [c0,c1,.sh f2 (.int w),.sh f3 (.int r),.sh f4 (LL A),.sh f5 (LL W),c6,c7]=aa (.nx [c0,c1,.sh f2 (.int w),.sh f3 (.int r),.sh f4' (LL A'),.sh f5' (LL W'),c6',c7'])/\Mw r n w G K A' W'/\St.Sq r T/\Lat.SameSpan (St.vecs T) (St.vecs (St.trn r A))/\Lat.SameSpan (St.vecs A') (St.vecs (St.trn r T)):=by
 have r6:=b.r6;have n6:=b.n6;have q:=I.m.sq;have wC:=I.m.whole;have eA:=λi k=>q.entryC wC b.wp i k;have tl:(St.trn r A).length=r:=St.D7 _ _;have tr:∀x∈St.trn r A,x.length=r:=λx hx=>by rw[St.Y3 hx,q.len]
 have B1:=q.below wC;have mem_lt:∀{P:aA}{E:Nat},(∀i k,(St.ent P i k).natAbs<E)->∀x∈P,St.Lt E x:=λ{P E}h x hx k=>by
   obtain⟨i,hi,rfl⟩:=wH hx;have:=h i k;unfold St.ent at this
   rwa [show P.getD i []=P[i] by simp[au,wa hi]]at this
 have t1:=Iv A r q.rows (by rfl');obtain⟨T,e1,G1⟩:=DB (n:=r) (e:=32900) (eh:=5400) (B:=2^5461) L (λr=>.inl rfl) (by rfl') (by decide) (by decide) (by decide) (St.trn r A) (LL (St.trn r A)) (.inl rfl) tr
   (mem_lt λi k=>by rw[St.L1 q.rows];exact b.lt (eA k i).1 (eA k i).2) (wU _) (wm (by decide) (by decide)) (λk hk=>bnd6 k (by rfl'))
   (λk S hk G x hx=>b.hd (B1.heads (by rfl') G.asc G.span hx).2) (by rfl')
 obtain⟨l1,_⟩:=G1.sq B1;have sT:St.Sq r T:=⟨G1.asc,G1.form,l1⟩;have wT:St.S4 r w T:=λi hi=>G1.span.iff.mpr (wC i hi);have eT:=λi k=>sT.entry wT b.wp i k;have t2:=Iv T r sT.rows (by rfl');have wT2:=sT.comm wT;have B2:=sT.below_pair wT2 I.m.wl I.m.wr;obtain⟨S,e2,G2⟩:=Lx (n:=r+n) (e:=32900) (eh:=5400) (B:=2^5461) (by rfl') (by decide) (by decide) (by decide) (St.trn r T) W (by rw[St.D7,I.m.wl]) B2.rows
   (λx hx k=>by
     obtain⟨i,hi,rfl⟩:=wH hx;have hi':i<r:=by rw[B2.len]at hi;exact hi
     have e:St.at0 ((St.pair (St.trn r T) W)[i]) k=St.ent (St.pair (St.trn r T) W) i k:=by unfold St.ent;simp[au,wa hi]
     rw[e,St.Dg (n:=n) (r:=r) (λx hx=>by rw[St.Y3 hx,sT.len]) (by rw[St.D7];exact hi') (by rw[I.m.wl];exact hi')];split
     .rw[St.L1 sT.rows];exact b.lt (eT k i).1 (eT k i).2
     .exact I.wb _ (St.G7 (by rw[I.m.wl];exact hi')) _)
   (wU _) (wm (by decide) (by decide)) (λk hk=>bnd6 k (by rw[St.D7]at hk;rfl'))
   (λk S hk G x hx=>b.hd (B2.heads (by rw[St.D7]at hk;rfl') G.asc G.span hx).2) (by rw[St.D7];rfl')
 obtain⟨l2,h2⟩:=G2.sq B2;have M':=I.m.step sT G1.span G2.asc G2.form l2 h2 G2.span;have hs:=St.Eh (r:=r) G2.span;rw[St.Ei (λx hx=>by rw[St.Y3 hx,sT.len]) (by rw[St.D7,I.m.wl])]at hs;have len:∀x∈S,x.length=r+n:=λx hx=>(G2.asc.mem hx).1;have k3:∀d0 d1:Cell,j6 1 [3] (iSeq (fN 7)) (Tg.one 0) fYes (fSl (fN 0) z9 (J2 (fN 1))) [d0,d1,.sh f2 (.int w),.sh f3 (.int r),.sh f4 (LL A),.sh f5 (LL W),.sh ac (LL (St.trn r T)),.sh ac (LL S)]=aa (.nw,LL (S.map (·.take r))):=λd0 d1=>by
   rw[n9 (e:=L) (h:=λx=>L (x.take r)) (xs:=S) (by simp[cOf]) (λx hx=>by simp[cOf,KE,Aj])];simp[LL]
 have k4:∀d0 d1:Cell,j6 1 [3,2] (iSeq (fN 7)) (Tg.one 0) fYes (i6 ac V4 (b6 (fSl (fN 0) (J2 (fN 1)) z9) (b6 (fN 2) fNil))) [d0,d1,.sh f2 (.int w),.sh f3 (.int r),.sh ac (LL (S.map (·.take r))),.sh f5 (LL W),.sh ac (LL (St.trn r T)),.sh ac (LL S)]=aa (.nw,LL (S.map λx=>rstR w (x.drop r))):=λd0 d1=>by
   rw[n9 (e:=L) (h:=λx=>L (rstR w (x.drop r))) (xs:=S) (by simp[cOf]) (λx hx=>by
     have:=GS (x.drop r) w b.wp;simp[cOf,CZ,M5,this])]
   simp[LL]
 refine⟨T,S.map (·.take r),S.map λx=>rstR w (x.drop r),ac,ac,.sh ac (LL (St.trn r T)),.sh ac (LL S),?_,⟨?_,?_⟩,sT,G1.span,hs⟩
 .refine run (ρ':=[c0,c1,.sh f2 (.int w),.sh f3 (.int r),.sh f4 (LL A),.sh f5 (LL W),.sh ac (LL (St.trn r T)),c7]) ?_ (run (ρ':=[c0,c1,.sh f2 (.int w),.sh f3 (.int r),.sh f4 (LL A),.sh f5 (LL W),.sh ac (LL (St.trn r T)),.sh ac (LL S)]) ?_ (run (ρ':=[c0,c1,.sh f2 (.int w),.sh f3 (.int r),.sh ac (LL (S.map (·.take r))),.sh f5 (LL W),.sh ac (LL (St.trn r T)),.sh ac (LL S)]) ?_ ?_))
  .simp[cOf,t1,e1,t2]
  .simp[cOf,e2]
  .simp[cOf,k3]
  .simp[cOf,k4]
 .refine M'.rest (W':=S.map λx=>rstR w (x.drop r)) (by rw[wj,l2]) (λx hx=>?_) (λi k=>(St.ent (S.map (·.drop r)) i k).fdiv w) λi k hi=>?_
  .obtain⟨y,hy,rfl⟩:=wg.mp hx;rw[GR,vd,len y hy];rfl'
  .have hi:i<S.length:=by rfl'
   have x1:St.ent (S.map λx=>rstR w (x.drop r)) i k=St.at0 (rstR w ((S.getD i []).drop r)) k:=by unfold St.ent;simp[au,wa hi]
   have x2:St.ent (S.map (·.drop r)) i k=St.at0 ((S.getD i []).drop r) k:=by unfold St.ent;simp[au,wa hi]
   rw[x1,x2,JR]
 .intro x hx k;obtain⟨y,hy,rfl⟩:=wg.mp hx;by_cases hk:k<(rstR w (y.drop r)).length
  .have:=UB b.wp (r:=y.drop r) (St.at0 (rstR w (y.drop r)) k) (by unfold St.at0;rw[au,wa hk];exact vA _);exact b.lt this.1 (by rfl')
  .rw[St.C9 (by rfl')];exact wU _
theorem UD{r n:Nat}{w:Int}{G K:List (List Int)}(b:Mb r n w)(c0 c1:Cell)(f2 f3:Bool):∀(d t:Nat),t+d=r→∀(a:Nat) (A W:List (List Int)) (f4 f5:Bool) (c6 c7:Cell),Mw r n w G K A W→St.Clean t A→(t<r→St.ent A t t=(a:Int)) →
  ∃k A' W' f4' f5' c6' c7',F0 GC GF k [c0,c1,.sh f2 (.int w),.sh f3 (.int r),.sh f4 (LL A),.sh f5 (LL W),c6,c7]=aa (.nx [c0,c1,.sh f2 (.int w),.sh f3 (.int r),.sh f4' (LL A'),.sh f5' (LL W'),c6',c7'])/\Mw r n w G K A' W'/\St.Clean r A':=by
 intro d
 induction d with
 |zero=>
  intro t ht a A W f4 f5 c6 c7 I c _;have hc:St.Clean r A:=by rw[<-ht];exact c
  have:=(DC A).1 ((Iw I.m.sq).mpr hc);refine⟨1,A,W,f4,f5,c6,c7,?_,I,hc⟩;have hc:GC [c0,c1,.sh f2 (.int w),.sh f3 (.int r),.sh f4 (LL A),.sh f5 (LL W),c6,c7]=aa af:=by simp[cOf,this]
  rw[F0,hc];rfl
 | succ d ihd =>
  intro t ht a
  induction a using uv with
  | ind a iha =>
   intro A W f4 f5 c6 c7 I c ha;have htr:t<r:=by rfl'
   by_cases hc:St.Clean r A
   .have:=(DC A).1 ((Iw I.m.sq).mpr hc);refine⟨1,A,W,f4,f5,c6,c7,?_,I,hc⟩;have hc:GC [c0,c1,.sh f2 (.int w),.sh f3 (.int r),.sh f4 (LL A),.sh f5 (LL W),c6,c7]=aa af:=by simp[cOf,this]
    rw[F0,hc];rfl
   .have no:∃p∈K5 0 A,¬EL p:=fA fun k=>hc ((Iw I.m.sq).mp fun p hp=>fA fun q=>k ⟨p,hp,q⟩)
    have:=(DC A).2 no;have hl:GC [c0,c1,.sh f2 (.int w),.sh f3 (.int r),.sh f4 (LL A),.sh f5 (LL W),c6,c7]=aa ac:=by simp[cOf,this]
    obtain⟨T,A',W',f4',f5',c6',c7',e,I',sT,s1,s2⟩:=UC b I c0 c1 c6 c7 f2 f3 f4 f5;obtain⟨cl,alt⟩:=St.RU I.m.sq sT I'.m.sq s1 s2 c htr
    have fin:(∃k A'' W'' f4'' f5'' c6'' c7'',F0 GC GF k [c0,c1,.sh f2 (.int w),.sh f3 (.int r),.sh f4' (LL A'),.sh f5' (LL W'),c6',c7']=aa (.nx [c0,c1,.sh f2 (.int w),.sh f3 (.int r),.sh f4'' (LL A''),.sh f5'' (LL W''),c6'',c7''])∧Mw r n w G K A'' W''∧St.Clean r A''):=by
     rcases alt with h|h
     .by_cases ht2:t+1<r
      .have p:=I'.m.sq.pos ht2;exact ihd (t+1) (by rfl') (St.ent A' (t+1) (t+1)).toNat A' W' f4' f5' c6' c7' I' h λ_=>by rfl'
      .exact ihd (t+1) (by rfl') 0 A' W' f4' f5' c6' c7' I' h λh=>aN h ht2
     .have p:=I'.m.sq.pos htr;have ha:=ha htr;exact iha (St.ent A' t t).toNat (by rfl') A' W' f4' f5' c6' c7' I' cl λ_=>by rfl'
    obtain⟨k,A2,W2,f42,f52,c62,c72,e2,I2,h2⟩:=fin;refine⟨k+1,A2,W2,f42,f52,c62,c72,?_,I2,h2⟩;rw[F0,hl,n8,ar rfl,e];exact e2
def MD(M:St.Meas):Dt:=.lst (M.map λx=>.tup [L x.1,.int x.2])
def O7(A W:aA):St.Meas:=(K5 0 W).map λp=>(p.2,St.ent A p.1 p.1)
theorem Ix:∀(j:Nat)(A:aA),(K5 j A).length=A.length
 |j,[]=>rfl
 |j,r::A=>by rw[K5,wo,wo,Ix]
theorem Iy:∀(j:Nat)(A:aA)(i:Nat),i<A.length->(K5 j A)[i]?=aa (j+i,A.getD i [])
 |j,r::A,0,_=>rfl
 |j,r::A,i+1,h=>by
  rw[K5,List.getElem?_cons_succ,Iy (j+1) A i (by simpa using h),show j+1+i=j+(i+1) by rfl'];rfl
theorem Ly(A W:aA){i:Nat}(h:i<W.length):St.mw (O7 A W) i=W.getD i []/\St.mp (O7 A W) i=St.ent A i i:=by
 unfold St.mw St.mp O7;rw[au,wy,Iy 0 W i h,uj];exact⟨rfl,rfl⟩
theorem Pz{r:aG}{k:Nat}(h:k<r.length):atI (r.map Dt.int) (k:Int)=aa (.int (St.at0 r k)):=by
 rw[Ai,M4 0 h];rfl
theorem UE{r n:Nat}{w:Int}{G K A W:aA}(b:Mb r n w)(I:Mw r n w G K A W):∃A' W',Er [LL A,LL W,.int w]=aa (MD (O7 A' W'))/\Mw r n w G K A' W'/\St.Clean r A':=by
 have al:=I.m.sq.len;obtain⟨k,A',W',f4,f5,c6,c7,e,I',hc⟩:=UD b (.sh af (LL A)) (.sh af (LL W)) af ac r 0 (by rfl') (St.ent A 0 0).toNat A W af af .no .no I (λi hi=>by rfl') λh=>by have:=I.m.sq.pos h;rfl'
 have e:=Eb e;refine⟨A',W',?_,I',hc⟩;have cm:∀d0 d1 d2 d3 d6 d7:Cell,∃f,j6 2 [4] (Ah (fN 5)) (Tg.many [0,1]) fYes (fTup (b6 (fN 1) (b6 (fAt (fAt (fN 2) (fN 0)) (fN 0)) fNil))) [d0,d1,d2,d3,.sh f4 (LL A'),.sh f5 (LL W'),d6,d7]=aa (f,MD (O7 A' W')):=λd0 d1 d2 d3 d6 d7=>by
  have key:=KB (nt:=2) (js:=[4]) (Fi:=Ah (fN 5)) (g:=Tg.many [0,1]) (Fe:=fTup (b6 (fN 1) (b6 (fAt (fAt (fN 2) (fN 0)) (fN 0)) fNil))) (ρ:=[d0,d1,d2,d3,.sh f4 (LL A'),.sh f5 (LL W'),d6,d7]) (e:=λp:Nat×aG=>.tup [.int p.1,L p.2]) (h:=λp=>(.sh,.tup [L p.2,.int (St.ent A' p.1 p.1)])) (xs:=K5 0 W') (by simp[cOf,Bw]) (λp hp=>by
   obtain⟨i,hi,rfl⟩:=Z5.mp hp;rw[I'.m.wl]at hi;rw[uj];have h1:=getD_L A' (k:=i) (by rw[I'.m.sq.len];rfl');have h2:=Pz (r:=A'.getD i []) (k:=i) (by rw[I'.m.sq.rows _ (St.G7 (by rw[I'.m.sq.len];rfl'))];rfl');have x:St.ent A' i i=St.at0 (A'.getD i []) i:=rfl;rw[x];generalize A'.getD i []=ra at h1 h2|-;generalize W'.getD i []=rb;simp[cOf,h1,h2];rfl)
  have x:MD (O7 A' W')=.lst ((K5 0 W').map λp=>.tup [L p.2,.int (St.ent A' p.1 p.1)]):=by
   unfold MD O7;rw[wS];rfl
  rw[x];exact⟨_,key⟩
 obtain⟨f,cm⟩:=cm (.sh af (LL A)) (.sh af (LL W)) (.sh af (.int w)) (.sh ac (.int r)) c6 c7;have q:Bs [.sh af (LL A),.sh af (LL W),.sh af (.int w),.no,.no,.no,.no,.no]=aa (.rt f (MD (O7 A' W'))):=by
  unfold Bs;refine run (ρ':=[.sh af (LL A),.sh af (LL W),.sh af (.int w),.sh ac (.int r),.no,.no,.no,.no]) (by simp[cOf,al]) (run (ρ':=[.sh af (LL A),.sh af (LL W),.sh af (.int w),.sh ac (.int r),.sh af (LL A),.no,.no,.no]) (by simp[cOf];rfl) (run (ρ':=[.sh af (LL A),.sh af (LL W),.sh af (.int w),.sh ac (.int r),.sh af (LL A),.sh af (LL W),.no,.no]) (by simp[cOf];rfl) (run e ?_)));unfold sRet;rw[cm];rfl
 unfold Er cOf;rw[ar (show[LL A,LL W,Dt.int w].length=3 from rfl)];show(Bs [.sh af (LL A),.sh af (LL W),.sh af (.int w),.no,.no,.no,.no,.no]).bind _=_;rw[q];rfl
theorem z0A{n:Nat}(w1 w2:aG)(a b:Int)(h1:w1.length=n)(h2:w2.length=n)(ha:0<a)(hb:0<b)(ba:a<2^5400)(bb:b<2^5400)(l1:St.Lt (2^5461) w1)(l2:St.Lt (2^5461) w2):
  ∃g x y a' b' lc,An [.tup [L w1,.int a],.tup [L w2,.int b]]=aa (.tup [.tup [L (rstR g (addR w1 w2)),.int g],.tup [L (rstR lc (addR (sclR (-y*b') w1) (sclR (x*a') w2))),.int lc]])/\St.Bz g x y a b a' b'/\lc=a'*b/\0<lc/\g∣a:=by
 have cast:((2^5400:Nat):Int)=(2:Int)^5400:=by norm_cast
 have a1:a.natAbs<2^5400:=by rfl'
 have a2:b.natAbs<2^5400:=by rfl'
 obtain⟨x,y,eb,exy,bx,bY⟩:=NJ a b 5400 (by decide) a1 a2;have g0:0<uA a b:=w07 _ (by rfl');have d1:(uA a b:Int)∣a:=w1a _ _;have d2:(uA a b:Int)∣b:=w0W _ _;generalize eg:(uA a b:Int)=g at *;have g0:0<g:=by rfl'
 have z:=St.Bz.of (f1:=x) (f2:=y) g0 d1 d2 (by rw[wN x,wN y];exact exy);have p2:2^5403=8*2^5400:=by rw[show(5403:Nat)=3+5400 from rfl,vB]
 have x1:x.natAbs<2^5403:=by rfl'
 have y1:y.natAbs<2^5403:=by rfl'
 have gle:g<=a:=uc ha d1;have g9:g<2^9000:=by
  have h9:(2:Nat)^5400<=2^9000:=wm (by decide) (by decide);have:((2^9000:Nat):Int)=(2:Int)^9000:=by norm_cast
  rfl'
 have dv1:E7 a g=ac:=Z4 g0 g9;have dv2:E7 b g=ac:=Z4 g0 g9;have f1:a.fdiv g=a/g:=w0a _ (by rfl');have f2:b.fdiv g=b/g:=w0a _ (by rfl');have k1:(a/g).natAbs<2^5400:=by rw[<-f1];have:=St.Bo a g0;rfl'
 have k2:(b/g).natAbs<2^5400:=by rw[<-f2];have:=St.Bo b g0;rfl'
 have ap:0<a/g:=Int.ediv_pos_of_pos_of_dvd ha (by rfl') d1;have lp:0<a/g*b:=w0C ap hb;refine⟨g,x,y,a/g,b/g,a/g*b,?_,z,rfl,lp,d1⟩;have m1:G5 (a/g) b=ac:=T8 k1 a2 (by decide);have m2:G5 (-y) (b/g)=ac:=T8 (by rw[uV];exact y1) k2 (by decide);have m3:G5 x (a/g)=ac:=T8 x1 k1 (by decide);have s1:(-y*(b/g)).natAbs<2^(5403+5400):=by
  rw[wW,vB,uV];exact uq y1 k2
 have s2:(x*(a/g)).natAbs<2^(5403+5400):=by
  rw[wW,vB];exact uq x1 k1
 have e1:=N5 w1 (-y*(b/g)) (Eu s1 l1 (by decide));have e2:=N5 w2 (x*(a/g)) (Eu s2 l2 (by decide));have e3:=Lm (sclR (-y*(b/g)) w1) (sclR (x*(a/g)) w2) (by rw[A4,A4,h1,h2]);have e4:=Lm w1 w2 (by rw[h1,h2]);have e5:=GS (addR w1 w2) g g0;have e6:=GS (addR (sclR (-y*(b/g)) w1) (sclR (x*(a/g)) w2)) (a/g*b) lp;have eb:Dm [.int a,.int b]=aa (.tup [.int g,.int x,.int y]):=eb;generalize addR (sclR (-y*(b/g)) w1) (sclR (x*(a/g)) w2)=u at *;generalize sclR (-y*(b/g)) w1=u1 at *;generalize sclR (x*(a/g)) w2=u2 at *;generalize addR w1 w2=u3 at *;have q:Ds [.sh af (.tup [L w1,.int a]),.sh af (.tup [L w2,.int b]),.no,.no,.no,.no,.no]=aa (.rt .nw (.tup [.tup [L (rstR g u3),.int g],.tup [L (rstR (a/g*b) u),.int (a/g*b)]])):=by
  unfold Ds;refine run (by simp[cOf,eb];rfl) ?_;refine run (by simp[cOf];rfl) ?_;refine run (by simp[cOf,dv1,f1,m1];rfl) ?_;refine run (by simp[cOf,e4];rfl) ?_;refine run (by simp[cOf,dv1,dv2,f1,f2,m2,m3,e1,e2,e3];rfl) ?_;simp[cOf,e5,e6]
 unfold An cOf;rw[ar (show[Dt.tup [L w1,.int a],.tup [L w2,.int b]].length=2 from rfl)];show(Ds [.sh af (.tup [L w1,.int a]),.sh af (.tup [L w2,.int b]),.no,.no,.no,.no,.no]).bind _=_;rw[q];rfl
theorem DD{γ:Type}{g:Tg}{F:FS}(R:γ->Rho)(P:Nat->γ->Prop):∀(n k:Nat)(j:γ),P k j->(∀i j,k<=i->i<k+n->P i j->∃j',(g.put (.int (i:Int)) (R j)).bind F=aa (.nx (R j'))/\P (i+1) j')->∃j',forF g F (P6 (k:Int) n) (R j)=aa (.nx (R j'))/\P (k+n) j'
 |0,k,j,p,_=>⟨j,rfl,p⟩
 |n+1,k,j,p,h=>by
  obtain⟨j1,h1,p1⟩:=h k j (wv _) (by rfl') p;obtain⟨j2,h2,p2⟩:=DD R P n (k+1) j1 p1 λi j hi hl=>h i j (by rfl') (by rfl');refine⟨j2,?_,by rw[show k+(n+1)=k+1+n by rfl'];exact p2⟩;rw[A3,uS,wq,F6,show Dt.int ((k:Int)+((0:Nat):Int))=.int (k:Int) by simp,h1,wS];rw[<-h2,A3];show forF g F _ (R j1)=forF g F _ (R j1);congr 1;apply w06;intro i _;show Dt.int ((k:Int)+((i+1:Nat):Int))=Dt.int (((k+1:Nat):Int)+(i:Int));congr 1;rfl'
structure Cs(n r:Nat)(w:Int)(G:aA)(K0:St.Meas)(t s:Nat)(M:St.Meas):Prop where
 ms:St.Ms n G (M++K0)
 ch:St.Chn w t s M
 len:M.length=r
 lt:∀x∈M,St.Lt (2^5461) x.1
theorem UF{p:Int}(hp:0<p)(hb:p<2^5400)(r:aG):St.Lt (2^5461) (rstR p r):=λk=>by
 have c:((2^5400:Nat):Int)=(2:Int)^5400:=by norm_cast
 have h:(2:Nat)^5400<=2^5461:=wm (by decide) (by decide);by_cases hk:k<(rstR p r).length
 .have:=UB hp (r:=r) (St.at0 (rstR p r) k) (by unfold St.at0;rw[au,wa hk];exact vA _);rfl'
 .rw[St.C9 (by rfl')];exact wU _
abbrev KF:FS:=(sSeq (Q8 4 (i6 ac An (b6 (fAt (fN 1) (fN 2)) (b6 (fAt (fN 1) (fN 3)) fNil))))
 (sSeq (sPut 1 (fN 2) (fAt (fN 4) (fC (.int 0))))
 (sPut 1 (fN 3) (fAt (fN 4) (fC (.int 1))))))
abbrev tD(x:aG×Int):Dt:=.tup [L x.1,.int x.2]
theorem z0B{n r:Nat}{w:Int}{G:aA}{K0:St.Meas}{t s:Nat}{M:St.Meas}(b:Mb r n w)(I:Cs n r w G K0 t s M)(hts:t<s)(hs:s<r)(c0 c4:Cell)(f:Bool):
   ∃M' c4' f',KF [c0,.ow f (M.map tD),.sh af (.int t),.sh af (.int s),c4]=aa (.nx [c0,.ow f' (M'.map tD),.sh af (.int t),.sh af (.int s),c4'])/\Cs n r w G K0 t (s+1) M':=by
 have lM:=I.len;have get:∀i,i<r->M[i]?=aa (St.mw M i,St.mp M i):=λi hi=>by
   unfold St.mw St.mp;rw[au,wa (show i<M.length by rfl')];rfl
 have mem:∀i,i<r->(St.mw M i,St.mp M i)∈M:=λi hi=>vJ (get i hi);have rows:∀i,i<r->(St.mw M i).length=n:=λi hi=>I.ms.rows _ (wu.mpr (.inl (mem i hi)));have bd:∀i,i<r->St.mp M i<2^5400:=λi hi=>b.hd (I.ch.whole i (by rfl'));obtain⟨g,x,y,a',b',lc,e,z,hlc,lp,gd⟩:=z0A (n:=n) (St.mw M t) (St.mw M s) (St.mp M t) (St.mp M s) (rows t (by rfl')) (rows s hs) (I.ch.pos t (by rfl')) (I.ch.pos s (by rfl')) (bd t (by rfl')) (bd s hs) (I.lt _ (mem t (by rfl'))) (I.lt _ (mem s hs));have ch':=I.ch.link (u:=rstR g (addR (St.mw M t) (St.mw M s))) (l:=rstR lc (addR (sclR (-y*b') (St.mw M t)) (sclR (x*a') (St.mw M s)))) hts (by rfl') z hlc;have lu:(rstR g (addR (St.mw M t) (St.mw M s))).length=n:=by rw[GR,W0 (by rw[rows t (by rfl'),rows s hs]),rows t (by rfl')]
 have ll:(rstR lc (addR (sclR (-y*b') (St.mw M t)) (sclR (x*a') (St.mw M s)))).length=n:=by rw[GR,W0 (by rw[A4,A4,rows t (by rfl'),rows s hs]),A4,rows t (by rfl')]
 have ms':=St.z55 (u:=rstR g (addR (St.mw M t) (St.mw M s))) (l:=rstR lc (addR (sclR (-y*b') (St.mw M t)) (sclR (x*a') (St.mw M s)))) I.ms hlc (by rfl') (by rfl') (by rfl') z lu ll
   (λk=>by rw[JR,GK (by rw[rows t (by rfl'),rows s hs])]) (λk=>by rw[JR,GK (by rw[A4,A4,rows t (by rfl'),rows s hs]),AL,AL,w01])
 have gb:g<2^5400:=by have:=uc (I.ch.pos t (by rfl')) gd;have:=bd t (by rfl');rfl'
 have lb:lc<2^5400:=b.hd (by
   have:=ch'.whole s (by simp;rfl');unfold St.mp at this;rw[St.KW (by rfl') (by rfl') (by rfl'),ar rfl]at this;exact this)
 have u2:=UF z.gp gb (addR (St.mw M t) (St.mw M s));have l2:=UF lp lb (addR (sclR (-y*b') (St.mw M t)) (sclR (x*a') (St.mw M s)));generalize rstR g (addR (St.mw M t) (St.mw M s))=u at *;generalize rstR lc (addR (sclR (-y*b') (St.mw M t)) (sclR (x*a') (St.mw M s)))=l at *;have at1:atI (M.map tD) (t:Int)=aa (tD (St.mw M t,St.mp M t)):=BR (by rw[wy,get t (by rfl')];rfl);have at2:atI (M.map tD) (s:Int)=aa (tD (St.mw M s,St.mp M s)):=BR (by rw[wy,get s hs];rfl);have mlen:(M.map tD).length=r:=by rw[wj,lM]
 have st:((M.set t (u,g)).set s (l,lc)).map tD=((M.map tD).set t (tD (u,g))).set s (tD (l,lc)):=by rw[List.map_set,List.map_set]
 generalize M.map tD=D at *;have x1:ixN D.length (t:Int)=aa t:=Cf (by rfl');have x2:ixN D.length (s:Int)=aa s:=Cf (by rfl');have e1:Q8 4 (i6 ac An (b6 (fAt (fN 1) (fN 2)) (b6 (fAt (fN 1) (fN 3)) fNil))) [c0,.ow f D,.sh af (.int t),.sh af (.int s),c4]=aa (.nx [c0,.ow f D,.sh af (.int t),.sh af (.int s),.sh ac (.tup [tD (u,g),tD (l,lc)])]):=by
   have e:An [tD (St.mw M t,St.mp M t),tD (St.mw M s,St.mp M s)]=aa (.tup [tD (u,g),tD (l,lc)]):=e;generalize tD (St.mw M t,St.mp M t)=y1 at *;generalize tD (St.mw M s,St.mp M s)=y2 at *;have sn:∀(f:Fl)(d:Dt),(nrm f d).2=d:=λ_ _=>rfl;simp[cOf,at1,at2,sn,e]
 have e2:∃f1,sPut 1 (fN 2) (fAt (fN 4) (fC (.int 0))) [c0,.ow f D,.sh af (.int t),.sh af (.int s),.sh ac (.tup [tD (u,g),tD (l,lc)])]=aa (.nx [c0,.ow f1 (D.set t (tD (u,g))),.sh af (.int t),.sh af (.int s),.sh ac (.tup [tD (u,g),tD (l,lc)])]):=by
   generalize tD (u,g)=y1;generalize tD (l,lc)=y2;have sn:∀(f:Fl)(d:Dt),(nrm f d).2=d:=λ_ _=>rfl;refine⟨f&&(nrm (if y1.flat=ac/\y2.flat=ac then Fl.nw else Fl.fr).item y1).1.isFr,?_⟩;simp[cOf,x1,sn]
 obtain⟨f1,e2⟩:=e2;have e3:∃f2,sPut 1 (fN 3) (fAt (fN 4) (fC (.int 1))) [c0,.ow f1 (D.set t (tD (u,g))),.sh af (.int t),.sh af (.int s),.sh ac (.tup [tD (u,g),tD (l,lc)])]=aa (.nx [c0,.ow f2 ((D.set t (tD (u,g))).set s (tD (l,lc))),.sh af (.int t),.sh af (.int s),.sh ac (.tup [tD (u,g),tD (l,lc)])]):=by
   have x2:ixN (D.set t (tD (u,g))).length (s:Int)=aa s:=by rw[vq];exact x2
   generalize D.set t (tD (u,g))=E at *;generalize tD (u,g)=y1;generalize tD (l,lc)=y2;have sn:∀(f:Fl)(d:Dt),(nrm f d).2=d:=λ_ _=>rfl;refine⟨f1&&(nrm (if y1.flat=ac/\y2.flat=ac then Fl.nw else Fl.fr).item y2).1.isFr,?_⟩;simp[cOf,x2,sn]
 obtain⟨f2,e3⟩:=e3;refine⟨(M.set t (u,g)).set s (l,lc),.sh ac (.tup [tD (u,g),tD (l,lc)]),f2,run e1 (run e2 (by rw[st];exact e3)),⟨ms',ch',by simp[lM],λx hx=>?_⟩⟩;rcases vN hx with hx|rfl
 .rcases vN hx with hx|rfl
  .exact I.lt x hx
  .exact u2
 .exact l2
theorem UG{n r:Nat}{w:Int}{G:aA}{K0:St.Meas}{t:Nat}{M:St.Meas}(b:Mb r n w)(I:Cs n r w G K0 t (t+1) M)(ht:t<r)(c0 c3 c4:Cell)(f:Bool):
  ∃M' c3' c4' f',forF (Tg.one 3) KF (P6 ((t+1:Nat):Int) (r-(t+1))) [c0,.ow f (M.map tD),.sh af (.int t),c3,c4]=aa (.nx [c0,.ow f' (M'.map tD),.sh af (.int t),c3',c4'])/\Cs n r w G K0 (t+1) (t+2) M':=by
 obtain⟨j,e,p⟩:=DD (g:=Tg.one 3) (F:=KF) (λj:St.Meas×Cell×Cell×Bool=>[c0,.ow j.2.2.2 (j.1.map tD),.sh af (.int t),j.2.1,j.2.2.1]) (λs j=>Cs n r w G K0 t s j.1) (r-(t+1)) (t+1) (M,c3,c4,f) I λs j h1 h2 p=>by
  obtain⟨M',c4',f',e,p'⟩:=z0B b p (by rfl') (by rfl') c0 j.2.2.1 j.2.2.2;exact⟨(M',.sh af (.int s),c4',f'),e,p'⟩
 exact⟨j.1,j.2.1,j.2.2.1,j.2.2.2,e,⟨p.ms,p.ch.next (by rw[p.len];rfl'),p.len,p.lt⟩⟩
theorem ch_own(M:St.Meas):∃f,sOwn 1 (fBlt bLst (b6 (fN 0) fNil)) [.sh af (MD M),.no,.no,.no,.no]=aa (.nx [.sh af (MD M),.ow f (M.map tD),.no,.no,.no]):=by
 cases M with
 |nil=>exact⟨ac,by simp[cOf,MD]⟩
 |cons x M=>exact⟨af,by simp[cOf,MD,newL,lfl,Dt.flat,J7]⟩
abbrev RA:FI:=o0 (fBlt bLen (b6 (fN 1) fNil))
abbrev RB:FI:=JJ (fOp u9 (fN 2) (fC (.int 1))) (fBlt bLen (b6 (fN 1) fNil))
theorem ch_ra(c0:Cell)(D:gf)(f:Bool)(h:D.length<=1000):RA [c0,.ow f D,.no,.no,.no]=aa (P6 0 D.length):=by
 have ok2:V7 (D.length:Int)=ac:=Cc (by rfl');cases f<;>simp[cOf,ok2]
theorem ch_rb(c0 d3 d4:Cell)(D:gf)(f:Bool)(t:Nat)(h:D.length<=1000)(ht:t<=1000):RB [c0,.ow f D,.sh af (.int t),d3,d4]=aa (P6 ((t+1:Nat):Int) (D.length-(t+1))):=by
 have ok1:V7 ((t:Int)+1)=ac:=by have:=Cc (n:=t+1) (by rfl');rwa [show((t+1:Nat):Int)=(t:Int)+1 by rfl']at this
 have ok2:V7 (D.length:Int)=ac:=Cc (by rfl');have rg:((D.length:Int)-((t:Int)+1)).toNat=D.length-(t+1):=by rfl'
 have h1:fOp u9 (fN 2) (fC (.int 1)) [c0,.ow f D,.sh af (.int t),d3,d4]=aa (.nw,.int ((t:Int)+1)):=by simp[cOf]
 have h2:fBlt bLen (b6 (fN 1) fNil) [c0,.ow f D,.sh af (.int t),d3,d4]=aa (.nw,.int (D.length:Int)):=by cases f<;>simp[cOf]
 rw[show((t+1:Nat):Int)=(t:Int)+1 by rfl'];unfold RB JJ;rw[h1,n8,h2,n8];have i1:intD ((Fl.nw,Dt.int ((t:Int)+1)):Dv).2=aa ((t:Int)+1):=rfl;have i2:intD ((Fl.nw,Dt.int (D.length:Int)):Dv).2=aa (D.length:Int):=rfl;rw[i1,n8,i2,n8,ok1,ok2,rg];rfl
theorem z5b{n r:Nat}{w:Int}{G:aA}{K0:St.Meas}{M:St.Meas}{t:Nat}(b:Mb r n w)(I:Cs n r w G K0 t (t+1) M)(ht:t<r)(c0 d2 d3 d4:Cell)(f:Bool):
  ∃M' c3' c4' f',(Tg.put (Tg.one 2) (.int t) [c0,.ow f (M.map tD),d2,d3,d4]).bind (Jd RB (Tg.one 3) KF)=aa (.nx [c0,.ow f' (M'.map tD),.sh af (.int t),c3',c4'])/\Cs n r w G K0 (t+1) (t+2) M':=by
 have r6:=b.r6;obtain⟨M',c3',c4',f',e,p'⟩:=UG b I ht c0 d3 d4 f;refine⟨M',c3',c4',f',?_,p'⟩;have pl:(M.map tD).length=r:=by rw[wj,I.len]
 have it:=ch_rb c0 d3 d4 (M.map tD) f t (by rfl') (by rfl');rw[pl]at it;have pt:Tg.put (Tg.one 2) (.int t) [c0,.ow f (M.map tD),d2,d3,d4]=aa [c0,.ow f (M.map tD),.sh af (.int t),d3,d4]:=rfl;rw[pt,n8,z1O,it,n8];exact e
theorem z5c{n r:Nat}{w:Int}{G:aA}{K0:St.Meas}{M:St.Meas}(b:Mb r n w)(I:Cs n r w G K0 0 1 M)(c0:Cell)(f:Bool):∃M' f' c2 c3 c4,Jd RA (Tg.one 2) (Jd RB (Tg.one 3) KF) [c0,.ow f (M.map tD),.no,.no,.no]=aa (.nx [c0,.ow f' (M'.map tD),c2,c3,c4])/\Cs n r w G K0 r (r+1) M':=by
 have r6:=b.r6;generalize hF:Jd RB (Tg.one 3) KF=F;obtain⟨j,e,p⟩:=DD (g:=Tg.one 2) (F:=F) (λj:St.Meas×Cell×Cell×Cell×Bool=>[c0,.ow j.2.2.2.2 (j.1.map tD),j.2.1,j.2.2.1,j.2.2.2.1]) (λs j=>Cs n r w G K0 s (s+1) j.1) r 0 (M,.no,.no,.no,f) I λt j h1 h2 p=>by
  obtain⟨M',c3',c4',f',e,p'⟩:=z5b b p (by rfl') c0 j.2.1 j.2.2.1 j.2.2.2.1 j.2.2.2.2;rw[hF]at e;exact⟨(M',.sh af (.int t),c3',c4',f'),e,p'⟩
 have pl:(M.map tD).length=r:=by rw[wj,I.len]
 have it:=ch_ra c0 (M.map tD) f (by rfl');rw[pl]at it;refine⟨j.1,j.2.2.2.2,j.2.1,j.2.2.1,j.2.2.2.1,?_,by rw[uj]at p;exact p⟩;rw[z1O,it,n8];exact e
theorem z5d(M1:St.Meas)(pos:∀x∈M1,0<x.2)(c0 c2 c3 c4:Cell)(f1:Bool):j6 2 [] (iSeq (fN 1)) (Tg.many [0,1]) fYes (fTup (b6 (i6 ac V4 (b6 (fN 0) (b6 (fN 1) fNil))) (b6 (fN 1) fNil))) [c0,.ow f1 (M1.map tD),c2,c3,c4]=aa (.nw,MD (M1.map λx=>(rstR x.2 x.1,x.2))):=by
 rw[n9 (e:=tD) (h:=λx=>tD (rstR x.2 x.1,x.2)) (xs:=M1) (by cases f1<;>simp[cOf]) (λx hx=>by
  have:=GS x.1 x.2 (pos x hx);simp[cOf,tD,this])]
 unfold MD;rw[wS];rfl
theorem z5e{n r:Nat}{w:Int}{G:aA}{K0 M1:St.Meas}(b:Mb r n w)(p:Cs n r w G K0 r (r+1) M1)(pos:∀x∈M1,0<x.2):Cs n r w G K0 r (r+1) (M1.map λx=>(rstR x.2 x.1,x.2)):=by
 have get:∀i,i<r->M1[i]?=aa (St.mw M1 i,St.mp M1 i):=λi hi=>by
   have hi:i<M1.length:=by rw[p.len];exact hi
   unfold St.mw St.mp;rw[au,wa hi];rfl
 have gm:∀i,i<r->St.mp (M1.map λx=>(rstR x.2 x.1,x.2)) i=St.mp M1 i/\St.mw (M1.map λx=>(rstR x.2 x.1,x.2)) i=rstR (St.mp M1 i) (St.mw M1 i):=λi hi=>by
   have e:=get i hi;unfold St.mp St.mw at e|-;rw[au,wy,e];exact⟨rfl,rfl⟩
 have lm:(M1.map λx=>(rstR x.2 x.1,x.2)).length=r:=by rw[wj,p.len]
 have pl:=p.len;refine⟨p.ms.rest (λx hx=>?_) (by rw[wB,wB,lm,pl]) (λi hi=>?_) (λi hi v=>?_),⟨λi hi=>?_,λi hi=>?_,λi j h1 h2 h3=>?_,λj h1 h2 h3=>?_⟩,lm,λx hx=>?_⟩
 .rcases wu.mp hx with hx|hx
  .obtain⟨y,hy,rfl⟩:=wg.mp hx;show(rstR y.2 y.1).length=n;rw[GR];exact p.ms.rows y (wu.mpr (.inl hy))
  .exact p.ms.rows x (wu.mpr (.inr hx))
 .by_cases h:i<r
  .rw[(St.X3 (by rfl')).1,(St.X3 (by rfl')).1,(gm i h).1]
  .unfold St.mp;rw[St.AK,St.AK,lm,pl,aw h,aw h]
 .by_cases h:i<r
  .rw[(St.X3 (by rfl')).1,(St.X3 (by rfl')).2,(St.X3 (by rfl')).2,(gm i h).2];exact St.z54 (q:=λk=>(St.at0 (St.mw M1 i) k).fdiv (St.mp M1 i)) (λk=>JR _ _ k) v
  .unfold St.mw;rw[St.AK,St.AK,lm,pl,aw h,aw h];exact⟨0,by rfl'⟩
 .rw[(gm i (by rfl')).1];exact p.ch.pos i (by rfl')
 .rw[(gm i (by rfl')).1];exact p.ch.whole i (by rfl')
 .rw[(gm i (by rfl')).1,(gm j (by rfl')).1];exact p.ch.all i j h1 h2 (by rfl')
 .rfl'
 .obtain⟨y,hy,rfl⟩:=wg.mp hx;obtain⟨i,hi,rfl⟩:=wH hy;have w1:=p.ch.whole i hi;unfold St.mp at w1;rw[au,wa hi]at w1;exact UF (pos _ hy) (b.hd w1) _
theorem UH{n r:Nat}{w:Int}{G:aA}{K0:St.Meas}{M:St.Meas}(b:Mb r n w)(I:Cs n r w G K0 0 1 M):
   ∃M',Z1 [MD M]=aa (MD M')/\Cs n r w G K0 r (r+1) M'/\∀x∈M',∀y∈x.1,0<=y/\y<x.2:=by
 obtain⟨f,own⟩:=ch_own M;obtain⟨M1,f1,c2,c3,c4,e1,p⟩:=z5c b I (.sh af (MD M)) f;have pos:∀x∈M1,0<x.2:=λx hx=>by
   obtain⟨i,hi,rfl⟩:=wH hx;have:=p.ch.pos i hi;unfold St.mp at this;rw[au,wa hi]at this;exact this
 have cm:=z5d M1 pos (.sh af (MD M)) c2 c3 c4 f1;have cr:=z5e b p pos;refine⟨M1.map λx=>(rstR x.2 x.1,x.2),?_,cr,λx hx=>?_⟩
 .generalize M1.map (λx=>(rstR x.2 x.1,x.2))=M2 at *;generalize M1.map tD=D1 at *;generalize M.map tD=D at *;have q:Bt [.sh af (MD M),.no,.no,.no,.no]=aa (.rt .nw (MD M2)):=by
   unfold Bt;refine run own (run e1 ?_);unfold sRet;rw[cm];rfl
  unfold Z1 cOf;rw[ar (show[MD M].length=1 from rfl)];show(Bt [.sh af (MD M),.no,.no,.no,.no]).bind _=_;rw[q];rfl
 .obtain⟨y,hy,rfl⟩:=wg.mp hx;exact UB (pos y hy)
theorem bnd899(k:Nat)(h:k<=8):St.bnd k (10^30)+1<=2^899:=by
 have:=St.GD (B:=10^30) h (by decide) (by decide);have e:St.bnd 8 (10^30)+1<=2^899:=by unfold St.bnd;decide
 rfl'
theorem PB(k:Nat)(h:k<=6):St.bnd k (2^900)+1<=2^5461:=by
 have h1:=St.GD (r:=k) (s:=6) (B:=2^900) h (wU _) (by decide);have h2:St.bnd 6 (2^900)<=2^5460:=by
  unfold St.bnd;have a:2*6*2^900<=2^904:=by
   rw[show(904:Nat)=4+900 from rfl,vB];exact wE _ (by decide)
  have b:=uI a 6;rw[<-Nat.pow_mul]at b;have c:(2:Nat)^5460=2^(904*6)*2^(6*6):=by rw[<-vB]
  rw[c];exact wE _ b
 have h3:(2:Nat)^5460<2^5461:=uE (by decide) (by decide);rfl'
def Y0(xs:aG):Int:=xs.foldl (λt x=>t*x) 1
theorem Lz{e:Nat}(xs:aG)(h:∀x∈xs,x.natAbs<2^e)(he:e*(xs.length+1)<=1000000):Bq [L xs]=aa (.int (Y0 xs)):=by
 have key:∀(ys:aG)(t:Int)(k:Nat)(c0 c2:Cell)(f:Bool),(∀x∈ys,x.natAbs<2^e)->t.natAbs<2^k->k+e*(ys.length+1)<=2000000->∃f' c2',forF (Tg.one 2) (sSet [] 1 (fOp D9 (fN 1) (fN 2))) (ys.map Dt.int) [c0,.sh f (.int t),c2]=aa (.nx [c0,.sh f' (.int (ys.foldl (λt x=>t*x) t)),c2']):=by
  intro ys
  induction ys with
  |nil=>intro t k c0 c2 f _ _ _;exact⟨f,c2,rfl⟩
  | cons y ys ih =>
   intro t k c0 c2 f hy ht hk;have e1:e*(ys.length+1+1)=e*(ys.length+1)+e:=w0r _ _;rw[wo,e1]at hk;have m:G5 t y=ac:=T8 ht (hy y we) (by rfl');have b:(t*y).natAbs<2^(k+e):=by rw[wW,vB];exact uq ht (hy y we)
   obtain⟨f',c2',q⟩:=ih (t*y) (k+e) c0 (.sh af (.int y)) ac (λx hx=>hy x (wc _ hx)) b (by rfl');refine⟨f',c2',?_⟩;rw[wq,F6,uL,<-q];have s:(Tg.put (Tg.one 2) (.int y) [c0,.sh f (.int t),c2]).bind (sSet [] 1 (fOp D9 (fN 1) (fN 2)))=aa (.nx [c0,.sh ac (.int (t*y)),.sh af (.int y)]):=by
    simp[cOf,m]
   rw[s];rfl
 obtain⟨f',c2',q⟩:=key xs 1 1 (.sh af (L xs)) .no ac h (by decide) (by rfl');unfold Bq Ij;have q:forF (Tg.one 2) (sSet [] 1 (fOp D9 (fN 1) (fN 2))) (xs.map Dt.int) [.sh af (L xs),.sh ac (.int 1),.no]=aa (.nx [.sh af (L xs),.sh f' (.int (Y0 xs)),c2']):=q;simp[cOf,q]
theorem z2s(A:aA)(r:Nat):Y0 ((av r).map λi=>St.ent A i i)=St.pr A r:=by
 unfold Y0
 induction r with
 |zero=>rfl
 |succ r ih=>rw[uK,vV,w0Y,ih];rfl
theorem UI(P:aA){n:Nat}(h:P.length=n):St.pair P (St.units n)=St.Db P:=by
 have e0:=Px P.length 0 P;rw[<-w0D]at e0;rw[Lw];unfold St.units;rw[<-h];exact e0
structure Mz(n r:Nat)(G:aA)(M:St.Meas):Prop where
 ms:St.Ms n G M
 len:M.length=n
 rn:r<=n
 pos:∀i,i<r->0<St.mp M i
 dvd:∀i j,i<j->j<r->St.mp M i∣St.mp M j
 zero:∀i,r<=i->i<n->St.mp M i=0
 big:∀x∈M,x.2<2^5400/\∀y∈x.1,y.natAbs<2^5461
theorem PC{n:Nat}{bills G:aA}(n6:n<=6)(es:L3 [f8 n bills]=aa (LL G))(Ga:St.Asc n 0 G)(g899:∀x∈G,St.Lt (2^899) x):∃M,M8 [f8 n bills]=aa (MD M)/\Mz n G.length G M:=by
 have gl:=St.Ce Ga (wQ _);generalize hr:G.length=r at *;have rn:r<=n:=by rfl'
 have gr:∀x∈G,x.length=n:=λx hx=>(Ga.mem hx).1;have t1:=Iv G n gr (by rfl');have pl:(St.trn n G).length=n:=St.D7 _ _;have tr:∀x∈St.trn n G,x.length=r:=λx hx=>by rw[St.Y3 hx,hr]
 have ent_lt:∀i k,(St.ent G i k).natAbs<2^899:=λi k=>by
   by_cases hi:i<G.length
   .exact g899 _ (St.G7 hi) k
   .rw[St.C5 (by rfl')];exact wU _
 have p899:(2:Nat)^899<=2^900:=wm (by decide) (by decide);have plt:∀x∈St.pair (St.trn n G) (St.units n),St.Lt (2^900) x:=λx hx k=>by
   obtain⟨i,hi,rfl⟩:=wH hx;have hi':i<n:=by rw[St.S5 (by rw[pl,St.R0]),pl]at hi;exact hi
   have e:St.at0 ((St.pair (St.trn n G) (St.units n))[i]) k=St.ent (St.pair (St.trn n G) (St.units n)) i k:=by unfold St.ent;simp[au,wa hi]
   rw[e,St.Dg (n:=n) (r:=r) tr (by rw[pl];exact hi') (by rw[St.R0];exact hi')];split
   .rw[St.L1 gr];have:=ent_lt k i;rfl'
   .rw[St.Ia hi'];have:(1:Nat)<2^900:=Nat.one_lt_two_pow (by decide);split<;>simp<;>rfl'
 obtain⟨S,e2,G2⟩:=Lx (n:=r+n) (e:=5461) (eh:=5461) (B:=2^900) (by rfl') (by decide) (wv _) (by decide) (St.trn n G) (St.units n) (by rw[pl,St.R0]) (St.NF tr (St.z0q n)) plt (wU _) (wm (by decide) (by decide)) (λk hk=>PB k (by rfl'))
   (λk S hk G0 x hx=>by
     have q:=G0.small (λr hr=>plt r (uC hr)) (wU _) x hx (St.b7 x);have l:=G0.len;have b:=PB S.length (by rw[vI]at l;rfl');have q:(St.hd x).natAbs<St.bnd S.length (2^900)+1:=q;have c2:((2^5461:Nat):Int)=(2:Int)^5461:=by norm_cast
     rfl') (by rfl')
 have sl:S.length=n:=by
   have:=G2.full (by rw[UI _ pl];exact St.KQ tr);rw[this,St.S5 (by rw[pl,St.R0]),pl]
 have s5461:∀x∈S,St.Lt (2^5461) x:=λx hx=>(G2.small plt (wU _) x hx).mono (PB _ (by rfl'));obtain⟨W,tk,eW,bl,m0,te,_⟩:=St.start Ga hr G2.asc G2.form sl G2.span;have sq:=m0.sq;have wp:0<St.pr (St.tops r S) r:=St.Uo λi hi=>sq.pos hi;have hs:=St.Eh (r:=r) G2.span;rw[St.Ei tr (by rw[pl,St.R0])]at hs;have wb:St.pr (St.tops r S) r<=2^(899*r):=St.Sb Ga hr sq (λx hx=>by
   have:=hs.iff.mpr (St.u4 hx);refine Lat.Span.trans (λv hv=>?_) this;obtain⟨y,hy,rfl⟩:=wg.mp hv;obtain⟨z,hz,rfl⟩:=wg.mp hy;exact Lat.Span.congr (λk=>by simp only[St.vec];rw[St.L7]) (St.NC (n:=r) G2.asc (St.u4 hz))) (hd_lt Ga g899)
 have b:Mb r n (St.pr (St.tops r S) r):=⟨by rfl',n6,wp,by
   have h1:(2:Nat)^(899*r)<=2^5394:=wm (by decide) (by rfl');have h2:(2:Nat)^5394<2^5400:=uE (by decide) (by decide);have c1:((2^(899*r):Nat):Int)=(2:Int)^(899*r):=by norm_cast
   have c2:((2^5400:Nat):Int)=(2:Int)^5400:=by norm_cast
   rfl'⟩
 generalize hw:St.pr (St.tops r S) r=w at *;have wl:=m0.wl;have mw0:Mw r n w G (St.bots r S) (St.tops r S) W:=⟨m0,λx hx k=>by
   rw[eW]at hx;obtain⟨y,hy,rfl⟩:=wg.mp hx;rw[St.W1];exact s5461 y (uC hy) _⟩
 obtain⟨A',W',e3,I',hc⟩:=UE b mw0;have br:∀x∈St.bots r S,x.length=n:=λx hx=>by
   unfold St.bots at hx;obtain⟨y,hy,rfl⟩:=wg.mp hx;rw[vd,(G2.asc.mem (vm.mp hy).1).1];rfl'
 have dl:(O7 A' W').length=r:=by unfold O7;rw[wj,Ix,I'.m.wl]
 have kl:((St.bots r S).map λx=>(x,(0:Int))).length=n-r:=by rw[wj,bl]
 have k0:∀j,j<n-r->((St.bots r S).map λx=>(x,(0:Int))).getD j ([],0)=((St.bots r S).getD j [],0):=λj hj=>by
   simp[au,wy,wa (show j<(St.bots r S).length by rfl')]
 have ms0:St.Ms n G (O7 A' W'++(St.bots r S).map λx=>(x,(0:Int))):=I'.m.meas hc br _ (by rw[wB,dl,kl,bl])
   (λi hi=>by
     have:=Ly A' W' (i:=i) (by rw[I'.m.wl];exact hi);rw[(St.X3 (by rfl')).1,(St.X3 (by rfl')).2];exact this)
   (λj hj=>by
     unfold St.mw St.mp;rw[St.AK,dl,aw (by rfl'),show r+j-r=j by rfl',k0 j (by rfl')];exact⟨rfl,rfl⟩)
 have cs:Cs n r w G ((St.bots r S).map λx=>(x,(0:Int))) 0 1 (O7 A' W'):=⟨ms0,St.Chn.first (λi hi=>by
     rw[(Ly A' W' (i:=i) (by rw[I'.m.wl];rfl')).2];exact I'.m.sq.pos (by rfl')) (λi hi=>by
     rw[(Ly A' W' (i:=i) (by rw[I'.m.wl];rfl')).2];exact I'.m.sq.whole_col I'.m.whole (by rfl')),dl,λx hx=>by
     unfold O7 at hx;obtain⟨q,hq,rfl⟩:=wg.mp hx;obtain⟨i,hi,rfl⟩:=Z5.mp hq;exact I'.wb _ (St.G7 hi)⟩
 obtain⟨M',e4,c',lt'⟩:=UH b cs;have e5:=GQ S r;refine⟨M'++(St.bots r S).map λx=>(x,(0:Int)),?_,⟨c'.ms,by rw[wB,c'.len,kl];rfl',rn,λi hi=>?_,λi j h1 h2=>?_,λi h1 h2=>?_,λx hx=>?_⟩⟩
 .have u1:∀d0 d2 d3 d4 d5 d6 d7:Cell,∀f1,j6 1 [1] (o0 (fN 1)) (Tg.one 0) fYes (i6 ac Q1 (b6 (fN 1) (b6 (fN 0) fNil))) [d0,.sh f1 (.int n),d2,d3,d4,d5,d6,d7]=aa (.nw,LL (St.units n)):=λd0 d2 d3 d4 d5 d6 d7 f1=>by
    rw[n9 (e:=λ(k:Nat)=>.int (0+(k:Int))) (h:=λk=>L (St.O1 n k)) (xs:=av n) (by simp[cOf,y13 n (by rfl'),A3]) (λj _=>by
     have u:=Jl n j (by rfl');simp[cOf,u])]
    simp[LL,St.units]
  have ntk:newL ((S.map L).take r)=newL ((S.take r).map L):=by rw[w0j]
  have c1:∀d0 d1 d2 d5 d6 d7:Cell,∀f3 f4,j6 1 [3] (iSeq (fSl (fN 4) z9 (J2 (fN 3)))) (Tg.one 0) fYes (fSl (fN 0) z9 (J2 (fN 1))) [d0,d1,d2,.sh f3 (.int r),.sh f4 (LL S),d5,d6,d7]=aa (.nw,LL (St.tops r S)):=λd0 d1 d2 d5 d6 d7 f3 f4=>by
    rw[te,n9 (e:=L) (h:=λx=>L (x.take r)) (xs:=S.take r) (by cases f4<;>simp[cOf,KE,newL,w0j]) (λx hx=>by simp[cOf,KE,Aj])];unfold LL;rw[wS];rfl
  have c2:∀d0 d1 d2 d5 d6 d7:Cell,∀f3 f4,j6 1 [3] (iSeq (fSl (fN 4) z9 (J2 (fN 3)))) (Tg.one 0) fYes (fSl (fN 0) (J2 (fN 1)) z9) [d0,d1,d2,.sh f3 (.int r),.sh f4 (LL S),d5,d6,d7]=aa (.nw,LL W):=λd0 d1 d2 d5 d6 d7 f3 f4=>by
    rw[eW,n9 (e:=L) (h:=λx=>L (x.drop r)) (xs:=S.take r) (by cases f4<;>simp[cOf,KE,newL,w0j]) (λx hx=>by simp[cOf,CZ,M5])];unfold LL;rw[wS];rfl
  have tl:=sq.len;have c3:∀d0 d1 d2 d3 d4 d6 d7:Cell,∀f5,j6 2 [] (Ah (fN 5)) (Tg.many [0,1]) fYes (fAt (fN 1) (fN 0)) [d0,d1,d2,d3,d4,.sh f5 (LL (St.tops r S)),d6,d7]=aa (.nw,L ((av r).map λi=>St.ent (St.tops r S) i i)):=λd0 d1 d2 d3 d4 d6 d7 f5=>by
    rw[n9 (e:=λp:Nat×aG=>.tup [.int p.1,L p.2]) (h:=λp=>.int (St.ent (St.tops r S) p.1 p.1)) (xs:=K5 0 (St.tops r S)) (by simp[cOf,Bw]) (λp hp=>by
     obtain⟨i,hi,rfl⟩:=Z5.mp hp;rw[uj];have h2:=Pz (r:=(St.tops r S).getD i []) (k:=i) (by rw[sq.rows _ (St.G7 hi)];rfl');have x:St.ent (St.tops r S) i i=St.at0 ((St.tops r S).getD i []) i:=rfl;rw[x];generalize (St.tops r S).getD i []=ra at h2|-;simp[cOf,h2])]
    have x:(K5 0 (St.tops r S)).map (λp=>Dt.int (St.ent (St.tops r S) p.1 p.1))=((av r).map λi=>St.ent (St.tops r S) i i).map Dt.int:=by
     refine List.ext_getElem? λi=>?_;rw[wy,wy,wy];by_cases hi:i<r
     .rw[Iy 0 _ i (by rfl'),w05 hi,uj];rfl
     .rw[wK (by rw[Ix];rfl'),wK (by simp;rfl')];rfl
    rw[x]
  have pe:=Lz (e:=5400) ((av r).map λi=>St.ent (St.tops r S) i i) (λx hx=>by
    obtain⟨i,hi,rfl⟩:=wg.mp hx;have hi:=wO.mp hi;have h1:=b.hd (sq.whole_col m0.whole hi);have h2:=sq.pos hi;have c2:((2^5400:Nat):Int)=(2:Int)^5400:=by norm_cast
    rfl') (by rw[wj,uz];have:=b.r6;rfl')
  rw[z2s,hw]at pe;have k1:∀d0 d1 d2 d5 d6 d7:Cell,∀f3 f4,∃fl,j6 1 [] (iSeq (i6 ac C7 (b6 (fN 4) (b6 (fN 3) fNil)))) (Tg.one 0) fYes (fTup (b6 (fN 0) (b6 (fC (.int 0)) fNil))) [d0,d1,d2,.sh f3 (.int r),.sh f4 (LL S),d5,d6,d7]=aa (fl,MD ((St.bots r S).map λx=>(x,(0:Int)))):=λd0 d1 d2 d5 d6 d7 f3 f4=>by
    have key:=KB (nt:=1) (js:=[]) (Fi:=iSeq (i6 ac C7 (b6 (fN 4) (b6 (fN 3) fNil)))) (g:=Tg.one 0) (Fe:=fTup (b6 (fN 0) (b6 (fC (.int 0)) fNil))) (ρ:=[d0,d1,d2,.sh f3 (.int r),.sh f4 (LL S),d5,d6,d7]) (e:=L) (h:=λx=>(.sh,.tup [L x,.int 0])) (xs:=St.bots r S) (by simp[cOf,e5]) (λx hx=>by simp[cOf];rfl);have x:MD ((St.bots r S).map λx=>(x,(0:Int)))=.lst ((St.bots r S).map λx=>.tup [L x,.int 0]):=by
     unfold MD;rw[wS];rfl
    rw[x];exact⟨_,key⟩
  have cat:∀fa fb,∃fl,fOp u9 (λ_=>aa (fa,MD M')) (λ_=>aa (fb,MD ((St.bots r S).map λx=>(x,(0:Int))))) []=aa (fl,MD (M'++(St.bots r S).map λx=>(x,(0:Int)))):=λfa fb=>by
    have l1:(M'.map λx=>Dt.tup [L x.1,.int x.2]).length<=6:=by rw[wj,c'.len];exact b.r6
    have l2:(((St.bots r S).map λx=>(x,(0:Int))).map λx=>Dt.tup [L x.1,.int x.2]).length<=6:=by rw[wj,kl];rfl'
    have x:MD (M'++(St.bots r S).map λx=>(x,(0:Int)))=.lst ((M'.map λx=>Dt.tup [L x.1,.int x.2])++(((St.bots r S).map λx=>(x,(0:Int))).map λx=>Dt.tup [L x.1,.int x.2])):=by unfold MD;rw[vV]
    rw[x];unfold MD;generalize M'.map (λx=>Dt.tup [L x.1,.int x.2])=D1 at *;generalize ((St.bots r S).map λx=>(x,(0:Int))).map (λx=>Dt.tup [L x.1,.int x.2])=D2 at *;have y:u9 (.lst D1) (.lst D2)=Gm (.lst D1) (.lst D2):=rfl;refine⟨lfl (D1++D2),?_⟩;show u9 (.lst D1) (.lst D2)=_;rw[y,Gm,ar (by rfl')];rfl
  have fin:∀d0 d1 d2 d5 d6:Cell,∀f3 f4 f7,∃fl,fOp u9 (i6 ac Z1 (b6 (fN 7) fNil)) (j6 1 [] (iSeq (i6 ac C7 (b6 (fN 4) (b6 (fN 3) fNil)))) (Tg.one 0) fYes (fTup (b6 (fN 0) (b6 (fC (.int 0)) fNil)))) [d0,d1,d2,.sh f3 (.int r),.sh f4 (LL S),d5,d6,.sh f7 (MD (O7 A' W'))]=aa (fl,MD (M'++(St.bots r S).map λx=>(x,(0:Int)))):=λd0 d1 d2 d5 d6 f3 f4 f7=>by
    obtain⟨fb,k1⟩:=k1 d0 d1 d2 d5 d6 (.sh f7 (MD (O7 A' W'))) f3 f4;have k2:∃fa,i6 ac Z1 (b6 (fN 7) fNil) [d0,d1,d2,.sh f3 (.int r),.sh f4 (LL S),d5,d6,.sh f7 (MD (O7 A' W'))]=aa (fa,MD M'):=by
     generalize MD (O7 A' W')=Y at *;generalize MD M'=Z at *;have sn:∀(f:Fl)(d:Dt),(nrm f d).2=d:=λ_ _=>rfl;refine⟨(nrm .nw Z).1,?_⟩;simp[cOf,sn,e4]
    obtain⟨fa,k2⟩:=k2;obtain⟨fl,q⟩:=cat fa fb;refine⟨fl,?_⟩;unfold fOp at q|-;rw[k1,k2];exact q
  obtain⟨fl,fin⟩:=fin (.sh af (f8 n bills)) (.sh ac (.int n)) (.sh ac (LL G)) (.sh ac (LL (St.tops r S))) (.sh ac (.int w)) ac ac af;have q:Ao [.sh af (f8 n bills),.no,.no,.no,.no,.no,.no,.no]=aa (.rt fl (MD (M'++(St.bots r S).map λx=>(x,(0:Int))))):=by
    unfold Ao;refine run (by simp[cOf];rfl) ?_;refine run (by simp[cOf,es];rfl) ?_;refine run (by simp[cOf,hr];rfl) ?_;refine run (ρ':=[.sh af (f8 n bills),.sh ac (.int n),.sh ac (LL G),.sh ac (.int r),.sh ac (LL S),.no,.no,.no]) (by
     have:=u1 (.sh af (f8 n bills)) (.sh ac (LL G)) (.sh ac (.int r)) .no .no .no .no ac;simp[cOf,t1,this,e2]) ?_
    refine run (ρ':=[.sh af (f8 n bills),.sh ac (.int n),.sh ac (LL G),.sh ac (.int r),.sh ac (LL S),.sh ac (LL (St.tops r S)),.no,.no]) (by
     have:=c1 (.sh af (f8 n bills)) (.sh ac (.int n)) (.sh ac (LL G)) .no .no .no ac ac;simp[cOf,this]) ?_
    refine run (ρ':=[.sh af (f8 n bills),.sh ac (.int n),.sh ac (LL G),.sh ac (.int r),.sh ac (LL S),.sh ac (LL (St.tops r S)),.sh ac (.int w),.no]) (by
     have:=c3 (.sh af (f8 n bills)) (.sh ac (.int n)) (.sh ac (LL G)) (.sh ac (.int r)) (.sh ac (LL S)) .no .no ac;generalize (av r).map (λi=>St.ent (St.tops r S) i i)=xs at *;simp[cOf,this,pe]) ?_
    refine run (ρ':=[.sh af (f8 n bills),.sh ac (.int n),.sh ac (LL G),.sh ac (.int r),.sh ac (LL S),.sh ac (LL (St.tops r S)),.sh ac (.int w),.sh af (MD (O7 A' W'))]) (by
     have:=c2 (.sh af (f8 n bills)) (.sh ac (.int n)) (.sh ac (LL G)) (.sh ac (LL (St.tops r S))) (.sh ac (.int w)) .no ac ac;have nf:∀f,nrm f (MD (O7 A' W'))=(f,MD (O7 A' W')):=λf=>rfl;generalize MD (O7 A' W')=Y at *;simp[cOf,this,e3,nf]
     try rfl) ?_
    unfold sRet;rw[fin];rfl
  unfold M8 cOf;rw[ar (show[f8 n bills].length=1 from rfl)];show(Ao [.sh af (f8 n bills),.no,.no,.no,.no,.no,.no,.no]).bind _=_;rw[q];rfl
 .rw[(St.X3 (by rw[c'.len];exact hi)).1];exact c'.ch.pos i (by rw[c'.len];exact hi)
 .rw[(St.X3 (by rw[c'.len];rfl')).1,(St.X3 (by rw[c'.len];rfl')).1];exact c'.ch.all i j (by rfl') h1 (by rw[c'.len];rfl')
 .unfold St.mp;rw[St.AK,c'.len,aw (by rfl'),k0 _ (by rfl')]
 .rcases wu.mp hx with hx|hx
  .obtain⟨i,hi,rfl⟩:=wH hx;have w1:=c'.ch.whole i hi;unfold St.mp at w1;rw[au,wa hi]at w1;have h1:=b.hd w1;refine⟨h1,λy hy=>?_⟩;have h2:=lt' _ hx y hy;have h3:(2:Nat)^5400<=2^5461:=wm (by decide) (by decide);have c2:((2^5400:Nat):Int)=(2:Int)^5400:=by norm_cast
   have h1:M'[i].2<2^5400:=h1;rfl'
  .obtain⟨z,hz,rfl⟩:=wg.mp hx;refine⟨Int.pow_pos (by decide),λy hy=>?_⟩;unfold St.bots at hz;obtain⟨u,hu,rfl⟩:=wg.mp hz;obtain⟨k,hk⟩:=Sd hy;rw[<-hk];show(St.at0 (u.drop r) k).natAbs<_;rw[St.W1];exact s5461 u (vm.mp hu).1 _
theorem z0C{n:Nat}{bills:aA}{M:St.Meas}(h:M8 [f8 n bills]=aa (MD M)):S8 [f8 n bills]=aa (MD (M.filter λx=>!decide (x.2=1))):=by
 have key:∃f,j6 2 [] (iSeq (i6 af M8 (b6 (fN 0) fNil))) (Tg.many [0,1]) (j8 (fOp opNe (fN 1) (fC (.int 1)))) (fTup (b6 (fN 0) (b6 (fN 1) fNil))) [.sh af (f8 n bills)]=aa (f,MD (M.filter λx=>!decide (x.2=1))):=by
  unfold j6;have nf:nrm .sh (MD M)=(.sh,MD M):=rfl;have it:iSeq (i6 af M8 (b6 (fN 0) fNil)) [.sh af (f8 n bills)]=aa (M.map tD):=by
   have e:seqD (MD M)=aa (M.map tD):=rfl;generalize MD M=Y at *;simp[cOf,h,nf,e]
  rw[it,n8,Cb tD (λx=>(.sh,tD x)) (λx=>!decide (x.2=1)) M (λx _=>by simp[cOf,tD,x9]) (λx _ _=>by simp[cOf,tD];rfl),n8,CW];exact⟨_,rfl⟩
 obtain⟨f,key⟩:=key;have q:Du [.sh af (f8 n bills)]=aa (.rt f (MD (M.filter λx=>!decide (x.2=1)))):=by
  unfold Du sRet;rw[key];rfl
 unfold S8 cOf;rw[ar (show[f8 n bills].length=1 from rfl)];show(Du [.sh af (f8 n bills)]).bind _=_;rw[q];rfl
def dotL(w r:aG):Int:=(av r.length).foldl (λt k=>t+St.at0 w k*St.at0 r k) 0
theorem JS(w r:aG):dotL w r=St.dt r.length w (St.vec r):=by
 unfold dotL St.dt;have key:∀(n:Nat)(f:Nat->Int)(t:Int),(av n).foldl (λt k=>t+f k) t=t+St.sm n f:=by
  intro n
  induction n with
  |zero=>intro f t;simp[St.sm]
  |succ n ih=>
   intro f t;rw[uS,uL,w1p,St.sm];have:=ih (λk=>f (k+1)) (t+f 0);rw[this];rfl'
 rw[key r.length (λk=>St.at0 w k*St.at0 r k) 0,w0X]
theorem LA{e:Nat}(w r:aG)(h:w.length=r.length)(h1:∀x∈w,x.natAbs<2^e)(h2:∀x∈r,x.natAbs<2^e)(he:e<=60000000)(hr:r.length<=1000):U8 [L w,L r]=aa (.int (dotL w r)):=by
 obtain⟨j,q⟩:=Uj (g:=Tg.one 3) (F:=sSet [] 2 (fOp u9 (fN 2) (fOp D9 (fAt (fN 0) (fN 3)) (fAt (fN 1) (fN 3))))) (R:=λi(c:Cell)=>[.sh af (L w),.sh af (L r),.sh ac (.int ((av i).foldl (λt k=>t+St.at0 w k*St.at0 r k) 0)),c]) r.length .no (λi c hi=>⟨.sh af (.int i),by
  have a1:=Pz (r:=w) (k:=i) (by rfl');have a2:=Pz (r:=r) (k:=i) hi;have m:G5 (St.at0 w i) (St.at0 r i)=ac:=T8 (St.HS (wU e) h1 i) (St.HS (wU e) h2 i) (by rfl');rw[uK,w0Y];generalize (av i).foldl (λt k=>t+St.at0 w k*St.at0 r k) 0=t;simp[cOf,a1,a2,m]⟩)
 unfold U8 Iq;have q:forF (Tg.one 3) (sSet [] 2 (fOp u9 (fN 2) (fOp D9 (fAt (fN 0) (fN 3)) (fAt (fN 1) (fN 3))))) (P6 0 r.length) [.sh af (L w),.sh af (L r),.sh ac (.int 0),.no]=aa (.nx [.sh af (L w),.sh af (L r),.sh ac (.int (dotL w r)),j]):=q;simp[cOf,y13 r.length (by rfl'),q]
def okS(d:aG)(x:aG×Int):Bool:=if x.2=0 then decide (dotL x.1 d=0) else decide ((dotL x.1 d).fmod x.2=0)
theorem PD{d:aG}{x:aG×Int}:okS d x=ac↔x.2∣dotL x.1 d:=by
 unfold okS;by_cases h:x.2=0
 .rw[ar h,h,decide_eq_true_iff];exact w0V.symm
 .rw[aw h,decide_eq_true_iff];exact⟨uN,w0o⟩
theorem z2t{n r:Nat}{G bills:aA}{M:St.Meas}{d:aG}(Z:Mz n r G M)(hs:Lat.SameSpan (St.vecs G) (St.vecs bills))(hd:d.length=n):
   ((M.filter λx=>!decide (x.2=1)).all (okS d)=ac)↔Lat.Span (St.vecs bills) (λk=>St.at0 d k):=by
 rw[<-hs.iff,Z.ms.ker _ (λk hk=>St.C9 (by rfl')),vy];constructor
 .intro h i hi;have m:(St.mw M i,St.mp M i)∈M:=by
    unfold St.mw St.mp;rw[au,wa hi];exact vA hi
  by_cases h1:St.mp M i=1
  .rw[h1];exact Int.one_dvd _
  .have:=PD.mp (h _ (vm.mpr ⟨m,by simp[h1]⟩));rw[JS,hd]at this;exact this
 .intro h x hx;obtain⟨i,hi,rfl⟩:=wH (vm.mp hx).1;have:=h i hi;unfold St.mw St.mp at this;rw[au,wa hi]at this;refine PD.mpr ?_;rw[JS,hd];exact this
theorem z2u(a:Int):Dn [.int a,.int 0]=aa (.int a):=by
 unfold Dn Pl;simp[cOf,v6]
theorem z5f(w r:aG)(h:r.length=w.length):((r.zip w).map λp=>p.1*p.2).sum=dotL w r:=by
 rw[JS];unfold St.dt
 induction r generalizing w with
 |nil=>cases w with
  |nil=>rfl
  |cons x w=>cases h
 | cons y r ih=>cases w with
  |nil=>cases h
  |cons x w=>
   rw[uu,wq,List.sum_cons,wo,St.sm,ih w (by simpa using h),wN];rfl
theorem UJ{e:Nat}(dd:Dt)(r w:aG)(hdd:RowD dd r)(h:r.length=w.length)(h1:∀x∈w,x.natAbs<2^e)(h2:∀x∈r,x.natAbs<2^e)(he:e<=60000000):El [dd,L w]=aa (.int (dotL w r)):=by
 have q:j6 2 [] (iZip (fN 0) (fN 1)) (Tg.many [0,1]) fYes (fOp D9 (fN 0) (fN 1)) [.sh af dd,.sh af (L w)]=aa (.nw,.lst ((r.zip w).map λp=>.int (p.1*p.2))):=by
  rw[n9 (e:=λp:Int×Int=>.tup [.int p.1,.int p.2]) (h:=λp=>.int (p.1*p.2)) (xs:=r.zip w) (by rcases hdd with rfl|rfl<;>simp[cOf,h,Bn]) (λp hp=>by
   have m:G5 p.1 p.2=ac:=T8 (h2 _ (vU hp).1) (h1 _ (vU hp).2) (by rfl');simp[cOf,m])]
 have e2:BX ((r.zip w).map λp=>Dt.int (p.1*p.2))=aa ((r.zip w).map λp=>p.1*p.2):=by
  have:=Jg ((r.zip w).map λp=>p.1*p.2);rw[wS]at this;exact this
 have s:=z5f w r h;unfold El Ic;generalize (r.zip w).map (λp=>Dt.int (p.1*p.2))=D at *;generalize (r.zip w).map (λp=>p.1*p.2)=D2 at *;rcases hdd with rfl|rfl<;>simp[cOf,q,bSum,e2,s]
def mdS(d:aG)(x:aG×Int):aG×Int:=(x.1,if x.2=0 then((dotL x.1 d).natAbs:Int)+1 else x.2)
theorem z5g{e:Nat}{dd:Dt}{d:aG}{x:aG×Int}(hdd:RowD dd d)(h:d.length=x.1.length)(h1:∀y∈x.1,y.natAbs<2^e)(h2:∀y∈d,y.natAbs<2^e)(he:e<=60000000)(hp:0<=x.2):
   Dw [dd,tD x]=aa (.int (if x.2=0 then dotL x.1 d else(dotL x.1 d).fmod x.2)):=by
 obtain⟨w,p⟩:=x;have e1:=UJ dd d w hdd h h1 h2 he;have sn:∀(f:Fl)(d:Dt),(nrm f d).2=d:=λ_ _=>rfl;clear hdd;unfold Dw Uq tD;by_cases hp0:p=0
 .subst hp0;have:=z2u (dotL w d);simp[cOf,sn,e1,this]
 .have:=YT (dotL w d) p (by dsimp only at hp;rfl');simp[cOf,sn,e1,this,hp0]
theorem Sn(d:aG)(x:aG×Int):K4 [tD x,.int (if x.2=0 then dotL x.1 d else(dotL x.1 d).fmod x.2)]=aa (tD (mdS d x)):=by
 obtain⟨w,p⟩:=x;unfold K4 U6 tD mdS;by_cases hp0:p=0
 .subst hp0;simp[cOf,v6,bAbs];split<;>rfl'
 .simp[cOf,v6,hp0]
abbrev DF:FS:=(sSeq (sSet [] 5 (i6 ac Dw (b6 (fN 3) (b6 (fN 4) fNil))))
 (sIf (j8 (fOp opNe (fN 5) (fC (.int 0)))) (sRet (i6 af K4 (b6 (fN 4) (b6 (fN 5) fNil)))) o7))
theorem So{d:aG}(c0 c1 c2:Cell):∀(Q:St.Meas)(c4 c5:Cell),(∀x∈Q,Dw [L d,tD x]=aa (.int (if x.2=0 then dotL x.1 d else(dotL x.1 d).fmod x.2))) ->
  (Q.all (okS d)=ac/\∃c4' c5',forF (Tg.one 4) DF (Q.map tD) [c0,c1,c2,.sh ac (L d),c4,c5]=aa (.nx [c0,c1,c2,.sh ac (L d),c4',c5'])) \/
  (Q.all (okS d)=af/\∃x∈Q,¬okS d x=ac/\∃f,forF (Tg.one 4) DF (Q.map tD) [c0,c1,c2,.sh ac (L d),c4,c5]=aa (.rt f (tD (mdS d x))))
 |[],c4,c5,_=>.inl ⟨rfl,c4,c5,rfl⟩
 |x::Q,c4,c5,h=>by
  have e1:=h x we;have e2:=Sn d x;have hok:okS d x=decide ((if x.2=0 then dotL x.1 d else(dotL x.1 d).fmod x.2)=0):=by unfold okS;split<;>rfl
  rw[wq,F6,w0I];have sn:∀(f:Fl)(d:Dt),(nrm f d).2=d:=λ_ _=>rfl;generalize (if x.2=0 then dotL x.1 d else(dotL x.1 d).fmod x.2)=v at *;by_cases hv:v=0
  .have ok:okS d x=ac:=by rw[hok,aM hv]
   have st:(Tg.put (Tg.one 4) (tD x) [c0,c1,c2,.sh ac (L d),c4,c5]).bind DF=aa (.nx [c0,c1,c2,.sh ac (L d),.sh af (tD x),.sh ac (.int v)]):=by
     generalize tD x=X at *;simp[cOf,sn,e1,x9,hv]
   rw[st,ok,w0H];rcases So c0 c1 c2 Q (.sh af (tD x)) (.sh ac (.int v)) (λy hy=>h y (wc _ hy)) with⟨a,c4',c5',q⟩|⟨a,y,hy,ny,f,q⟩
   .exact .inl ⟨a,c4',c5',q⟩
   .exact .inr ⟨a,y,wc _ hy,ny,f,q⟩
  .have no:okS d x=af:=by rw[hok,aU hv]
   have st:∃f,(Tg.put (Tg.one 4) (tD x) [c0,c1,c2,.sh ac (L d),c4,c5]).bind DF=aa (.rt f (tD (mdS d x))):=by
     generalize tD (mdS d x)=Y at *;generalize tD x=X at *;refine⟨(nrm .sh Y).1,?_⟩;simp[cOf,sn,e1,e2,x9,hv]
   obtain⟨f,st⟩:=st;rw[st,no];exact .inr ⟨rfl,x,we,by rw[no];exact wL,f,rfl⟩
theorem PH{n:Nat}{bills:aA}{Q:St.Meas}{one other:aG}(ec:S8 [f8 n bills]=aa (MD Q))(h1:one.length=n)(h2:other.length=n)(ht:∀x∈Q,Dw [L (subR other one),tD x]=aa (.int (if x.2=0 then dotL x.1 (subR other one) else(dotL x.1 (subR other one)).fmod x.2))):
   (Q.all (okS (subR other one))=ac/\Ap [f8 n bills,L one,L other]=aa .non)\/(Q.all (okS (subR other one))=af/\∃x∈Q,¬okS (subR other one) x=ac/\Ap [f8 n bills,L one,L other]=aa (tD (mdS (subR other one) x))):=by
 have ap:=Sf n bills one other h1 h2;generalize subR other one=d at *;have e0:sSet [] 3 (i6 ac Eo (b6 (fN 0) (b6 (fN 1) (b6 (fN 2) fNil)))) [.sh af (f8 n bills),.sh af (L one),.sh af (L other),.no,.no,.no]=aa (.nx [.sh af (f8 n bills),.sh af (L one),.sh af (L other),.sh ac (L d),.no,.no]):=by simp[cOf,ap]
 have it:iSeq (i6 af S8 (b6 (fN 0) fNil)) [.sh af (f8 n bills),.sh af (L one),.sh af (L other),.sh ac (L d),.no,.no]=aa (Q.map tD):=by
   have nf:nrm .sh (MD Q)=(.sh,MD Q):=rfl;have e:seqD (MD Q)=aa (Q.map tD):=rfl;generalize MD Q=Y at *;simp[cOf,ec,nf,e]
 have fin:∀o,forF (Tg.one 4) DF (Q.map tD) [.sh af (f8 n bills),.sh af (L one),.sh af (L other),.sh ac (L d),.no,.no]=aa o->sFor [] (iSeq (i6 af S8 (b6 (fN 0) fNil))) (Tg.one 4) DF [.sh af (f8 n bills),.sh af (L one),.sh af (L other),.sh ac (L d),.no,.no]=aa o:=λo h=>by
   show(iSeq (i6 af S8 (b6 (fN 0) fNil)) [.sh af (f8 n bills),.sh af (L one),.sh af (L other),.sh ac (L d),.no,.no]).bind _=_;rw[it];exact h
 have out:∀f v,Bu [.sh af (f8 n bills),.sh af (L one),.sh af (L other),.no,.no,.no]=aa (.rt f v)->Ap [f8 n bills,L one,L other]=aa v:=λf v q=>by
   unfold Ap cOf;rw[ar (show[f8 n bills,L one,L other].length=3 from rfl)];show(Bu [.sh af (f8 n bills),.sh af (L one),.sh af (L other),.no,.no,.no]).bind _=_;rw[q];rfl
 rcases So (.sh af (f8 n bills)) (.sh af (L one)) (.sh af (L other)) Q .no .no ht with⟨a,c4,c5,q⟩|⟨a,x,hx,nx,f,q⟩
 .refine .inl ⟨a,out .nw .non ?_⟩;unfold Bu;refine run e0 (run (fin _ q) ?_);simp[cOf]
 .refine .inr ⟨a,x,hx,nx,out f _ ?_⟩;unfold Bu;refine run e0 ?_;show(sFor [] (iSeq (i6 af S8 (b6 (fN 0) fNil))) (Tg.one 4) DF [.sh af (f8 n bills),.sh af (L one),.sh af (L other),.sh ac (L d),.no,.no]).bind (seqO _)=_;rw[fin _ q];rfl
theorem PJ{n:Nat}{bills:aA}{one other d w:aG}{m:Int}(n6:n<=6)(wd:Wide n bills)(lt:∀r∈bills,∀x∈r,x.natAbs<2^900)(h1:one.length=n)(h2:other.length=n)(hd:addR other (sclR (-1) one)=d)(hw:w.length=n)(hm:2<=m)(b1:∀x∈w,x.natAbs<2^5461)(b2:∀x∈d,x.natAbs<2^5461)
  (ev:∀b∈bills,(dotL w b).fmod m=0) (od:¬(dotL w d).fmod m=0):Au [LL bills,L one,L other,tD (w,m)]=aa (.bl ac):=by
 have p1:=NM other one (-1) (by rfl') (by rfl') (λx _=>Y1 (by decide));have hdl:d.length=n:=by rw[<-hd,W0 (by rw[A4];rfl')];exact h2
 rw[hd]at p1;have hv:=LA (e:=5461) w d (by rw[hw,hdl]) b1 b2 (by decide) (by rfl');have ir:=Jk w n;rw[hw,aM rfl]at ir;have iw:N4 [.int m]=aa (.bl ac):=by unfold N4 Es;simp[cOf]
 obtain⟨j,q⟩:=Bm (g:=Tg.one 4) (F:=(sIf (j8 (fOp opNe (fOp B3 (i6 ac U8 (b6 (fAt (fN 3) (fC (.int 0))) (b6 (fN 4) fNil))) (fAt (fN 3) (fC (.int 1)))) (fC (.int 0)))) (sRet (fC (.bl af))) o7)) (e:=L) (R:=λ(_:Unit)(c:Cell)=>[.sh af (LL bills),.sh af (L one),.sh af (L other),.sh af (tD (w,m)),c]) (step:=λ_ _=>()) bills () .no
  (fun _ b c hb=>⟨.sh false (L b),by
   have e:=LA (e:=5461) w b (by rw[hw,wd b hb]) b1 (λx hx=>ww (lt b hb x hx) (wm (by decide) (by decide))) (by decide) (by rw[wd b hb];rfl');have z:=ev b hb;unfold tD;simp[cOf,e,C6 (show 0<m by rfl'),z,x9]⟩)
 unfold Au Fm;have q:forF (Tg.one 4) (sIf (j8 (fOp opNe (fOp B3 (i6 ac U8 (b6 (fAt (fN 3) (fC (.int 0))) (b6 (fN 4) fNil))) (fAt (fN 3) (fC (.int 1)))) (fC (.int 0)))) (sRet (fC (.bl af))) o7) (bills.map L) [.sh af (LL bills),.sh af (L one),.sh af (L other),.sh af (.tup [L w,.int m]),.no]=aa (.nx [.sh af (LL bills),.sh af (L one),.sh af (L other),.sh af (.tup [L w,.int m]),j]):=q;unfold tD;simp[cOf,h1,ir,iw,show ¬m<2 by rfl',q,p1,hv,C6 (show 0<m by rfl'),x9,od]
theorem z2v{n:Nat}{S:aA}{M:St.Meas}(Z:Mz n S.length S M):∀x∈M,0<=x.2:=λx hx=>by
 obtain⟨i,hi,rfl⟩:=wH hx;have e:M[i].2=St.mp M i:=by unfold St.mp;rw[au,wa hi];rfl
 rw[e];by_cases q:i<S.length
 .have:=Z.pos i q;rfl'
 .rw[Z.zero i (by rfl') (by rw[<-Z.len];exact hi)];rfl'
theorem z5h{n:Nat}{bills S:aA}{M:St.Meas}(wd:∀b∈bills,b.length=n)(hs:Lat.SameSpan (St.vecs S) (St.vecs bills))(Z:Mz n S.length S M):∀x∈M,∀bl∈bills,x.2∣dotL x.1 bl:=λx hx bl hb=>by
 obtain⟨i,hi,rfl⟩:=wH hx;have sp:Lat.Span (St.vecs S) (λk=>St.at0 bl k):=hs.iff.mpr (St.u4 hb);have:=(Z.ms.ker _ (λk hk=>St.C9 (by rw[wd bl hb];exact hk))).mp sp i hi;unfold St.mw St.mp at this;rw[au,wa hi]at this;rw[JS,wd bl hb];exact this
theorem z2w{n:Nat}{one other:aG}(l1:one.length=n)(l2:other.length=n):addR other (sclR (-1) one)=subR other one:=St.ext0 (by rw[W0 (by rw[A4];rfl'),Gx (by rfl')]) λk=>by rw[GK (by rw[A4];rfl'),AL,Bp (by rfl')];rfl'
theorem z5i{n:Nat}{bills S:aA}{M:St.Meas}{one other:aG}(n6:n<=6)(wd:Wide n bills)(lt:∀r∈bills,∀x∈r,x.natAbs<2^900)(span:Lat.SameSpan (St.vecs S) (St.vecs bills))(em:M8 [f8 n bills]=aa (MD M))(Z:Mz n S.length S M)(l1:one.length=n)(l2:other.length=n)(sb:St.Lt (2^5461) (subR other one))(sp:¬Lat.Span (St.vecs bills) (λk=>St.at0 other k-St.at0 one k)):
   ∃Y,Ap [f8 n bills,L one,L other]=aa Y/\Au [LL bills,L one,L other,Y]=aa (.bl ac)/\EI Y .non=aa (.nw,.bl af)/\∀f,nrm f Y=(f,Y):=by
 have ec:=z0C em;have hsl:(subR other one).length=n:=by rw[Gx (by rfl')];exact l2
 have ae:=z2t Z span hsl;have hsp:(λk=>St.at0 (subR other one) k)=λk=>St.at0 other k-St.at0 one k:=funext λk=>Bp (by rfl') k;rw[hsp]at ae;have hrow:∀x∈M.filter (λx=>!decide (x.2=1)),x∈M/\x.2≠1:=λx hx=>by
   obtain⟨hm,h1⟩:=vm.mp hx;exact⟨hm,by simpa using h1⟩
 have sbt:=z2f sb;have ht:∀x∈M.filter (λx=>!decide (x.2=1)),Dw [L (subR other one),tD x]=aa (.int (if x.2=0 then dotL x.1 (subR other one) else(dotL x.1 (subR other one)).fmod x.2)):=λx hx=>
   z5g (e:=5461) (.inl rfl) (by rw[Z.ms.rows x (hrow x hx).1,hsl]) (Z.big x (hrow x hx).1).2 sbt (by decide) (z2v Z x (hrow x hx).1)
 rcases PH ec l1 l2 ht with⟨a,_⟩|⟨a,x,hx,nx,dn⟩
 .exact aN (ae.mp a) sp
 .have hm:=(hrow x hx).1;have h1:=(hrow x hx).2;have h0:=z2v Z x hm;have hno:¬x.2∣dotL x.1 (subR other one):=λq=>nx (PD.mpr q);refine⟨_,dn,?_,rfl,λf=>rfl⟩;unfold mdS;refine PJ n6 wd lt l1 l2 (z2w l1 l2) (Z.ms.rows x hm) ?_ (Z.big x hm).2 sbt (λbl hbl=>?_) ?_
  .split
   .rename_i h0;rw[h0]at hno;have:dotL x.1 (subR other one)≠0:=λq=>hno (by rw[q];exact w0U 0);rfl'
   .rfl'
  .have:=z5h wd span Z x hm bl hbl;split
   .rename_i h0;rw[h0]at this;rw[w0V.mp this];simp
   .exact w0o this
  .split
   .rename_i h0;rw[h0]at hno;intro q;have q:=uN q;have nz:dotL x.1 (subR other one)≠0:=λq=>hno (by rw[q];exact w0U 0);have:=Int.natAbs_dvd_natAbs.mpr q;have:=Nat.le_of_dvd (by rfl') this;rfl'
   .exact λq=>hno (uN q)
theorem Sr(ns:aG)(m a:Int)(k n:Nat)(ρ:List Cell)(j:Nat)(f3:Bool)(h0:0<=m)(h3:m<3)(hk:k<=100)(hn:n<=100)(ha:0<=a)
    (hρ:∃f1 f2 f4 f5 r,ρ=[.sh af (.scr ns),.sh f1 (.int m),.sh f2 (.int k),.sh f4 (.int (if j=3 then(n:Int) else r)),.sh f5 (.int (if j=4 then(n:Int) else r))]++ρ.drop 5) (hj:j=3\/j=4) :
    (j6 1 [0,2,1] (o0 (fN j)) (Tg.one 0) fYes (i6 ac P3 (b6 (fN 1) (b6 (fOp u9 (fC (.int a)) (fOp D9 (fN 2) (fN 0))) (b6 (fN 2) (b6 (fN 3) fNil)))))) ρ =
      aa (.nw,LL ((av n).map λ(j:Nat)=>K1 ns (a+(k:Int)*(j:Int)) k m)):=by
  obtain⟨f1,f2,f4,f5,r,hρ⟩:=hρ;rw[hρ];generalize ρ.drop 5=ρ';have:=n9 (nt:=1) (js:=[0,2,1]) (Fi:=o0 (fN j)) (g:=Tg.one 0) (Fe:=i6 ac P3 (b6 (fN 1) (b6 (fOp u9 (fC (.int a)) (fOp D9 (fN 2) (fN 0))) (b6 (fN 2) (b6 (fN 3) fNil))))) (ρ:=[.sh af (.scr ns),.sh f1 (.int m),.sh f2 (.int k),.sh f4 (.int (if j=3 then(n:Int) else r)),.sh f5 (.int (if j=4 then(n:Int) else r))]++ρ') (e:=λ(j:Nat)=>.int (0+(j:Int))) (h:=λ(j:Nat)=>L (K1 ns (a+(k:Int)*(j:Int)) k m)) (xs:=av n)
    (by rcases hj with rfl|rfl<;>simp[cOf,o0,intD,V7,A3,show(n:Int)<=1000000 by rfl',show -1000000<=(n:Int) by rfl'])
    (λj hj=>by
      have hj:=wO.mp hj
      have hm:G5 (k:Int) (j:Int)=true:=Jf (by                       have:(j:Int).natAbs=j:=by omega
                                                                    rfl')
      have hp:(0:Int)<=a+(k:Int)*(j:Int):=by have:=w0x (show(0:Int)<=k by rfl') (show(0:Int)<=j by rfl');rfl'
      have e:=Ll ns (a+(k:Int)*(j:Int)) k m hp (by rfl') h0 h3;simp[cOf,Tg.put,sigD,Jb,hm,e])
  rw[this];simp[LL]
def Two(n:Nat)(O T:aA):Prop:=(n<=2/\O.length<=2/\T.length<=2)\/((∀r∈O,St.Lt 31 r)/\(∀r∈T,St.Lt 31 r)/\((O.length<=3/\T.length<=3)\/(n<=3/\5<=O.length/\5<=T.length)))
theorem z2x(ns:aG)(a:Int)(k:Nat)(m:Int)(h0:0<=m)(h:m<2):St.Lt 31 (K1 ns a k m):=λi=>by
 by_cases hi:i<k
 .have e:St.at0 (K1 ns a k m) i=CY (u5 ns (a+(i:Int))) m:=by unfold K1 St.at0;simp[au,hi]
  rw[e];rcases(show m=0\/m=1 by rfl')with h|h
  .have:=RI (u5 ns (a+(i:Int))) m h;rfl'
  .have:=z0j (u5 ns (a+(i:Int))) m h;rfl'
 .rw[St.C9 (by rw[Ed];rfl')];decide
theorem Ss(ns:aG)(a m:Int)(k n:Nat)(h1:1<=k)(h6:k<=6)(hn:n<=8):Hall k ((av n).map λ(j:Nat)=>K1 ns (a+(k:Int)*(j:Int)) k m):=
 ⟨h1,h6,by simp;omega,fun r hr=>by
  obtain⟨j,_,rfl⟩:=wg.mp hr;exact Ed _ _ _ _,λr hr=>by
  obtain⟨j,_,rfl⟩:=wg.mp hr;exact RL _ _ _ _⟩
theorem z2y(ns:List Int):∃(n:Nat) (O T:List (List Int)),Pt [.scr ns]=some (.tup [.int n,LL O,LL T])∧Hall n O∧Hall n T∧Two n O T:=by
 have c0:=D3 ns 0 (by decide);have c1:=D3 ns 1 (by decide);have c2:=D3 ns 2 (by decide);have c3:=D3 ns 3 (by decide);have c4:=D3 ns 4 (by decide);have c7:=D3 ns 7 (by decide);have r0:=M3 (u5 ns 0) (show(0:Int)<3 by decide);have r1:=M3 (u5 ns 1) (show(0:Int)<4 by decide);have r2:=M3 (u5 ns 2) (show(0:Int)<5 by decide);have r3:=M3 (u5 ns 3) (show(0:Int)<4 by decide);have mo:∀(c:Int)(k:Nat),N9 c ((k+1:Nat):Int)=ac:=λc k=>by unfold N9;exact aM (by rfl')
 have mo2:=λc=>mo c 1;have mo3:=λc=>mo c 2;have mo4:=λc=>mo c 3;have mo5:=λc=>mo c 4;have mo7:=λc=>mo c 6;simp only[Nat.reduceAdd,Int.cast_ofNat_Int]at mo2 mo3 mo4 mo5 mo7;have lk:∃m0:Int,atI [Dt.int 0,Dt.int 0,Dt.int 0,Dt.int 1,Dt.int 2] ((u5 ns 2).fmod 5)=aa (.int m0)/\0<=m0/\m0<3:=by
  have hr2:(u5 ns 2).fmod 5=0\/(u5 ns 2).fmod 5=1\/(u5 ns 2).fmod 5=2\/(u5 ns 2).fmod 5=3\/(u5 ns 2).fmod 5=4:=by omega +splitDisjunctions
  rcases hr2 with h2|h2|h2|h2|h2<;>rw[h2]
  .exact⟨0,rfl,by decide⟩
  .exact⟨0,rfl,by decide⟩
  .exact⟨0,rfl,by decide⟩
  .exact⟨1,rfl,by decide⟩
  .exact⟨2,rfl,by decide⟩
 obtain⟨m0,lk,l0,l3⟩:=lk;have fin:∀(m k n u:Int)(f1 f2 f3 f4:Bool),0<=m->m<3->1<=k->k<=6->0<=n->n<=8->0<=u->u<=8->(k<=2/\n<=2/\u<=2)\/(m<2/\((n<=3/\u<=3)\/(k<=3/\5<=n/\5<=u)))->∃(n':Nat)(O T:aA),(sSeq (sSet [] 5 (j6 1 [0,2,1] (o0 (fN 3)) (Tg.one 0) fYes (i6 ac P3 (b6 (fN 1) (b6 (fOp u9 (fC (.int 8)) (fOp D9 (fN 2) (fN 0))) (b6 (fN 2) (b6 (fN 3) fNil)))))))
 (sSeq (sSet [] 6 (j6 1 [0,2,1] (o0 (fN 4)) (Tg.one 0) fYes (i6 ac P3 (b6 (fN 1) (b6 (fOp u9 (fC (.int 27)) (fOp D9 (fN 2) (fN 0))) (b6 (fN 2) (b6 (fN 3) fNil)))))))
 (sRet (fTup (b6 (fN 2) (b6 (fN 5) (b6 (fN 6) fNil))))))) [.sh false (.scr ns),.sh f1 (.int m),.sh f2 (.int k),.sh f3 (.int n),.sh f4 (.int u),.no,.no]=some (.rt .fr (.tup [.int n',LL O,LL T]))∧Hall n' O∧Hall n' T∧Two n' O T:=by
  intro m k n u f1 f2 f3 f4 a1 a2 a3 a4 a5 a6 a7 a8 a9;obtain⟨k,rfl⟩:=ur (show 0<=k by rfl');obtain⟨n,rfl⟩:=ur a5;obtain⟨u,rfl⟩:=ur a7;refine⟨k,_,_,?_,Ss ns 8 m k n (by rfl') (by rfl') (by rfl'),Ss ns 27 m k u (by rfl') (by rfl') (by rfl'),?_⟩
  rotate_left
  .unfold Two;simp only[wj,uz];rcases a9 with h|⟨h,g⟩
   .exact .inl (by rfl')
   .refine .inr ⟨λr hr=>?_,λr hr=>?_,by rfl'⟩
    .obtain⟨j,_,rfl⟩:=wg.mp hr;exact z2x _ _ _ _ a1 h
    .obtain⟨j,_,rfl⟩:=wg.mp hr;exact z2x _ _ _ _ a1 h
  have e1:=Sr ns m 8 k n [.sh af (.scr ns),.sh f1 (.int m),.sh f2 (.int k),.sh f3 (.int n),.sh f4 (.int u),.no,.no] 3 ac a1 a2 (by rfl') (by rfl') (by decide) ⟨f1,f2,f3,f4,u,rfl⟩ (.inl rfl);generalize hO:(av n).map (λ(j:Nat)=>K1 ns (8+(k:Int)*(j:Int)) k m)=O at *;refine run (by simp[cOf,e1];rfl) ?_;have e2:=Sr ns m 27 k u [.sh af (.scr ns),.sh f1 (.int m),.sh f2 (.int k),.sh f3 (.int n),.sh f4 (.int u),.sh ac (LL O),.no] 4 ac a1 a2 (by rfl') (by rfl') (by decide) ⟨f1,f2,f3,f4,n,rfl⟩ (.inr rfl);generalize hT:(av u).map (λ(j:Nat)=>K1 ns (27+(k:Int)*(j:Int)) k m)=T at *;refine run (by simp[cOf,e2];rfl) ?_;simp[cOf,LL]
 have key:∃(n':Nat) (O T:List (List Int)),JQ [.sh false (.scr ns),.no,.no,.no,.no,.no,.no]=some (.rt .fr (.tup [.int n',LL O,LL T]))∧Hall n' O∧Hall n' T∧Two n' O T:=by
  have r02:=M3 (1+(u5 ns 0).fmod 3) (show(0:Int)<2 by decide);have r13:=M3 ((u5 ns 1).fmod 4) (show(0:Int)<3 by decide);have r33:=M3 ((u5 ns 3).fmod 4) (show(0:Int)<3 by decide);have st:∀(F:FS)(ρ ρ':List Cell)(G:FS)(P:Nat->aA->aA->Prop),F ρ=aa (.nx ρ')->(∃(n':Nat)(O T:aA),G ρ'=aa (.rt .fr (.tup [.int n',LL O,LL T]))/\P n' O T)->∃(n':Nat)(O T:aA),sSeq F G ρ=aa (.rt .fr (.tup [.int n',LL O,LL T]))/\P n' O T:=by
    rintro F ρ ρ' G P h ⟨n',O,T,e,p⟩;exact⟨n',O,T,run h e,p⟩
  unfold JQ;refine st _ _ [.sh af (.scr ns),.sh ac (.int m0),.no,.no,.no,.no,.no] _ _ (by simp[cOf,c2,lk,mo5]) ?_;refine st _ _ [.sh af (.scr ns),.sh ac (.int m0),.sh ac (.int (1+(u5 ns 0).fmod 3)),.no,.no,.no,.no] _ _ (by simp[cOf,c0,mo3]) ?_;refine st _ _ [.sh af (.scr ns),.sh ac (.int m0),.sh ac (.int (1+(u5 ns 0).fmod 3)),.sh ac (.int ((u5 ns 1).fmod 4)),.no,.no,.no] _ _ (by simp[cOf,c1,mo4]) ?_;refine st _ _ [.sh af (.scr ns),.sh ac (.int m0),.sh ac (.int (1+(u5 ns 0).fmod 3)),.sh ac (.int ((u5 ns 1).fmod 4)),.sh ac (.int ((u5 ns 3).fmod 4)),.no,.no] _ _ (by simp[cOf,c3,mo4]) ?_;by_cases h4:(u5 ns 4).fmod 7=6
  .refine st _ _ [.sh af (.scr ns),.sh ac (.int 0),.sh ac (.int 6),.sh ac (.int ((u5 ns 1).fmod 4)),.sh ac (.int ((u5 ns 3).fmod 4)),.no,.no] _ _ (by simp[cOf,c4,h4,v6,mo7]) ?_;refine st _ _ [.sh af (.scr ns),.sh ac (.int 0),.sh ac (.int 6),.sh ac (.int ((u5 ns 1).fmod 4)),.sh ac (.int ((u5 ns 3).fmod 4)),.no,.no] _ _ (by simp[cOf]) ?_;refine st _ _ [.sh af (.scr ns),.sh ac (.int 0),.sh ac (.int 6),.sh ac (.int ((u5 ns 1).fmod 4)),.sh ac (.int ((u5 ns 3).fmod 4)),.no,.no] _ _ (by simp[cOf,v6]) ?_;exact fin _ _ _ _ _ _ _ _ (by rfl') (by rfl') (by rfl') (by rfl') (by rfl') (by rfl') (by rfl') (by rfl') (by rfl')
  .refine st _ _ [.sh af (.scr ns),.sh ac (.int m0),.sh ac (.int (1+(u5 ns 0).fmod 3)),.sh ac (.int ((u5 ns 1).fmod 4)),.sh ac (.int ((u5 ns 3).fmod 4)),.no,.no] _ _ (by simp[cOf,c4,h4,v6,mo7]) ?_;have lt4:1+(u5 ns 0).fmod 3<4:=by rfl'
   by_cases h7:m0=0/\(u5 ns 7).fmod 3=1
   .obtain⟨rfl,h7⟩:=h7;refine st _ _ [.sh af (.scr ns),.sh ac (.int 0),.sh ac (.int (1+(u5 ns 0).fmod 3)),.sh ac (.int (((u5 ns 1).fmod 4)+5)),.sh ac (.int (((u5 ns 3).fmod 4)+5)),.no,.no] _ _ (by simp[cOf,c7,h7,lt4,v6,mo3]) ?_;refine st _ _ [.sh af (.scr ns),.sh ac (.int 0),.sh ac (.int (1+(u5 ns 0).fmod 3)),.sh ac (.int (((u5 ns 1).fmod 4)+5)),.sh ac (.int (((u5 ns 3).fmod 4)+5)),.no,.no] _ _ (by simp[cOf,v6]) ?_;exact fin _ _ _ _ _ _ _ _ (by rfl') (by rfl') (by rfl') (by rfl') (by rfl') (by rfl') (by rfl') (by rfl') (by rfl')
   .refine st _ _ [.sh af (.scr ns),.sh ac (.int m0),.sh ac (.int (1+(u5 ns 0).fmod 3)),.sh ac (.int ((u5 ns 1).fmod 4)),.sh ac (.int ((u5 ns 3).fmod 4)),.no,.no] _ _ (by
      by_cases z:m0=0
      .have h7:¬(u5 ns 7).fmod 3=1:=λq=>h7 ⟨z,q⟩;simp[cOf,c7,h7,z,lt4,v6,mo3]
      .simp[cOf,z,lt4,v6]) ?_
    by_cases h2:m0=2
    .refine st _ _ [.sh af (.scr ns),.sh ac (.int m0),.sh ac (.int (1+(1+(u5 ns 0).fmod 3).fmod 2)),.sh ac (.int (((u5 ns 1).fmod 4).fmod 3)),.sh ac (.int (((u5 ns 3).fmod 4).fmod 3)),.no,.no] _ _ (by simp[cOf,h2,v6,mo2,mo3]) ?_;exact fin _ _ _ _ _ _ _ _ (by rfl') (by rfl') (by rfl') (by rfl') (by rfl') (by rfl') (by rfl') (by rfl') (by rfl')
    .refine st _ _ [.sh af (.scr ns),.sh ac (.int m0),.sh ac (.int (1+(u5 ns 0).fmod 3)),.sh ac (.int ((u5 ns 1).fmod 4)),.sh ac (.int ((u5 ns 3).fmod 4)),.no,.no] _ _ (by simp[cOf,h2,v6]) ?_;exact fin _ _ _ _ _ _ _ _ (by rfl') (by rfl') (by rfl') (by rfl') (by rfl') (by rfl') (by rfl') (by rfl') (by rfl')
 obtain⟨n,O,T,e,p⟩:=key;exact⟨n,O,T,Y2 (f:=.fr) rfl e rfl,p⟩
structure Hs(n:Nat)(bills S:aA):Prop where
 n1:1<=n
 n6:n<=6
 m8:bills.length<=8
 wide:Wide n bills
 lt:∀r∈bills,∀x∈r,x.natAbs<2^900
 es:L3 [f8 n bills]=aa (LL S)
 asc:St.Asc n 0 S
 form:Lat.Form 0 (St.F3 S)
 span:Lat.SameSpan (St.vecs S) (St.vecs bills)
 sS:∀r∈S,St.Lt (2^899) r
 us:∃U,A6 [f8 n bills]=aa (LL U)/\St.Tag n bills U/\∀r∈U,St.Lt (2^8990) r
theorem Hall.hs{n:Nat}{bills:aA}(H:Hall n bills):∃S,Hs n bills S/\St.Good n (10^30) bills S:=by
 obtain⟨S,es,G,_⟩:=Ux H;obtain⟨U,eu,t,sU⟩:=z0y H;have n6:=H.n6;have gl:=St.Ce G.asc (wQ _);exact⟨S,⟨H.n1,n6,H.m8,H.wide,λr hr x hx=>w0p (lt30 (H.small r hr x hx)) (uE (by decide) (by decide)),es,G.asc,G.form,G.span,λx hx=>(G.small H.lt (by decide) x hx).mono (bnd899 _ (by rfl')),U,eu,t,λr hr=>(sU r hr).mono (wm (by decide) (by decide))⟩,G⟩
theorem z5j{n:Nat}{bills S:aA}{one other:aG}(h:Hs n bills S)(l1:one.length=n)(l2:other.length=n)(s1:St.Lt (2^5400) one)(s2:St.Lt (2^5400) other):
   (Lat.Span (St.vecs bills) (λk=>St.at0 other k-St.at0 one k)->O6 [f8 n bills,LL bills,L one,L other]=aa (.bl ac))/\(¬Lat.Span (St.vecs bills) (λk=>St.at0 other k-St.at0 one k)->O6 [f8 n bills,LL bills,L one,L other]=aa (.bl af)):=by
 obtain⟨U,eu,t,sU⟩:=h.us;have pl:=Sm (s:=5400) h.n6 h.m8 h.wide h.lt eu t sU (by decide) l1 l2 s1 s2 (by decide);have sn:∀(f:Fl)(d:Dt),(nrm f d).2=d:=λ_ _=>rfl;constructor
 .intro sp;rcases pl with⟨us,pl,ld,_⟩|⟨_,no⟩
  .have i3:Km (L us) .non=aa (.nw,.bl ac):=rfl;have n2:bInt [.bl ac]=aa (.nw,.int 1):=rfl;have n7:atI [Dt.non,Dt.bl ac] 1=aa (.bl ac):=rfl;generalize f8 n bills=hd at *;unfold O6 GN;simp[cOf,sn,pl,i3,ld,n2,n7]
  .exact aN sp no
 .intro sp;rcases pl with⟨_,_,_,q⟩|⟨pl,_⟩
  .exact aN q sp
  .obtain⟨M,em,Z⟩:=PC h.n6 h.es h.asc h.sS;have sb:St.Lt (2^5461) (subR other one):=(show St.Lt (2^(5400+1)) (subR other one)from λk=>by
    rw[Bp (by rfl'),vZ];have:=s1 k;have:=s2 k;rfl').mono (wm (by decide) (by decide))
   obtain⟨Y,dn,dd,i5,nf⟩:=z5i h.n6 h.wide h.lt h.span em Z l1 l2 sb sp;have i4:Km .non .non=aa (.nw,.bl af):=rfl;generalize f8 n bills=hd at *;refine Y2 (f:=.nw) rfl ?_ rfl;unfold GN;refine run (by simp[cOf,sn,pl];rfl) ?_;refine run (by simp[cOf,i4];rfl) ?_;refine run (ρ':=[.sh af hd,.sh af (LL bills),.sh af (L one),.sh af (L other),.sh ac .non,.sh af Y]) (by simp[cOf,sn,dn,nf];rfl) ?_;refine run (by simp[cOf,sn,i5,dd];rfl) ?_;simp[cOf]
theorem Q5(d:Dt)(n:Int)(h:(tyN d=="list")=af):K2 [d,.int n]=aa (.bl af):=by
 have h':¬tyN d ="list":=by simpa using h
 have sn:∀f:Fl,(nrm f d).2=d:=λ_=>rfl;unfold K2 Dj;simp[cOf,sn,h']
theorem UK(ds:gf)(n:Int):K2 [.lst ds,.int n]=aa (.bl (decide ((ds.length:Int)=n)&&ds.all isWh)):=by
 unfold K2 Dj;have q:j6 1 [] (iSeq (fN 0)) (Tg.one 0) fYes (i6 ac P9 (b6 (fN 0) fNil)) [.sh af (.lst ds),.sh af (.int n)]=aa (.nw,.lst (ds.map λd=>.bl (isWh d))):=
   n9 (e:=id) (h:=λd=>.bl (isWh d)) (xs:=ds) (by simp[cOf]) (λx _=>by
    have e:=Dz x;have sn:∀f:Fl,(nrm f x).2=x:=λ_=>rfl;simp[cOf,Tg.put,sigD,sn,e])
 by_cases h:(ds.length:Int)=n
 .simp[cOf,x9,h,q,bAll,T7 isWh ds]
 .simp[cOf,x9,h]
theorem Aw{np nn m:Nat}{fr:Bool}{F:FS}{ds:gf}(hl:ds.length=np)(h:F (rho0 nn ds)=aa (.ex m)):xOf np nn fr F ds=aa (.inr m):=by
 unfold xOf;rw[ar hl,h];rfl
theorem X5{F G:FS}{ρ:Rho}{m:Nat}(h:F ρ=aa (.ex m)):sSeq F G ρ=aa (.ex m):=by
 unfold sSeq;rw[h];rfl
theorem DE{c:FX}{Fs:FA}{ρ:Rho}{xs:gh}{m:Nat}(h:Fs ρ=aa xs)(q:c (sndL xs)=aa (.inr m)):CV c Fs ρ=aa (.ex m):=by
 unfold CV;rw[h,n8,q];rfl
theorem z2z{c:FX}{Fs:FA}{ρ ρ':Rho}{xs:gh}{m:Nat}{hits:Nat->Bool}{G:FS}(h:Fs ρ=aa xs)(q:c (sndL xs)=aa (.inr m))(hm:hits m=ac)(g:G ρ=aa (.nx ρ')):sTry c Fs hits G ρ=aa (.nx ρ'):=by
 unfold sTry;rw[h,n8,q,n8];show(if hits m=ac then _ else _)=_;rw[ar hm,g];rfl
theorem z2A{c:FX}{Fs:FA}{ρ ρ':Rho}{xs:gh}{m i:Nat}{hits:Nat->Bool}{G:FS}(h:Fs ρ=aa xs)(q:c (sndL xs)=aa (.inr m))(hm:hits m=ac)(g:G (ρ.set i .ex)=aa (.nx ρ')):Pb c Fs hits i G ρ=aa (.nx (ρ'.set i .no)):=by
 unfold Pb;rw[h,n8,q,n8];show(if hits m=ac then _ else _)=_;rw[ar hm,g];rfl
theorem exCall{c:FX}{Fs:FA}{ρ:Rho}{xs:gh}{m:Nat}(h:Fs ρ=aa xs)(q:c (sndL xs)=aa (.inr m)):sEx (Kw c Fs) ρ=aa (.ex m):=by
 unfold sEx Kw;rw[h,n8,q];rfl
theorem Ev{fr:Bool}{c:FX}{Fs:FA}{ρ:Rho}{xs:gh}{m:Nat}(h:Fs ρ=aa xs)(q:c (sndL xs)=aa (.inr m)):Gu fr c Fs ρ=aa (.ex m):=by
 unfold Gu;rw[h,n8,q];rfl
theorem P4{x:Int}{n:Nat}(h:0<n):∃k:Nat,k<n/\x.fmod (n:Int)=(k:Int):=by
 have a:=vh x (show(0:Int)<n by rfl');have b:=vC x (show(0:Int)<n by rfl');obtain⟨k,hk⟩:=ur a;exact⟨k,by rfl',hk⟩
theorem PL(n:Nat)(a b:aA):K7 [f8 n a,f8 n b]=aa .non:=by
 unfold K7 AN;simp[cOf,x9]
structure Side(n s:Nat)(X S:aA):Prop where
 es:L3 [f8 n X]=aa (LL S)
 asc:St.Asc n 0 S
 bS:∀r∈S,St.Lt (2^s) r
 wX:∀r∈X,r.length=n
 bX:∀r∈X,St.Lt (2^s) r
 span:Lat.SameSpan (St.vecs S) (St.vecs X)
 n6:n<=6
 s2:s<=2000
 hp:s*S.length<=6000
 len:S.length<=6
theorem AO{n s:Nat}{X S:aA}(q:Side n s X S):A9 [LL S]=aa (.int (Y0 (S.map St.hd))):=by
 have key:j6 1 [] (iSeq (fN 0)) (Tg.one 0) fYes (fAt (fN 0) (i6 ac o9 (b6 (fN 0) fNil))) [.sh af (LL S)]=aa (.nw,L (S.map St.hd)):=by
  rw[n9 (e:=L) (h:=λr=>.int (St.hd r)) (xs:=S) (by simp[cOf]) (λr hr=>by
   have a:=Iu (r:=r) (k:=St.b7 r) (by rw[(q.asc.mem hr).1];exact(q.asc.mem hr).2.2.1);have a:atI (r.map Dt.int) (St.b7 r:Int)=aa (.int (St.hd r)):=a;simp[cOf,C8,a])]
  simp[L]
 have pe:=Lz (e:=s) (S.map St.hd) (λx hx=>by
  obtain⟨r,hr,rfl⟩:=wg.mp hx;exact q.bS r hr _) (by
   have:=q.hp;have:=q.s2;rw[wj,w0r];rfl')
 unfold A9 X4;generalize S.map St.hd=xs at *;simp[cOf,key,pe]
theorem z0D:∀{n:Nat}{S:aA}{f:Nat},St.Asc n f S->0<Y0 (S.map St.hd):=by
 have key:∀(xs:aG)(t:Int),(∀x∈xs,0<x)->0<t->0<xs.foldl (λt x=>t*x) t:=by
  intro xs
  induction xs with
  |nil=>intro t _ h;exact h
  |cons x xs ih=>intro t h ht;exact ih _ (λy hy=>h y (wc _ hy)) (w0C ht (h x we))
 intro n S f A;exact key _ 1 (λx hx=>by
  obtain⟨r,hr,rfl⟩:=wg.mp hx;exact(A.mem hr).2.2.2) (by decide)
theorem z2B{e:Nat}{xs:aG}(h:∀x∈xs,x.natAbs<2^e):(Y0 xs).natAbs<2^(e*xs.length+1):=by
 have key:∀(ys:aG)(t:Int)(k:Nat),(∀x∈ys,x.natAbs<2^e)->t.natAbs<2^k->(ys.foldl (λt x=>t*x) t).natAbs<2^(e*ys.length+k):=by
  intro ys
  induction ys with
  |nil=>intro t k _ ht;simpa using ht
  |cons y ys ih=>
   intro t k hy ht;have b:(t*y).natAbs<2^(k+e):=by rw[wW,vB];exact uq ht (hy y we)
   have:=ih (t*y) (k+e) (λx hx=>hy x (wc _ hx)) b;rw[uL,wo,w0r]
   rwa [show e*ys.length+e+k=e*ys.length+(k+e) by rfl']
 exact key xs 1 1 h (by decide)
theorem Side.prod_lt{n s:Nat}{X S:aA}(q:Side n s X S):Y0 (S.map St.hd)<2^6001:=by
 have:=z2B (e:=s) (xs:=S.map St.hd) (λx hx=>by
  obtain⟨r,hr,rfl⟩:=wg.mp hx;exact q.bS r hr _)
 rw[wj]at this;have:=ww this (wm (show 0<2 by decide) (show s*S.length+1<=6001 by have:=q.hp;rfl'));have c2:((2^6001:Nat):Int)=(2:Int)^6001:=by norm_cast
 rfl'
theorem YU{n:Nat}{X S:aA}(H:Hall n X)(h:Hs n X S):Side n 899 X S:=by
 have l:=St.Ce h.asc (wQ _);have n6:=h.n6;exact⟨h.es,h.asc,h.sS,H.wide,λr hr=>(H.lt r hr).mono (by decide),h.span,n6,by decide,by rfl',by rfl'⟩
theorem snd_(f:Fl)(d:Dt):(nrm f d).2=d:=rfl
theorem LB{n s e:Nat}{X A Y B:aA}(q:Side n s X A)(p:Side n e Y B):D5 [f8 n X,f8 n Y]=aa (.bl (X.all λx=>decide (St.j7 x B=o6 n))):=by
 have nl:=PL n X Y;have es:=p.es;have ng:=Fw n (by have:=q.n6;rfl');have cm:j6 1 [2,0] (iSeq (fAt (fN 0) (fC (.int 1)))) (Tg.one 0) fYes (fOp opEq (i6 ac B9 (b6 (fN 0) (b6 (fN 1) fNil))) (i6 ac U1 (b6 (fAt (fN 2) (fC (.int 0))) fNil))) [.sh af (f8 n X),.sh af (f8 n Y),.sh ac (LL B)]=aa (.nw,.lst (X.map λx=>.bl (decide (St.j7 x B=o6 n)))):=by
  rw[n9 (e:=T) (h:=λx=>.bl (decide (St.j7 x B=o6 n))) (xs:=X) (by simp[cOf]) (λx hx=>by
   obtain⟨l1,l2,l3,l4,_⟩:=Uy (e:=e) p.asc p.bS (by have:=p.s2;rfl') (q.wX x hx) (q.bX x hx) (by have:=p.len;rfl') (by have:=q.s2;rfl');have le:=Av (T x) x B (.inr rfl) l3 l1 (q.wX x hx) l2 l4;have oe:=Nr (St.j7 x B) (o6 n);generalize St.j7 x B=lx at *;simp[cOf,le,ng,oe])]
 have al:bAll [.lst (X.map λx=>.bl (decide (St.j7 x B=o6 n)))]=aa (.nw,.bl (X.all λx=>decide (St.j7 x B=o6 n))):=by
  simp[bAll,T7 (λx=>decide (St.j7 x B=o6 n)) X]
 unfold D5 GM;simp[cOf,nl,es,cm,al]
theorem NN(f:aG->Bool):∀(X:aA)(b:Bool),X.foldl (λb x=>b&&f x) b=(b&&X.all f)
 |[],b=>by simp
 |x::X,b=>by rw[uL,NN f X,w0I,Bool.and_assoc]
theorem UL{n:Nat}{X Y B:aA}(HX:Hall n X)(HY:Hall n Y)(h:Hs n Y B):Cm [.tup [.int n,LL X,LL Y],f8 n Y]=aa (.bl (X.all λx=>decide (St.j7 x B=o6 n))):=by
 have n6:=HX.n6;have zc:j6 1 [] (o0 (fAt (fN 0) (fC (.int 0)))) (Tg.one 0) fYes (fC (.int 0)) [.sh af (.tup [.int n,LL X,LL Y]),.sh af (f8 n Y),.no,.no,.no,.no]=aa (.nw,L (o6 n)):=by
  rw[n9 (e:=λ(k:Nat)=>.int (0+(k:Int))) (h:=λ_=>.int 0) (xs:=av n)
    (by simp[cOf,o0,intD,V7,A3,show(n:Int)<=1000000 by rfl',show -1000000<=(n:Int) by rfl'])
    (λk hk=>by simp[cOf,Tg.put,sigD])]
  simp[L,w0u,o6]
 have zl:(o6 n).length=n:=E4;have zs:St.Lt (2^5400) (o6 n):=λk=>by rw[L8];decide
 have key:∀x∈X,O6 [f8 n Y,LL Y,L (o6 n),L x]=aa (.bl (decide (St.j7 x B=o6 n))):=λx hx=>by
  obtain⟨p1,p2⟩:=z5j h zl (HX.wide x hx) zs ((HX.lt x hx).mono (by decide));have e:(λk=>St.at0 x k-St.at0 (o6 n) k)=(λk=>St.at0 x k):=funext λk=>by rw[L8];rfl'
  rw[e]at p1 p2;have z:St.j7 x B=o6 n↔Lat.Span (St.vecs Y) (λk=>St.at0 x k):=by
    rw[Ji];exact(St.MS h.asc (HX.wide x hx)).trans h.span.iff
  by_cases q:St.j7 x B=o6 n
  .rw[aM q];exact p1 (z.mp q)
  .rw[aU q];exact p2 λy=>q (z.mpr y)
 obtain⟨f,hf⟩:∃f:aG->Bool,f=λx=>decide (St.j7 x B=o6 n):=⟨_,rfl⟩;have key:∀x∈X,O6 [f8 n Y,LL Y,L (o6 n),L x]=aa (.bl (f x)):=λx hx=>by rw[hf];exact key x hx
 rw[<-hf];refine Y2 (f:=.nw) rfl ?_ rfl;unfold Ft;refine run (by simp[cOf,zc];rfl) ?_;refine run (by simp[cOf];rfl) ?_;obtain⟨j,q⟩:=Bm (g:=Tg.one 4) (F:=sSeq (sSet [] 5 (i6 ac O6 (b6 (fN 1) (b6 (fAt (fN 0) (fC (.int 2))) (b6 (fN 2) (b6 (fN 4) fNil))))))
  (sSeq (sIf (j8 (fOp EI (fN 5) (fC .non))) (sRet (fC .non)) o7)
  (sSet [] 3 (vAnd (fN 3) (fN 5))))) (e:=L) (R:=λ(b:Bool)(c:Cell×Cell)=>[.sh af (.tup [.int n,LL X,LL Y]),.sh af (f8 n Y),.sh ac (L (o6 n)),.sh ac (.bl b),c.1,c.2]) (step:=λb x=>b&&f x) X ac (.no,.no)
  (λb x j hx=>⟨(.sh af (L x),.sh ac (.bl (f x))),by
    have k:O6 [f8 n Y,.lst (Y.map L),.lst ((o6 n).map Dt.int),.lst (x.map Dt.int)]=aa (.bl (f x)):=key x hx;have i:EI (.bl (f x)) .non=aa (.nw,.bl af):=by cases f x<;>rfl
    generalize f8 n Y=hy at *;generalize o6 n=zr at *;cases b<;>simp[cOf,Tg.put,snd_,k,i]⟩)
 rw[NN,w0H]at q;have q:forF (Tg.one 4) (sSeq (sSet [] 5 (i6 ac O6 (b6 (fN 1) (b6 (fAt (fN 0) (fC (.int 2))) (b6 (fN 2) (b6 (fN 4) fNil))))))
  (sSeq (sIf (j8 (fOp EI (fN 5) (fC .non))) (sRet (fC .non)) o7)
  (sSet [] 3 (vAnd (fN 3) (fN 5))))) (X.map L) [.sh af (.tup [.int n,LL X,LL Y]),.sh af (f8 n Y),.sh ac (L (o6 n)),.sh ac (.bl ac),.no,.no]=aa (.nx [.sh af (.tup [.int n,LL X,LL Y]),.sh af (f8 n Y),.sh ac (L (o6 n)),.sh ac (.bl (X.all f)),j.1,j.2]):=q
 refine run (ρ':=[.sh af (.tup [.int n,LL X,LL Y]),.sh af (f8 n Y),.sh ac (L (o6 n)),.sh ac (.bl (X.all f)),j.1,j.2]) (by
  unfold sFor;show Option.bind (aa (X.map L)) _=_;exact q) ?_
 simp[cOf]
theorem LC{n m:Nat}{X Y:aA}(h:n≠m):W4 [f8 n X,f8 m Y]=aa (.inr 5):=by
 refine Aw rfl ?_;unfold Dr;have:¬(n:Int)=(m:Int):=by rfl'
 simp[cOf,x9,this,P7]
theorem Su{n m:Nat}{X Y:aA}(h:n≠m):Lf [f8 n X,f8 m Y]=aa (.inr 5):=by
 refine Aw rfl ?_;unfold Ld;exact X5 (DE (xs:=[nrm .sh (f8 n X),nrm .sh (f8 m Y)]) rfl (LC h))
theorem z2C{n m:Nat}{X Y:aA}(h:n≠m):z2j [f8 n X,f8 m Y]=aa (.inr 5):=by
 refine Aw rfl ?_;unfold z2i;exact X5 (DE (xs:=[nrm .sh (f8 n X),nrm .sh (f8 m Y)]) rfl (LC h))
theorem Jm{n m:Nat}{X Y:aA}(h:n≠m):Am [f8 n X,f8 m Y]=aa (.inr 5):=by
 refine Aw rfl ?_;unfold Lg;exact X5 (DE (xs:=[nrm .sh (f8 n X),nrm .sh (f8 m Y)]) rfl (LC h))
theorem z0E{n m:Nat}{X Y:aA}(h:n≠m):D5 [f8 n X,f8 m Y]=ag:=by
 have:¬(n:Int)=(m:Int):=by rfl'
 have nl:K7 [f8 n X,f8 m Y]=ag:=by
  unfold K7 AN;simp[cOf,x9,this,C3]
 unfold D5 GM cOf;rw[ar (show[f8 n X,f8 m Y].length=2 from rfl)];have:Bi (i6 ac K7 (b6 (fN 0) (b6 (fN 1) fNil))) (rho0 3 [f8 n X,f8 m Y])=ag:=by
  unfold Bi i6;show((K7 [f8 n X,f8 m Y]).map _).map _=ag;rw[nl];rfl
 unfold sSeq;rw[this];rfl
theorem UM{n m:Nat}{X Y:aA}(h:n≠m):M7 [f8 n X,f8 m Y]=aa (.inr 5):=by
 refine Aw rfl ?_;unfold U5;refine X5 ?_;have w:=z0E (X:=X) (Y:=Y) h;have xw:=Jm (X:=X) (Y:=Y) h;have a:sIf (fNot (fTru (i6 ac D5 (b6 (fN 0) (b6 (fN 1) fNil))))) (P7 7) o7 (rho0 4 [f8 n X,f8 m Y])=ag:=by
  have:i6 ac D5 (b6 (fN 0) (b6 (fN 1) fNil)) (rho0 4 [f8 n X,f8 m Y])=ag:=by
   unfold i6;show(D5 [f8 n X,f8 m Y]).map _=ag;rw[w];rfl
  unfold sIf fNot fTru;rw[this];rfl
 unfold sOr;rw[a];exact exCall (xs:=[nrm .sh (f8 n X),nrm .sh (f8 m Y)]) rfl xw
theorem Sv{n s e:Nat}{X A Y B:aA}(q:Side n s X A)(p:Side n e Y B):∃d,M7 [f8 n X,f8 n Y]=aa (if(X.all λx=>decide (St.j7 x B=o6 n)) then .inl d else .inr 7):=by
 have w:=LB q p;have e1:=q.es;have e2:=p.es;generalize (X.all λx=>decide (St.j7 x B=o6 n))=b at *;cases b with
 |false=>
  refine⟨.non,Aw rfl ?_⟩;unfold U5;refine X5 ?_;have:sIf (fNot (fTru (i6 ac D5 (b6 (fN 0) (b6 (fN 1) fNil))))) (P7 7) o7 (rho0 4 [f8 n X,f8 n Y])=aa (.ex 7):=by
    show sIf (fNot (fTru (i6 ac D5 (b6 (fN 0) (b6 (fN 1) fNil))))) (P7 7) o7 [.sh af (f8 n X),.sh af (f8 n Y),.no,.no]=_;simp[cOf,w,P7]
  unfold sOr;rw[this];rfl
 |true=>
  have s0:(sOr (sIf (fNot (fTru (i6 ac D5 (b6 (fN 0) (b6 (fN 1) fNil))))) (P7 7) o7) (sEx (Kw Am (b6 (fN 0) (b6 (fN 1) fNil))))) (rho0 4 [f8 n X,f8 n Y])=aa (.nx [.sh af (f8 n X),.sh af (f8 n Y),.no,.no]):=by
    have:sIf (fNot (fTru (i6 ac D5 (b6 (fN 0) (b6 (fN 1) fNil))))) (P7 7) o7 (rho0 4 [f8 n X,f8 n Y])=aa (.nx [.sh af (f8 n X),.sh af (f8 n Y),.no,.no]):=by
     show sIf (fNot (fTru (i6 ac D5 (b6 (fN 0) (b6 (fN 1) fNil))))) (P7 7) o7 [.sh af (f8 n X),.sh af (f8 n Y),.no,.no]=_;simp[cOf,w]
    unfold sOr;rw[this];rfl
  by_cases hl:A.length<B.length
  .refine⟨.non,?_⟩;unfold M7 xOf;rw[ar (show[f8 n X,f8 n Y].length=2 from rfl)];unfold U5;have:sSeq (sOr (sIf (fNot (fTru (i6 ac D5 (b6 (fN 0) (b6 (fN 1) fNil))))) (P7 7) o7) (sEx (Kw Am (b6 (fN 0) (b6 (fN 1) fNil))))) (sSeq (sSet [] 2 (i6 ac L3 (b6 (fN 0) fNil)))
    (sSeq (sSet [] 3 (i6 ac L3 (b6 (fN 1) fNil)))
    (sSeq (sIf (j8 (fOp opLt (fBlt bLen (b6 (fN 2) fNil)) (fBlt bLen (b6 (fN 3) fNil)))) (sRet (fC .non)) o7)
    (sRet (fOp L5 (i6 ac A9 (b6 (fN 2) fNil)) (i6 ac A9 (b6 (fN 3) fNil))))))) (rho0 4 [f8 n X,f8 n Y])=aa (.rt .nw .non):=by
    refine run s0 ?_;generalize f8 n X=hx at *;generalize f8 n Y=hy at *;simp[cOf,snd_,e1,e2,hl]
   rw[this];rfl
  .have h1:=AO q;have h2:=AO p;have p0:=z0D p.asc;have lt:=p.prod_lt;have dv:E7 (Y0 (A.map St.hd)) (Y0 (B.map St.hd))=ac:=Z4 p0 (Int.lt_of_lt_of_le lt (by
    have:(2^6001:Nat)<=2^9000:=wm (by decide) (by decide);have c1:((2^6001:Nat):Int)=(2:Int)^6001:=by norm_cast
    have c2:((2^9000:Nat):Int)=(2:Int)^9000:=by norm_cast
    rfl'))
   refine⟨.int ((Y0 (A.map St.hd)).fdiv (Y0 (B.map St.hd))),?_⟩;unfold M7 xOf;rw[ar (show[f8 n X,f8 n Y].length=2 from rfl)];unfold U5;have:sSeq (sOr (sIf (fNot (fTru (i6 ac D5 (b6 (fN 0) (b6 (fN 1) fNil))))) (P7 7) o7) (sEx (Kw Am (b6 (fN 0) (b6 (fN 1) fNil))))) (sSeq (sSet [] 2 (i6 ac L3 (b6 (fN 0) fNil)))
    (sSeq (sSet [] 3 (i6 ac L3 (b6 (fN 1) fNil)))
    (sSeq (sIf (j8 (fOp opLt (fBlt bLen (b6 (fN 2) fNil)) (fBlt bLen (b6 (fN 3) fNil)))) (sRet (fC .non)) o7)
    (sRet (fOp L5 (i6 ac A9 (b6 (fN 2) fNil)) (i6 ac A9 (b6 (fN 3) fNil))))))) (rho0 4 [f8 n X,f8 n Y])=aa (.rt .nw (.int ((Y0 (A.map St.hd)).fdiv (Y0 (B.map St.hd))))):=by
    refine run s0 ?_;generalize f8 n X=hx at *;generalize f8 n Y=hy at *;generalize Y0 (A.map St.hd)=u at *;generalize Y0 (B.map St.hd)=v at *;simp[cOf,snd_,e1,e2,hl,h1,h2,dv]
   rw[this];rfl
theorem Iz{a b c d:Dt}(h:Z2 [a,b,c,d]=aa (.inr 5)):U9 [a,b,c,d]=aa (.bl ac):=by
 refine Y2 (f:=.nw) rfl ?_ rfl;unfold Fp;refine run (by simp[cOf];rfl) ?_;refine run (z2z (ρ':=[.sh af a,.sh af b,.sh af c,.sh af d,.sh ac (.int 1),.no]) (xs:=[nrm .sh a,nrm .sh b,nrm .sh c,nrm .sh d]) (m:=5) rfl h rfl (by simp[cOf])) ?_;refine run (z2A (ρ':=[.sh af a,.sh af b,.sh af c,.sh af d,.sh ac (.int 2),.ex]) (xs:=[nrm .sh a,nrm .sh b,nrm .sh c,nrm .sh d]) (m:=5) rfl h rfl (by simp[cOf,fIsx,bInt])) ?_;simp[cOf,v6]
theorem UN{m:Nat}{x:Dt}(h:okR x=ac):K2 [x,.int m]=aa (.bl (rwB m x)):=by
 cases x with
 |lst es=>exact UK es m
 |scr ns=>cases h
 |non=>exact Q5 _ _ rfl
 |bl _=>exact Q5 _ _ rfl
 |int _=>exact Q5 _ _ rfl
 |str _=>exact Q5 _ _ rfl
 |tup _=>exact Q5 _ _ rfl
 |dic=>exact Q5 _ _ rfl
 |obj _ _ _ _=>exact Q5 _ _ rfl
theorem z2D{n m:Nat}{X Y:List (List Int)}{d:Dt}(h:TB n m d):Ck [f8 n X,d,f8 m Y]=some (.bl false):=by
 unfold Ck Fg;rcases h with h|⟨ds,rfl,h⟩
 .have h':¬tyN d ="list":=by simpa using h
  simp[cOf,snd_,h']
 .by_cases hl:ds.length=n
  .have h:ds.all okR=ac/\ds.all (rwB m)=af:=by
    rcases h with h|h
    .exact aN hl h
    .exact h
   have cm:j6 1 [2] (iSeq (fN 1)) (Tg.one 0) fYes (i6 ac K2 (b6 (fN 0) (b6 (fAt (fN 1) (fC (.int 0))) fNil))) [.sh af (f8 n X),.sh af (.lst ds),.sh af (f8 m Y)]=aa (.nw,.lst (ds.map λx=>.bl (rwB m x))):=
    n9 (e:=id) (h:=λx=>.bl (rwB m x)) (xs:=ds) (by simp[cOf]) (λx hx=>by
      have r:=UN (m:=m) (vy.mp h.1 x hx);show(K2 [x,.int m]).map _=_;rw[r];rfl)
   have al:bAll [.lst (ds.map λx=>.bl (rwB m x))]=aa (.nw,.bl af):=by
    have b:=T7 (rwB m) ds;have hh:=h.2;show(CQ (ds.map λx=>.bl (rwB m x))).map _=_;rw[b];show aa (Fl.nw,Dt.bl ((ds.map (rwB m)).all id))=_;rw[List.all_map];show aa (Fl.nw,Dt.bl (ds.all (rwB m)))=_;rw[hh]
   simp[cOf,x9,hl,cm,al]
  .have t:¬((ds.length:Int)=n):=by rfl'
   simp[cOf,x9,t]
theorem LD{n m:Nat}{X Y:aA}{d:Dt}(h:TB n m d):Y5 [f8 n X,d,f8 m Y]=aa (.inr 5):=by
 have e:=z2D (X:=X) (Y:=Y) h;refine Aw rfl ?_;unfold Cl;generalize f8 n X=hx at *;generalize f8 m Y=hy at *;simp[cOf,snd_,e,P7]
theorem UO{n m:Nat}{X Y:aA}{d:Dt}(h:TB n m d):Pq [f8 n X,d,f8 m Y]=aa (.inr 5):=by
 refine Aw rfl ?_;unfold Pp;exact X5 (DE (xs:=[nrm .sh (f8 n X),nrm .sh d,nrm .sh (f8 m Y)]) rfl (LD h))
theorem Sw{n m:Nat}{X Y:aA}{d:Dt}(h:TB n m d):Lj [f8 n X,d,f8 m Y]=aa (.inr 5):=by
 refine Aw rfl ?_;unfold Li;exact X5 (DE (xs:=[nrm .sh (f8 n X),nrm .sh d,nrm .sh (f8 m Y)]) rfl (LD h))
theorem if_t{c:FT}{F G:FS}{ρ:Rho}(h:c ρ=aa ac):sIf c F G ρ=F ρ:=by
 unfold sIf;rw[h];rfl
theorem GT{a b c:Dt}{w k:Int}:j8 (fOp opEq (fN 3) (fC (.int k))) [.sh af a,.sh af b,.sh af c,.sh af (.int w)]=aa (decide (w=k)):=by
 simp[cOf,v6]
theorem LG{n m:Nat}{X Y:aA}{c:Dt}{w:Nat}(h:n≠m)(hw:w<4):Z2 [f8 n X,f8 m Y,c,.int w]=aa (.inr 5):=by
 refine Aw rfl ?_;unfold Et;have j:∀k:Int,(w:Int)=k->j8 (fOp opEq (fN 3) (fC (.int k))) [.sh af (f8 n X),.sh af (f8 m Y),.sh af c,.sh af (.int w)]=aa ac:=λk e=>by rw[GT,aM e]
 have no:∀(k:Int)(F:FS),(w:Int)≠k->sIf (j8 (fOp opEq (fN 3) (fC (.int k)))) F o7 [.sh af (f8 n X),.sh af (f8 m Y),.sh af c,.sh af (.int w)]=aa (.nx [.sh af (f8 n X),.sh af (f8 m Y),.sh af c,.sh af (.int w)]):=λk F e=>by
  unfold sIf;rw[GT,aU e];rfl
 match w,hw with
 |0,_=>exact X5 ((if_t (j 0 rfl)).trans (Ev (xs:=[nrm .sh (f8 n X),nrm .sh (f8 m Y)]) rfl (Su h)))
 |1,_=>exact run (no 0 _ (by decide)) (X5 ((if_t (j 1 rfl)).trans (Ev (xs:=[nrm .sh (f8 n X),nrm .sh (f8 m Y)]) rfl (z2C h))))
 |2,_=>exact run (no 0 _ (by decide)) (run (no 1 _ (by decide)) (X5 ((if_t (j 2 rfl)).trans (Ev (xs:=[nrm .sh (f8 n X),nrm .sh (f8 m Y)]) rfl (Jm h)))))
 |3,_=>exact run (no 0 _ (by decide)) (run (no 1 _ (by decide)) (run (no 2 _ (by decide)) (X5 ((if_t (j 3 rfl)).trans (Ev (xs:=[nrm .sh (f8 n X),nrm .sh (f8 m Y)]) rfl (UM h))))))
theorem Sx{n m:Nat}{X Y:aA}{d:Dt}{w:Nat}(h:TB n m d)(hw:w<2):Z2 [f8 n X,f8 m Y,d,.int (4+(w:Int))]=aa (.inr 5):=by
 refine Aw rfl ?_;unfold Et;have no:∀(k:Int)(F:FS),(4+(w:Int))≠k->sIf (j8 (fOp opEq (fN 3) (fC (.int k)))) F o7 [.sh af (f8 n X),.sh af (f8 m Y),.sh af d,.sh af (.int (4+(w:Int)))]=aa (.nx [.sh af (f8 n X),.sh af (f8 m Y),.sh af d,.sh af (.int (4+(w:Int)))]):=λk F e=>by
   unfold sIf;rw[GT,aU e];rfl
 refine run (no 0 _ (by rfl')) (run (no 1 _ (by rfl')) (run (no 2 _ (by rfl')) (run (no 3 _ (by rfl')) ?_)));by_cases h0:w=0
 .subst h0;exact X5 ((if_t (by rw[GT];rfl)).trans (Ev (xs:=[nrm .sh (f8 n X),nrm .sh d,nrm .sh (f8 m Y)]) rfl (UO h)))
 .exact run (no 4 _ (by rfl')) (Ev (xs:=[nrm .sh (f8 n X),nrm .sh d,nrm .sh (f8 m Y)]) rfl (Sw h))
theorem DG{np n:Nat}{F:FS}{ds:gf}{f:Fl}{d:Dt}(hl:ds.length=np)(h:F (rho0 n ds)=aa (.rt f d)):cOf np n af F ds=aa d:=by
 unfold cOf;rw[ar hl,h];rfl
theorem okL(tb:aA):(tb.map L).all okR=ac:=vy.mpr λx hx=>by
 obtain⟨r,_,rfl⟩:=wg.mp hx;rfl
theorem z5k{tb:aA}{k m:Nat}{v:Dt}(hk:k<tb.length)(h1:okR v=ac)(h2:rwB m v=af):TB tb.length m (.lst ((tb.map L).set k v)):=
 .inr ⟨_,rfl,.inr ⟨vy.mpr λx hx=>by
  rcases vN hx with hx|rfl
  .exact vy.mp (okL tb) x hx
  .exact h1,w0i.mpr ⟨v,List.mem_set (by rw[wj];exact hk) v,by rw[h2];simp⟩⟩⟩
theorem YV{S:Nat->Bool}{new:Dt}:∀{ds:gf}{q:Nat},∀d∈mix S new q ds,d=new\/d∈ds
 |[],q,d,h=>by cases h
 |x::ds,q,d,h=>by
  rw[mix]at h;rcases wn.mp h with h|h
  .split at h
   .exact .inl h
   .exact .inr (by simp[h])
  .rcases YV d h with h|h
   .exact .inl h
   .exact .inr (by simp[h])
theorem z2E{S:Nat->Bool}{new:Dt}:∀{ds:gf}{q k:Nat},k<ds.length->S (q+k)=ac->new∈mix S new q ds
 |[],q,k,h,_=>by simp at h
 |x::ds,q,0,_,hS=>by
  rw[mix,ar (by simpa using hS)];simp
 |x::ds,q,k+1,h,hS=>by
  rw[mix];exact wc _ (z2E (k:=k) (by simpa using h) (by rw[show q+1+k=q+(k+1) by rfl'];exact hS))
theorem YW{tb:aA}{S:Nat->Bool}{k m:Nat}{v:Dt}(hk:k<tb.length)(hS:S k=ac)(h1:okR v=ac)(h2:rwB m v=af):TB tb.length m (.lst (mix S v 0 (tb.map L))):=
 .inr ⟨_,rfl,.inr ⟨vy.mpr λx hx=>by
  rcases YV x hx with rfl|hx
  .exact h1
  .exact vy.mp (okL tb) x hx,w0i.mpr ⟨v,z2E (k:=k) (by rw[wj];exact hk) (by simpa using hS),by rw[h2];simp⟩⟩⟩
theorem IA{F G:FS}{ρ:Rho}{f:Fl}{d:Dt}(h:F ρ=aa (.rt f d)):sSeq F G ρ=aa (.rt f d):=by
 unfold sSeq;rw[h];rfl
theorem z2F{α:Type}(x:α)(xs:List α):cutD (x::xs) (aa 1) ag=xs:=by
 simp[cutD,HT.sIx]
theorem UP{tb:aA}{m w:Nat}{c:Int}(h1:1<=tb.length)(h6:tb.length<=6)(hm:∀r∈tb,r.length=m)(m1:1<=m)(m6:m<=6)(hw:w<9)(h4:w≠4)(h7:w≠7):∃d,Fq [LL tb,.int w,.int c]=aa d/\TB tb.length m d:=by
 have cp:=UA tb [.sh af (LL tb),.sh af (.int w),.sh af (.int c),.no,.no] (fN 0) .sh (by simp[cOf]);obtain⟨k,hk,ek⟩:=P4 (x:=c) (n:=tb.length) (by rfl');have mn:N9 c (tb.length:Int)=ac:=C6 (by rfl');have d5:E7 c 5=ac:=by unfold E7;decide
 have m4:N9 c 4=ac:=C6 (by decide);have m54:N9 (c.fdiv 5) 4=ac:=C6 (by decide);obtain⟨row,hrow⟩:∃row,tb[k]?=aa row:=⟨_,wa hk⟩;have rl:row.length=m:=hm row (vJ hrow);have ix:ixN (tb.map L).length (k:Int)=aa k:=Cf (by rw[wj];exact hk);have ix':ixN tb.length (k:Int)=aa k:=Cf hk;have at3:atI (tb.map L) (k:Int)=aa (L row):=by
   unfold atI;rw[ix,n8,wy,hrow];rfl
 obtain⟨r0,tb',etb⟩:∃r0 tb',tb=r0::tb':=by
   cases tb with
   |nil=>simp at h1
   |cons r tb=>exact⟨r,tb,rfl⟩
 have at0:atI (tb.map L) 0=aa (L r0):=by rw[etb];unfold atI ixN;simp
 have s0:(sOwn 3 (j6 1 [] (iSeq (fN 0)) (Tg.one 0) fYes (fBlt bLst (b6 (fN 0) fNil)))) (rho0 5 [LL tb,.int w,.int c])=aa (.nx [.sh af (LL tb),.sh af (.int w),.sh af (.int c),.ow ac (tb.map L),.no]):=by
   show(sOwn 3 (j6 1 [] (iSeq (fN 0)) (Tg.one 0) fYes (fBlt bLst (b6 (fN 0) fNil)))) [.sh af (LL tb),.sh af (.int w),.sh af (.int c),.no,.no]=_;simp[cOf,cp]
 have no:∀(j:Int)(F:FS)(c4:Cell),(w:Int)≠j->sIf (j8 (fOp opEq (fN 1) (fC (.int j)))) F o7 [.sh af (LL tb),.sh af (.int w),.sh af (.int c),.ow ac (tb.map L),c4]=aa (.nx [.sh af (LL tb),.sh af (.int w),.sh af (.int c),.ow ac (tb.map L),c4]):=λj F c4 e=>by
   have:¬(w:Int)=j:=e;simp[cOf,v6,this]
 have no':∀(j:Int)(F G:FS)(c4:Cell),(w:Int)≠j->sIf (j8 (fOp opEq (fN 1) (fC (.int j)))) F G [.sh af (LL tb),.sh af (.int w),.sh af (.int c),.ow ac (tb.map L),c4]=G [.sh af (LL tb),.sh af (.int w),.sh af (.int c),.ow ac (tb.map L),c4]:=λj F G c4 e=>by
   have t:j8 (fOp opEq (fN 1) (fC (.int j))) [.sh af (LL tb),.sh af (.int w),.sh af (.int c),.ow ac (tb.map L),c4]=aa af:=by
     have:¬(w:Int)=j:=e;simp[cOf,v6,this]
   unfold sIf;rw[t];rfl
 have ye:∀(j:Int)(F G:FS)(c4:Cell),(w:Int)=j->sIf (j8 (fOp opEq (fN 1) (fC (.int j)))) F G [.sh af (LL tb),.sh af (.int w),.sh af (.int c),.ow ac (tb.map L),c4]=F [.sh af (LL tb),.sh af (.int w),.sh af (.int c),.ow ac (tb.map L),c4]:=λj F G c4 e=>by
   have t:j8 (fOp opEq (fN 1) (fC (.int j))) [.sh af (LL tb),.sh af (.int w),.sh af (.int c),.ow ac (tb.map L),c4]=aa ac:=by
     simp[cOf,v6,e]
   unfold sIf;rw[t];rfl
 have s4:Q8 4 (fOp B3 (fN 2) (fBlt bLen (b6 (fN 3) fNil))) [.sh af (LL tb),.sh af (.int w),.sh af (.int c),.ow ac (tb.map L),.no]=aa (.nx [.sh af (LL tb),.sh af (.int w),.sh af (.int c),.ow ac (tb.map L),.sh ac (.int k)]):=by
   simp[cOf,mn,ek]
 have fin:∀v:Dt,okR v=ac->rwB m v=af->(∃f,sIf (j8 (fOp opEq (fN 1) (fC (.int 3)))) (KY 3 (fN 4) (fBlt bTup (b6 (fAt (fN 3) (fN 4)) fNil))) (sIf (j8 (fOp opEq (fN 1) (fC (.int 4)))) C3 (sIf (j8 (fOp opEq (fN 1) (fC (.int 5)))) (KY 3 (fN 4) (fSl (fAt (fN 3) (fN 4)) (J2 (fC (.int 1))) z9)) (sIf (j8 (fOp opEq (fN 1) (fC (.int 6)))) (sPut 3 (fN 4) (fAt (fLst (b6 (fC .non) (b6 (fC (.int 5)) (b6 (fC (.str "12")) (b6 (fC .dic) fNil))))) (fOp B3 (fOp L5 (fN 2) (fC (.int 5))) (fC (.int 4))))) (sIf (j8 (fOp opEq (fN 1) (fC (.int 7)))) C3 (sRet (fAt (fLst (b6 (fC .non) (b6 (fC (.int 5)) (b6 (fC (.str "12")) (b6 (fC .dic) fNil))))) (fOp B3 (fN 2) (fC (.int 4)))))))))
     [.sh af (LL tb),.sh af (.int w),.sh af (.int c),.ow ac (tb.map L),.sh ac (.int k)]=aa (.nx [.sh af (LL tb),.sh af (.int w),.sh af (.int c),.ow f ((tb.map L).set k v),.sh ac (.int k)]))->2<w->∃d,Fq [LL tb,.int w,.int c]=aa d/\TB tb.length m d:=λv v1 v2⟨f,hv⟩h2=>by
   refine⟨.lst ((tb.map L).set k v),DG (f:=flOf f) rfl ?_,z5k hk v1 v2⟩;unfold Q4;refine run s0 (run (no 0 _ _ (by rfl')) (run (no 1 _ _ (by rfl')) (run (no 2 _ _ (by rfl')) (run s4 (run hv ?_)))));rfl
 have fl:∀j:Nat,j<4->∃v,v.flat=ac/\atI [Dt.non,.int 5,.str "12",.dic] (j:Int)=aa v/\(tyN v=="list")=af/\okR v=ac/\rwB m v=af:=λj hj=>by
   match j,hj with
   |0,_=>exact⟨_,rfl,rfl,rfl,rfl,rfl⟩
   |1,_=>exact⟨_,rfl,rfl,rfl,rfl,rfl⟩
   |2,_=>exact⟨_,rfl,rfl,rfl,rfl,rfl⟩
   |3,_=>exact⟨.dic,by simp,rfl,rfl,rfl,rfl⟩
 by_cases e0:w=0
 .refine⟨.tup (tb.map L),DG (f:=if J7 (tb.map L) then .nw else .sh) rfl ?_,.inl rfl⟩;unfold Q4;refine run s0 (IA ?_);rw[ye 0 _ _ _ (by rfl')];rfl
 by_cases e1:w=1
 .refine⟨.lst (tb.map L++[L r0]),DG (f:=lfl (tb.map L++[L r0])) rfl ?_,.inr ⟨_,rfl,.inl (by rw[wB,wj];simp)⟩⟩;unfold Q4;refine run s0 (run (no 0 _ _ (by rfl')) (IA ?_));rw[ye 1 _ _ _ (by rfl')];have a1:fLst (b6 (fBlt bLst (b6 (fAt (fN 3) (fC (.int 0))) fNil)) fNil) [.sh af (LL tb),.sh af (.int w),.sh af (.int c),.ow ac (tb.map L),.no]=aa (.nw,.lst [L r0]):=by
    simp[cOf,at0]
  have a2:u9 (.lst (tb.map L)) (.lst [L r0])=aa (newL (tb.map L++[L r0])):=by
    show(if(tb.map L).length+1<=1000000 then aa (newL (tb.map L++[L r0])) else ag)=_;rw[ar (by rw[wj];rfl')]
  unfold sRet fOp;rw[a1];show((u9 (.lst (tb.map L)) (.lst [L r0])).map _)=_;rw[a2];rfl
 by_cases e2:w=2
 .refine⟨.lst (cutD (tb.map L) (aa 1) ag),DG (f:=lfl (cutD (tb.map L) (aa 1) ag)) rfl ?_,.inr ⟨_,rfl,.inl (by rw[etb,wq,z2F];simp)⟩⟩;unfold Q4;refine run s0 (run (no 0 _ _ (by rfl')) (run (no 1 _ _ (by rfl')) (IA ?_)));rw[ye 2 _ _ _ (by rfl')];rfl
 by_cases e3:w=3
 .refine fin (T row) rfl rfl ⟨ac,?_⟩ (by rfl');rw[ye 3 _ _ _ (by rfl')];unfold KY;simp[cOf,at3,ix',Gs,bTup]
 by_cases e5:w=5
 .obtain⟨x,a,ea⟩:∃x a,row=x::a:=by
    cases row with
    |nil=>simp at rl;rfl'
    |cons x a=>exact⟨x,a,rfl⟩
  have ct:cutD (row.map Dt.int) (aa 1) ag=a.map Dt.int:=by rw[ea];exact z2F _ _
  have la:a.length+1=m:=by rw[<-rl,ea];simp
  refine fin (L a) rfl ?_ ⟨ac,?_⟩ (by rfl')
  .show(decide (((a.map Dt.int).length:Int)=m)&&_)=af;rw[aU (by rw[wj];rfl')];rfl
  .rw[no' 3 _ _ _ (by rfl'),no' 4 _ _ _ (by rfl'),ye 5 _ _ _ (by rfl')];have sl:fSl (fAt (fN 3) (fN 4)) (J2 (fC (.int 1))) z9 [.sh af (LL tb),.sh af (.int w),.sh af (.int c),.ow ac (tb.map L),.sh ac (.int k)]=aa (.nw,L a):=by
    simp[cOf,fSl,J2,z9,intD,at3];rw[ct,T6]
   unfold KY;rw[show Gs [.sh af (LL tb),.sh af (.int w),.sh af (.int c),.ow ac (tb.map L),.sh ac (.int k)] 3=aa (ac,tb.map L)from rfl,n8,sl,n8,ar (show(Fl.nw,L a).1.isNw=ac from rfl)];simp[cOf,ix']
 by_cases e6:w=6
 .obtain⟨j,hj,ej⟩:=P4 (x:=c.fdiv 5) (n:=4) (by decide);have ej:(c.fdiv 5).fmod 4=(j:Int):=ej;obtain⟨v,vf,va,vt,v1,v2⟩:=fl j hj;refine fin v v1 v2 ⟨ac,?_⟩ (by rfl');rw[no' 3 _ _ _ (by rfl'),no' 4 _ _ _ (by rfl'),no' 5 _ _ _ (by rfl'),ye 6 _ _ _ (by rfl')];have sn:nrm .nw v=(.nw,v):=KD v;simp[cOf,d5,m54,ej,va,sn,ix']
 obtain⟨j,hj,ej⟩:=P4 (x:=c) (n:=4) (by decide);have ej:c.fmod 4=(j:Int):=ej;obtain⟨v,vf,va,vt,v1,v2⟩:=fl j hj;refine⟨v,DG (f:=.nw) rfl ?_,.inl vt⟩;unfold Q4;refine run s0 (run (no 0 _ _ (by rfl')) (run (no 1 _ _ (by rfl')) (run (no 2 _ _ (by rfl')) (run s4 (IA ?_)))));rw[no' 3 _ _ _ (by rfl'),no' 4 _ _ _ (by rfl'),no' 5 _ _ _ (by rfl'),no' 6 _ _ _ (by rfl'),no' 7 _ _ _ (by rfl')];have sn:nrm .nw v=(.nw,v):=KD v;simp[cOf,m4,ej,va,sn]
section
variable {X:Cx}{D:Ends}{σ:St}{H:Hp}{tb:aA}{m w k:Nat}{c:Int}
theorem rb_of{N:fO}{vs:gg}{ds:gf}{ρ:Rho}(h0:X.H₀=H)(hN:N.length=5)(r:Rps X.K emp ds H vs)(e:rho0 5 ds=ρ):RepB X X.H₀ H ρ (L2.start N vs):=by
 subst h0;rw[<-e,<-hN];exact⟨[],EV rfl r⟩
theorem Sy{ρ:Rho}{cc:FT}{t u:TS}(rs:RepS X.ky H ρ σ)(e:cc ρ=aa af)(h:∀H',Same H H'->u D σ H'):tIfS (upB X cc) t u D σ H:=⟨ρ,af,rs,e,λH' s=>by show(if af=ac then _ else _);rw[aw (by decide)];exact h H' s⟩
theorem DH{c0:Cell}{r:List Cell}{j:Int}:cIS j (c0::.sh af (.int w)::r)=aa (decide ((w:Int)=j)):=by
 unfold cIS;simp[j8,fOp,fN,fC,Rn,Cell.val,nrm,v6]
theorem rd_hd{rest:TS}(rb:RepB X X.H₀ H [.sh af (LL tb),.sh af (.int w),.sh af (.int c),.no,.no] σ)(h1:1<=tb.length)(hw:2<w)(ek:c.fmod (tb.length:Int)=(k:Int))
  (fin:∀σ' H',RepB X X.H₀ H' [.sh af (LL tb),.sh af (.int w),.sh af (.int c),.ow ac (tb.map L),.sh ac (.int k)] σ'->rest D σ' H'):tHd X rest D σ H:=by
 have cp:=UA tb [.sh af (LL tb),.sh af (.int w),.sh af (.int c),.no,.no] (fN 0) .sh (by simp[cOf]);have mn:N9 c (tb.length:Int)=ac:=C6 (by rfl');have s0:q0S [.sh af (LL tb),.sh af (.int w),.sh af (.int c),.no,.no]=aa (.nx [.sh af (LL tb),.sh af (.int w),.sh af (.int c),.ow ac (tb.map L),.no]):=by
  unfold q0S;simp[cOf,cp]
 have no:∀(j:Int),(w:Int)≠j->sIf (cIS j) C3 o7 [.sh af (LL tb),.sh af (.int w),.sh af (.int c),.ow ac (tb.map L),.no]=aa (.nx [.sh af (LL tb),.sh af (.int w),.sh af (.int c),.ow ac (tb.map L),.no]):=λj e=>by
  unfold sIf;rw[DH,aU e];rfl
 have s4:q4S [.sh af (LL tb),.sh af (.int w),.sh af (.int c),.ow ac (tb.map L),.no]=aa (.nx [.sh af (LL tb),.sh af (.int w),.sh af (.int c),.ow ac (tb.map L),.sh ac (.int k)]):=by
  unfold q4S;simp[cOf,mn,ek]
 exact⟨X.H₀,_,_,rb,s0,λσ1 H1 rb1=>⟨X.H₀,_,_,rb1,no 0 (by rfl'),λσ2 H2 rb2=>⟨X.H₀,_,_,rb2,no 1 (by rfl'),λσ3 H3 rb3=>⟨X.H₀,_,_,rb3,no 2 (by rfl'),λσ4 H4 rb4=>⟨X.H₀,_,_,rb4,s4,λσ5 H5 rb5=>fin σ5 H5 rb5⟩⟩⟩⟩⟩
theorem z2G(tb:aA):(tb.map L).all rowF=ac:=vy.mpr λx hx=>by
 obtain⟨r,_,rfl⟩:=wg.mp hx;exact T5 r
theorem rd_sp4(rb:RepB X X.H₀ H [.sh af (LL tb),.sh af (.int 4),.sh af (.int c),.no,.no] σ)(h1:1<=tb.length)(hm:∀r∈tb,r.length=m)(m6:m<=6)(fin:∀d v H',TB tb.length m d->Same X.H₀ H'->Rp X.K emp d H' v->D.rt v H'):tSp4 X D σ H:=by
 obtain⟨k,hk,ek⟩:=P4 (x:=c) (n:=tb.length) (by rfl');have m5:N9 c 5=ac:=C6 (by decide);obtain⟨row,hrow⟩:∃row,tb[k]?=aa row:=⟨_,wa hk⟩;have rl:row.length=m:=hm row (vJ hrow);refine rd_hd (w:=4) rb h1 (by decide) ek λσ1 H1⟨O,rb1⟩=>?_;obtain⟨a,vs,b,us,g1,g2,g3,g4,g5,g6,g7,g8,g9⟩:=YM (i:=3) (k:=k) (row:=row.map Dt.int) rb1 rfl (by rw[wy,hrow];rfl) (z2G tb);have atv:atI vs (k:Int)=aa (.ref b):=by
   unfold atI;rw[Cf (by rw[g3,wj];exact hk),n8];exact g4
 refine Sy (rb1.all) DH λH2 s2=>tIf_t ((rb1.mono s2).all) DH λH3 s3=>?_;have s13:=s2.trans s3;refine⟨.ref a,g1,[.sh af (LL tb),.sh af (.int 4),.sh af (.int c),.ow ac (tb.map L),.sh ac (.int k)],.nw,.int k,(rb1.mono s13).all,rfl,λv4 H4 s4 r4=>⟨a,vs,k,.ref b,rfl,Rp.int_.mp r4.sh,SqL.of (s4 _ _ (s13 _ _ g2)),atv,.inl ⟨rfl,us,SqL.of (s4 _ _ (s13 _ _ g6))⟩,?_⟩⟩;have s14:=s13.trans s4;have e5:fOp B3 (fN 2) (fC (.int 5)) [.sh af (LL tb),.sh af (.int 4),.sh af (.int c),.ow ac (tb.map L),.sh ac (.int k)]=aa (.nw,.int (c.fmod 5)):=by simp[cOf,m5]
 refine⟨_,_,_,(rb1.mono s14).all,e5,λv5 H5 s5 r5=>?_⟩;have ev:=Rp.int_.mp r5.sh;subst ev;have s15:=s14.trans s5;refine⟨b,us,.int (c.fmod 5),rfl,rfl,s15 _ _ g6,?_,?_⟩
 .have h5:(100000:Nat)<=sizeLine:=by decide
  rw[g7,wj];rfl'
 .obtain⟨S,hS,rr⟩:=g9 H5 (us++[.int (c.fmod 5)]) (row.map Dt.int++[.int (c.fmod 5)]) s15 (Rps.append (g8 H5 s15) (Rps.one (Rp.int_.mpr rfl)));refine⟨.ref a,g1,fin _ _ _ (YW hk hS rfl ?_) ?_ rr⟩
  .show(decide (((row.map Dt.int++[Dt.int (c.fmod 5)]).length:Int)=m)&&_)=af;rw[aU (by rw[wB,wj];simp;rfl')];rfl
  .exact λz o y=>by
    rw[u6 (λq=>by rw[q,g5]at y;cases y)];exact(rb1.mono s15).below _ _ y
theorem rd_sp7(rb:RepB X X.H₀ H [.sh af (LL tb),.sh af (.int 7),.sh af (.int c),.no,.no] σ)(h1:1<=tb.length)(hm:∀r∈tb,r.length=m)(m1:1<=m)(m6:m<=6)(fin:∀d v H',TB tb.length m d->Same X.H₀ H'->Rp X.K emp d H' v->D.rt v H'):tSp7 X D σ H:=by
 obtain⟨k,hk,ek⟩:=P4 (x:=c) (n:=tb.length) (by rfl');have d5:E7 c 5=ac:=by unfold E7;decide
 have m53:N9 (c.fdiv 5) 3=ac:=C6 (by decide);obtain⟨row,hrow⟩:∃row,tb[k]?=aa row:=⟨_,wa hk⟩;have rl:row.length=m:=hm row (vJ hrow);refine rd_hd (w:=7) rb h1 (by decide) ek λσ1 H1⟨O,rb1⟩=>?_;obtain⟨a,vs,b,us,g1,g2,g3,g4,g5,g6,g7,g8,g9⟩:=YM (i:=3) (k:=k) (row:=row.map Dt.int) rb1 rfl (by rw[wy,hrow];rfl) (z2G tb);have atv:atI vs (k:Int)=aa (.ref b):=by
   unfold atI;rw[Cf (by rw[g3,wj];exact hk),n8];exact g4
 refine Sy (rb1.all) DH λH2 s2=>Sy ((rb1.mono s2).all) DH λH3 s3=>Sy ((rb1.mono (s2.trans s3)).all) DH λH4 s4=>Sy ((rb1.mono (s2.trans (s3.trans s4))).all) DH λH5 s5=>tIf_t ((rb1.mono (s2.trans (s3.trans (s4.trans s5)))).all) DH λH6 s6=>?_;have s16:=s2.trans (s3.trans (s4.trans (s5.trans s6)));obtain⟨j,hj,ej⟩:=P4 (x:=c.fdiv 5) (n:=3) (by decide);have ej:(c.fdiv 5).fmod 3=(j:Int):=ej;obtain⟨v,va,vw,vr⟩:∃v,atI [Dt.bl ac,.str "1",.non] (j:Int)=aa v/\isWh v=af/\∀{B B':Hp}{G G':Hp}{u:V},Rp X.K B v G u->Rp X.K B' v G' u:=by
   match j,hj with
   |0,_=>exact⟨.bl ac,rfl,rfl,λr=>Rp.bl_.mpr (Rp.bl_.mp r)⟩
   |1,_=>exact⟨.str "1",rfl,rfl,λr=>Rp.str_.mpr (Rp.str_.mp r)⟩
   |2,_=>exact⟨.non,rfl,rfl,λr=>Rp.non_.mpr (Rp.non_.mp r)⟩
 have ev:∃f,fVS [.sh af (LL tb),.sh af (.int 7),.sh af (.int c),.ow ac (tb.map L),.sh ac (.int k)]=aa (f,v):=by
   unfold fVS;have sn:nrm .nw v=(.nw,v):=KD v;simp[cOf,d5,m53,ej,va,sn]
 obtain⟨fv,ev⟩:=ev;refine⟨_,_,_,(rb1.mono s16).all,ev,λv7 H7 s7 r7=>?_⟩;have s17:=s16.trans s7;refine⟨.ref a,g1,[.sh af (LL tb),.sh af (.int 7),.sh af (.int c),.ow ac (tb.map L),.sh ac (.int k)],.nw,.int k,(rb1.mono s17).all,rfl,λv8 H8 s8 r8=>⟨a,vs,k,.ref b,rfl,Rp.int_.mp r8.sh,SqL.of (s8 _ _ (s17 _ _ g2)),atv,?_⟩⟩;have s18:=s17.trans s8;have ul:us.length=m:=by rw[g7,wj];exact rl
 refine⟨b,us,0,0,rfl,rfl,s18 _ _ g6,Cf (i:=0) (by rfl'),?_⟩;obtain⟨S,hS,rr⟩:=g9 H8 (us.set 0 v7) ((row.map Dt.int).set 0 v) s18 (Rps.set 0 (g8 H8 s18) (vr r7.sh));refine⟨.ref a,g1,fin _ _ _ (YW hk hS rfl ?_) ?_ rr⟩
 .show(_&&((row.map Dt.int).set 0 v).all isWh)=af;have:((row.map Dt.int).set 0 v).all isWh=af:=w0i.mpr ⟨v,List.mem_set (by rw[wj];rfl') v,by rw[vw];simp⟩;rw[this,Bool.and_false]
 .exact λz o y=>by
   rw[u6 (λq=>by rw[q,g5]at y;cases y)];exact(rb1.mono s18).below _ _ y
end
theorem Jn(R:aA):Q3 [LL R]=aa (LL R):=by
 have cp:=UA R [.sh af (LL R)] (fN 0) .sh (by simp[cOf]);unfold Q3 Fn;simp[cOf,cp]
theorem z5l(r:aG)(x:Int)(h:r.length<=100):u9 (L r) (.lst [.int x])=aa (.nw,L (r++[x])):=by
 show(if(r.map Dt.int).length+1<=1000000 then aa (newL (r.map Dt.int++[.int x])) else ag)=_;rw[ar (by rw[wj];rfl'),show r.map Dt.int++[Dt.int x]=(r++[x]).map Dt.int by simp,T6]
theorem z2H(ns:aG)(h:ns.length<=63):YO [.scr ns]=aa (.bl ac):=by
 obtain⟨n,O,Y,e0,HO,HY,_⟩:=z2y ns;have n1:=HO.n1;have n6:=HO.n6;have eO:=HO.made;have eY:=HY.made;have cO:=Jn O;have cY:=Jn Y;have k5:=D3 ns 5 (by decide);have k6:=D3 ns 6 (by decide);have k7:=D3 ns 7 (by decide);generalize u5 ns 5=x5 at *;generalize u5 ns 6=c at *;generalize u5 ns 7=x7' at *;have m3:N9 x5 3=ac:=C6 (by decide);obtain⟨w,hw,ew⟩:=P4 (x:=x5) (n:=3) (by decide);have ew:x5.fmod 3=(w:Int):=ew;refine Y2 (f:=.nw) rfl ?_ rfl;unfold z2k;refine run (ρ':=[.sh af (.scr ns),.sh ac (.tup [.int n,LL O,LL Y]),.no,.no,.no,.no,.no,.no,.no,.no,.no,.no,.no,.no]) (by simp[cOf,e0]) ?_;refine run (ρ':=[.sh af (.scr ns),.sh ac (.tup [.int n,LL O,LL Y]),.sh ac (.int n),.no,.no,.no,.no,.no,.no,.no,.no,.no,.no,.no]) (by simp[cOf]) ?_;refine run (ρ':=[.sh af (.scr ns),.sh ac (.tup [.int n,LL O,LL Y]),.sh ac (.int n),.sh ac (.int c),.no,.no,.no,.no,.no,.no,.no,.no,.no,.no]) (by simp[cOf,k6]) ?_;have eO':F7 [.int n,.lst (O.map L)]=aa (f8 n O):=eO;have eY':F7 [.int n,.lst (Y.map L)]=aa (f8 n Y):=eY;have cO':Q3 [.lst (O.map L)]=aa (.lst (O.map L)):=cO;have cY':Q3 [.lst (Y.map L)]=aa (.lst (Y.map L)):=cY;refine run (ρ':=[.sh af (.scr ns),.sh ac (.tup [.int n,LL O,LL Y]),.sh ac (.int n),.sh ac (.int c),.sh ac (f8 n O),.no,.no,.no,.no,.no,.no,.no,.no,.no]) (by simp[cOf,cO',eO']) ?_;refine run (ρ':=[.sh af (.scr ns),.sh ac (.tup [.int n,LL O,LL Y]),.sh ac (.int n),.sh ac (.int c),.sh ac (f8 n O),.sh ac (f8 n Y),.no,.no,.no,.no,.no,.no,.no,.no]) (by simp[cOf,cY',eY']) ?_;refine run (ρ':=[.sh af (.scr ns),.sh ac (.tup [.int n,LL O,LL Y]),.sh ac (.int n),.sh ac (.int c),.sh ac (f8 n O),.sh ac (f8 n Y),.sh ac (.int w),.no,.no,.no,.no,.no,.no,.no]) (by simp[cOf,k5,m3,ew]) ?_;by_cases c0:w=0/\n<6
 .obtain⟨hw0,hn⟩:=c0;have m2:N9 c 2=ac:=C6 (by decide);have d2:E7 c 2=ac:=by unfold E7;decide
  have m24:N9 (c.fdiv 2) 4=ac:=C6 (by decide);obtain⟨j,hj,ej⟩:=P4 (x:=c.fdiv 2) (n:=4) (by decide);have ej:(c.fdiv 2).fmod 4=(j:Int):=ej;obtain⟨p,hp,ep⟩:=P4 (x:=c) (n:=2) (by decide);have ep:c.fmod 2=(p:Int):=ep;have HW:Hall (n+1) (Y.map λr=>r++[(p:Int)]):=⟨by rfl',by rfl',by rw[wj];exact HY.m8,λr hr=>by
   obtain⟨r',hr',rfl⟩:=wg.mp hr;rw[wB,HY.wide r' hr'];rfl,λr hr x hx=>by
   obtain⟨r',hr',rfl⟩:=wg.mp hr;rcases wu.mp hx with hx|hx
   .exact HY.small r' hr' x hx
   .rw[wI.mp hx];have:(p:Int).natAbs<2:=by rfl'
    exact w0p this (by decide)⟩
  have eW:=HW.made;have cn:((n+1:Nat):Int)=(n:Int)+1:=by rfl'
  rw[cn]at eW;have cm:j6 1 [3] (iSeq (fAt (fN 1) (fC (.int 2)))) (Tg.one 0) fYes (fOp u9 (fN 0) (fLst (b6 (fOp B3 (fN 1) (fC (.int 2))) fNil))) [.sh af (.scr ns),.sh ac (.tup [.int n,LL O,LL Y]),.sh ac (.int n),.sh ac (.int c),.sh ac (f8 n O),.sh ac (f8 n Y),.sh ac (.int w),.no,.no,.no,.no,.no,.no,.no]=aa (.nw,LL (Y.map λr=>r++[(p:Int)])):=by
   rw[n9 (e:=L) (h:=λr=>L (r++[(p:Int)])) (xs:=Y) (by simp[cOf]) (λr hr=>by
     have a:=z5l r (p:Int) (by rw[HY.wide r hr];rfl');have a:u9 (.lst (r.map Dt.int)) (.lst [.int (p:Int)])=aa (.nw,L (r++[(p:Int)])):=a;simp[cOf,Tg.put,sigD,m2,ep,a])]
   simp[LL,wS]
  have u1:=Iz (LG (n:=n) (m:=n+1) (X:=O) (Y:=Y.map λr=>r++[(p:Int)]) (c:=.lst []) (w:=j) (by rfl') hj);have u2:=Iz (LG (n:=n+1) (m:=n) (X:=Y.map λr=>r++[(p:Int)]) (Y:=O) (c:=.lst []) (w:=j) (by rfl') hj);rw[cn]at u1 u2;generalize (Y.map λr=>r++[(p:Int)])=W at *;have eW':F7 [.int ((n:Int)+1),.lst (W.map L)]=aa (f8 ((n:Int)+1) W):=eW;refine IA ?_;have t:fAnd (j8 (fOp opEq (fN 6) (fC (.int 0)))) (j8 (fOp opLt (fN 2) (fC (.int 6)))) [.sh af (.scr ns),.sh ac (.tup [.int n,LL O,LL Y]),.sh ac (.int n),.sh ac (.int c),.sh ac (f8 n O),.sh ac (f8 n Y),.sh ac (.int w),.no,.no,.no,.no,.no,.no,.no]=aa ac:=by
   have:(n:Int)<6:=by rfl'
   simp[cOf,v6,hw0,this]
  rw[if_t t];refine run (ρ':=[.sh af (.scr ns),.sh ac (.tup [.int n,LL O,LL Y]),.sh ac (.int n),.sh ac (.int c),.sh ac (f8 n O),.sh ac (f8 n Y),.sh ac (.int w),.sh ac (f8 ((n:Int)+1) W),.no,.no,.no,.no,.no,.no]) (by simp[cOf,cm,eW']) ?_;generalize f8 n O=ho at *;generalize f8 ((n:Int)+1) W=hw' at *;simp[cOf,snd_,d2,m24,ej,u1,u2]
 refine run (ρ':=[.sh af (.scr ns),.sh ac (.tup [.int n,LL O,LL Y]),.sh ac (.int n),.sh ac (.int c),.sh ac (f8 n O),.sh ac (f8 n Y),.sh ac (.int w),.no,.no,.no,.no,.no,.no,.no]) (by
   have t:fAnd (j8 (fOp opEq (fN 6) (fC (.int 0)))) (j8 (fOp opLt (fN 2) (fC (.int 6)))) [.sh af (.scr ns),.sh ac (.tup [.int n,LL O,LL Y]),.sh ac (.int n),.sh ac (.int c),.sh ac (f8 n O),.sh ac (f8 n Y),.sh ac (.int w),.no,.no,.no,.no,.no,.no,.no]=aa af:=by
    by_cases q:(w:Int)=0
    .have:¬(n:Int)<6:=λz=>c0 ⟨by rfl',by rfl'⟩;simp[cOf,v6,q,this]
    .simp[cOf,v6,q,show ¬w=0 by rfl']
   show(fAnd _ _ _).bind _=_;rw[t];rfl) ?_
 by_cases c1:w=1
 .have m4:N9 x7' 4=ac:=C6 (by decide);obtain⟨j,hj,ej⟩:=P4 (x:=x7') (n:=4) (by decide);have ej:x7'.fmod 4=(j:Int):=ej;obtain⟨m,hm⟩:∃m:Nat,m=1+j:=⟨_,rfl⟩;have er:=Ll ns 27 m 0 (by decide) (by rfl') (by decide) (by decide);have HT:Hall m [K1 ns 27 m 0]:=⟨by rfl',by rfl',by simp,λr hr=>by rw[wI.mp hr];exact Ed _ _ _ _,λr hr=>by rw[wI.mp hr];exact RL _ _ _ _⟩;have eT:=HT.made;have eT':F7 [.int m,.lst [L (K1 ns 27 m 0)]]=aa (f8 m [K1 ns 27 m 0]):=eT;have d9:E7 c 9=ac:=by unfold E7;decide
  have m9:N9 c 9=ac:=C6 (by decide);have d7:E7 c 7=ac:=by unfold E7;decide
  have m72:N9 (c.fdiv 7) 2=ac:=C6 (by decide);obtain⟨q,hq,eq⟩:=P4 (x:=c) (n:=9) (by decide);have eq:c.fmod 9=(q:Int):=eq;obtain⟨v,hv,ev⟩:=P4 (x:=c.fdiv 7) (n:=2) (by decide);have ev:(c.fdiv 7).fmod 2=(v:Int):=ev;refine IA ?_;rw[if_t (by simp[cOf,v6,c1])];refine run (ρ':=[.sh af (.scr ns),.sh ac (.tup [.int n,LL O,LL Y]),.sh ac (.int n),.sh ac (.int c),.sh ac (f8 n O),.sh ac (f8 n Y),.sh ac (.int w),.no,.sh ac (.int m),.no,.no,.no,.no,.no]) (by simp[cOf,k7,m4,ej,hm]) ?_;refine run (ρ':=[.sh af (.scr ns),.sh ac (.tup [.int n,LL O,LL Y]),.sh ac (.int n),.sh ac (.int c),.sh ac (f8 n O),.sh ac (f8 n Y),.sh ac (.int w),.no,.sh ac (.int m),.sh ac (f8 m [K1 ns 27 m 0]),.no,.no,.no,.no]) (by simp[cOf,er,eT']) ?_;have cm:j6 1 [0,8] (o0 (fN 2)) (Tg.one 0) fYes (i6 ac P3 (b6 (fN 1) (b6 (fOp u9 (fC (.int 40)) (fN 0)) (b6 (fN 2) (b6 (fC (.int 0)) fNil))))) [.sh af (.scr ns),.sh ac (.tup [.int n,LL O,LL Y]),.sh ac (.int n),.sh ac (.int c),.sh ac (f8 n O),.sh ac (f8 n Y),.sh ac (.int w),.no,.sh ac (.int m),.sh ac (f8 m [K1 ns 27 m 0]),.no,.no,.no,.no]=aa (.nw,LL ((av n).map λ(k:Nat)=>K1 ns (40+(k:Int)) m 0)):=by
   rw[n9 (e:=λ(k:Nat)=>.int (0+(k:Int))) (h:=λ(k:Nat)=>L (K1 ns (40+(k:Int)) m 0)) (xs:=av n)
     (by simp[cOf,o0,intD,V7,A3,show(n:Int)<=1000000 by rfl',show -1000000<=(n:Int) by rfl'])
     (fun k hk=>by
      have e:=Ll ns (40+(k:Int)) m 0 (by rfl') (by rfl') (by decide) (by decide);simp[cOf,Tg.put,sigD,e])]
   simp[LL,wS]
  have tl:((av n).map λ(k:Nat)=>K1 ns (40+(k:Int)) m 0).length=n:=by simp
  have tw:∀r∈(av n).map λ(k:Nat)=>K1 ns (40+(k:Int)) m 0,r.length=m:=λr hr=>by
   obtain⟨k,_,rfl⟩:=wg.mp hr;exact Ed _ _ _ _
  generalize ((av n).map λ(k:Nat)=>K1 ns (40+(k:Int)) m 0)=tb at *;refine run (ρ':=[.sh af (.scr ns),.sh ac (.tup [.int n,LL O,LL Y]),.sh ac (.int n),.sh ac (.int c),.sh ac (f8 n O),.sh ac (f8 n Y),.sh ac (.int w),.no,.sh ac (.int m),.sh ac (f8 m [K1 ns 27 m 0]),.sh ac (LL tb),.no,.no,.no]) (by simp[cOf,cm]) ?_;generalize [K1 ns 27 m 0]=TH at *;have e3:b6 (fN 10) (b6 (fOp B3 (fN 3) (fC (.int 9))) (b6 (fOp L5 (fN 3) (fC (.int 9))) fNil)) [.sh af (.scr ns),.sh ac (.tup [.int n,LL O,LL Y]),.sh ac (.int n),.sh ac (.int c),.sh ac (f8 n O),.sh ac (f8 n Y),.sh ac (.int w),.no,.sh ac (.int m),.sh ac (f8 m TH),.sh ac (LL tb),.no,.no,.no]=aa [(.fr,LL tb),(.nw,.int (q:Int)),(.nw,.int (c.fdiv 9))]:=by simp[cOf,m9,d9,eq]
  have e4:fOp u9 (fC (.int 4)) (fOp B3 (fOp L5 (fN 3) (fC (.int 7))) (fC (.int 2))) [.sh af (.scr ns),.sh ac (.tup [.int n,LL O,LL Y]),.sh ac (.int n),.sh ac (.int c),.sh ac (f8 n O),.sh ac (f8 n Y),.sh ac (.int w),.no,.sh ac (.int m),.sh ac (f8 m TH),.sh ac (LL tb),.no,.no,.no]=aa (.nw,.int (4+(v:Int))):=by simp[cOf,d7,m72,ev]
  have fu:=z57 (c:=U9) (Pre:=preS) (Post:=YN) (F1:=fN 4) (F2:=fN 9) (ρ:=[.sh af (.scr ns),.sh ac (.tup [.int n,LL O,LL Y]),.sh ac (.int n),.sh ac (.int c),.sh ac (f8 n O),.sh ac (f8 n Y),.sh ac (.int w),.no,.sh ac (.int m),.sh ac (f8 m TH),.sh ac (LL tb),.no,.no,.no]) (x1:=nrm .fr (f8 n O)) (x2:=nrm .fr (f8 m TH)) rfl rfl e3 e4 ⟨tb,m,q,c.fdiv 9,rfl,by rfl',by rfl',tw,by rfl',by rfl',hq⟩ (λd hd=>by
     obtain⟨tb',rest,e,hd⟩:=hd;have e:[LL tb,Dt.int (q:Int),Dt.int (c.fdiv 9)]=.lst tb'::rest:=e;cases e;rw[wj,tl]at hd;have wd:wid (tb.map L)=m:=by
      cases tb with
      |nil=>simp at tl;rfl'
      |cons r tb=>show(r.map Dt.int).length=m;rw[wj];exact tw r (by simp)
     rw[wd]at hd;exact Iz (Sx hd hv))
  unfold sRet;rw[fu];rfl
 refine run (ρ':=[.sh af (.scr ns),.sh ac (.tup [.int n,LL O,LL Y]),.sh ac (.int n),.sh ac (.int c),.sh ac (f8 n O),.sh ac (f8 n Y),.sh ac (.int w),.no,.no,.no,.no,.no,.no,.no]) (by
   have:¬(w:Int)=1:=by rfl'
   simp[cOf,v6,this]) ?_
 obtain⟨SO,hO,_⟩:=HO.hs;obtain⟨SY,hY,_⟩:=HY.hs;have sO:=YU HO hO;have sY:=YU HY hY;have ai:=UL HO HY hY;have wi:=LB sO sY;obtain⟨d,xi⟩:=Sv sO sY;generalize (O.all λx=>decide (St.j7 x SY=o6 n))=b at *;have ai':Cm [.tup [.int n,.lst (O.map L),.lst (Y.map L)],f8 n Y]=aa (.bl b):=ai;refine run (ρ':=[.sh af (.scr ns),.sh ac (.tup [.int n,LL O,LL Y]),.sh ac (.int n),.sh ac (.int c),.sh ac (f8 n O),.sh ac (f8 n Y),.sh ac (.int w),.no,.no,.no,.no,.sh ac (.bl b),.no,.no]) (by
   generalize f8 n Y=hy at *;generalize f8 n O=ho at *;simp[cOf,snd_,ai']) ?_
 refine run (ρ':=[.sh af (.scr ns),.sh ac (.tup [.int n,LL O,LL Y]),.sh ac (.int n),.sh ac (.int c),.sh ac (f8 n O),.sh ac (f8 n Y),.sh ac (.int w),.no,.no,.no,.no,.sh ac (.bl b),.sh ac (.bl b),.no]) (by
   generalize f8 n Y=hy at *;generalize f8 n O=ho at *;simp[cOf,snd_,wi]) ?_
 have nn:EI (.bl b) .non=aa (.nw,.bl af):=by cases b<;>rfl
 have nb:opNe (.bl b) (.bl b)=aa (.nw,.bl af):=by cases b<;>rfl
 refine run (ρ':=[.sh af (.scr ns),.sh ac (.tup [.int n,LL O,LL Y]),.sh ac (.int n),.sh ac (.int c),.sh ac (f8 n O),.sh ac (f8 n Y),.sh ac (.int w),.no,.no,.no,.no,.sh ac (.bl b),.sh ac (.bl b),.no]) (by simp[cOf,nn,nb,snd_]) ?_;refine run (ρ':=[.sh af (.scr ns),.sh ac (.tup [.int n,LL O,LL Y]),.sh ac (.int n),.sh ac (.int c),.sh ac (f8 n O),.sh ac (f8 n Y),.sh ac (.int w),.no,.no,.no,.no,.sh ac (.bl b),.sh ac (.bl b),.sh ac (.bl af)]) (by simp[cOf]) ?_;refine run (ρ':=[.sh af (.scr ns),.sh ac (.tup [.int n,LL O,LL Y]),.sh ac (.int n),.sh ac (.int c),.sh ac (f8 n O),.sh ac (f8 n Y),.sh ac (.int w),.no,.no,.no,.no,.sh ac (.bl b),.sh ac (.bl b),.sh ac (.bl (!b))]) (by
   cases b with
   |true=>
    unfold sTry;rw[show b6 (fN 4) (b6 (fN 5) fNil) [.sh af (.scr ns),.sh ac (.tup [.int n,LL O,LL Y]),.sh ac (.int n),.sh ac (.int c),.sh ac (f8 n O),.sh ac (f8 n Y),.sh ac (.int w),.no,.no,.no,.no,.sh ac (.bl ac),.sh ac (.bl ac),.sh ac (.bl af)]=aa [nrm .fr (f8 n O),nrm .fr (f8 n Y)]from rfl,n8];show(M7 [f8 n O,f8 n Y]).bind _=_;rw[xi];rfl
   |false=>exact z2z (xs:=[nrm .fr (f8 n O),nrm .fr (f8 n Y)]) (m:=7) rfl xi rfl (by simp[cOf])) ?_
 have ne:opNe (.bl (!b)) (.bl b)=aa (.nw,.bl ac):=by cases b<;>rfl
 simp[cOf,snd_,ne]
end
noncomputable section
noncomputable def top(i:Nat):aJ:=PySem.Challenge.pw_changehall_k25_halls_that_do_not_fit.main.body.getD i (.Pass ⟨0,0,0,0⟩)
abbrev Fz:aJ:=top 7
theorem SA:FnScope ["value"] ["value"] (b9 Fz):=scm
abbrev GU:aJ:=top 8
theorem z0F:FnScope ["value","length"] ["value","length"] (b9 GU):=scm
abbrev Ew:aJ:=top 9
theorem UQ:FnScope ["length"] ["length"] (b9 Ew):=scm
abbrev Co:aJ:=top 10
theorem SB:FnScope ["length","one_at"] ["length","one_at"] (b9 Co):=scm
abbrev JT:aJ:=top 11
theorem z2I:FnScope ["one","other"] ["one","other"] (b9 JT):=scm
abbrev JU:aJ:=top 12
theorem z2J:FnScope ["one","other"] ["one","other"] (b9 JU):=scm
abbrev GV:aJ:=top 13
theorem z0G:FnScope ["row","often"] ["row","often"] (b9 GV):=scm
abbrev Ex:aJ:=top 14
theorem UR:FnScope ["row","weights"] ["row","weights"] (b9 Ex):=scm
abbrev IB:aJ:=top 16
theorem FD:FnScope ["row","spot","number"] ["row"] (b9 IB):=scm
abbrev DI:aJ:=top 20
theorem PM:FnScope ["value"] ["value"] (b9 DI):=scm
abbrev Ey:aJ:=top 21
theorem US:FnScope ["value","kinds"] ["value","kinds"] (b9 Ey):=scm
abbrev Cp:aJ:=top 22
theorem MU:FnScope ["kinds"] ["kinds"] (b9 Cp):=scm
abbrev DJ:aJ:=top 23
theorem PN:FnScope ["bill","kinds"] ["bill","kinds"] (b9 DJ):=scm
abbrev Ez:aJ:=top 25
theorem UT:FnScope ["kinds","rows"] ["kinds","rows"] (b9 Ez):=scm
abbrev IC:aJ:=top 24
theorem LH:FnScope ["kinds","bills","bill"] ["kinds","bills"] (b9 IC):=scm
abbrev V0:aJ:=top 26
theorem GW:FnScope ["kinds","basket"] ["kinds","basket"] (b9 V0):=scm
abbrev Bc:aJ:=top 27
theorem LI:FnScope ["hall","basket"] ["hall","basket"] (b9 Bc):=scm
abbrev LJ:aJ:=top 28
theorem z0H:FnScope ["hall"] ["hall"] (b9 LJ):=scm
abbrev PP:aJ:=top 29
theorem z2K:FnScope ["hall","one","other"] ["hall","one","other"] (b9 PP):=scm
abbrev DK:aJ:=top 31
theorem R4:FnScope ["a","b","upper","lower","often","left"] ["a","b"] (b9 DK):=scm
abbrev UU:aJ:=top 32
theorem z5m:FnScope ["a","part"] ["a","part"] (b9 UU):=scm
abbrev ID:aJ:=top 33
theorem Cq:FnScope ["numbers","found","number"] ["numbers"] (b9 ID):=scm
abbrev FG:aJ:=top 35
theorem M9:FnScope ["row","rungs","left","counts","rung","spot","often"] ["row","rungs"] (b9 FG):=scm
abbrev IE:aJ:=top 36
theorem UV:FnScope ["row","rungs"] ["row","rungs"] (b9 IE):=scm
abbrev IF:aJ:=top 37
theorem Ax:FnScope ["rung","row","spot","found","upper","lower"] ["rung","row"] (b9 IF):=scm
abbrev DL:aJ:=top 38
theorem PQ:FnScope ["row"] ["row"] (b9 DL):=scm
abbrev Cr:aJ:=top 39
theorem R5:FnScope ["rungs","row","found","left","places","pair"] ["rungs","row"] (b9 Cr):=scm
abbrev LK:aJ:=top 40
theorem IG:FnScope ["rungs","found","rung"] ["rungs"] (b9 LK):=scm
abbrev II:aJ:=top 41
theorem Ct:FnScope ["rows","rungs","row"] ["rows"] (b9 II):=scm
abbrev S9:aJ:=top 42
theorem JI:FnScope ["rows","tags"] ["rows","tags"] (b9 S9):=scm
abbrev N7:aJ:=top 43
theorem GX:FnScope ["rungs","width"] ["rungs","width"] (b9 N7):=scm
abbrev P5:aJ:=top 44
theorem IJ:FnScope ["rungs"] ["rungs"] (b9 P5):=scm
abbrev PR:aJ:=top 45
theorem z2L:FnScope ["hall"] ["hall"] (b9 PR):=scm
abbrev M0:aJ:=top 46
theorem Ay:FnScope ["hall","many"] ["hall"] (b9 M0):=scm
abbrev DM:aJ:=top 48
theorem GY:FnScope ["one","other"] ["one","other"] (b9 DM):=scm
abbrev LM:aJ:=top 49
theorem z0I:FnScope ["one","other"] ["one","other"] (b9 LM):=scm
abbrev z2M:aJ:=top 50
theorem sc_met:FnScope ["one","other","ours","theirs","both"] ["one","other"] (b9 z2M):=scm
abbrev GZ:aJ:=top 51
theorem IK:FnScope ["one","other","rungs"] ["one","other"] (b9 GZ):=scm
abbrev FH:aJ:=top 52
theorem DN:FnScope ["one","other","ours","theirs"] ["one","other"] (b9 FH):=scm
abbrev IL:aJ:=top 55
theorem FJ:FnScope ["hall","one","other","back","left"] ["hall","one","other"] (b9 IL):=scm
abbrev UW:aJ:=top 54
theorem z5n:FnScope ["hall","one","other"] ["hall","one","other"] (b9 UW):=scm
abbrev Ha:aJ:=top 57
theorem z0J:FnScope ["rows","width"] ["rows","width"] (b9 Ha):=scm
abbrev Cu:aJ:=top 58
theorem DO:FnScope ["rows","place","row"] ["rows"] (b9 Cu):=scm
abbrev JV:aJ:=top 59
theorem z2N:FnScope ["row","part"] ["row","part"] (b9 JV):=scm
abbrev Z6:aJ:=top 60
theorem N0:FnScope ["rows","tags","whole","many","square","weights","other","both"] ["rows","tags","whole"] (b9 Z6):=scm
abbrev LN:aJ:=top 61
theorem Z7:FnScope ["one","other","found","common","least","upper","lower"] ["one","other"] (b9 LN):=scm
abbrev EA:aJ:=top 62
theorem Az:FnScope ["measured","found","first","second","pair"] ["measured"] (b9 EA):=scm
abbrev N1:aJ:=top 63
theorem K8:FnScope ["hall","kinds","rungs","many","both","square","whole","bound"] ["hall"] (b9 N1):=scm
abbrev Hb:aJ:=top 65
theorem z0K:FnScope ["hall"] ["hall"] (b9 Hb):=scm
abbrev UX:aJ:=top 66
theorem z5o:FnScope ["way","scale"] ["way","scale"] (b9 UX):=scm
abbrev V1:aJ:=top 67
theorem Hc:FnScope ["scale","found"] ["scale","found"] (b9 V1):=scm
abbrev LO:aJ:=top 68
theorem EB:FnScope ["hall","one","other","way","scale","found"] ["hall","one","other"] (b9 LO):=scm
abbrev Cv:aJ:=top 70
theorem SC:FnScope ["one","table","other"] ["one","table","other"] (b9 Cv):=scm
abbrev Cw:aJ:=top 71
theorem MV:FnScope ["one","table","other"] ["one","table","other"] (b9 Cw):=scm
abbrev PU:aJ:=top 72
theorem z2O:FnScope ["one","table","other","rungs"] ["one","table","other"] (b9 PU):=scm
abbrev LP:aJ:=top 73
theorem z0L:FnScope ["one","table","other","rungs","goods","both"] ["one","table","other"] (b9 LP):=scm
abbrev DP:aJ:=top 75
theorem PV:FnScope ["_law_script","_law_k"] ["_law_script","_law_k"] (b9 DP):=scm
abbrev IM:aJ:=top 76
theorem UY:FnScope ["_law_found"] ["_law_found"] (b9 IM):=scm
abbrev FL:aJ:=top 77
theorem Jo:FnScope ["_law_found","_law_size","_law_number_here"] ["_law_found","_law_size"] (b9 FL):=scm
abbrev FM:aJ:=top 78
theorem AQ:FnScope ["_law_cell","_law_mode","_law_number_here","_law_wide"] ["_law_cell","_law_mode"] (b9 FM):=scm
abbrev JW:aJ:=top 79
theorem z2P:FnScope ["_law_script","_law_at","_law_size","_law_mode"] ["_law_script","_law_at","_law_size","_law_mode"] (b9 JW):=scm
abbrev Hd:aJ:=top 80
theorem He:FnScope ["_law_size","_law_rows","_law_times","_law_made","_law_j"] ["_law_size","_law_rows","_law_times"] (b9 Hd):=scm
abbrev Hf:aJ:=top 81
theorem z0M:FnScope ["_law_one","_law_other","_law_times"] ["_law_one","_law_other","_law_times"] (b9 Hf):=scm
abbrev IN:aJ:=top 82
theorem Cy:FnScope ["_law_weights","_law_row_here","_law_made","_law_k"] ["_law_weights","_law_row_here"] (b9 IN):=scm
abbrev IP:aJ:=top 83
theorem UZ:FnScope ["_law_bills","_law_one","_law_other","_law_uses"] ["_law_bills","_law_one","_law_other","_law_uses"] (b9 IP):=scm
abbrev FN:aJ:=top 84
theorem Jp:FnScope ["_law_bills","_law_one","_law_other","_law_scale","_law_bill"] ["_law_bills","_law_one","_law_other","_law_scale"] (b9 FN):=scm
abbrev Hg:aJ:=top 85
theorem I0:FnScope ["_law_script","_law_mode","_law_kinds","_law_many","_law_others","_law_one","_law_other"] ["_law_script"] (b9 Hg):=scm
abbrev Cz:aJ:=top 86
theorem SD:FnScope ["_law_rows"] ["_law_rows"] (b9 Cz):=scm
abbrev LQ:aJ:=top 87
theorem IQ:FnScope ["_law_hall","_law_bills","_law_one","_law_other","_law_uses","_law_scale"] ["_law_hall","_law_bills","_law_one","_law_other"] (b9 LQ):=scm
abbrev IR:aJ:=top 88
theorem Va:FnScope ["_law_one","_law_other","_law_table","_law_which"] ["_law_one","_law_other","_law_table","_law_which"] (b9 IR):=scm
abbrev FQ:aJ:=top 89
theorem W6:FnScope ["_law_one","_law_other","_law_table","_law_which","_law_refused","e"] ["_law_one","_law_other","_law_table","_law_which"] (b9 FQ):=scm
abbrev V2:aJ:=top 90
theorem J0:FnScope ["_law_table","_law_way","_law_cell","_law_made","_law_at"] ["_law_table","_law_way","_law_cell"] (b9 V2):=scm
abbrev CA:aJ:=top 91
theorem R6:FnScope ["_law_drawn","_law_other","_law_empty","_law_level","_law_bill","_law_found"] ["_law_drawn","_law_other"] (b9 CA):=scm
abbrev SE:aJ:=top 92
theorem Q6:FnScope ["_law_script","_law_drawn","_law_kinds","_law_cell","_law_one","_law_other","_law_way","_law_wider","_law_size","_law_there","_law_table","_law_due","_law_found","_law_refused"] ["_law_script"] (b9 SE):=scm
set_option genInjectivity false in
structure Adr where
 LY:aj
 LZ:ak
 SS:aj
 SU:ak
 NR:aj
 NS:ak
 Ma:aj
 Mc:ak
 Zs:aj
 Zt:ak
 Zu:aj
 Zv:ak
 SV:aj
 SW:ak
 NT:aj
 NU:ak
 NV:aj
 NW:ak
 Jv:aj
 Jw:ak
 NX:aj
 NY:ak
 Hq:aj
 Hr:ak
 Jx:aj
 Jy:ak
 NZ:aj
 Oa:ak
 Ob:aj
 Od:ak
 BA:aj
 BB:ak
 EN:aj
 EO:ak
 SX:aj
 SZ:ak
 Zw:aj
 Zx:ak
 Ta:aj
 Tb:ak
 z4g:aj
 z4h:ak
 Oe:aj
 Og:ak
 Md:aj
 Me:ak
 Oh:aj
 Oi:ak
 Oj:aj
 Ol:ak
 Jz:aj
 JA:ak
 Mf:aj
 Mg:ak
 Tc:aj
 Td:ak
 Om:aj
 Oo:ak
 DT:aj
 DU:ak
 BD:aj
 BE:ak
 CK:aj
 CL:ak
 Zy:aj
 Zz:ak
 AR:aj
 AS:ak
 DV:aj
 DW:ak
 Tf:aj
 Th:ak
 a_met:aj
 d_met:ak
 Mh:aj
 Mi:ak
 Mj:aj
 Mk:ak
 Op:aj
 Oq:ak
 z4i:aj
 z4j:ak
 Ti:aj
 Tj:ak
 Ml:aj
 Mm:ak
 ZA:aj
 ZB:ak
 Os:aj
 Ot:ak
 Tk:aj
 Tl:ak
 Ou:aj
 Ov:ak
 Mn:aj
 Mo:ak
 Tm:aj
 Tn:ak
 z4k:aj
 z4l:ak
 BG:aj
 BH:ak
 To:aj
 Tp:ak
 Mp:aj
 Mq:ak
 Ht:aj
 Hu:ak
 ZC:aj
 ZD:ak
 Tq:aj
 Tr:ak
 JB:aj
 JC:ak
 Ow:aj
 Ox:ak
 Mr:aj
 Mt:ak
 Mu:aj
 Mv:ak
 ZE:aj
 ZF:ak
 ZG:aj
 ZH:ak
 Ts:aj
 Tt:ak
 Oy:aj
 Oz:ak
 OA:aj
 OB:ak
 Mx:aj
 My:ak
 ZI:aj
 ZJ:ak
 MA:aj
 MB:ak
 Tu:aj
 Tv:ak
 OC:aj
 OD:ak
 MC:aj
 ME:ak
 AB:aj
 AC:ak
 MF:aj
 MG:ak
 a_law:aj
 ZK:ak
 Y6:Tok
 Y7:Tok
 x_HallError:aj
 x_NotWithin:aj
 x_Unlike:aj
structure Facts(K:aD)(mg:aE)(A:Adr):Prop where
 Ra:mg "ValueError"=ag
 n_abs:mg "abs"=ag
 ZM:mg "all"=ag
 n_any:mg "any"=ag
 XY:mg "bool"=ag
 W7:mg "enumerate"=ag
 ZN:mg "int"=ag
 B8:mg "isinstance"=ag
 K6:mg "len"=ag
 L4:mg "list"=ag
 E6:mg "range"=ag
 XZ:mg "reversed"=ag
 z4m:mg "sorted"=ag
 n_sum:mg "sum"=ag
 EC:mg "tuple"=ag
 ZO:mg "zip"=ag
 Rb:mg "MOST_BILLS"=aa (.int 8 A.Y6)
 Rc:mg "MOST_KINDS"=aa (.int 6 A.Y7)
 FZ:Df K mg "is_whole" Fz ["value"] A.LY A.LZ
 Hv:Df K mg "is_row" GU ["value","length"] A.SS A.SU
 ED:Df K mg "noughts" Ew ["length"] A.NR A.NS
 Gc:Df K mg "unit_row" Co ["length","one_at"] A.Ma A.Mc
 JX:Df K mg "added" JT ["one","other"] A.Zs A.Zt
 JY:Df K mg "taken" JU ["one","other"] A.Zu A.Zv
 O8:Df K mg "scaled" GV ["row","often"] A.SV A.SW
 OE:Df K mg "weighed" Ex ["row","weights"] A.NT A.NU
 F8:Df K mg "head_at" IB ["row"] A.NV A.NW
 JD:Df K mg "are_kinds" DI ["value"] A.Jv A.Jw
 OF:Df K mg "is_bill" Ey ["value","kinds"] A.NX A.NY
 Hw:Df K mg "need_kinds" Cp ["kinds"] A.Hq A.Hr
 JE:Df K mg "need_bill" DJ ["bill","kinds"] A.Jx A.Jy
 OG:Df K mg "hall_by" Ez ["kinds","rows"] A.NZ A.Oa
 BJ:Df K mg "hall_of" IC ["kinds","bills"] A.Ob A.Od
 BK:Df K mg "need_basket_of" V0 ["kinds","basket"] A.BA A.BB
 Be:Df K mg "need_basket" Bc ["hall","basket"] A.EN A.EO
 Tw:Df K mg "nought" LJ ["hall"] A.SX A.SZ
 Rf:Df K mg "apart" PP ["hall","one","other"] A.Zw A.Zx
 MH:Df K mg "bridge" DK ["a","b"] A.Ta A.Tb
 Yb:Df K mg "rest" UU ["a","part"] A.z4g A.z4h
 IU:Df K mg "product" ID ["numbers"] A.Oe A.Og
 MI:Df K mg "lowering" FG ["row","rungs"] A.Md A.Me
 Z8:Df K mg "lowered" IE ["row","rungs"] A.Oh A.Oi
 OH:Df K mg "crossed" IF ["rung","row"] A.Oj A.Ol
 JF:Df K mg "turned_up" DL ["row"] A.Jz A.JA
 MJ:Df K mg "with_row" Cr ["rungs","row"] A.Mf A.Mg
 Tx:Df K mg "evened" LK ["rungs"] A.Tc A.Td
 EE:Df K mg "climbed" II ["rows"] A.Om A.Oo
 T0:Df K mg "tagged_stair" S9 ["rows","tags"] A.DT A.DU
 BL:Df K mg "tags_at_nought" N7 ["rungs","width"] A.BD A.BE
 X7:Df K mg "heads_product" P5 ["rungs"] A.CK A.CL
 Hx:Df K mg "stair" PR ["hall"] A.Zy A.Zz
 AU:Df K mg "stair_with_uses" M0 ["hall"] A.AR A.AS
 R7:Df K mg "need_like" DM ["one","other"] A.DV A.DW
 Ty:Df K mg "joined" LM ["one","other"] A.Tf A.Th
 f_met:Df K mg "met" z2M ["one","other"] A.a_met A.d_met
 BM:Df K mg "within" GZ ["one","other"] A.Mh A.Mi
 Gd:Df K mg "index_in" FH ["one","other"] A.Mj A.Mk
 OI:Df K mg "settled" IL ["hall","one","other"] A.Op A.Oq
 z4n:Df K mg "plan" UW ["hall","one","other"] A.z4i A.z4j
 Hy:Df K mg "turned" Ha ["rows","width"] A.Ti A.Tj
 MK:Df K mg "is_slant" Cu ["rows"] A.Ml A.Mm
 Hz:Df K mg "rests" JV ["row","part"] A.ZA A.ZB
 OJ:Df K mg "slanted" Z6 ["rows","tags","whole"] A.Os A.Ot
 Tz:Df K mg "linked" LN ["one","other"] A.Tk A.Tl
 OK:Df K mg "chained" EA ["measured"] A.Ou A.Ov
 ML:Df K mg "measures" N1 ["hall"] A.Mn A.Mo
 TC:Df K mg "scales" Hb ["hall"] A.Tm A.Tn
 z4o:Df K mg "tilt" UX ["way","scale"] A.z4k A.z4l
 BN:Df K mg "measured_scale" V1 ["scale","found"] A.BG A.BH
 TD:Df K mg "denial" LO ["hall","one","other"] A.To A.Tp
 MM:Df K mg "is_table" Cv ["one","table","other"] A.Mp A.Mq
 CC:Df K mg "need_table" Cw ["one","table","other"] A.Ht A.Hu
 ZP:Df K mg "sound" PU ["one","table","other"] A.ZC A.ZD
 TF:Df K mg "pulled" LP ["one","table","other"] A.Tq A.Tr
 D6:Df K mg "_law_cell_at" DP ["_law_script","_law_k"] A.JB A.JC
 IV:Df K mg "_law_whole" IM ["_law_found"] A.Ow A.Ox
 Ge:Df K mg "_law_is_row" FL ["_law_found","_law_size"] A.Mr A.Mt
 MN:Df K mg "_law_number" FM ["_law_cell","_law_mode"] A.Mu A.Mv
 HA:Df K mg "_law_row" JW ["_law_script","_law_at","_law_size","_law_mode"] A.ZE A.ZF
 ZQ:Df K mg "_law_sum" Hd ["_law_size","_law_rows","_law_times"] A.ZG A.ZH
 MO:Df K mg "_law_plus" Hf ["_law_one","_law_other","_law_times"] A.Ts A.Tt
 IW:Df K mg "_law_heavy" IN ["_law_weights","_law_row_here"] A.Oy A.Oz
 OL:Df K mg "_law_leads" IP ["_law_bills","_law_one","_law_other","_law_uses"] A.OA A.OB
 MP:Df K mg "_law_denies" FN ["_law_bills","_law_one","_law_other","_law_scale"] A.Mx A.My
 ZR:Df K mg "_law_two" Hg ["_law_script"] A.ZI A.ZJ
 Gf:Df K mg "_law_copied" Cz ["_law_rows"] A.MA A.MB
 TJ:Df K mg "_law_same" LQ ["_law_hall","_law_bills","_law_one","_law_other"] A.Tu A.Tv
 IX:Df K mg "_law_asked" IR ["_law_one","_law_other","_law_table","_law_which"] A.OC A.OD
 CD:Df K mg "_law_unlike" FQ ["_law_one","_law_other","_law_table","_law_which"] A.MC A.ME
 CG:Df K mg "_law_spoilt" V2 ["_law_table","_law_way","_law_cell"] A.AB A.AC
 MQ:Df K mg "_law_all_in" CA ["_law_drawn","_law_other"] A.MF A.MG
 f_law:Df K mg "law" SE ["_law_script"] A.a_law A.ZK
 x_NotWithin:Xc K mg 7 A.x_NotWithin
 x_Unlike:Xc K mg 5 A.x_Unlike
 h_HallError:Hit K mg h_HallError "HallError" A.x_HallError
 h_NotWithin:Hit K mg h_NotWithin "NotWithin" A.x_NotWithin
 h_Unlike:Hit K mg h_Unlike "Unlike" A.x_Unlike
section
variable {K:aD}{mg:aE}{P:aL}{w:aH}{base:aV}{A:Adr}
section
variable (T:Facts K mg A)
include T
theorem Jq:FK P w K mg base 1 A.LY A.LZ ["value"] ac P9:=
 T.FZ.d 0 EZ SA (λhr hu=>
  (i9 (j9 (Nk (EJ (T :="int") rfl rfl T.B8 rfl T.ZN (by decide +kernel) (b8 0)) (Nj (p_not (EJ (T :="bool") rfl rfl T.B8 rfl T.XY (by decide +kernel) (b8 0))))))))
theorem IS:FK P w K mg base 2 A.SS A.SU ["value","length"] ac K2:=
 T.Hv.d 1 Dj z0F (λhr hu=>
  (d8 (s_if (PFW.pt (w_or (V6 (T1 (EJ (T := "list") rfl rfl T.B8 rfl T.L4 (by decide +kernel) (b8 0)) (fun _=>rfl))) (Gn (t_cm (o_ne hu) (p_bu J9 T.K6 (q_n 0 f9)) (b8 1))))) (i9 (j9 p_bl)) u7)
   (i9 (j9 (p_bu (Yo rfl) T.ZM (i7 (p_co ["number"] 1 [] ["value","length"] (b9 GU).names (E3 (b8 0)) (λ_ _ _ _ _=>(p_ca (Jq T) T.FZ hr (q_n 0 f9)))) f9))))))
theorem FU:FK P w K mg base 1 A.NR A.NS ["length"] ac U1:=
 T.ED.d 0 Ib UQ (λhr hu=>
  (i9 (j9 (p_co ["spot"] 1 [] ["length"] (b9 Ew).names (D8 rfl T.E6 (b8 0)) (λ_ _ _ _ _=>i8)))))
theorem Jr:FK P w K mg base 1 A.Ma A.Mc ["length","one_at"] ac Q1:=
 T.Gc.d 0 Fd SB (λhr hu=>
  (i9 (j9 (p_co ["spot","one_at"] 1 [1] ["length","one_at"] (b9 Co).names (D8 rfl T.E6 (b8 0)) (λ_ _ _ _ _=>(p_if (t_cm (o_eq hu) (b8 0) (b8 1)) i8 i8))))))
theorem LR:FK P w K mg base 1 A.Zs A.Zt ["one","other"] ac Ek:=
 T.JX.d 0 Pi z2I (λhr hu=>
  (i9 (j9 (X1 (g:=(Tg.many [0,1])) (A1 (N:=["a","b"]) (nt:=2) (js:=[]) ["one","other"] (b9 JT).names rfl rfl rfl (by decide +kernel)) rfl (Yu rfl T.ZO (b8 0) (b8 1)) (λ_ _ _ _ _=>Ad rfl (C4 (B5 (ndp ["a","b"]) rfl (ax rfl) (aW rfl)) (C4 (B5 (ndp ["a","b"]) rfl (ax rfl) (aW rfl)) Ac))) (jlt [0,1] 2) (λ_ _ _ _ _=>Ae) (λ_ _ _ _ _=>(p_op J8 (b8 0) (b8 1))) (jlt [] 2)))))
theorem LS:FK P w K mg base 1 A.Zu A.Zv ["one","other"] ac Cg:=
 T.JY.d 0 Pj z2J (λhr hu=>
  (i9 (j9 (X1 (g:=(Tg.many [0,1])) (A1 (N:=["a","b"]) (nt:=2) (js:=[]) ["one","other"] (b9 JU).names rfl rfl rfl (by decide +kernel)) rfl (Yu rfl T.ZO (b8 0) (b8 1)) (λ_ _ _ _ _=>Ad rfl (C4 (B5 (ndp ["a","b"]) rfl (ax rfl) (aW rfl)) (C4 (B5 (ndp ["a","b"]) rfl (ax rfl) (aW rfl)) Ac))) (jlt [0,1] 2) (λ_ _ _ _ _=>Ae) (λ_ _ _ _ _=>(p_op z1q (b8 0) (b8 1))) (jlt [] 2)))))
theorem N8:FK P w K mg base 1 A.SV A.SW ["row","often"] ac K3:=
 T.O8.d 0 KZ z0G (λhr hu=>
  (i9 (j9 (p_co ["number","often"] 1 [1] ["row","often"] (b9 GV).names (E3 (b8 0)) (λ_ _ _ _ _=>(p_op Bh (b8 1) (b8 0)))))))
theorem Vb:FK P w K mg base 1 A.NT A.NU ["row","weights"] ac El:=
 T.OE.d 0 Ic UR (λhr hu=>
  (i9 (j9 (p_bu (c_sum rfl) T.n_sum (i7 (X1 (g:=(Tg.many [0,1])) (A1 (N:=["a","b"]) (nt:=2) (js:=[]) ["row","weights"] (b9 Ex).names rfl rfl rfl (by decide +kernel)) rfl (Yu rfl T.ZO (b8 0) (b8 1)) (λ_ _ _ _ _=>Ad rfl (C4 (B5 (ndp ["a","b"]) rfl (ax rfl) (aW rfl)) (C4 (B5 (ndp ["a","b"]) rfl (ax rfl) (aW rfl)) Ac))) (jlt [0,1] 2) (λ_ _ _ _ _=>Ae) (λ_ _ _ _ _=>(p_op Bh (b8 0) (b8 1))) (jlt [] 2)) f9)))))
theorem J1:FK P w K mg base 1 A.NV A.NW ["row"] ac o9:=
 T.F8.d 0 Ie FD (λhr hu=>
  (d8 (Bj (rels:=[]) (g:=(Tg.many [1,2])) PassesOwn.never rfl (Kt rfl T.W7 (b8 0)) (Ad rfl (C4 (B5 (i:=1) FD.nd rfl (Or.inl rfl) (Or.inl rfl)) (C4 (B5 (i:=2) FD.nd rfl (Or.inl rfl) (Or.inl rfl)) Ac))) (i9 (s_if (t_cm (o_ne hu) (b8 2) i8) (i9 (j9 (b8 1))) u7)))
   (i9 (j9 (p_bu J9 T.K6 (q_n 0 f9))))))
theorem PX:FK P w K mg base 2 A.Jv A.Jw ["value"] ac AM:=
 T.JD.d 1 Dk PM (λhr hu=>
  (i9 (j9 (Nk (p_ca (Jq T) T.FZ hr (q_n 0 f9)) (Nj (z4L o_le o_le i8 (b8 0) (z1o rfl T.Rc)))))))
theorem Vc:FK P w K mg base 3 A.NX A.NY ["value","kinds"] ac Em:=
 T.OF.d 2 Ig US (λhr hu=>
  (i9 (j9 (Nk (p_ca (IS T) T.Hv hr (q_n 0 (q_n 1 f9))) (Nj (p_bu (Yo rfl) T.ZM (i7 (p_co ["number"] 1 [] ["value","kinds"] (b9 Ey).names (E3 (b8 0)) (λ_ _ _ _ _=>(p_cm o_lt (p_bu c_abs T.n_abs (q_n 0 f9)) (p_op z1r i8 i8)))) f9)))))))
theorem MW:FK P w K mg base 3 A.Hq A.Hr ["kinds"] ac Y4:=
 T.Hw.d 2 Ch MU (λhr hu=>
  (i9 (s_if (V6 (T1 (p_ca (PX T) T.JD hr (q_n 0 f9)) (λ_=>rfl))) (i9 BZ) u7)))
theorem PY:FK P w K mg base 4 A.Jx A.Jy ["bill","kinds"] ac R1:=
 T.JE.d 3 Dl PN (λhr hu=>
  (i9 (s_if (V6 (T1 (p_ca (Vc T) T.OF hr (q_n 0 (q_n 1 f9))) (λ_=>rfl))) (i9 BZ) u7)))
theorem Vd:FK P w K mg base 1 A.NZ A.Oa ["kinds","rows"] ac En:=
 T.OG.d 0 Ih UT (λhr hu=>
  (i9 (j9 (@CH _ _ _ _ _ (@i7 _ _ _ _ _ (b8 0) (@i7 _ _ _ _ _ (p_ty Rq T.EC (i7 (p_co ["row"] 1 [] ["kinds","rows"] (b9 Ez).names (E3 (b8 1)) (λ_ _ _ _ _=>(p_ty Rq T.EC (q_n 0 f9)))) f9)) f9 rfl) rfl)))))
theorem CB:FK P w K mg base 5 A.Ob A.Od ["kinds","bills"] ac F7:=
 T.BJ.d 4 Ii LH (λhr hu=>
  (d8 (HH (p_ca (MW T) T.Hw hr (q_n 0 f9)))
   (d8 (s_if (PFW.pt (w_or (V6 (T1 (EJ (T :="list") rfl rfl T.B8 rfl T.L4 (by decide +kernel) (b8 1)) (λ_=>rfl))) (Gn (t_cm o_gt (p_bu J9 T.K6 (q_n 1 f9)) (z1o rfl T.Rb))))) (i9 BZ) u7)
   (d8 (Bj (rels:=[]) (g:=(Tg.one 2)) aY rfl (E3 (b8 1)) (T3 LH.nd rfl (ax rfl) (ax rfl)) (i9 (HH (p_ca (PY T) T.JE hr (q_n 2 (q_n 0 f9))))))
   (i9 (j9 (p_ca (Vd T) T.OG hr (q_n 0 (q_n 1 f9)))))))))
theorem Hi:FK P w K mg base 3 A.BA A.BB ["kinds","basket"] ac N3:=
 T.BK.d 2 U2 GW (λhr hu=>
  (i9 (s_if (V6 (T1 (p_ca (IS T) T.Hv hr (q_n 1 (q_n 0 f9))) (λ_=>rfl))) (i9 BZ) u7)))
theorem DQ:FK P w K mg base 4 A.EN A.EO ["hall","basket"] ac O3:=
 T.Be.d 3 Bb LI (λhr hu=>
  (i9 (HH (p_ca (Hi T) T.BK hr (i7 (p_i (b8 0) i8) (q_n 1 f9))))))
theorem z0N:FK P w K mg base 2 A.SX A.SZ ["hall"] ac GL:=
 T.Tw.d 1 La z0H (λhr hu=>
  (i9 (j9 (p_ca (FU T) T.ED hr (i7 (p_i (b8 0) i8) f9)))))
theorem SG:FK P w K mg base 5 A.Zw A.Zx ["hall","one","other"] ac Eo:=
 T.Rf.d 4 Pk z2K (λhr hu=>
  (d8 (HH (p_ca (DQ T) T.Be hr (q_n 0 (q_n 1 f9))))
   (d8 (HH (p_ca (DQ T) T.Be hr (q_n 0 (q_n 2 f9))))
   (i9 (j9 (p_ca (LS T) T.JY hr (q_n 2 (q_n 1 f9))))))))
theorem NO:FK P w K mg base 1 A.Ta A.Tb ["a","b"] ac Dm:=
 T.MH.d 0 Lb R4 (λhr hu=>
  (d8 (E9 (rels:=[]) (u8 (i:=2) (T2 (q_n 0 (i7 i8 (i7 i8 f9)))) R4.nd rfl (Or.inr rfl) rfl (Or.inl rfl)))
   (d8 (E9 (rels:=[]) (u8 (i:=3) (T2 (q_n 1 (i7 i8 (i7 i8 f9)))) R4.nd rfl (aW rfl) rfl (ax rfl)))
   (d8 (OY aY (t_cm (o_ne hu) (p_i (b8 3) i8) i8) (d8 (E9 (rels:=[]) (u8 (i:=4) (p_op O0 (p_i (b8 2) i8) (p_i (b8 3) i8)) R4.nd rfl (aW rfl) rfl (ax rfl)))
   (d8 (E9 (rels:=[]) (a_co 5 R4.nd ["k","upper","often","lower"] 1 [2,4,3] ["a","b","upper","lower","often","left"] (b9 DK).names (D8 rfl T.E6 i8) (λ_ _ _ _ _=>(p_op z1q (p_i (b8 1) (b8 0)) (p_op Bh (b8 2) (p_i (b8 3) (b8 0)))))))
   (d8 (E9 (rels:=[]) (u8 (i:=2) (b8 3) R4.nd rfl (aW rfl) rfl (ax rfl)))
   (i9 (E9 (rels:=[]) (u8 (i:=3) (b8 5) R4.nd rfl (aW rfl) rfl (ax rfl))))))))
   (d8 (s_if (t_cm o_lt (p_i (b8 2) i8) i8) (i9 (E9 (rels:=[]) (u8 (i:=2) (p_co ["number"] 1 [] ["a","b","upper","lower","often","left"] (b9 DK).names (E3 (b8 2)) (λ_ _ _ _ _=>(Nl (b8 0)))) R4.nd rfl (aW rfl) rfl (ax rfl)))) u7)
   (i9 (j9 (p_ty Rq T.EC (q_n 2 f9)))))))))
theorem YX:FK P w K mg base 1 A.z4g A.z4h ["a","part"] ac Dn:=
 T.Yb.d 0 Pl z5m (λhr hu=>
  (d8 (s_if (t_cm (o_eq hu) (b8 1) i8) (i9 (j9 (b8 0))) u7)
   (i9 (j9 (p_op E8 (b8 0) (b8 1))))))
theorem LU:FK P w K mg base 1 A.Oe A.Og ["numbers"] ac Bq:=
 T.IU.d 0 Ij Cq (λhr hu=>
  (d8 (asn 1 i8 Cq.nd)
   (d8 (Bj (rels:=[]) (g:=(Tg.one 2)) aY rfl (E3 (b8 0)) (T3 Cq.nd rfl (ax rfl) (ax rfl)) (i9 (asn 1 (p_op Bh (b8 1) (b8 2)) Cq.nd)))
   (i9 (j9 (b8 1))))))
theorem SH:FK P w K mg base 2 A.Md A.Me ["row","rungs"] ac Ci:=
 T.MI.d 1 Ff M9 (λhr hu=>
  (d8 (asn 2 (p_ty Aa T.L4 (q_n 0 f9)) M9.nd)
   (d8 (Ks (u8 (i:=3) (T2 f9) M9.nd rfl (ax rfl) rfl (ax rfl)))
   (d8 (Bj (rels:=[]) (g:=(Tg.one 4)) aY rfl (E3 (b8 1)) (T3 M9.nd rfl (ax rfl) (ax rfl)) (d8 (asn 5 (p_ca (J1 T) T.F8 hr (q_n 4 f9)) M9.nd)
   (d8 (asn 6 (p_op O0 (p_i (b8 2) (b8 5)) (p_i (b8 4) (b8 5))) M9.nd)
   (d8 (s_if (t_cm (o_ne hu) (b8 6) i8) (i9 (asn 2 (p_ca (LS T) T.JY hr (q_n 2 (i7 (p_ca (N8 T) T.O8 hr (q_n 4 (q_n 6 f9))) f9))) M9.nd)) u7)
   (i9 (s_wr1 (i:=3) mw_app eX F.type_list_append rfl (ax rfl) (b8 6)))))))
   (i9 (j9 (CH (q_n 3 (q_n 2 f9)))))))))
theorem AA:FK P w K mg base 3 A.Oh A.Oi ["row","rungs"] ac B9:=
 T.Z8.d 2 Ik UV (λhr hu=>
  (i9 (j9 (p_i (p_ca (SH T) T.MI hr (q_n 0 (q_n 1 f9))) i8))))
theorem Ve:FK P w K mg base 2 A.Oj A.Ol ["rung","row"] ac Z0:=
 T.OH.d 1 Il Ax (λhr hu=>
  (d8 (asn 2 (p_ca (J1 T) T.F8 hr (q_n 0 f9)) Ax.nd)
   (d8 (asn 3 (p_ca (NO T) T.MH hr (i7 (p_i (b8 0) (b8 2)) (i7 (p_i (b8 1) (b8 2)) f9))) Ax.nd)
   (d8 (asn 4 (p_ca (LR T) T.JX hr (i7 (p_ca (N8 T) T.O8 hr (q_n 0 (i7 (p_i (b8 3) i8) f9))) (i7 (p_ca (N8 T) T.O8 hr (q_n 1 (i7 (p_i (b8 3) i8) f9))) f9))) Ax.nd)
   (d8 (asn 5 (p_ca (LS T) T.JY hr (i7 (p_ca (N8 T) T.O8 hr (q_n 1 (i7 (p_op O0 (p_i (b8 0) (b8 2)) (p_i (b8 3) i8)) f9))) (i7 (p_ca (N8 T) T.O8 hr (q_n 0 (i7 (p_op O0 (p_i (b8 1) (b8 2)) (p_i (b8 3) i8)) f9))) f9))) Ax.nd)
   (i9 (j9 (CH (q_n 4 (q_n 5 f9))))))))))
theorem PZ:FK P w K mg base 2 A.Jz A.JA ["row"] ac G9:=
 T.JF.d 1 Dp PQ (λhr hu=>
  (i9 (j9 (p_if (t_cm o_lt (p_i (b8 0) (p_ca (J1 T) T.F8 hr (q_n 0 f9))) i8) (p_ca (N8 T) T.O8 hr (q_n 0 (i7 (Nl i8) f9))) (p_ty Aa T.L4 (q_n 0 f9))))))
theorem SI:FK P w K mg base 4 A.Mf A.Mg ["rungs","row"] af U3:=
 T.MJ.d 3 Al R5 (λhr hu=>
  (d8 (Ks (u8 (i:=2) (p_ty Aa T.L4 (q_n 0 f9)) R5.nd rfl (Or.inl rfl) rfl (Or.inl rfl)))
   (d8 (CT (u8 (i:=3) (p_ca (AA T) T.Z8 hr (q_n 1 (q_n 2 f9))) R5.nd rfl (aW rfl) rfl (ax rfl)))
   (d8 (OY aY (t_cm o_lt (p_ca (J1 T) T.F8 hr (q_n 3 f9)) (p_bu J9 T.K6 (q_n 3 f9))) (d8 (CT (Rt (i:=4) (g:=(Tg.many [0,1])) R5.nd rfl rfl rfl (A1 (N:=["place","rung","left"]) (nt:=2) (js:=[3]) ["rungs","row","found","left","places","pair"] (b9 Cr).names rfl rfl rfl (by decide +kernel)) rfl (Kt rfl T.W7 (b8 2)) (λ_ _ _ _ _=>Ad rfl (C4 (B5 (ndp ["place","rung","left"]) rfl (ax rfl) (aW rfl)) (C4 (B5 (ndp ["place","rung","left"]) rfl (ax rfl) (aW rfl)) Ac))) (jlt [0,1] 2) (λ_ _ _ _ _=>(Ua (t_cm (o_eq hu) (p_ca (J1 T) T.F8 hr (q_n 1 f9)) (p_ca (J1 T) T.F8 hr (q_n 2 f9))))) (λ_ _ _ _ _=>(b8 0)) (jlt [3] 6)))
   (d8 (s_if (t_cm (o_eq hu) (p_bu J9 T.K6 (q_n 4 f9)) i8) (i9 (j9 (z4Y (J1 T) (hr.mono (by decide)) rfl T.z4m T.F8.mg rfl T.F8.bd (p_op J8 (b8 2) (@T2 _ _ _ _ (@i7 _ _ _ _ _ (p_ca (PZ T) T.JF hr (q_n 3 f9)) f9 rfl)))))) u7)
   (d8 (CT (u8 (i:=5) (p_ca (Ve T) T.OH hr (i7 (p_i (b8 2) (p_i (b8 4) i8)) (q_n 3 f9))) R5.nd rfl (ax rfl) rfl (ax rfl)))
   (d8 (Yy (i:=2) rfl (ax rfl) (p_i (b8 4) i8) (p_i (b8 5) i8))
   (i9 (CT (u8 (i:=3) (p_ca (AA T) T.Z8 hr (i7 (p_i (b8 5) i8) (q_n 2 f9))) R5.nd rfl (aW rfl) rfl (ax rfl)))))))))
   (i9 (j9 (b8 2)))))))
theorem z0O:FK P w K mg base 4 A.Tc A.Td ["rungs"] ac Dq:=
 T.Tx.d 3 Lc IG (λhr hu=>
  (d8 (Ks (u8 (i:=1) (T2 f9) IG.nd rfl (Or.inl rfl) rfl (Or.inl rfl)))
   (d8 (Bj (rels:=[]) (g:=(Tg.one 2)) aY rfl (i_rev rfl T.XZ (b8 0)) (T3 IG.nd rfl (ax rfl) (ax rfl)) (i9 (s_insA (i:=1) rfl (ax rfl) (p_ca (AA T) T.Z8 hr (q_n 2 (q_n 1 f9))))))
   (i9 (j9 (b8 1))))))
theorem FV:FK P w K mg base 5 A.Om A.Oo ["rows"] ac R3:=
 T.EE.d 4 Im Ct (λhr hu=>
  (d8 (asn 1 (T2 f9) Ct.nd)
   (d8 (Bj (rels:=[]) (g:=(Tg.one 2)) aY rfl (E3 (b8 0)) (T3 Ct.nd rfl (ax rfl) (ax rfl)) (i9 (asn 1 (p_ca (z0O T) T.Tx hr (i7 (p_ca (SI T) T.MJ hr (q_n 1 (q_n 2 f9))) f9)) Ct.nd)))
   (i9 (j9 (b8 1))))))
theorem X6:FK P w K mg base 6 A.DT A.DU ["rows","tags"] ac B7:=
 T.T0.d 5 S6 JI (λhr hu=>
  (i9 (j9 (p_ca (FV T) T.EE hr (i7 (X1 (g:=(Tg.many [0,1])) (A1 (N:=["row","tag"]) (nt:=2) (js:=[]) ["rows","tags"] (b9 S9).names rfl rfl rfl (by decide +kernel)) rfl (Yu rfl T.ZO (b8 0) (b8 1)) (λ_ _ _ _ _=>Ad rfl (C4 (B5 (ndp ["row","tag"]) rfl (ax rfl) (aW rfl)) (C4 (B5 (ndp ["row","tag"]) rfl (ax rfl) (aW rfl)) Ac))) (jlt [0,1] 2) (λ_ _ _ _ _=>Ae) (λ_ _ _ _ _=>(p_op J8 (p_ty Aa T.L4 (q_n 0 f9)) (p_ty Aa T.L4 (q_n 1 f9)))) (jlt [] 2)) f9)))))
theorem Hj:FK P w K mg base 2 A.BD A.BE ["rungs","width"] ac C7:=
 T.BL.d 1 U4 GX (λhr hu=>
  (i9 (j9 (X1 (g:=(Tg.one 0)) (A1 (N:=["rung","width"]) (nt:=1) (js:=[1]) ["rungs","width"] (b9 N7).names rfl rfl rfl (by decide +kernel)) rfl (E3 (b8 0)) (λ_ _ _ _ _=>T3 (ndp ["rung","width"]) rfl (ax rfl) (aW rfl)) (show 0<1 by decide) (λ_ _ _ _ _=>(Ua (t_cm o_ge (p_ca (J1 T) T.F8 hr (q_n 0 f9)) (b8 1)))) (λ_ _ _ _ _=>(P1 (b8 0) (X0 (b8 1)) W9)) (jlt [1] 2)))))
theorem Bx:FK P w K mg base 2 A.CK A.CL ["rungs"] ac A9:=
 T.X7.d 1 X4 IJ (λhr hu=>
  (i9 (j9 (p_ca (LU T) T.IU hr (i7 (p_co ["rung"] 1 [] ["rungs"] (b9 P5).names (E3 (b8 0)) (λ_ _ _ _ _=>(p_i (b8 0) (p_ca (J1 T) T.F8 hr (q_n 0 f9))))) f9)))))
theorem Hk:FK P w K mg base 6 A.Zy A.Zz ["hall"] ac L3:=
 T.Hx.d 5 Pm z2L (λhr hu=>
  (i9 (j9 (p_ca (FV T) T.EE hr (i7 (p_i (b8 0) i8) f9)))))
theorem FY:FK P w K mg base 7 A.AR A.AS ["hall"] ac A6:=
 T.AU.d 6 S7 Ay (λhr hu=>
  (d8 (E9 (rels:=[]) (u8 (i:=1) (p_bu J9 T.K6 (i7 (p_i (b8 0) i8) f9)) Ay.nd rfl (Or.inr rfl) rfl (Or.inl rfl)))
   (i9 (j9 (p_ca (X6 T) T.T0 hr (i7 (p_i (b8 0) i8) (i7 (p_co ["place","many"] 1 [1] ["hall","many"] (b9 M0).names (D8 rfl T.E6 (b8 1)) (λ_ _ _ _ _=>(p_ca (Jr T) T.Gc hr (q_n 1 (q_n 0 f9))))) f9)))))))
theorem Bd:FnOk P w K mg base (CX1 P w) 1 A.DV A.DW ["one","other"] (spx K mg ac W4):=
 Fun.datX (k:=0) (F:=Dr) T.R7.fn GY rfl rfl (λcdv A outer s H E hr=>have hu:=hr.units
  (i9 (s_if (t_cm (o_ne hu) (p_i (b8 0) i8) (p_i (b8 1) i8)) (i9 (Pa 5 rfl T.x_Unlike rfl)) u7)))
theorem Qb:FK P w K mg base 1 A.DV A.DW ["one","other"] ac K7:=
 T.R7.d 0 AN GY (λhr hu=>
  (i9 (s_if (t_cm (o_ne hu) (p_i (b8 0) i8) (p_i (b8 1) i8)) (i9 BZ) u7)))
theorem Vf:FnOk P w K mg base (CX1 P w) 6 A.Tf A.Th ["one","other"] (spx K mg ac Lf):=
 Fun.datX (k:=5) (F:=Ld) T.Ty.fn z0I rfl rfl (λcdv A outer s H E hr=>have hu:=hr.units
  (d8 (Gv (Bd T) T.R7 hr rfl (q_n 0 (q_n 1 f9)))
   B0))
theorem z5p:FnOk P w K mg base (CX1 P w) 7 A.a_met A.d_met ["one","other"] (spx K mg ac z2j):=
 Fun.datX (k:=6) (F:=z2i) T.f_met.fn sc_met rfl rfl (λcdv A outer s H E hr=>have hu:=hr.units
  (d8 (Gv (Bd T) T.R7 hr rfl (q_n 0 (q_n 1 f9)))
   B0))
theorem LV:FnOk P w K mg base (CX1 P w) 7 A.Mh A.Mi ["one","other"] (spx K mg ac Am):=
 Fun.datX (k:=6) (F:=Lg) T.BM.fn IK rfl rfl (λcdv A outer s H E hr=>have hu:=hr.units
  (d8 (Gv (Bd T) T.R7 hr rfl (q_n 0 (q_n 1 f9)))
   B0))
theorem NP:FK P w K mg base 7 A.Mh A.Mi ["one","other"] ac D5:=
 T.BM.d 6 GM IK (λhr hu=>
  (d8 (HH (p_ca (Qb T) T.R7 hr (q_n 0 (q_n 1 f9))))
   (d8 (E9 (rels:=[]) (u8 (i:=2) (p_ca (Hk T) T.Hx hr (q_n 1 f9)) IK.nd rfl (aW rfl) rfl (ax rfl)))
   (i9 (j9 (p_bu (Yo rfl) T.ZM (i7 (p_co ["bill","rungs","one"] 1 [2,0] ["one","other","rungs"] (b9 GZ).names (E3 (p_i (b8 0) i8)) (λ_ _ _ _ _=>(p_cm (o_eq hu) (p_ca (AA T) T.Z8 hr (q_n 0 (q_n 1 f9))) (p_ca (FU T) T.ED hr (i7 (p_i (b8 2) i8) f9))))) f9)))))))
theorem Hl:FnOk P w K mg base (CX1 P w) 8 A.Mj A.Mk ["one","other"] (spx K mg ac M7):=
 Fun.datX (k:=7) (F:=U5) T.Gd.fn DN rfl rfl (λcdv A outer s H E hr=>have hu:=hr.units
  (d8 (s_or (s_if (V6 (T1 (p_ca (NP T) T.BM hr (q_n 0 (q_n 1 f9))) (fun _=>rfl))) (i9 (Pa 7 rfl T.x_NotWithin rfl)) u7) (s_ifN (r_call (LV T) T.BM hr rfl (q_n 0 (q_n 1 f9)))))
   (d8 (asn 2 (p_ca (Hk T) T.Hx hr (q_n 0 f9)) DN.nd)
   (d8 (asn 3 (p_ca (Hk T) T.Hx hr (q_n 1 f9)) DN.nd)
   (d8 (s_if (t_cm o_lt (p_bu J9 T.K6 (q_n 2 f9)) (p_bu J9 T.K6 (q_n 3 f9))) (i9 (j9 Bg)) u7)
   (i9 (j9 (p_op O0 (p_ca (Bx T) T.X7 hr (q_n 2 f9)) (p_ca (Bx T) T.X7 hr (q_n 3 f9))))))))))
theorem Vg:FK P w K mg base 8 A.Op A.Oq ["hall","one","other"] ac Ep:=
 T.OI.d 7 Io FJ (λhr hu=>
  (d8 (asn 3 (p_ca (N8 T) T.O8 hr (i7 (p_ca (SG T) T.Rf hr (q_n 0 (q_n 1 (q_n 2 f9)))) (i7 (Nl i8) f9))) FJ.nd)
   (d8 (asn 4 (p_ca (AA T) T.Z8 hr (i7 (p_op J8 (b8 3) (p_ca (FU T) T.ED hr (i7 (p_bu J9 T.K6 (i7 (p_i (b8 0) i8) f9)) f9))) (i7 (p_ca (FY T) T.AU hr (q_n 0 f9)) f9))) FJ.nd)
   (d8 (s_if (t_cm (o_ne hu) (P1 (b8 4) W9 (X0 (p_i (b8 0) i8))) (p_ca (z0N T) T.Tw hr (q_n 0 f9))) (i9 (j9 Bg)) u7)
   (i9 (j9 (P1 (b8 4) (X0 (p_i (b8 0) i8)) W9)))))))
theorem z5q:FK P w K mg base 9 A.z4i A.z4j ["hall","one","other"] ac Ip:=
 T.z4n.d 8 Pn z5n (λhr hu=>
  (i9 (j9 (p_ca (Vg T) T.OI hr (q_n 0 (q_n 1 (q_n 2 f9)))))))
theorem IT:FK P w K mg base 1 A.Ti A.Tj ["rows","width"] ac W5:=
 T.Hy.d 0 Lh z0J (λhr hu=>
  (i9 (j9 (X1 (g:=(Tg.one 0)) (A1 (N:=["spot","rows"]) (nt:=1) (js:=[0]) ["rows","width"] (b9 Ha).names rfl rfl rfl (by decide +kernel)) rfl (D8 rfl T.E6 (b8 1)) (λ_ _ _ _ _=>T3 (ndp ["spot","rows"]) rfl (aW rfl) (ax rfl)) (show 0<1 by decide) (λ_ _ _ _ _=>Ae) (λ_ _ _ _ _=>(X1 (g:=(Tg.one 0)) (by first|exact A1 (N:=["row","spot"]) (nt:=1) (js:=[0]) ["spot","rows"] [(".0",.local),("spot",.cell),("rows",.free)] rfl rfl rfl (by decide +kernel)|exact A1 (N:=["row","spot"]) (nt:=1) (js:=[0]) ["spot","rows"] [(".0",.local),("rows",.free),("spot",.cell)] rfl rfl rfl (by decide +kernel)|exact A1 (N:=["row","spot"]) (nt:=1) (js:=[0]) ["spot","rows"] [(".0",.local),("spot",.cell),("rows",.cell)] rfl rfl rfl (by decide +kernel)|exact A1 (N:=["row","spot"]) (nt:=1) (js:=[0]) ["spot","rows"] [(".0",.local),("rows",.cell),("spot",.cell)] rfl rfl rfl (by decide +kernel)) rfl (E3 (b8 1)) (λ_ _ _ _ _=>T3 (ndp ["row","spot"]) rfl (ax rfl) (aW rfl)) (show 0<1 by decide) (λ_ _ _ _ _=>Ae) (λ_ _ _ _ _=>(p_i (b8 0) (b8 1))) (jlt [0] 2))) (jlt [0] 2)))))
theorem SJ:FK P w K mg base 2 A.Ml A.Mm ["rows"] ac Q2:=
 T.MK.d 1 Cj DO (λhr hu=>
  (d8 (Bj (rels:=[]) (g:=(Tg.many [1,2])) PassesOwn.never rfl (Kt rfl T.W7 (b8 0)) (Ad rfl (C4 (B5 (i:=1) DO.nd rfl (Or.inl rfl) (Or.inl rfl)) (C4 (B5 (i:=2) DO.nd rfl (Or.inl rfl) (Or.inl rfl)) Ac))) (i9 (s_if (PFW.pt (w_or (t_cm (o_ne hu) (p_ca (J1 T) T.F8 hr (q_n 2 f9)) (b8 1)) (Gn (T1 (p_bu (c_any rfl) T.n_any (i7 (p_co ["number"] 1 [] ["rows", "place", "row"] (b9 Cu).names (E3 (P1 (b8 2) (X0 (p_op J8 (b8 1) i8)) W9)) (fun _ _ _ _ _=>(p_cm (o_ne hu) (b8 0) i8))) f9)) (fun _=>rfl))))) (i9 (j9 p_bl)) u7)))
   (i9 (j9 p_bl))))
theorem Hm:FK P w K mg base 2 A.ZA A.ZB ["row","part"] ac V4:=
 T.Hz.d 1 Po z2N (λhr hu=>
  (i9 (j9 (p_co ["number","part"] 1 [1] ["row","part"] (b9 JV).names (E3 (b8 0)) (λ_ _ _ _ _=>(p_ca (YX T) T.Yb hr (q_n 0 (q_n 1 f9))))))))
theorem Vh:FK P w K mg base 7 A.Os A.Ot ["rows","tags","whole"] af Er:=
 T.OJ.d 6 Bs N0 (λhr hu=>
  (d8 (E9 (rels:=[]) (u8 (i:=3) (p_bu J9 T.K6 (q_n 0 f9)) N0.nd rfl (Or.inr rfl) rfl (Or.inl rfl)))
   (d8 (E9 (rels:=[]) (u8 (i:=4) (b8 0) N0.nd rfl (aW rfl) rfl (ax rfl)))
   (d8 (asn 5 (b8 1) N0.nd)
   (d8 (OY aY (V6 (T1 (p_ca (SJ T) T.MK hr (q_n 4 f9)) (λ_=>rfl))) (d8 (asn 6 (p_ca (IT T) T.Hy hr (i7 (p_ca (FV T) T.EE hr (i7 (p_ca (IT T) T.Hy hr (q_n 4 (q_n 3 f9))) f9)) (q_n 3 f9))) N0.nd)
   (d8 (asn 7 (p_ca (X6 T) T.T0 hr (q_n 6 (q_n 5 f9))) N0.nd)
   (d8 (E9 (rels:=[]) (u8 (i:=4) (p_co ["row","many"] 1 [3] ["rows","tags","whole","many","square","weights","other","both"] (b9 Z6).names (E3 (b8 7)) (λ_ _ _ _ _=>(P1 (b8 0) W9 (X0 (b8 1))))) N0.nd rfl (aW rfl) rfl (ax rfl)))
   (i9 (E9 (rels:=[]) (a_co 5 N0.nd ["row","many","whole"] 1 [3,2] ["rows","tags","whole","many","square","weights","other","both"] (b9 Z6).names (E3 (b8 7)) (λ_ _ _ _ _=>(p_ca (Hm T) T.Hz hr (i7 (P1 (b8 0) (X0 (b8 1)) W9) (q_n 2 f9)))))))))))
   (i9 (j9 (X1 (g:=(Tg.many [0,1])) (A1 (N:=["place","row","square"]) (nt:=2) (js:=[4]) ["rows","tags","whole","many","square","weights","other","both"] (b9 Z6).names rfl rfl rfl (by decide +kernel)) rfl (Kt rfl T.W7 (b8 5)) (λ_ _ _ _ _=>Ad rfl (C4 (B5 (ndp ["place","row","square"]) rfl (ax rfl) (aW rfl)) (C4 (B5 (ndp ["place","row","square"]) rfl (ax rfl) (aW rfl)) Ac))) (jlt [0,1] 2) (λ_ _ _ _ _=>Ae) (λ_ _ _ _ _=>(CH (q_n 1 (i7 (p_i (p_i (b8 2) (b8 0)) (b8 0)) f9)))) (jlt [4] 8)))))))))
theorem z0P:FK P w K mg base 3 A.Tk A.Tl ["one","other"] ac An:=
 T.Tz.d 2 Ds Z7 (λhr hu=>
  (d8 (asn 2 (p_ca (NO T) T.MH hr (i7 (p_i (b8 0) i8) (i7 (p_i (b8 1) i8) f9))) Z7.nd)
   (d8 (asn 3 (p_i (b8 2) i8) Z7.nd)
   (d8 (asn 4 (p_op Bh (p_op O0 (p_i (b8 0) i8) (b8 3)) (p_i (b8 1) i8)) Z7.nd)
   (d8 (asn 5 (p_ca (LR T) T.JX hr (i7 (p_i (b8 0) i8) (i7 (p_i (b8 1) i8) f9))) Z7.nd)
   (d8 (asn 6 (p_ca (LR T) T.JX hr (i7 (p_ca (N8 T) T.O8 hr (i7 (p_i (b8 0) i8) (i7 (p_op Bh (Nl (p_i (b8 2) i8)) (p_op O0 (p_i (b8 1) i8) (b8 3))) f9))) (i7 (p_ca (N8 T) T.O8 hr (i7 (p_i (b8 1) i8) (i7 (p_op Bh (p_i (b8 2) i8) (p_op O0 (p_i (b8 0) i8) (b8 3))) f9))) f9))) Z7.nd)
   (i9 (j9 (@CH _ _ _ _ _ (@i7 _ _ _ _ _ (@CH _ _ _ _ _ (@i7 _ _ _ _ _ (p_ca (Hm T) T.Hz hr (q_n 5 (q_n 3 f9))) (@i7 _ _ _ _ _ (b8 3) f9 rfl) rfl)) (@i7 _ _ _ _ _ (@CH _ _ _ _ _ (@i7 _ _ _ _ _ (p_ca (Hm T) T.Hz hr (q_n 6 (q_n 4 f9))) (@i7 _ _ _ _ _ (b8 4) f9 rfl) rfl)) f9 rfl) rfl))))))))))
theorem Vi:FK P w K mg base 4 A.Ou A.Ov ["measured"] ac Z1:=
 T.OK.d 3 Bt Az (λhr hu=>
  (d8 (Ks (u8 (i:=1) (p_ty Aa T.L4 (q_n 0 f9)) Az.nd rfl (Or.inl rfl) rfl (Or.inl rfl)))
   (d8 (z1N (g:=(Tg.one 2)) aY rfl (z0d rfl T.E6 (p_bu J9 T.K6 (q_n 1 f9))) (T3 Az.nd rfl (ax rfl) (ax rfl)) (i9 (z1N (g:=(Tg.one 3)) aY rfl (z0e rfl T.E6 (p_op J8 (b8 2) i8) (p_bu J9 T.K6 (q_n 1 f9))) (T3 Az.nd rfl (ax rfl) (ax rfl)) (d8 (CT (u8 (i:=4) (p_ca (z0P T) T.Tz hr (i7 (p_i (b8 1) (b8 2)) (i7 (p_i (b8 1) (b8 3)) f9))) Az.nd rfl (ax rfl) rfl (ax rfl)))
   (d8 (Yy (i:=1) rfl (ax rfl) (b8 2) (p_i (b8 4) i8))
   (i9 (Yy (i:=1) rfl (ax rfl) (b8 3) (p_i (b8 4) i8))))))))
   (i9 (j9 (X1 (g:=(Tg.many [0,1])) (A1 (N:=["weights","part"]) (nt:=2) (js:=[]) ["measured","found","first","second","pair"] (b9 EA).names rfl rfl rfl (by decide +kernel)) rfl (E3 (b8 1)) (λ_ _ _ _ _=>Ad rfl (C4 (B5 (ndp ["weights","part"]) rfl (ax rfl) (aW rfl)) (C4 (B5 (ndp ["weights","part"]) rfl (ax rfl) (aW rfl)) Ac))) (jlt [0,1] 2) (λ_ _ _ _ _=>Ae) (λ_ _ _ _ _=>(@CH _ _ _ _ _ (@i7 _ _ _ _ _ (p_ca (Hm T) T.Hz hr (q_n 0 (q_n 1 f9))) (@i7 _ _ _ _ _ (b8 1) f9 rfl) rfl))) (jlt [] 5)))))))
theorem SK:FK P w K mg base 8 A.Mn A.Mo ["hall"] af M8:=
 T.ML.d 7 Ao K8 (λhr hu=>
  (d8 (E9 (rels:=[]) (u8 (i:=1) (p_i (b8 0) i8) K8.nd rfl (Or.inr rfl) rfl (Or.inl rfl)))
   (d8 (asn 2 (p_ca (Hk T) T.Hx hr (q_n 0 f9)) K8.nd)
   (d8 (E9 (rels:=[]) (u8 (i:=3) (p_bu J9 T.K6 (q_n 2 f9)) K8.nd rfl (aW rfl) rfl (ax rfl)))
   (d8 (asn 4 (p_ca (X6 T) T.T0 hr (i7 (p_ca (IT T) T.Hy hr (q_n 2 (q_n 1 f9))) (i7 (p_co ["spot","kinds"] 1 [1] ["hall","kinds","rungs","many","both","square","whole","bound"] (b9 N1).names (D8 rfl T.E6 (b8 1)) (λ_ _ _ _ _=>(p_ca (Jr T) T.Gc hr (q_n 1 (q_n 0 f9))))) f9))) K8.nd)
   (d8 (E9 (rels:=[]) (a_co 5 K8.nd ["row","many"] 1 [3] ["hall","kinds","rungs","many","both","square","whole","bound"] (b9 N1).names (E3 (P1 (b8 4) W9 (X0 (b8 3)))) (λ_ _ _ _ _=>(P1 (b8 0) W9 (X0 (b8 1))))))
   (d8 (asn 6 (p_ca (LU T) T.IU hr (i7 (X1 (g:=(Tg.many [0,1])) (A1 (N:=["place","row"]) (nt:=2) (js:=[]) ["hall","kinds","rungs","many","both","square","whole","bound"] (b9 N1).names rfl rfl rfl (by decide +kernel)) rfl (Kt rfl T.W7 (b8 5)) (λ_ _ _ _ _=>Ad rfl (C4 (B5 (ndp ["place","row"]) rfl (ax rfl) (aW rfl)) (C4 (B5 (ndp ["place","row"]) rfl (ax rfl) (aW rfl)) Ac))) (jlt [0,1] 2) (λ_ _ _ _ _=>Ae) (λ_ _ _ _ _=>(p_i (b8 1) (b8 0))) (jlt [] 8)) f9)) K8.nd)
   (d8 (asn 7 (p_ca (Vh T) T.OJ hr (q_n 5 (i7 (p_co ["row","many"] 1 [3] ["hall","kinds","rungs","many","both","square","whole","bound"] (b9 N1).names (E3 (P1 (b8 4) W9 (X0 (b8 3)))) (λ_ _ _ _ _=>(P1 (b8 0) (X0 (b8 1)) W9))) (q_n 6 f9)))) K8.nd)
   (i9 (j9 (p_op J8 (p_ca (Vi T) T.OK hr (q_n 7 f9)) (p_co ["weights"] 1 [] ["hall","kinds","rungs","many","both","square","whole","bound"] (b9 N1).names (E3 (p_ca (Hj T) T.BL hr (q_n 4 (q_n 3 f9)))) (λ_ _ _ _ _=>(CH (q_n 0 (i7 i8 f9))))))))))))))))
theorem z0Q:FK P w K mg base 9 A.Tm A.Tn ["hall"] af S8:=
 T.TC.d 8 Du z0K (λhr hu=>
  (i9 (j9 (X1 (g:=(Tg.many [0,1])) (A1 (N:=["weights","part"]) (nt:=2) (js:=[]) ["hall"] (b9 Hb).names rfl rfl rfl (by decide +kernel)) rfl (E3 (p_ca (SK T) T.ML hr (q_n 0 f9))) (λ_ _ _ _ _=>Ad rfl (C4 (B5 (ndp ["weights","part"]) rfl (ax rfl) (aW rfl)) (C4 (B5 (ndp ["weights","part"]) rfl (ax rfl) (aW rfl)) Ac))) (jlt [0,1] 2) (λ_ _ _ _ _=>(Ua (t_cm (o_ne hu) (b8 1) i8))) (λ_ _ _ _ _=>(CH (q_n 0 (q_n 1 f9)))) (jlt [] 1)))))
theorem z5r:FK P w K mg base 2 A.z4k A.z4l ["way","scale"] ac Dw:=
 T.z4o.d 1 Uq z5o (λhr hu=>
  (i9 (j9 (p_ca (YX T) T.Yb hr (i7 (p_ca (Vb T) T.OE hr (q_n 0 (i7 (p_i (b8 1) i8) f9))) (i7 (p_i (b8 1) i8) f9))))))
theorem Hn:FK P w K mg base 1 A.BG A.BH ["scale","found"] af K4:=
 T.BN.d 0 U6 Hc (λhr hu=>
  (i9 (j9 (@CH _ _ _ _ _ (@i7 _ _ _ _ _ (p_i (b8 0) i8) (@i7 _ _ _ _ _ (p_if (t_cm (o_eq hu) (p_i (b8 0) i8) i8) (p_op J8 (p_bu c_abs T.n_abs (q_n 1 f9)) i8) (p_i (b8 0) i8)) f9 rfl) rfl)))))
theorem z0R:FK P w K mg base 10 A.To A.Tp ["hall","one","other"] af Ap:=
 T.TD.d 9 Bu EB (λhr hu=>
  (d8 (asn 3 (p_ca (SG T) T.Rf hr (q_n 0 (q_n 1 (q_n 2 f9)))) EB.nd)
   (d8 (Bj (rels:=[]) (g:=(Tg.one 4)) aY rfl (E3 (p_ca (z0Q T) T.TC hr (q_n 0 f9))) (T3 EB.nd rfl (ax rfl) (ax rfl)) (d8 (asn 5 (p_ca (z5r T) T.z4o hr (q_n 3 (q_n 4 f9))) EB.nd)
   (i9 (s_if (t_cm (o_ne hu) (b8 5) i8) (i9 (j9 (p_ca (Hn T) T.BN hr (q_n 4 (q_n 5 f9))))) u7))))
   (i9 (j9 Bg)))))
theorem SL:FK P w K mg base 3 A.Mp A.Mq ["one","table","other"] ac Ck:=
 T.MM.d 2 Fg SC (λhr hu=>
  (d8 (s_if (PFW.pt (w_or (V6 (T1 (EJ (T := "list") rfl rfl T.B8 rfl T.L4 (by decide +kernel) (b8 1)) (fun _=>rfl))) (Gn (t_cm (o_ne hu) (p_bu J9 T.K6 (q_n 1 f9)) (p_i (b8 0) i8))))) (i9 (j9 p_bl)) u7)
   (i9 (j9 (p_bu (Yo rfl) T.ZM (i7 (p_co ["row","other"] 1 [2] ["one","table","other"] (b9 Cv).names (E3 (b8 1)) (λ_ _ _ _ _=>(p_ca (IS T) T.Hv hr (q_n 0 (i7 (p_i (b8 1) i8) f9))))) f9))))))
theorem DR:FnOk P w K mg base (CX1 P w) 4 A.Ht A.Hu ["one","table","other"] (spx K mg ac Y5):=
 Fun.datX (k:=3) (F:=Cl) T.CC.fn MV rfl rfl (λcdv A outer s H E hr=>have hu:=hr.units
  (i9 (s_if (V6 (T1 (p_ca (SL T) T.MM hr (q_n 0 (q_n 1 (q_n 2 f9)))) (λ_=>rfl))) (i9 (Pa 5 rfl T.x_Unlike rfl)) u7)))
theorem z0S:FnOk P w K mg base (CX1 P w) 7 A.ZC A.ZD ["one","table","other"] (spx K mg ac Pq):=
 Fun.datX (k:=6) (F:=Pp) T.ZP.fn z2O rfl rfl (λcdv A outer s H E hr=>have hu:=hr.units
  (d8 (Gv (DR T) T.CC hr rfl (q_n 0 (q_n 1 (q_n 2 f9))))
   B0))
theorem Vj:FnOk P w K mg base (CX1 P w) 7 A.Tq A.Tr ["one","table","other"] (spx K mg ac Lj):=
 Fun.datX (k:=6) (F:=Li) T.TF.fn z0L rfl rfl (λcdv A outer s H E hr=>have hu:=hr.units
  (d8 (Gv (DR T) T.CC hr rfl (q_n 0 (q_n 1 (q_n 2 f9))))
   B0))
theorem D4:FK P w K mg base 1 A.JB A.JC ["_law_script","_law_k"] ac A5:=
 T.D6.d 0 Dx PV (λhr hu=>
  (d8 (s_if (t_cm o_lt (b8 1) (p_bu J9 T.K6 (q_n 0 f9))) (i9 (j9 (p_i (b8 0) (b8 1)))) u7)
   (d8 (s_if (t_cm (o_eq hu) (b8 0) (T2 f9)) (i9 (j9 i8)) u7)
   (i9 (j9 (p_op J8 (p_op Bh (p_i (b8 0) (p_op E8 (b8 1) (p_bu J9 T.K6 (q_n 0 f9)))) i8) (b8 1)))))))
theorem LW:FK P w K mg base 1 A.Ow A.Ox ["_law_found"] ac N4:=
 T.IV.d 0 Es UY (λhr hu=>
  (i9 (j9 (Nk (EJ (T :="int") rfl rfl T.B8 rfl T.ZN (by decide +kernel) (b8 0)) (Nj (p_not (EJ (T :="bool") rfl rfl T.B8 rfl T.XY (by decide +kernel) (b8 0))))))))
theorem Js:FK P w K mg base 2 A.Mr A.Mt ["_law_found","_law_size"] ac Aq:=
 T.Ge.d 1 Fh Jo (λhr hu=>
  (d8 (s_if (PFW.pt (w_or (V6 (T1 (EJ (T := "list") rfl rfl T.B8 rfl T.L4 (by decide +kernel) (b8 0)) (fun _=>rfl))) (Gn (t_cm (o_ne hu) (p_bu J9 T.K6 (q_n 0 f9)) (b8 1))))) (i9 (j9 p_bl)) u7)
   (d8 (Bj (rels:=[]) (g:=(Tg.one 2)) aY rfl (E3 (b8 0)) (T3 Jo.nd rfl (ax rfl) (ax rfl)) (i9 (s_if (V6 (T1 (p_ca (LW T) T.IV hr (q_n 2 f9)) (λ_=>rfl))) (i9 (j9 p_bl)) u7)))
   (i9 (j9 p_bl)))))
theorem SM:FK P w K mg base 1 A.Mu A.Mv ["_law_cell","_law_mode"] ac U7:=
 T.MN.d 0 Ar AQ (λhr hu=>
  (d8 (s_if (t_cm (o_eq hu) (b8 1) i8) (d8 (asn 2 (p_op E8 (b8 0) (p_op z1r i8 i8)) AQ.nd)
   (d8 (s_if (t_cm (o_eq hu) (p_op E8 (p_op O0 (b8 0) (p_op z1r i8 i8)) i8) i8) (i9 (j9 (Nl (b8 2)))) u7)
   (i9 (j9 (b8 2))))) u7)
   (d8 (asn 3 (p_i (T2 (i7 i8 (i7 i8 f9))) (b8 1)) AQ.nd)
   (d8 (asn 2 (p_op E8 (b8 0) (b8 3)) AQ.nd)
   (d8 (s_if (t_cm o_gt (b8 2) (p_op O0 (b8 3) i8)) (i9 (j9 (p_op z1q (b8 2) (b8 3)))) u7)
   (i9 (j9 (b8 2))))))))
theorem Ho:FK P w K mg base 2 A.ZE A.ZF ["_law_script","_law_at","_law_size","_law_mode"] ac P3:=
 T.HA.d 1 Pr z2P (λhr hu=>
  (i9 (j9 (p_co ["_law_k","_law_script","_law_at","_law_mode"] 1 [0,1,3] ["_law_script","_law_at","_law_size","_law_mode"] (b9 JW).names (D8 rfl T.E6 (b8 2)) (λ_ _ _ _ _=>(p_ca (SM T) T.MN hr (i7 (p_ca (D4 T) T.D6 hr (q_n 1 (i7 (p_op J8 (b8 2) (b8 0)) f9))) (q_n 3 f9))))))))
theorem z2Q:FK P w K mg base 1 A.ZG A.ZH ["_law_size","_law_rows","_law_times"] ac JP:=
 T.ZQ.d 0 Ps He (λhr hu=>
  (d8 (E9 (rels:=[]) (u8 (i:=3) (p_co ["_law_k"] 1 [] ["_law_size", "_law_rows", "_law_times", "_law_made", "_law_j"] (b9 Hd).names (D8 rfl T.E6 (b8 0)) (fun _ _ _ _ _=>i8)) He.nd rfl (Or.inr rfl) rfl (Or.inl rfl)))
   (d8 (Bj (rels:=[]) (g:=(Tg.one 4)) aY rfl (D8 rfl T.E6 (p_bu J9 T.K6 (q_n 1 f9))) (T3 He.nd rfl (aW rfl) (ax rfl)) (i9 (E9 (rels:=[]) (u8 (i:=3) (p_co ["_law_k","_law_made","_law_times","_law_j","_law_rows"] 1 [3,2,4,1] ["_law_size","_law_rows","_law_times","_law_made","_law_j"] (b9 Hd).names (D8 rfl T.E6 (b8 0)) (λ_ _ _ _ _=>(p_op J8 (p_i (b8 1) (b8 0)) (p_op Bh (p_i (b8 2) (b8 3)) (p_i (p_i (b8 4) (b8 3)) (b8 0)))))) He.nd rfl (aW rfl) rfl (ax rfl)))))
   (i9 (j9 (b8 3))))))
theorem NQ:FK P w K mg base 1 A.Ts A.Tt ["_law_one","_law_other","_law_times"] ac Dy:=
 T.MO.d 0 Lk z0M (λhr hu=>
  (i9 (j9 (p_co ["_law_k","_law_one","_law_times","_law_other"] 1 [0,2,1] ["_law_one","_law_other","_law_times"] (b9 Hf).names (D8 rfl T.E6 (p_bu J9 T.K6 (q_n 0 f9))) (λ_ _ _ _ _=>(p_op J8 (p_i (b8 1) (b8 0)) (p_op Bh (b8 2) (p_i (b8 3) (b8 0)))))))))
theorem LX:FK P w K mg base 1 A.Oy A.Oz ["_law_weights","_law_row_here"] ac U8:=
 T.IW.d 0 Iq Cy (λhr hu=>
  (d8 (asn 2 i8 Cy.nd)
   (d8 (Bj (rels:=[]) (g:=(Tg.one 3)) aY rfl (D8 rfl T.E6 (p_bu J9 T.K6 (q_n 1 f9))) (T3 Cy.nd rfl (ax rfl) (ax rfl)) (i9 (asn 2 (p_op J8 (b8 2) (p_op Bh (p_i (b8 0) (b8 3)) (p_i (b8 1) (b8 3)))) Cy.nd)))
   (i9 (j9 (b8 2))))))
theorem Vk:FK P w K mg base 3 A.OA A.OB ["_law_bills","_law_one","_law_other","_law_uses"] ac Bv:=
 T.OL.d 2 Ir UZ (λhr hu=>
  (d8 (s_if (V6 (T1 (p_ca (Js T) T.Ge hr (q_n 3 (i7 (p_bu J9 T.K6 (q_n 0 f9)) f9))) (fun _=>rfl))) (i9 (j9 p_bl)) u7)
   (i9 (j9 (p_cm (o_eq hu) (p_ca (NQ T) T.MO hr (q_n 1 (i7 (p_ca (z2Q T) T.ZQ hr (i7 (p_bu J9 T.K6 (q_n 1 f9)) (q_n 0 (q_n 3 f9)))) (i7 i8 f9)))) (b8 2))))))
theorem SN:FK P w K mg base 3 A.Mx A.My ["_law_bills","_law_one","_law_other","_law_scale"] ac Au:=
 T.MP.d 2 Fm Jp (λhr hu=>
  (d8 (s_if (PFW.pt (w_or (V6 (T1 (EJ (T := "tuple") rfl rfl T.B8 rfl T.EC (by decide +kernel) (b8 3)) (fun _=>rfl))) (w_or (t_cm (o_ne hu) (p_bu J9 T.K6 (q_n 3 f9)) i8) (Gn (V6 (T1 (p_ca (LW T) T.IV hr (i7 (p_i (b8 3) i8) f9)) (fun _=>rfl))))))) (i9 (j9 p_bl)) u7)
   (d8 (s_if (PFW.pt (w_or (V6 (T1 (p_ca (Js T) T.Ge hr (i7 (p_i (b8 3) i8) (i7 (p_bu J9 T.K6 (q_n 1 f9)) f9))) (λ_=>rfl))) (Gn (t_cm o_lt (p_i (b8 3) i8) i8)))) (i9 (j9 p_bl)) u7)
   (d8 (Bj (rels:=[]) (g:=(Tg.one 4)) aY rfl (E3 (b8 0)) (T3 Jp.nd rfl (ax rfl) (ax rfl)) (i9 (s_if (t_cm (o_ne hu) (p_op E8 (p_ca (LX T) T.IW hr (i7 (p_i (b8 3) i8) (q_n 4 f9))) (p_i (b8 3) i8)) i8) (i9 (j9 p_bl)) u7)))
   (i9 (j9 (p_cm (o_ne hu) (p_op E8 (p_ca (LX T) T.IW hr (i7 (p_i (b8 3) i8) (i7 (p_ca (NQ T) T.MO hr (q_n 2 (q_n 1 (i7 (Nl i8) f9)))) f9))) (p_i (b8 3) i8)) i8)))))))
theorem z2R:FK P w K mg base 3 A.ZI A.ZJ ["_law_script"] ac Pt:=
 T.ZR.d 2 JQ I0 (λhr hu=>
  (d8 (E9 (rels:=[]) (u8 (i:=1) (p_i (T2 (i7 i8 (i7 i8 (i7 i8 (i7 i8 (i7 i8 f9)))))) (p_op E8 (p_ca (D4 T) T.D6 hr (q_n 0 (i7 i8 f9))) i8)) I0.nd rfl (Or.inr rfl) rfl (Or.inl rfl)))
   (d8 (E9 (rels:=[]) (u8 (i:=2) (p_op J8 i8 (p_op E8 (p_ca (D4 T) T.D6 hr (q_n 0 (i7 i8 f9))) i8)) I0.nd rfl (aW rfl) rfl (ax rfl)))
   (d8 (asn 3 (p_op E8 (p_ca (D4 T) T.D6 hr (q_n 0 (i7 i8 f9))) i8) I0.nd)
   (d8 (asn 4 (p_op E8 (p_ca (D4 T) T.D6 hr (q_n 0 (i7 i8 f9))) i8) I0.nd)
   (d8 (s_if (t_cm (o_eq hu) (p_op E8 (p_ca (D4 T) T.D6 hr (q_n 0 (i7 i8 f9))) i8) i8) (d8 (E9 (rels:=[]) (u8 (i:=2) i8 I0.nd rfl (aW rfl) rfl (ax rfl)))
   (i9 (E9 (rels:=[]) (u8 (i:=1) i8 I0.nd rfl (aW rfl) rfl (ax rfl))))) u7)
   (d8 (s_if (PFW.pt (z1t (t_cm o_lt (b8 2) i8) (z1t (t_cm (o_eq hu) (b8 1) i8) (z1s (t_cm (o_eq hu) (p_op E8 (p_ca (D4 T) T.D6 hr (q_n 0 (i7 i8 f9))) i8) i8))))) (d8 (asn 3 (p_op J8 (b8 3) i8) I0.nd)
   (i9 (asn 4 (p_op J8 (b8 4) i8) I0.nd))) u7)
   (d8 (s_if (t_cm (o_eq hu) (b8 1) i8) (d8 (E9 (rels:=[]) (u8 (i:=2) (p_op J8 i8 (p_op E8 (b8 2) i8)) I0.nd rfl (aW rfl) rfl (ax rfl)))
   (d8 (asn 3 (p_op E8 (b8 3) i8) I0.nd)
   (i9 (asn 4 (p_op E8 (b8 4) i8) I0.nd)))) u7)
   (d8 (E9 (rels:=[]) (a_co 5 I0.nd ["_law_k","_law_script","_law_kinds","_law_mode"] 1 [0,2,1] ["_law_script","_law_mode","_law_kinds","_law_many","_law_others","_law_one","_law_other"] (b9 Hg).names (D8 rfl T.E6 (b8 3)) (λ_ _ _ _ _=>(p_ca (Ho T) T.HA hr (q_n 1 (i7 (p_op J8 i8 (p_op Bh (b8 2) (b8 0))) (q_n 2 (q_n 3 f9))))))))
   (d8 (E9 (rels:=[]) (a_co 6 I0.nd ["_law_k","_law_script","_law_kinds","_law_mode"] 1 [0,2,1] ["_law_script","_law_mode","_law_kinds","_law_many","_law_others","_law_one","_law_other"] (b9 Hg).names (D8 rfl T.E6 (b8 4)) (λ_ _ _ _ _=>(p_ca (Ho T) T.HA hr (q_n 1 (i7 (p_op J8 i8 (p_op Bh (b8 2) (b8 0))) (q_n 2 (q_n 3 f9))))))))
   (i9 (j9 (CH (q_n 2 (q_n 5 (q_n 6 f9))))))))))))))))
theorem Jt:FK P w K mg base 1 A.MA A.MB ["_law_rows"] ac Q3:=
 T.Gf.d 0 Fn SD (λhr hu=>
  (i9 (j9 (p_co ["_law_row_here"] 1 [] ["_law_rows"] (b9 Cz).names (E3 (b8 0)) (λ_ _ _ _ _=>(p_ty Aa T.L4 (q_n 0 f9)))))))
theorem z0T:FK P w K mg base 11 A.Tu A.Tv ["_law_hall","_law_bills","_law_one","_law_other"] ac O6:=
 T.TJ.d 10 GN IQ (λhr hu=>
  (d8 (asn 4 (p_ca (z5q T) T.z4n hr (q_n 0 (i7 (p_ty Aa T.L4 (q_n 2 f9)) (i7 (p_ty Aa T.L4 (q_n 3 f9)) f9)))) IQ.nd)
   (d8 (s_if (t_cm o_notN (b8 4) Bg) (i9 (j9 (p_i (T2 (i7 Bg (i7 p_bl f9))) (p_ty c_int T.ZN (i7 (p_ca (Vk T) T.OL hr (q_n 1 (q_n 2 (q_n 3 (q_n 4 f9))))) f9))))) u7)
   (d8 (asn 5 (p_ca (z0R T) T.TD hr (q_n 0 (i7 (p_ty Aa T.L4 (q_n 2 f9)) (i7 (p_ty Aa T.L4 (q_n 3 f9)) f9)))) IQ.nd)
   (d8 (s_if (PFW.pt (w_or (t_cm z1u (b8 5) Bg) (Gn (V6 (T1 (p_ca (SN T) T.MP hr (q_n 1 (q_n 2 (q_n 3 (q_n 5 f9))))) (λ_=>rfl)))))) (i9 (j9 Bg)) u7)
   (i9 (j9 p_bl)))))))
theorem Ju:FnOk P w K mg base (CX1 P w) 9 A.OC A.OD ["_law_one","_law_other","_law_table","_law_which"] (spx K mg ac Z2):=
 Fun.datX (k:=8) (F:=Et) T.IX.fn Va rfl rfl (λcdv A outer s H E hr=>have hu:=hr.units
  (d8 (s_if (t_cm (o_eq hu) (b8 3) i8) (i9 (HJ (Vf T) T.Ty hr rfl (q_n 0 (q_n 1 f9)))) u7)
   (d8 (s_if (t_cm (o_eq hu) (b8 3) i8) (i9 (HJ (z5p T) T.f_met hr rfl (q_n 0 (q_n 1 f9)))) u7)
   (d8 (s_if (t_cm (o_eq hu) (b8 3) i8) (i9 (HJ (LV T) T.BM hr rfl (q_n 0 (q_n 1 f9)))) u7)
   (d8 (s_if (t_cm (o_eq hu) (b8 3) i8) (i9 (HJ (Hl T) T.Gd hr rfl (q_n 0 (q_n 1 f9)))) u7)
   (d8 (s_if (t_cm (o_eq hu) (b8 3) i8) (i9 (HJ (z0S T) T.ZP hr rfl (q_n 0 (q_n 2 (q_n 1 f9))))) u7)
   (i9 (HJ (Vj T) T.TF hr rfl (q_n 0 (q_n 2 (q_n 1 f9)))))))))))
theorem DS:FK P w K mg base 10 A.MC A.ME ["_law_one","_law_other","_law_table","_law_which"] ac U9:=
 T.CD.d 9 Fp W6 (λhr hu=>
  (d8 (asn 4 i8 W6.nd)
   (d8 (s_try (Ju T) T.IX hr rfl (λ_=>(q_n 0 (q_n 1 (q_n 2 (q_n 3 f9))))) rfl T.h_Unlike (λ_=>(i9 (asn 4 (p_op J8 (b8 4) i8) W6.nd))))
   (d8 (z4W 5 (Ju T) T.IX hr rfl (λ_=>(q_n 0 (q_n 1 (q_n 2 (q_n 3 f9))))) rfl T.h_HallError (λ_=>(i9 (asn 4 (p_op J8 (b8 4) (p_ty c_int T.ZN (i7 (p_isx 5 rfl T.B8 rfl T.Ra) f9))) W6.nd))) W6.nd)
   (i9 (j9 (p_cm (o_eq hu) (b8 4) i8)))))))
theorem SQ:FK P w K mg base 1 A.AB A.AC ["_law_table","_law_way","_law_cell"] af Fq:=
 T.CG.d 0 Q4 J0 (λhr hu=>
  (d8 (Ks (a_co 3 J0.nd ["_law_row_here"] 1 [] ["_law_table", "_law_way", "_law_cell", "_law_made", "_law_at"] (b9 V2).names (E3 (b8 0)) (fun _ _ _ _ _=>(p_ty Aa T.L4 (q_n 0 f9)))))
   (d8 (s_if (t_cm (o_eq hu) (b8 1) i8) (i9 (j9 (p_ty Rq T.EC (q_n 3 f9)))) u7)
   (d8 (s_if (t_cm (o_eq hu) (b8 1) i8) (i9 (j9 (p_op J8 (b8 3) (@T2 _ _ _ _ (@i7 _ _ _ _ _ (p_ty Aa T.L4 (i7 (p_i (b8 3) i8) f9)) f9 rfl))))) u7)
   (d8 (s_if (t_cm (o_eq hu) (b8 1) i8) (i9 (j9 (P1 (b8 3) (X0 i8) W9))) u7)
   (d8 (CT (u8 (i:=4) (p_op E8 (b8 2) (p_bu J9 T.K6 (q_n 3 f9))) J0.nd rfl (ax rfl) rfl (ax rfl)))
   (d8 (s_if (t_cm (o_eq hu) (b8 1) i8) (i9 (z2g (i:=3) rfl (ax rfl) (b8 4) (p_ty Rq T.EC (i7 (p_i (b8 3) (b8 4)) f9)))) (i9 (s_if (t_cm (o_eq hu) (b8 1) i8) (i9 BZ) (i9 (s_if (t_cm (o_eq hu) (b8 1) i8) (i9 (z2g (i:=3) rfl (ax rfl) (b8 4) (P1 (p_i (b8 3) (b8 4)) (X0 i8) W9))) (i9 (s_if (t_cm (o_eq hu) (b8 1) i8) (i9 (Yy (i:=3) rfl (ax rfl) (b8 4) (p_i (T2 (i7 Bg (i7 i8 (i7 Yj (i7 p_dic f9))))) (p_op E8 (p_op O0 (b8 2) i8) i8)))) (i9 (s_if (t_cm (o_eq hu) (b8 1) i8) (i9 BZ) (i9 (j9 (p_i (T2 (i7 Bg (i7 i8 (i7 Yj (i7 p_dic f9))))) (p_op E8 (b8 2) i8)))))))))))))
   (i9 (j9 (b8 3))))))))))
theorem SR:FK P w K mg base 12 A.MF A.MG ["_law_drawn","_law_other"] ac Cm:=
 T.MQ.d 11 Ft R6 (λhr hu=>
  (d8 (E9 (rels:=[]) (a_co 2 R6.nd ["_law_k"] 1 [] ["_law_drawn", "_law_other", "_law_empty", "_law_level", "_law_bill", "_law_found"] (b9 CA).names (D8 rfl T.E6 (p_i (b8 0) i8)) (fun _ _ _ _ _=>i8)))
   (d8 (asn 3 p_bl R6.nd)
   (d8 (Bj (rels:=[]) (g:=(Tg.one 4)) aY rfl (E3 (p_i (b8 0) i8)) (T3 R6.nd rfl (ax rfl) (ax rfl)) (d8 (asn 5 (p_ca (z0T T) T.TJ hr (q_n 1 (i7 (p_i (b8 0) i8) (q_n 2 (q_n 4 f9))))) R6.nd)
   (d8 (s_if (t_cm z1u (b8 5) Bg) (i9 (j9 Bg)) u7)
   (i9 (asn 3 (Nk (b8 3) (Nj (b8 5))) R6.nd)))))
   (i9 (j9 (b8 3)))))))
end
theorem fn_or{CX:CXT}{k:Nat}{f:aj}{fd:ak}{ps:fO}{sp sp1 sp2:Sp}(F1:FnOk P w K mg base CX k f fd ps sp1)(F2:FnOk P w K mg base CX k f fd ps sp2)(h:∀vs H Q E,sp vs H Q E->sp1 vs H Q E\/sp2 vs H Q E):FnOk P w K mg base CX k f fd ps sp:=
 ⟨λvs H Q E q=>(h _ _ _ _ q).elim (F1.len vs H Q E) (F2.len vs H Q E),λA outer s H args us vs Q E hr he hb hv hs=>(h _ _ _ _ hs).elim (F1.run A outer s H args us vs Q E hr he hb hv) (F2.run A outer s H args us vs Q E hr he hb hv)⟩
def sp47(K:aD)(j:Nat):Sp:=λvs H Q _=>∃(tb:aA)(m:Nat)(c:Int),Rps K emp [LL tb,.int j,.int c] H vs/\1<=tb.length/\(∀r∈tb,r.length=m)/\1<=m/\m<=6/\∀d v H',TB tb.length m d->Same H H'->Rp K emp d H' v->Q v H'
section
variable (T:Facts K mg A)
include T
theorem ok_sp4:FnOk P w K mg base CX0 1 A.AB A.AC ["_law_table","_law_way","_law_cell"] (sp47 K 4):=
 T.CG.fn.ok (k:=0) J0 (λvs H Q E⟨tb,m,c,r,_⟩=>r.length) (λcdv _ outer s H vs Q E hr⟨tb,m,c,r,g1,g2,g3,g4,q⟩=>have hu:=hr.units
  ⟨_,J4 (Ks (a_co 3 J0.nd ["_law_row_here"] 1 [] ["_law_table", "_law_way", "_law_cell", "_law_made", "_law_at"] (b9 V2).names (E3 (b8 0)) (fun _ _ _ _ _=>(p_ty Aa T.L4 (q_n 0 f9)))))
   (J4 (s_if (t_cm (o_eq hu) (b8 1) i8) B0 u7)
   (J4 (s_if (t_cm (o_eq hu) (b8 1) i8) B0 u7)
   (J4 (s_if (t_cm (o_eq hu) (b8 1) i8) B0 u7)
   (J4 (CT (u8 (i:=4) (p_op E8 (b8 2) (p_bu J9 T.K6 (q_n 3 f9))) J0.nd rfl (ax rfl) rfl (ax rfl)))
   (J4 (Gh (t_cm (o_eq hu) (b8 1) i8) B0 (V3 (Gh (t_cm (o_eq hu) (b8 1) i8) (V3 (DX (z1b fq eX F.type_list_append HC (z1a OP (AV (i:=3) rfl (ax rfl)) (b8 4) (λ_ _=>rfl)) (L9 (p_op E8 (b8 2) i8) CM)))) B0)))
   (V3 (Kc (AV (i:=3) rfl (ax rfl))))))))),rd_sp4 (m:=m) (rb_of rfl rfl r rfl) g1 g2 g4 λd v H' hd sm rv=>q d v H' hd sm rv⟩)
theorem ok_sp7:FnOk P w K mg base CX0 1 A.AB A.AC ["_law_table","_law_way","_law_cell"] (sp47 K 7):=
 T.CG.fn.ok (k:=0) J0 (λvs H Q E⟨tb,m,c,r,_⟩=>r.length) (λcdv _ outer s H vs Q E hr⟨tb,m,c,r,g1,g2,g3,g4,q⟩=>have hu:=hr.units
  ⟨_,J4 (Ks (a_co 3 J0.nd ["_law_row_here"] 1 [] ["_law_table", "_law_way", "_law_cell", "_law_made", "_law_at"] (b9 V2).names (E3 (b8 0)) (fun _ _ _ _ _=>(p_ty Aa T.L4 (q_n 0 f9)))))
   (J4 (s_if (t_cm (o_eq hu) (b8 1) i8) B0 u7)
   (J4 (s_if (t_cm (o_eq hu) (b8 1) i8) B0 u7)
   (J4 (s_if (t_cm (o_eq hu) (b8 1) i8) B0 u7)
   (J4 (CT (u8 (i:=4) (p_op E8 (b8 2) (p_bu J9 T.K6 (q_n 3 f9))) J0.nd rfl (ax rfl) rfl (ax rfl)))
   (J4 (Gh (t_cm (o_eq hu) (b8 1) i8) B0 (V3 (Gh (t_cm (o_eq hu) (b8 1) i8) B0 (V3 (Gh (t_cm (o_eq hu) (b8 1) i8) B0 (V3 (Gh (t_cm (o_eq hu) (b8 1) i8) B0 (V3 (Gh (t_cm (o_eq hu) (b8 1) i8) (V3 (TL (p_i (T2 (i7 p_bl (i7 Yj (i7 Bg f9)))) (p_op E8 (p_op O0 (b8 2) i8) i8)) (TK (z1a OP (AV (i:=3) rfl (ax rfl)) (b8 4) (λ_ _=>rfl)) z0V Ki))) B0)))))))))
   (V3 (Kc (AV (i:=3) rfl (ax rfl))))))))),rd_sp7 (m:=m) (rb_of rfl rfl r rfl) g1 g2 g3 g4 λd v H' hd sm rv=>q d v H' hd sm rv⟩)
theorem Qc:FnOk P w K mg base CX0 1 A.AB A.AC ["_law_table","_law_way","_law_cell"] (spP K preS YN):=
 fn_or (SQ T) (fn_or (sp:=λvs H Q E=>sp47 K 4 vs H Q E\/sp47 K 7 vs H Q E) (ok_sp4 T) (ok_sp7 T) λ_ _ _ _ h=>h) λvs H Q E⟨ds,r,⟨tb,m,j,c,e,g1,g6,g2,g3,g4,g5⟩,q⟩=>by
  subst e;have wd:wid (tb.map L)=m:=by
    clear r q;cases tb with
    |nil=>simp at g1
    |cons x0 tb=>show(x0.map Dt.int).length=m;rw[wj];exact g2 x0 (by simp)
  have post:∀d,TB tb.length m d->YN [LL tb,.int j,.int c] d:=λd h=>⟨tb.map L,_,rfl,by rw[wj,wd];exact h⟩;by_cases h4:j=4
  .subst h4;exact .inr (.inl ⟨tb,m,c,r,g1,g2,g3,g4,λd v H' h sm rv=>q d v H' (post d h) sm rv⟩)
  by_cases h7:j=7
  .subst h7;exact .inr (.inr ⟨tb,m,c,r,g1,g2,g3,g4,λd v H' h sm rv=>q d v H' (post d h) sm rv⟩)
  obtain⟨d,e,h⟩:=UP (c:=c) g1 g6 g2 g3 g4 g5 h4 h7;exact .inl ⟨_,d,r,e,λv H' sm rv=>q d v H' (post d h) sm rv⟩
theorem ok_law:FK P w K mg base 13 A.a_law A.ZK ["_law_script"] ac YO:=
 T.f_law.d 12 z2k Q6 (λhr hu=>
  (d8 (asn 1 (p_ca (z2R T) T.ZR hr (q_n 0 f9)) Q6.nd)
   (d8 (asn 2 (p_i (b8 1) i8) Q6.nd)
   (d8 (E9 (rels:=[]) (u8 (i:=3) (p_ca (D4 T) T.D6 hr (q_n 0 (i7 i8 f9))) Q6.nd rfl (aW rfl) rfl (ax rfl)))
   (d8 (asn 4 (p_ca (CB T) T.BJ hr (q_n 2 (i7 (p_ca (Jt T) T.Gf hr (i7 (p_i (b8 1) i8) f9)) f9))) Q6.nd)
   (d8 (asn 5 (p_ca (CB T) T.BJ hr (q_n 2 (i7 (p_ca (Jt T) T.Gf hr (i7 (p_i (b8 1) i8) f9)) f9))) Q6.nd)
   (d8 (asn 6 (p_op E8 (p_ca (D4 T) T.D6 hr (q_n 0 (i7 i8 f9))) i8) Q6.nd)
   (d8 (s_if (PFW.pt (z1t (t_cm (o_eq hu) (b8 6) i8) (z1s (t_cm o_lt (b8 2) i8)))) (d8 (asn 7 (p_ca (CB T) T.BJ hr (i7 (p_op J8 (b8 2) i8) (i7 (p_co ["_law_bill","_law_cell"] 1 [3] ["_law_script","_law_drawn","_law_kinds","_law_cell","_law_one","_law_other","_law_way","_law_wider","_law_size","_law_there","_law_table","_law_due","_law_found","_law_refused"] (b9 SE).names (E3 (p_i (b8 1) i8)) (λ_ _ _ _ _=>(p_op J8 (b8 0) (T2 (i7 (p_op E8 (b8 1) i8) f9))))) f9))) Q6.nd)
   (i9 (j9 (Nk (p_ca (DS T) T.CD hr (q_n 4 (q_n 7 (i7 (T2 f9) (i7 (p_op E8 (p_op O0 (b8 3) i8) i8) f9))))) (Nj (p_ca (DS T) T.CD hr (q_n 7 (q_n 4 (i7 (T2 f9) (i7 (p_op E8 (p_op O0 (b8 3) i8) i8) f9)))))))))) u7)
   (d8 (s_if (t_cm (o_eq hu) (b8 6) i8) (d8 (E9 (rels:=[]) (u8 (i:=8) (p_op J8 i8 (p_op E8 (p_ca (D4 T) T.D6 hr (q_n 0 (i7 i8 f9))) i8)) Q6.nd rfl (aW rfl) rfl (ax rfl)))
   (d8 (asn 9 (p_ca (CB T) T.BJ hr (q_n 8 (i7 (@T2 _ _ _ _ (@i7 _ _ _ _ _ (p_ca (Ho T) T.HA hr (q_n 0 (i7 i8 (q_n 8 (i7 i8 f9))))) f9 rfl)) f9))) Q6.nd)
   (d8 (E9 (rels:=[]) (a_co 10 Q6.nd ["_law_k","_law_script","_law_size"] 1 [0,8] ["_law_script","_law_drawn","_law_kinds","_law_cell","_law_one","_law_other","_law_way","_law_wider","_law_size","_law_there","_law_table","_law_due","_law_found","_law_refused"] (b9 SE).names (D8 rfl T.E6 (b8 2)) (λ_ _ _ _ _=>(p_ca (Ho T) T.HA hr (q_n 1 (i7 (p_op J8 i8 (b8 0)) (q_n 2 (i7 i8 f9))))))))
   (i9 (j9 (p_unl (DS T) T.CD (Qc T) T.CG hr rfl rfl (b8 4) (b8 9) (q_n 10 (i7 (p_op E8 (b8 3) i8) (i7 (p_op O0 (b8 3) i8) f9))) (p_op J8 i8 (p_op E8 (p_op O0 (b8 3) i8) i8)))))))) u7)
   (d8 (asn 11 (p_ca (SR T) T.MQ hr (q_n 1 (q_n 5 f9))) Q6.nd)
   (d8 (asn 12 (p_ca (NP T) T.BM hr (q_n 4 (q_n 5 f9))) Q6.nd)
   (d8 (s_if (PFW.pt (w_or (t_cm z1u (b8 11) Bg) (w_or (V6 (T1 (EJ (T :="bool") rfl rfl T.B8 rfl T.XY (by decide +kernel) (b8 12)) (λ_=>rfl))) (Gn (t_cm (o_ne hu) (b8 12) (b8 11)))))) (i9 (j9 p_bl)) u7)
   (d8 (asn 13 p_bl Q6.nd)
   (d8 (s_try (Hl T) T.Gd hr rfl (λ_=>(q_n 4 (q_n 5 f9))) rfl T.h_NotWithin (λ_=>(i9 (asn 13 p_bl Q6.nd))))
   (i9 (j9 (p_cm (o_ne hu) (b8 13) (b8 11))))))))))))))))))
end
end
theorem z2S{l:eU}{w:aH}{K:aD}{h:aV}{mg:aE}{fa:aj}(X:K.In h)(G:h.Ns az mg)(hfa:mg "law"=aa (.ref fa))
  {a0 a1 a2 a3 a4 a5 a6 a7 a8 a9 a10 a11 a12 a13 a14 a15 a16 a17 a18 a19 a20 a21 a22 a23 a24 a25 a26 a27 a28 a29 a30 a31 a32 a33 a34 a35 a36 a37 a38 a39 a40 a41 a42 a43 a44 a45 a46 a47 a48 a49 a50 a51 a52 a53 a54 a55 a56 a57 a58 a59 a60 a61 a62 a63 a64 a65 a66 a67 a68 a69 a70 a71 a72 a73:aj}
  (h0:Dh K "is_whole" Fz a0)
  (h1:Dh K "is_row" GU a1)
  (h2:Dh K "noughts" Ew a2)
  (h3:Dh K "unit_row" Co a3)
  (h4:Dh K "added" JT a4)
  (h5:Dh K "taken" JU a5)
  (h6:Dh K "scaled" GV a6)
  (h7:Dh K "weighed" Ex a7)
  (h8:Dh K "head_at" IB a8)
  (h9:Dh K "are_kinds" DI a9)
  (h10:Dh K "is_bill" Ey a10)
  (h11:Dh K "need_kinds" Cp a11)
  (h12:Dh K "need_bill" DJ a12)
  (h13:Dh K "hall_by" Ez a13)
  (h14:Dh K "hall_of" IC a14)
  (h15:Dh K "need_basket_of" V0 a15)
  (h16:Dh K "need_basket" Bc a16)
  (h17:Dh K "nought" LJ a17)
  (h18:Dh K "apart" PP a18)
  (h19:Dh K "bridge" DK a19)
  (h20:Dh K "rest" UU a20)
  (h21:Dh K "product" ID a21)
  (h22:Dh K "lowering" FG a22)
  (h23:Dh K "lowered" IE a23)
  (h24:Dh K "crossed" IF a24)
  (h25:Dh K "turned_up" DL a25)
  (h26:Dh K "with_row" Cr a26)
  (h27:Dh K "evened" LK a27)
  (h28:Dh K "climbed" II a28)
  (h29:Dh K "tagged_stair" S9 a29)
  (h30:Dh K "tags_at_nought" N7 a30)
  (h31:Dh K "heads_product" P5 a31)
  (h32:Dh K "stair" PR a32)
  (h33:Dh K "stair_with_uses" M0 a33)
  (h34:Dh K "need_like" DM a34)
  (h35:Dh K "joined" LM a35)
  (h36:Dh K "met" z2M a36)
  (h37:Dh K "within" GZ a37)
  (h38:Dh K "index_in" FH a38)
  (h39:Dh K "settled" IL a39)
  (h40:Dh K "plan" UW a40)
  (h41:Dh K "turned" Ha a41)
  (h42:Dh K "is_slant" Cu a42)
  (h43:Dh K "rests" JV a43)
  (h44:Dh K "slanted" Z6 a44)
  (h45:Dh K "linked" LN a45)
  (h46:Dh K "chained" EA a46)
  (h47:Dh K "measures" N1 a47)
  (h48:Dh K "scales" Hb a48)
  (h49:Dh K "tilt" UX a49)
  (h50:Dh K "measured_scale" V1 a50)
  (h51:Dh K "denial" LO a51)
  (h52:Dh K "is_table" Cv a52)
  (h53:Dh K "need_table" Cw a53)
  (h54:Dh K "sound" PU a54)
  (h55:Dh K "pulled" LP a55)
  (h56:Dh K "_law_cell_at" DP a56)
  (h57:Dh K "_law_whole" IM a57)
  (h58:Dh K "_law_is_row" FL a58)
  (h59:Dh K "_law_number" FM a59)
  (h60:Dh K "_law_row" JW a60)
  (h61:Dh K "_law_sum" Hd a61)
  (h62:Dh K "_law_plus" Hf a62)
  (h63:Dh K "_law_heavy" IN a63)
  (h64:Dh K "_law_leads" IP a64)
  (h65:Dh K "_law_denies" FN a65)
  (h66:Dh K "_law_two" Hg a66)
  (h67:Dh K "_law_copied" Cz a67)
  (h68:Dh K "_law_same" LQ a68)
  (h69:Dh K "_law_asked" IR a69)
  (h70:Dh K "_law_unlike" FQ a70)
  (h71:Dh K "_law_spoilt" V2 a71)
  (h72:Dh K "_law_all_in" CA a72)
  (h73:Dh K "law" SE a73)
  (z_ValueError:aR K az "ValueError"=aa ag)
  (z_abs:aR K az "abs"=aa ag)
  (z_all:aR K az "all"=aa ag)
  (z_any:aR K az "any"=aa ag)
  (z_bool:aR K az "bool"=aa ag)
  (z_enumerate:aR K az "enumerate"=aa ag)
  (z_int:aR K az "int"=aa ag)
  (z_isinstance:aR K az "isinstance"=aa ag)
  (z_len:aR K az "len"=aa ag)
  (z_list:aR K az "list"=aa ag)
  (z_range:aR K az "range"=aa ag)
  (z_reversed:aR K az "reversed"=aa ag)
  (z_sorted:aR K az "sorted"=aa ag)
  (z_sum:aR K az "sum"=aa ag)
  (z_tuple:aR K az "tuple"=aa ag)
  (z_zip:aR K az "zip"=aa ag)
  {Y6:Tok} (y_MOST_BILLS:aR K az "MOST_BILLS"=aa (aa (.int 8 Y6)))
  {Y7:Tok} (y_MOST_KINDS:aR K az "MOST_KINDS"=aa (aa (.int 6 Y7)))
  {x_HallError:aj} (w_HallError:aR K az "HallError"=aa (aa (.ref x_HallError)))
  {x_NotWithin:aj} (w_NotWithin:aR K az "NotWithin"=aa (aa (.ref x_NotWithin)))
  {x_Unlike:aj} (w_Unlike:aR K az "Unlike"=aa (aa (.ref x_Unlike)))
  (u_NotWithin:PySem.W.excIn K x_NotWithin bmVE "ValueError.__new__"=ac) (v_NotWithin:fk K (.ref x_NotWithin) (.type "ValueError")=aa ac)
  (u_Unlike:PySem.W.excIn K x_Unlike bmVE "ValueError.__new__"=ac) (v_Unlike:fk K (.ref x_Unlike) (.type "ValueError")=aa ac)
  (o_NotWithin_HallError:dP K (.ref x_NotWithin) (.ref x_HallError)=aa ac)
  (o_Unlike_HallError:dP K (.ref x_Unlike) (.ref x_HallError)=aa ac)
  (o_NotWithin_NotWithin:dP K (.ref x_NotWithin) (.ref x_NotWithin)=aa ac)
  (o_Unlike_Unlike:dP K (.ref x_Unlike) (.ref x_Unlike)=aa ac)
  : ∃fd:ak,(∀(s:am)(u:ao),fw s fd ⟨[u],[]⟩ [("_law_script",u)])/\∀base:aV,K.In base->base.Ns az mg->FnOk l.prog w K mg base CX0 13 fa fd ["_law_script"] (spc K ac YO):=by
 have t0:Hit K mg h_HallError "HallError" x_HallError:=Uf (bG X G w_HallError) (by intro n C hn hC;unfold h_HallError at hn;simp only[ug,beq_iff_eq,or_assoc]at hn;first|(rcases hn with rfl|rfl<;>first|(cases hC.symm.trans (bG X G w_NotWithin);exact⟨o_NotWithin_HallError,v_NotWithin⟩)|(cases hC.symm.trans (bG X G w_Unlike);exact⟨o_Unlike_HallError,v_Unlike⟩)));have t1:Hit K mg h_NotWithin "NotWithin" x_NotWithin:=Uf (bG X G w_NotWithin) (by intro n C hn hC;unfold h_NotWithin at hn;simp only[ug,beq_iff_eq,or_assoc]at hn;first|(rcases hn with rfl<;>first|(cases hC.symm.trans (bG X G w_NotWithin);exact⟨o_NotWithin_NotWithin,v_NotWithin⟩)));have t2:Hit K mg h_Unlike "Unlike" x_Unlike:=Uf (bG X G w_Unlike) (by intro n C hn hC;unfold h_Unlike at hn;simp only[ug,beq_iff_eq,or_assoc]at hn;first|(rcases hn with rfl<;>first|(cases hC.symm.trans (bG X G w_Unlike);exact⟨o_Unlike_Unlike,v_Unlike⟩)));have key:∃A:Adr,Facts K mg A/\∀(s:am)(u:ao),fw s A.ZK ⟨[u],[]⟩ [("_law_script",u)]:=⟨⟨_,_,_,_,_,_,_,_,_,_,_,_,_,_,_,_,_,_,_,_,_,_,_,_,_,_,_,_,_,_,_,_,_,_,_,_,_,_,_,_,_,_,_,_,_,_,_,_,_,_,_,_,_,_,_,_,_,_,_,_,_,_,_,_,_,_,_,_,_,_,_,_,_,_,_,_,_,_,_,_,_,_,_,_,_,_,_,_,_,_,_,_,_,_,_,_,_,_,_,_,_,_,_,_,_,_,_,_,_,_,_,_,_,_,_,_,_,_,_,_,_,_,_,_,_,_,_,_,_,_,_,_,_,_,_,_,_,_,_,_,_,_,_,_,_,_,_,_,Y6,Y7,x_HallError,x_NotWithin,x_Unlike⟩,⟨aT X G z_ValueError,aT X G z_abs,aT X G z_all,aT X G z_any,aT X G z_bool,aT X G z_enumerate,aT X G z_int,aT X G z_isinstance,aT X G z_len,aT X G z_list,aT X G z_range,aT X G z_reversed,aT X G z_sorted,aT X G z_sum,aT X G z_tuple,aT X G z_zip,bG X G y_MOST_BILLS,bG X G y_MOST_KINDS,h0.q X G,h1.q X G,h2.q X G,h3.q X G,h4.q X G,h5.q X G,h6.q X G,h7.q X G,h8.q X G,h9.q X G,h10.q X G,h11.q X G,h12.q X G,h13.q X G,h14.q X G,h15.q X G,h16.q X G,h17.q X G,h18.q X G,h19.q X G,h20.q X G,h21.q X G,h22.q X G,h23.q X G,h24.q X G,h25.q X G,h26.q X G,h27.q X G,h28.q X G,h29.q X G,h30.q X G,h31.q X G,h32.q X G,h33.q X G,h34.q X G,h35.q X G,h36.q X G,h37.q X G,h38.q X G,h39.q X G,h40.q X G,h41.q X G,h42.q X G,h43.q X G,h44.q X G,h45.q X G,h46.q X G,h47.q X G,h48.q X G,h49.q X G,h50.q X G,h51.q X G,h52.q X G,h53.q X G,h54.q X G,h55.q X G,h56.q X G,h57.q X G,h58.q X G,h59.q X G,h60.q X G,h61.q X G,h62.q X G,h63.q X G,h64.q X G,h65.q X G,h66.q X G,h67.q X G,h68.q X G,h69.q X G,h70.q X G,h71.q X G,h72.q X G,h73.q X G,⟨bG X G w_NotWithin,u_NotWithin,v_NotWithin⟩,⟨bG X G w_Unlike,u_Unlike,v_Unlike⟩,t0,t1,t2⟩,λs u=>.of_eq (h73.b (ps:=["_law_script"]) (λ_ _ _ _ _ _=>us1 λ_=>rfl) [u] rfl)⟩;obtain⟨A,FF,hb⟩:=key;have e:=hfa.symm.trans FF.f_law.mg;cases e;exact⟨A.ZK,hb,λbase _ _=>ok_law FF⟩
end
namespace H
noncomputable section
open PySem PySem.W PySem.Calls PyProof.Rows
abbrev pw:aL:=PySem.Challenge.pw_changehall_k25_halls_that_do_not_fit
noncomputable abbrev vs(s:String)(t:Nat):ao:=.str (bv s) t
noncomputable abbrev de(P:aQ)(s:String)(t:Nat)(v:ao):bt:=⟨PyData.keyHash P (bv s),.str (bv s) t,v⟩
abbrev N:=BT.node
abbrev E:=BT.nil
noncomputable abbrev ins(t:BT)(l:List (Nat×Obj)):BT:=l.foldl (λt x=>t.ins x.1 x.2) t
def fdT(s:aJ)(g:aj)(md cd:ao):ak:=match s with
 |.FunctionDef name args body _ _ _ scope _ _ _=>{ name:=name,qualname:=name,params:=args,body:=.stmts body,scope:=scope,globals:=g,closure:=[],defaults:=.none,kwdefaults:=.none,pyModule:=md,code:=cd }
 |_=>default
noncomputable abbrev tu(l:aF):Obj:=⟨.type "tuple",ag,.seq l.toArray 0,#[]⟩
noncomputable abbrev fi(l:aF):Obj:=⟨.none,ag,.fields l.toArray,#[]⟩
noncomputable abbrev fo(c:ao)(i:Nat)(g:aj)(md cd:ao):Obj:=⟨c,ag,.func (fdT (top i) g md cd),#[]⟩
noncomputable abbrev co(a f:String)(t0 t1 t2:Nat)(l n z:Int)(r:aj)(u:Bool)(v:Int)(s:aj)(p q1 q2 q3:ao)(w:Int)(t3:Nat):Obj:=⟨.type "code",ag,.fields #[vs a t0,vs a t1,vs f t2,.int l 0,.int n 0,.int 0 0,.int 0 0,.int z 0,.ref r,.bool u,.int v 0,.ref s,p,q1,q2,q3,.int w 0,.int l 0,vs f t3],#[]⟩
theorem te_go:@topGo=Fast.tw15667345088766844465:=Fast.te15667345088766844465
theorem te_sr:@segRun=Fast.tw14374325043358763698:=Fast.te14374325043358763698
theorem te_sT:@segRunT=Fast.tw10110043849684766642:=Fast.te10110043849684766642
theorem te_tr:@topRun=Fast.tw14082659384304107361:=Fast.te14082659384304107361
theorem te_tb:bJ=Fast.tw14364793385576792824:=Fast.te14364793385576792824
theorem te_im:@importedModules=Fast.tw5923862056798008813:=Fast.te5923862056798008813
theorem te_seen:@seen=Fast.tw5160383126252970620:=Fast.te5160383126252970620
theorem te_recs:@recsOf=Fast.tw3399658132070893891:=Fast.te3399658132070893891
theorem te_owns:@ownsOf=Fast.tw5991557255702980513:=Fast.te5991557255702980513
theorem te_keys:@Heap.keysOk=Fast.tw10880121769531294198:=Fast.te10880121769531294198
theorem te_loose:@looseW=Fast.tw821141287760084731:=Fast.te821141287760084731
theorem te_lits:@litsOf=Fast.tw7409074990110511671:=Fast.te7409074990110511671
theorem te_clss:@clssOf=Fast.tw13664370479719496447:=Fast.te13664370479719496447
theorem te_acc:@Heap.accountedOkI=Fast.tw14722251495701143533:=Fast.te14722251495701143533
theorem te_tabl:@tablesOk=Fast.tw10994771534591457954:=Fast.te10994771534591457954
theorem te_tabs:@tabsOk=Fast.tw479339242167458305:=Fast.te479339242167458305
theorem te_pin:@pinSeenD=Fast.tw16090120013241838585:=Fast.te16090120013241838585
theorem te_drecs:@drecsOf=Fast.tw3247288618530077131:=Fast.te3247288618530077131
theorem te_pE:@plainSeenE=Fast.tw2386780881361962483:=Fast.te2386780881361962483
theorem te_pD:@plainSeenD=Fast.tw11698064438423848299:=Fast.te11698064438423848299
theorem te_wide:@wideSeen=Fast.tw7317090234206586261:=Fast.te7317090234206586261
theorem te_cls:@clsSeenW=Fast.tw7369524293546568484:=Fast.te7369524293546568484
theorem te_den:@denote=Fast.tw11892475500146522536:=Fast.te11892475500146522536
theorem te_ns:@Heap.nsMap=Fast.tw8920871248978507458:=Fast.te8920871248978507458
noncomputable abbrev kc(n:String)(b m:aF)(s:aj)(z:aF)(i:aj)(x:fY)(t u:Nat):Obj:=⟨.type "type",ag,.cls { name:=bv n,bases:=b,mro:=m++[.type "ValueError",.type "Exception",.type "BaseException",.type "object"],ns:=s,qualname:=bv n,subclasses:=z },#[aa (.ref i),x,aa (vs n t),aa (vs n u),aa (.builtin "ValueError.__new__"),aa (.bool ac)]⟩
noncomputable abbrev fm(a b c:aj)(v:ao):Obj:=⟨.type "frame",ag,.plain,#[aa (.ref a),aa (.ref b),aa (.ref c),ag,aa v,ag,aa (.ref 0)]⟩
noncomputable abbrev dc(l:fW)(n:Nat):Obj:=⟨.type "dict",ag,.dict l.toArray n,#[]⟩
noncomputable abbrev pf(s:String)(l:aF):Obj:=⟨.type s,ag,.fields l.toArray,#[]⟩
abbrev cf(a:String)(t:Nat)(l n:Int)(r:aj)(w:Nat):Obj:=co a "/claim/cut.py" t (t+1) (t+2) l n 3 r ac 181 (r+1) .none .none .none (.ref (r+2)) w (w+1)
abbrev cg(a:String)(t:Nat)(l n:Int)(r:aj)(w:Nat):Obj:=co a "/claim/cut.py" t (t+1) (t+2) l n 3 r ac 181 (r+1) .none (.ref (r+2)) (.ref (r+3)) (.ref (r+4)) w (w+1)
abbrev cc(a:String)(t:Nat)(l:Int)(r:aj)(w:Nat):Obj:=co a "/claim/cut.py" t (t+1) (t+2) l 0 0 r af 181 (r+1) .none .none .none .none w (w+1)
abbrev fn(i:Nat):Obj:=fo .none i 0 .none .none
abbrev ff(i:Nat)(m:ao)(c:aj):Obj:=fo (.type "function") i 3 m (.ref c)
noncomputable abbrev inq(t:BT)(n:Nat)(l:List Obj):BT:=(l.foldl (λ(x:BT×Nat)o=>(x.1.ins x.2 o,x.2+1)) (t,n)).1
abbrev m187:=vs "changehall.errors" 187
abbrev m271:=vs "changehall.rows" 271
abbrev m343:=vs "changehall.halls" 343
abbrev m449:=vs "changehall.stairs" 449
abbrev m424:=vs "changehall.whole" 424
abbrev m608:=vs "changehall.grids" 608
abbrev m546:=vs "changehall.several" 546
abbrev m586:=vs "changehall.plans" 586
abbrev m695:=vs "changehall.tables" 695
abbrev m659:=vs "changehall.scales" 659
abbrev m724:=vs "law_changehall_k25_halls_that_do_not_fit" 724
noncomputable abbrev lr(l:List (Nat×Nat)):aF:=l.flatMap λx=>[.int x.1 0,.int 0 0,.ref x.2]
abbrev env:Env:={ scope:=pw.main.scope,locals:=mainNs,globals:=mainNs,cells:=[],code:=.ref 13,frame:=aa 14 }
abbrev cE:Code:=.body (behindTheImports pw) env
abbrev fB:List Frame:=[topFrame ⟨0,0,0,0⟩]
abbrev ann:fY:=aa (.ref 6)
abbrev o11a:=tu []
abbrev o12aL:aF:=[]
abbrev o12a:=fi o12aL
abbrev o13a:=cc "<module>" 182 1 11 185
abbrev o14a:Obj:=fm 13 3 3 (vs "__main__" 164)
abbrev ha(P:aQ):aV:=⟨⟨[boot_o_0 P,boot_o_1 P,boot_o_2 P,boot_o_3 P,boot_o_4 P,boot_o_5 P,boot_o_6 P,boot_o_7 P,boot_o_8 P,boot_o_9 P,boot_o_10 P,o11a,o12a,o13a,o14a]⟩,{ }⟩
theorem run_a(w:aH)(os:aZ):topGo bJ pw w 11 ann 12 ⟨di w.params,#[],boot_drawn,boot_toks,os⟩ (topStub pw)=aa (⟨ha w.params,#[],{ },187,os⟩,⟨denote bJ cE,cE,⟨0,0,0,0⟩,fB⟩):=by
 rewrite[te_go,te_den,te_tb];kernel_rfl
abbrev t0(P:aQ):BT:=(N (boot_o_0 P) (N (boot_o_1 P) (N (boot_o_3 P) (N (boot_o_7 P) E E) (N (o11a) E E)) (N (boot_o_5 P) (N (boot_o_9 P) E E) (N (o13a) E E))) (N (boot_o_2 P) (N (boot_o_4 P) (N (boot_o_8 P) E E) (N (o12a) E E)) (N (boot_o_6 P) (N (boot_o_10 P) E E) (N (o14a) E E))))
abbrev s0(w:aH)(os:aZ):dm:=⟨t0 w.params,15,{ },#[],{ },187,os⟩
theorem run_b(w:aH)(os:aZ):segRun bJ pw w 11 ann 1 1 ⟨ha w.params,#[],{ },187,os⟩ (blockOf (behindTheImports pw) env cE ⟨0,0,0,0⟩ fB)=aa (.next,(s0 w os).abs,cE,⟨0,0,0,0⟩):=by
 rewrite[te_sr,te_tb];kernel_rfl
abbrev o3_1L(P:aQ):fW:=[de P "__name__" 165 m187,de P "__doc__" 166 .none,de P "__package__" 167 .none,de P "__loader__" 168 (.builtin "__main__.__loader__#opaque"),de P "__spec__" 169 .none,de P "__annotations__" 170 (.ref 6),de P "__builtins__" 171 (.ref 4),de P "__file__" 173 (vs "/claim/cut.py" 172),de P "__cached__" 174 .none,de P "HallError" 206 (.ref 24)]
abbrev o3_1(P:aQ):Obj:=dc (o3_1L P) 10
abbrev z2T:aF:=o12aL++lr [(2,20)]
abbrev o12_1:=fi z2T
abbrev z2U:=tu [.type "ValueError"]
abbrev EM:Obj:=pf "builtin_function_or_method" [.builtin "type.__prepare__",.type "type"]
abbrev o17_1L(P:aQ):fW:=[de P "__module__" 196 m187,de P "__qualname__" 198 (vs "HallError" 197),de P "__firstlineno__" 200 (.int 2 199),de P "__static_attributes__" 201 (.ref 22)]
abbrev o17_1(P:aQ):Obj:=dc (o17_1L P) 4
abbrev j3:=fi []
abbrev o20_1:=cc "HallError" 191 2 18 194
abbrev o21_1:Obj:=fm 20 3 17 m187
abbrev o23_1L(P:aQ):fW:=[de P "__module__" 196 m187,de P "__firstlineno__" 200 (.int 2 199),de P "__static_attributes__" 201 (.ref 22),de P "__weakref__" 203 (.ref 25),de P "__doc__" 204 .none]
abbrev z2V(P:aQ):Obj:=dc (o23_1L P) 3
abbrev o24_1:Obj:=kc "HallError" [.type "ValueError"] [.ref 24] 23 [] 15 ag 189 197
abbrev z2W:Obj:=pf "getset_descriptor" [vs "__weakref__" 202,.ref 24,.builtin "ExceptionGroup.__weakref__",.none]
abbrev o26_1:Obj:=pf "super" [.ref 24,.ref 24,.ref 24]
abbrev o27_1:Obj:=pf "builtin_function_or_method" [.builtin "object.__init_subclass__",.ref 24]
abbrev t1(P:aQ):BT:=inq (ins (t0 P) [(3,o3_1 P),(12,o12_1)]) 15 [z2U,EM,o17_1 P,o11a,j3,o20_1,o21_1,o11a,z2V P,o24_1,z2W,o26_1,o27_1]
abbrev s1(w:aH)(os:aZ):dm:=⟨t1 w.params,28,{ },#[],{ },207,os⟩
abbrev l0:fT:=[top 0,top 1]
theorem run_0(w:aH)(os:aZ):dF bJ pw w 11 ann 1 196 (s0 w os) (cW l0 env cE ⟨0,0,0,0⟩ fB)=aa (.next,s1 w os,cE,⟨2,0,3,8⟩):=by
 rewrite[te_sT,te_tb];kernel_rfl
abbrev o3_2L(P:aQ):fW:=de P "__name__" 165 m187::(o3_1L P).tail++[de P "NoHall" 222 (.ref 37)]
abbrev o3_2(P:aQ):Obj:=dc (o3_2L P) 11
abbrev z2X:aF:=z2T++lr [(4,33)]
abbrev o12_2:=fi z2X
abbrev o24_2:Obj:=kc "HallError" [.type "ValueError"] [.ref 24] 23 [.ref 37] 15 ag 189 197
abbrev CJ:=tu [.ref 24]
abbrev o30_2L(P:aQ):fW:=[de P "__module__" 214 m187,de P "__qualname__" 216 (vs "NoHall" 215),de P "__firstlineno__" 218 (.int 4 217),de P "__static_attributes__" 219 (.ref 35)]
abbrev o30_2(P:aQ):Obj:=dc (o30_2L P) 4
abbrev o33_2:=cc "NoHall" 209 4 31 212
abbrev o34_2:Obj:=fm 33 3 30 m187
abbrev o36_2L(P:aQ):fW:=[de P "__module__" 214 m187,de P "__firstlineno__" 218 (.int 4 217),de P "__static_attributes__" 219 (.ref 35),de P "__doc__" 220 .none]
abbrev z2Y(P:aQ):Obj:=dc (o36_2L P) 2
abbrev z2Z:Obj:=kc "NoHall" [.ref 24] [.ref 37,.ref 24] 36 [] 28 ag 207 215
abbrev o38_2:Obj:=pf "super" [.ref 37,.ref 37,.ref 37]
abbrev o39_2:Obj:=pf "builtin_function_or_method" [.builtin "object.__init_subclass__",.ref 37]
abbrev t2(P:aQ):BT:=inq (ins (t1 P) [(3,o3_2 P),(12,o12_2),(24,o24_2)]) 28 [CJ,EM,o30_2 P,o11a,j3,o33_2,o34_2,o11a,z2Y P,z2Z,o38_2,o39_2]
abbrev s2(w:aH)(os:aZ):dm:=⟨t2 w.params,40,{ },#[],{ },223,os⟩
abbrev l1:fT:=[top 2]
theorem run_1(w:aH)(os:aZ):dF bJ pw w 11 ann 1 214 (s1 w os) (cW l1 env cE ⟨2,0,3,8⟩ fB)=aa (.next,s2 w os,cE,⟨4,0,5,8⟩):=by
 rewrite[te_sT,te_tb];kernel_rfl
abbrev o3_3L(P:aQ):fW:=de P "__name__" 165 m187::(o3_2L P).tail++[de P "NoBasket" 238 (.ref 49)]
abbrev o3_3(P:aQ):Obj:=dc (o3_3L P) 12
abbrev z30:aF:=z2X++lr [(6,45)]
abbrev o12_3:=fi z30
abbrev o24_3:Obj:=kc "HallError" [.type "ValueError"] [.ref 24] 23 [.ref 37,.ref 49] 15 ag 189 197
abbrev o42_3L(P:aQ):fW:=[de P "__module__" 230 m187,de P "__qualname__" 232 (vs "NoBasket" 231),de P "__firstlineno__" 234 (.int 6 233),de P "__static_attributes__" 235 (.ref 47)]
abbrev o42_3(P:aQ):Obj:=dc (o42_3L P) 4
abbrev o45_3:=cc "NoBasket" 225 6 43 228
abbrev o46_3:Obj:=fm 45 3 42 m187
abbrev o48_3L(P:aQ):fW:=[de P "__module__" 230 m187,de P "__firstlineno__" 234 (.int 6 233),de P "__static_attributes__" 235 (.ref 47),de P "__doc__" 236 .none]
abbrev z31(P:aQ):Obj:=dc (o48_3L P) 2
abbrev z32:Obj:=kc "NoBasket" [.ref 24] [.ref 49,.ref 24] 48 [] 40 ag 223 231
abbrev o50_3:Obj:=pf "super" [.ref 49,.ref 49,.ref 49]
abbrev o51_3:Obj:=pf "builtin_function_or_method" [.builtin "object.__init_subclass__",.ref 49]
abbrev t3(P:aQ):BT:=inq (ins (t2 P) [(3,o3_3 P),(12,o12_3),(24,o24_3)]) 40 [CJ,EM,o42_3 P,o11a,j3,o45_3,o46_3,o11a,z31 P,z32,o50_3,o51_3]
abbrev s3(w:aH)(os:aZ):dm:=⟨t3 w.params,52,{ },#[],{ },239,os⟩
abbrev l2:fT:=[top 3]
theorem run_2(w:aH)(os:aZ):dF bJ pw w 11 ann 1 214 (s2 w os) (cW l2 env cE ⟨4,0,5,8⟩ fB)=aa (.next,s3 w os,cE,⟨6,0,7,8⟩):=by
 rewrite[te_sT,te_tb];kernel_rfl
abbrev o3_4L(P:aQ):fW:=de P "__name__" 165 m187::(o3_3L P).tail++[de P "Unlike" 254 (.ref 61)]
abbrev o3_4(P:aQ):Obj:=dc (o3_4L P) 13
abbrev z33:aF:=z30++lr [(8,57)]
abbrev o12_4:=fi z33
abbrev o24_4:Obj:=kc "HallError" [.type "ValueError"] [.ref 24] 23 [.ref 37,.ref 49,.ref 61] 15 ag 189 197
abbrev o54_4L(P:aQ):fW:=[de P "__module__" 246 m187,de P "__qualname__" 248 (vs "Unlike" 247),de P "__firstlineno__" 250 (.int 8 249),de P "__static_attributes__" 251 (.ref 59)]
abbrev o54_4(P:aQ):Obj:=dc (o54_4L P) 4
abbrev o57_4:=cc "Unlike" 241 8 55 244
abbrev o58_4:Obj:=fm 57 3 54 m187
abbrev o60_4L(P:aQ):fW:=[de P "__module__" 246 m187,de P "__firstlineno__" 250 (.int 8 249),de P "__static_attributes__" 251 (.ref 59),de P "__doc__" 252 .none]
abbrev z34(P:aQ):Obj:=dc (o60_4L P) 2
abbrev z35:Obj:=kc "Unlike" [.ref 24] [.ref 61,.ref 24] 60 [] 52 ag 239 247
abbrev o62_4:Obj:=pf "super" [.ref 61,.ref 61,.ref 61]
abbrev o63_4:Obj:=pf "builtin_function_or_method" [.builtin "object.__init_subclass__",.ref 61]
abbrev t4(P:aQ):BT:=inq (ins (t3 P) [(3,o3_4 P),(12,o12_4),(24,o24_4)]) 52 [CJ,EM,o54_4 P,o11a,j3,o57_4,o58_4,o11a,z34 P,z35,o62_4,o63_4]
abbrev s4(w:aH)(os:aZ):dm:=⟨t4 w.params,64,{ },#[],{ },255,os⟩
abbrev l3:fT:=[top 4]
theorem run_3(w:aH)(os:aZ):dF bJ pw w 11 ann 1 214 (s3 w os) (cW l3 env cE ⟨6,0,7,8⟩ fB)=aa (.next,s4 w os,cE,⟨8,0,9,8⟩):=by
 rewrite[te_sT,te_tb];kernel_rfl
abbrev o3_5L(P:aQ):fW:=de P "__name__" 165 m271::(o3_4L P).tail++[de P "NotWithin" 270 (.ref 73),de P "is_whole" 279 (.ref 82),de P "is_row" 285 (.ref 87),de P "noughts" 291 (.ref 92),de P "unit_row" 297 (.ref 97),de P "added" 303 (.ref 102),de P "taken" 309 (.ref 107)]
abbrev o3_5(P:aQ):Obj:=dc (o3_5L P) 20
abbrev z36:aF:=z33++lr [(10,69),(13,81),(15,86),(19,91),(21,96),(23,101),(25,106)]
abbrev o12_5:=fi z36
abbrev z37:Obj:=kc "HallError" [.type "ValueError"] [.ref 24] 23 [.ref 37,.ref 49,.ref 61,.ref 73] 15 ag 189 197
abbrev o66_5L(P:aQ):fW:=[de P "__module__" 262 m187,de P "__qualname__" 264 (vs "NotWithin" 263),de P "__firstlineno__" 266 (.int 10 265),de P "__static_attributes__" 267 (.ref 71)]
abbrev o66_5(P:aQ):Obj:=dc (o66_5L P) 4
abbrev o69_5:=cc "NotWithin" 257 10 67 260
abbrev o70_5:Obj:=fm 69 3 66 m187
abbrev o72_5L(P:aQ):fW:=[de P "__module__" 262 m187,de P "__firstlineno__" 266 (.int 10 265),de P "__static_attributes__" 267 (.ref 71),de P "__doc__" 268 .none]
abbrev z38(P:aQ):Obj:=dc (o72_5L P) 2
abbrev z39:Obj:=kc "NotWithin" [.ref 24] [.ref 73,.ref 24] 72 [] 64 ag 255 263
abbrev o74_5:Obj:=pf "super" [.ref 73,.ref 73,.ref 73]
abbrev o75_5:Obj:=pf "builtin_function_or_method" [.builtin "object.__init_subclass__",.ref 73]
abbrev z3a:=tu [vs "value" 276]
abbrev o80_5:=fn 7
abbrev z3b:=cg "is_whole" 273 13 1 76 277
abbrev z3c:=ff 7 m271 81
abbrev o85_5:=fn 8
abbrev z3d:=cf "is_row" 280 15 2 83 283
abbrev z3e:=ff 8 m271 86
abbrev o90_5:=fn 9
abbrev z3f:=cf "noughts" 286 19 1 88 289
abbrev z3g:=ff 9 m271 91
abbrev o95_5:=fn 10
abbrev z3h:=cf "unit_row" 292 21 2 93 295
abbrev z3i:=ff 10 m271 96
abbrev z3j:=fn 11
abbrev Vl:=cf "added" 298 23 2 98 301
abbrev Vm:=ff 11 m271 101
abbrev z3k:=fn 12
abbrev Vn:=cf "taken" 304 25 2 103 307
abbrev Vo:=ff 12 m271 106
abbrev t5(P:aQ):BT:=inq (ins (t4 P) [(3,o3_5 P),(12,o12_5),(24,z37)]) 64 [CJ,EM,o66_5 P,o11a,j3,o69_5,o70_5,o11a,z38 P,z39,o74_5,o75_5,o11a,j3,z3a,o11a,o80_5,z3b,z3c,o11a,j3,o85_5,z3d,z3e,o11a,j3,o90_5,z3f,z3g,o11a,j3,o95_5,z3h,z3i,o11a,j3,z3j,Vl,Vm,o11a,j3,z3k,Vn,Vo]
abbrev s5(w:aH)(os:aZ):dm:=⟨t5 w.params,108,{ },#[],{ },310,os⟩
abbrev l4:fT:=[top 5,top 6,top 7,top 8,top 9,top 10,top 11,top 12]
theorem run_4(w:aH)(os:aZ):dF bJ pw w 11 ann 1 382 (s4 w os) (cW l4 env cE ⟨8,0,9,8⟩ fB)=aa (.next,s5 w os,cE,⟨25,0,26,59⟩):=by
 rewrite[te_sT,te_tb];kernel_rfl
abbrev o3_6L(P:aQ):fW:=de P "__name__" 165 m343::(o3_5L P).tail++[de P "scaled" 315 (.ref 112),de P "weighed" 321 (.ref 117),de P "mixed" 333 (.ref 124),de P "head_at" 342 (.ref 131),de P "MOST_KINDS" 346 (.int 6 345),de P "MOST_BILLS" 348 (.int 8 347),de P "are_kinds" 355 (.ref 138),de P "is_bill" 361 (.ref 143),de P "need_kinds" 368 (.ref 150),de P "need_bill" 376 (.ref 157),de P "hall_of" 385 (.ref 164),de P "hall_by" 391 (.ref 169),de P "need_basket_of" 399 (.ref 176),de P "need_basket" 407 (.ref 183)]
abbrev o3_6(P:aQ):Obj:=dc (o3_6L P) 34
abbrev z3l:aF:=z36++lr [(27,111),(29,116),(31,123),(36,130),(44,137),(46,142),(48,149),(51,156),(54,163),(61,168),(63,175),(66,182)]
abbrev o12_6:=fi z3l
abbrev z3m:=fn 13
abbrev Vp:=cf "scaled" 310 27 2 108 313
abbrev Vq:=ff 13 m271 111
abbrev z3n:=fn 14
abbrev Vr:=cf "weighed" 316 29 2 113 319
abbrev Vs:=ff 14 m271 116
abbrev Vt:=tu [vs "rows" 325,vs "counts" 326,vs "length" 327,vs "total" 328,vs "row" 329,vs "often" 330]
abbrev z3o:=fn 15
abbrev Vu:=cg "mixed" 322 31 3 118 331
abbrev Vv:=ff 15 m271 123
abbrev Vw:=tu [vs "row" 337,vs "spot" 338,vs "number" 339]
abbrev z3p:=fn 16
abbrev Vx:=cg "head_at" 334 36 1 125 340
abbrev Vy:=ff 16 m271 130
abbrev Vz:=tu [vs "value" 352]
abbrev z3q:=fn 20
abbrev VA:=cg "are_kinds" 349 44 1 132 353
abbrev VB:=ff 20 m343 137
abbrev z3r:=fn 21
abbrev VC:=cf "is_bill" 356 46 2 139 359
abbrev VD:=ff 21 m343 142
abbrev VE:=tu [vs "kinds" 365]
abbrev z3s:=fn 22
abbrev VF:=cg "need_kinds" 362 48 1 144 366
abbrev VG:=ff 22 m343 149
abbrev VH:=tu [vs "bill" 372,vs "kinds" 373]
abbrev z3t:=fn 23
abbrev VI:=cg "need_bill" 369 51 2 151 374
abbrev VJ:=ff 23 m343 156
abbrev VL:=tu [vs "kinds" 380,vs "bills" 381,vs "bill" 382]
abbrev z3u:=fn 24
abbrev VM:=cg "hall_of" 377 54 2 158 383
abbrev VN:=ff 24 m343 163
abbrev z3v:=fn 25
abbrev VO:=cf "hall_by" 386 61 2 165 389
abbrev VP:=ff 25 m343 168
abbrev VQ:=tu [vs "kinds" 395,vs "basket" 396]
abbrev z3w:=fn 26
abbrev VR:=cg "need_basket_of" 392 63 2 170 397
abbrev VS:=ff 26 m343 175
abbrev VT:=tu [vs "hall" 403,vs "basket" 404]
abbrev z3x:=fn 27
abbrev VU:=cg "need_basket" 400 66 2 177 405
abbrev VV:=ff 27 m343 182
abbrev t6(P:aQ):BT:=inq (ins (t5 P) [(3,o3_6 P),(12,o12_6)]) 108 [o11a,j3,z3m,Vp,Vq,o11a,j3,z3n,Vr,Vs,o11a,j3,Vt,o11a,z3o,Vu,Vv,o11a,j3,Vw,o11a,z3p,Vx,Vy,o11a,j3,Vz,o11a,z3q,VA,VB,o11a,j3,z3r,VC,VD,o11a,j3,VE,o11a,z3s,VF,VG,o11a,j3,VH,o11a,z3t,VI,VJ,o11a,j3,VL,o11a,z3u,VM,VN,o11a,j3,z3v,VO,VP,o11a,j3,VQ,o11a,z3w,VR,VS,o11a,j3,VT,o11a,z3x,VU,VV]
abbrev s6(w:aH)(os:aZ):dm:=⟨t6 w.params,184,{ },#[],{ },408,os⟩
abbrev l5:fT:=[top 13,top 14,top 15,top 16,top 17,top 18,top 19,top 20,top 21,top 22,top 23,top 24,top 25,top 26,top 27]
theorem run_5(w:aH)(os:aZ):dF bJ pw w 11 ann 1 376 (s5 w os) (cW l5 env cE ⟨25,0,26,59⟩ fB)=aa (.next,s6 w os,cE,⟨66,0,67,35⟩):=by
 rewrite[te_sT,te_tb];kernel_rfl
abbrev o3_7L(P:aQ):fW:=de P "__name__" 165 m449::(o3_6L P).tail++[de P "nought" 414 (.ref 190),de P "apart" 423 (.ref 197),de P "bridge" 431 (.ref 202),de P "rest" 439 (.ref 209),de P "product" 448 (.ref 216),de P "lowering" 463 (.ref 223),de P "lowered" 471 (.ref 230),de P "crossed" 483 (.ref 237),de P "turned_up" 490 (.ref 244),de P "with_row" 496 (.ref 249),de P "evened" 505 (.ref 256),de P "climbed" 514 (.ref 263)]
abbrev o3_7(P:aQ):Obj:=dc (o3_7L P) 46
abbrev z3y:aF:=z3l++lr [(68,189),(70,196),(75,201),(86,208),(90,215),(96,222),(106,229),(108,236),(114,243),(116,248),(127,255),(132,262)]
abbrev o12_7:=fi z3y
abbrev VW:=tu [vs "hall" 411]
abbrev z3z:=fn 28
abbrev VX:=cg "nought" 408 68 1 184 412
abbrev VY:=ff 28 m343 189
abbrev VZ:=tu [vs "hall" 418,vs "one" 419,vs "other" 420]
abbrev z3A:=fn 29
abbrev Wa:=cg "apart" 415 70 3 191 421
abbrev Wb:=ff 29 m343 196
abbrev z3B:=fn 31
abbrev Wc:=cf "bridge" 426 75 2 198 429
abbrev Wd:=ff 31 m424 201
abbrev We:=tu [vs "a" 435,vs "part" 436]
abbrev z3C:=fn 32
abbrev Wf:=cg "rest" 432 86 2 203 437
abbrev Wg:=ff 32 m424 208
abbrev Wh:=tu [vs "numbers" 443,vs "found" 444,vs "number" 445]
abbrev z3D:=fn 33
abbrev Wj:=cg "product" 440 90 1 210 446
abbrev Wk:=ff 33 m424 215
abbrev Wl:=tu [vs "row" 454,vs "rungs" 455,vs "left" 456,vs "counts" 457,vs "rung" 458,vs "spot" 459,vs "often" 460]
abbrev z3E:=fn 35
abbrev Wm:=cg "lowering" 451 96 2 217 461
abbrev Wn:=ff 35 m449 222
abbrev Wo:=tu [vs "row" 467,vs "rungs" 468]
abbrev z3F:=fn 36
abbrev Wp:=cg "lowered" 464 106 2 224 469
abbrev Wq:=ff 36 m449 229
abbrev Wr:=tu [vs "rung" 475,vs "row" 476,vs "spot" 477,vs "found" 478,vs "upper" 479,vs "lower" 480]
abbrev z3G:=fn 37
abbrev Ws:=cg "crossed" 472 108 2 231 481
abbrev Wt:=ff 37 m449 236
abbrev Wu:=tu [vs "row" 487]
abbrev z3H:=fn 38
abbrev Wv:=cg "turned_up" 484 114 1 238 488
abbrev Ww:=ff 38 m449 243
abbrev z3I:=fn 39
abbrev Wx:=cf "with_row" 491 116 2 245 494
abbrev Wy:=ff 39 m449 248
abbrev Wz:=tu [vs "rungs" 500,vs "found" 501,vs "rung" 502]
abbrev z3J:=fn 40
abbrev WA:=cg "evened" 497 127 1 250 503
abbrev WB:=ff 40 m449 255
abbrev WD:=tu [vs "rows" 509,vs "rungs" 510,vs "row" 511]
abbrev z3K:=fn 41
abbrev WE:=cg "climbed" 506 132 1 257 512
abbrev WG:=ff 41 m449 262
abbrev t7(P:aQ):BT:=inq (ins (t6 P) [(3,o3_7 P),(12,o12_7)]) 184 [o11a,j3,VW,o11a,z3z,VX,VY,o11a,j3,VZ,o11a,z3A,Wa,Wb,o11a,j3,z3B,Wc,Wd,o11a,j3,We,o11a,z3C,Wf,Wg,o11a,j3,Wh,o11a,z3D,Wj,Wk,o11a,j3,Wl,o11a,z3E,Wm,Wn,o11a,j3,Wo,o11a,z3F,Wp,Wq,o11a,j3,Wr,o11a,z3G,Ws,Wt,o11a,j3,Wu,o11a,z3H,Wv,Ww,o11a,j3,z3I,Wx,Wy,o11a,j3,Wz,o11a,z3J,WA,WB,o11a,j3,WD,o11a,z3K,WE,WG]
abbrev s7(w:aH)(os:aZ):dm:=⟨t7 w.params,264,{ },#[],{ },515,os⟩
abbrev l6:fT:=[top 28,top 29,top 30,top 31,top 32,top 33,top 34,top 35,top 36,top 37,top 38,top 39,top 40,top 41]
theorem run_6(w:aH)(os:aZ):dF bJ pw w 11 ann 1 382 (s6 w os) (cW l6 env cE ⟨66,0,67,35⟩ fB)=aa (.next,s7 w os,cE,⟨132,0,136,16⟩):=by
 rewrite[te_sT,te_tb];kernel_rfl
abbrev o3_8L(P:aQ):fW:=de P "__name__" 165 m608::(o3_7L P).tail++[de P "tagged_stair" 520 (.ref 268),de P "tags_at_nought" 526 (.ref 273),de P "heads_product" 532 (.ref 278),de P "stair" 539 (.ref 285),de P "stair_with_uses" 545 (.ref 290),de P "need_like" 555 (.ref 297),de P "joined" 563 (.ref 304),de P "met" 569 (.ref 309),de P "within" 575 (.ref 314),de P "index_in" 585 (.ref 321),de P "plan" 596 (.ref 328),de P "settled" 607 (.ref 335),de P "turned" 615 (.ref 340)]
abbrev o3_8(P:aQ):Obj:=dc (o3_8L P) 59
abbrev z3L:aF:=z3y++lr [(137,267),(139,272),(141,277),(143,284),(145,289),(149,296),(152,303),(155,308),(161,313),(165,320),(174,327),(176,334),(183,339)]
abbrev o12_8:=fi z3L
abbrev z3M:=fn 42
abbrev WH:=cf "tagged_stair" 515 137 2 264 518
abbrev WI:=ff 42 m449 267
abbrev z3N:=fn 43
abbrev WJ:=cf "tags_at_nought" 521 139 2 269 524
abbrev WK:=ff 43 m449 272
abbrev z3O:=fn 44
abbrev WL:=cf "heads_product" 527 141 1 274 530
abbrev WM:=ff 44 m449 277
abbrev WN:=tu [vs "hall" 536]
abbrev z3P:=fn 45
abbrev WO:=cg "stair" 533 143 1 279 537
abbrev WP:=ff 45 m449 284
abbrev z3Q:=fn 46
abbrev WQ:=cf "stair_with_uses" 540 145 1 286 543
abbrev WR:=ff 46 m449 289
abbrev WS:=tu [vs "one" 551,vs "other" 552]
abbrev z3R:=fn 48
abbrev WT:=cg "need_like" 548 149 2 291 553
abbrev WU:=ff 48 m546 296
abbrev WV:=tu [vs "one" 559,vs "other" 560]
abbrev z3S:=fn 49
abbrev WW:=cg "joined" 556 152 2 298 561
abbrev WX:=ff 49 m546 303
abbrev z3T:=fn 50
abbrev WY:=cf "met" 564 155 2 305 567
abbrev WZ:=ff 50 m546 308
abbrev z3U:=fn 51
abbrev Xa:=cf "within" 570 161 2 310 573
abbrev Xb:=ff 51 m546 313
abbrev Xd:=tu [vs "one" 579,vs "other" 580,vs "ours" 581,vs "theirs" 582]
abbrev z3V:=fn 52
abbrev Xe:=cg "index_in" 576 165 2 315 583
abbrev Xf:=ff 52 m546 320
abbrev Xg:=tu [vs "hall" 591,vs "one" 592,vs "other" 593]
abbrev z3W:=fn 54
abbrev Xh:=cg "plan" 588 174 3 322 594
abbrev Xi:=ff 54 m586 327
abbrev Xj:=tu [vs "hall" 600,vs "one" 601,vs "other" 602,vs "back" 603,vs "left" 604]
abbrev z3X:=fn 55
abbrev Xk:=cg "settled" 597 176 3 329 605
abbrev Xl:=ff 55 m586 334
abbrev z3Y:=fn 57
abbrev Xm:=cf "turned" 610 183 2 336 613
abbrev Xn:=ff 57 m608 339
abbrev t8(P:aQ):BT:=inq (ins (t7 P) [(3,o3_8 P),(12,o12_8)]) 264 [o11a,j3,z3M,WH,WI,o11a,j3,z3N,WJ,WK,o11a,j3,z3O,WL,WM,o11a,j3,WN,o11a,z3P,WO,WP,o11a,j3,z3Q,WQ,WR,o11a,j3,WS,o11a,z3R,WT,WU,o11a,j3,WV,o11a,z3S,WW,WX,o11a,j3,z3T,WY,WZ,o11a,j3,z3U,Xa,Xb,o11a,j3,Xd,o11a,z3V,Xe,Xf,o11a,j3,Xg,o11a,z3W,Xh,Xi,o11a,j3,Xj,o11a,z3X,Xk,Xl,o11a,j3,z3Y,Xm,Xn]
abbrev s8(w:aH)(os:aZ):dm:=⟨t8 w.params,341,{ },#[],{ },616,os⟩
abbrev l7:fT:=[top 42,top 43,top 44,top 45,top 46,top 47,top 48,top 49,top 50,top 51,top 52,top 53,top 54,top 55,top 56,top 57]
theorem run_7(w:aH)(os:aZ):dF bJ pw w 11 ann 1 395 (s7 w os) (cW l7 env cE ⟨132,0,136,16⟩ fB)=aa (.next,s8 w os,cE,⟨183,0,184,65⟩):=by
 rewrite[te_sT,te_tb];kernel_rfl
abbrev o3_9L(P:aQ):fW:=de P "__name__" 165 m695::(o3_8L P).tail++[de P "is_slant" 621 (.ref 345),de P "rests" 627 (.ref 350),de P "slanted" 633 (.ref 355),de P "linked" 646 (.ref 362),de P "chained" 652 (.ref 367),de P "measures" 658 (.ref 372),de P "scales" 666 (.ref 377),de P "tilt" 674 (.ref 384),de P "measured_scale" 682 (.ref 391),de P "denial" 694 (.ref 398),de P "is_table" 702 (.ref 403),de P "need_table" 711 (.ref 410),de P "sound" 717 (.ref 415)]
abbrev o3_9(P:aQ):Obj:=dc (o3_9L P) 72
abbrev z3Z:aF:=z3L++lr [(185,344),(190,349),(192,354),(202,361),(209,366),(217,371),(227,376),(229,383),(231,390),(233,397),(241,402),(245,409),(248,414)]
abbrev o12_9:=fi z3Z
abbrev z40:=fn 58
abbrev Xo:=cf "is_slant" 616 185 1 341 619
abbrev Xp:=ff 58 m608 344
abbrev z41:=fn 59
abbrev Xq:=cf "rests" 622 190 2 346 625
abbrev Xr:=ff 59 m608 349
abbrev z42:=fn 60
abbrev Xs:=cf "slanted" 628 192 3 351 631
abbrev Xu:=ff 60 m608 354
abbrev Xv:=tu [vs "one" 637,vs "other" 638,vs "found" 639,vs "common" 640,vs "least" 641,vs "upper" 642,vs "lower" 643]
abbrev z43:=fn 61
abbrev Xw:=cg "linked" 634 202 2 356 644
abbrev Xx:=ff 61 m608 361
abbrev z44:=fn 62
abbrev Xy:=cf "chained" 647 209 1 363 650
abbrev Xz:=ff 62 m608 366
abbrev z45:=fn 63
abbrev XA:=cf "measures" 653 217 1 368 656
abbrev XB:=ff 63 m608 371
abbrev z46:=fn 65
abbrev XC:=cf "scales" 661 227 1 373 664
abbrev XD:=ff 65 m659 376
abbrev XE:=tu [vs "way" 670,vs "scale" 671]
abbrev z47:=fn 66
abbrev XF:=cg "tilt" 667 229 2 378 672
abbrev XG:=ff 66 m659 383
abbrev XH:=tu [vs "scale" 678,vs "found" 679]
abbrev z48:=fn 67
abbrev XI:=cg "measured_scale" 675 231 2 385 680
abbrev XJ:=ff 67 m659 390
abbrev XM:=tu [vs "hall" 686,vs "one" 687,vs "other" 688,vs "way" 689,vs "scale" 690,vs "found" 691]
abbrev z49:=fn 68
abbrev XO:=cg "denial" 683 233 3 392 692
abbrev XQ:=ff 68 m659 397
abbrev z4a:=fn 70
abbrev XR:=cf "is_table" 697 241 3 399 700
abbrev XS:=ff 70 m695 402
abbrev XT:=tu [vs "one" 706,vs "table" 707,vs "other" 708]
abbrev z4b:=fn 71
abbrev XU:=cg "need_table" 703 245 3 404 709
abbrev XV:=ff 71 m695 409
abbrev z4c:=fn 72
abbrev XW:=cf "sound" 712 248 3 411 715
abbrev XX:=ff 72 m695 414
abbrev t9(P:aQ):BT:=inq (ins (t8 P) [(3,o3_9 P),(12,o12_9)]) 341 [o11a,j3,z40,Xo,Xp,o11a,j3,z41,Xq,Xr,o11a,j3,z42,Xs,Xu,o11a,j3,Xv,o11a,z43,Xw,Xx,o11a,j3,z44,Xy,Xz,o11a,j3,z45,XA,XB,o11a,j3,z46,XC,XD,o11a,j3,XE,o11a,z47,XF,XG,o11a,j3,XH,o11a,z48,XI,XJ,o11a,j3,XM,o11a,z49,XO,XQ,o11a,j3,z4a,XR,XS,o11a,j3,XT,o11a,z4b,XU,XV,o11a,j3,z4c,XW,XX]
abbrev s9(w:aH)(os:aZ):dm:=⟨t9 w.params,416,{ },#[],{ },718,os⟩
abbrev l8:fT:=[top 58,top 59,top 60,top 61,top 62,top 63,top 64,top 65,top 66,top 67,top 68,top 69,top 70,top 71,top 72]
theorem run_8(w:aH)(os:aZ):dF bJ pw w 11 ann 1 387 (s8 w os) (cW l8 env cE ⟨183,0,184,65⟩ fB)=aa (.next,s9 w os,cE,⟨248,0,251,102⟩):=by
 rewrite[te_sT,te_tb];kernel_rfl
abbrev z4d(P:aQ):fW:=de P "__name__" 165 m724::(o3_9L P).tail++[de P "pulled" 723 (.ref 420),de P "_law_cell_at" 733 (.ref 427),de P "_law_whole" 740 (.ref 434),de P "_law_is_row" 749 (.ref 441),de P "_law_number" 759 (.ref 448),de P "_law_row" 765 (.ref 453),de P "_law_sum" 771 (.ref 458),de P "_law_plus" 777 (.ref 463),de P "_law_heavy" 787 (.ref 470),de P "_law_leads" 797 (.ref 477),de P "_law_denies" 808 (.ref 484),de P "_law_two" 814 (.ref 489),de P "_law_copied" 820 (.ref 494)]
abbrev o3_10(P:aQ):Obj:=dc (z4d P) 85
abbrev YY:aF:=z3Z++lr [(252,419),(259,426),(265,433),(267,440),(274,447),(285,452),(287,457),(292,462),(294,469),(299,476),(303,483),(312,488),(330,493)]
abbrev o12_10:=fi YY
abbrev YZ:=fn 73
abbrev Qd:=cf "pulled" 718 252 3 416 721
abbrev Qe:=ff 73 m695 419
abbrev Qf:=tu [vs "_law_script" 729,vs "_law_k" 730]
abbrev Za:=fn 75
abbrev Qg:=cg "_law_cell_at" 726 259 2 421 731
abbrev Qh:=ff 75 m724 426
abbrev Qi:=tu [vs "_law_found" 737]
abbrev Zb:=fn 76
abbrev Qj:=cg "_law_whole" 734 265 1 428 738
abbrev Qk:=ff 76 m724 433
abbrev Ql:=tu [vs "_law_found" 744,vs "_law_size" 745,vs "_law_number_here" 746]
abbrev Zc:=fn 77
abbrev Qm:=cg "_law_is_row" 741 267 2 435 747
abbrev Qn:=ff 77 m724 440
abbrev Qo:=tu [vs "_law_cell" 753,vs "_law_mode" 754,vs "_law_number_here" 755,vs "_law_wide" 756]
abbrev Zd:=fn 78
abbrev Qp:=cg "_law_number" 750 274 2 442 757
abbrev Qq:=ff 78 m724 447
abbrev Ze:=fn 79
abbrev Qr:=cf "_law_row" 760 285 4 449 763
abbrev Qs:=ff 79 m724 452
abbrev Zf:=fn 80
abbrev Qt:=cf "_law_sum" 766 287 3 454 769
abbrev Qu:=ff 80 m724 457
abbrev Zg:=fn 81
abbrev Qv:=cf "_law_plus" 772 292 3 459 775
abbrev Qw:=ff 81 m724 462
abbrev Qx:=tu [vs "_law_weights" 781,vs "_law_row_here" 782,vs "_law_made" 783,vs "_law_k" 784]
abbrev Zh:=fn 82
abbrev Qy:=cg "_law_heavy" 778 294 2 464 785
abbrev Qz:=ff 82 m724 469
abbrev QA:=tu [vs "_law_bills" 791,vs "_law_one" 792,vs "_law_other" 793,vs "_law_uses" 794]
abbrev Zi:=fn 83
abbrev QB:=cg "_law_leads" 788 299 4 471 795
abbrev QC:=ff 83 m724 476
abbrev QD:=tu [vs "_law_bills" 801,vs "_law_one" 802,vs "_law_other" 803,vs "_law_scale" 804,vs "_law_bill" 805]
abbrev Zj:=fn 84
abbrev QE:=cg "_law_denies" 798 303 4 478 806
abbrev QF:=ff 84 m724 483
abbrev Zk:=fn 85
abbrev QG:=cf "_law_two" 809 312 1 485 812
abbrev QH:=ff 85 m724 488
abbrev Zl:=fn 86
abbrev QI:=cf "_law_copied" 815 330 1 490 818
abbrev QJ:=ff 86 m724 493
abbrev t10(P:aQ):BT:=inq (ins (t9 P) [(3,o3_10 P),(12,o12_10)]) 416 [o11a,j3,YZ,Qd,Qe,o11a,j3,Qf,o11a,Za,Qg,Qh,o11a,j3,Qi,o11a,Zb,Qj,Qk,o11a,j3,Ql,o11a,Zc,Qm,Qn,o11a,j3,Qo,o11a,Zd,Qp,Qq,o11a,j3,Ze,Qr,Qs,o11a,j3,Zf,Qt,Qu,o11a,j3,Zg,Qv,Qw,o11a,j3,Qx,o11a,Zh,Qy,Qz,o11a,j3,QA,o11a,Zi,QB,QC,o11a,j3,QD,o11a,Zj,QE,QF,o11a,j3,Zk,QG,QH,o11a,j3,Zl,QI,QJ]
abbrev s10(w:aH)(os:aZ):dm:=⟨t10 w.params,495,{ },#[],{ },821,os⟩
abbrev l9:fT:=[top 73,top 74,top 75,top 76,top 77,top 78,top 79,top 80,top 81,top 82,top 83,top 84,top 85,top 86]
theorem run_9(w:aH)(os:aZ):dF bJ pw w 11 ann 1 385 (s9 w os) (cW l9 env cE ⟨248,0,251,102⟩ fB)=aa (.next,s10 w os,cE,⟨330,0,331,63⟩):=by
 rewrite[te_sT,te_tb];kernel_rfl
abbrev o3_11L(P:aQ):fW:=de P "__name__" 165 m724::(z4d P).tail++[de P "_law_same" 832 (.ref 501),de P "_law_asked" 842 (.ref 508),de P "_law_unlike" 854 (.ref 515),de P "_law_spoilt" 860 (.ref 520),de P "_law_all_in" 866 (.ref 525),de P "law" 872 (.ref 530)]
abbrev z4e(P:aQ):Obj:=dc (o3_11L P) 91
abbrev z5s:aF:=YY++lr [(332,500),(340,507),(352,514),(363,519),(385,524),(394,529)]
abbrev z4f:=fi z5s
abbrev QK:=tu [vs "_law_hall" 824,vs "_law_bills" 825,vs "_law_one" 826,vs "_law_other" 827,vs "_law_uses" 828,vs "_law_scale" 829]
abbrev Zm:=fn 87
abbrev QL:=cg "_law_same" 821 332 4 495 830
abbrev QM:=ff 87 m724 500
abbrev QN:=tu [vs "_law_one" 836,vs "_law_other" 837,vs "_law_table" 838,vs "_law_which" 839]
abbrev Zn:=fn 88
abbrev QO:=cg "_law_asked" 833 340 4 502 840
abbrev QP:=ff 88 m724 507
abbrev QQ:=tu [vs "_law_one" 846,vs "_law_other" 847,vs "_law_table" 848,vs "_law_which" 849,vs "_law_refused" 850,vs "e" 851]
abbrev Zo:=fn 89
abbrev QR:=cg "_law_unlike" 843 352 4 509 852
abbrev QS:=ff 89 m724 514
abbrev Zp:=fn 90
abbrev QT:=cf "_law_spoilt" 855 363 3 516 858
abbrev QU:=ff 90 m724 519
abbrev Zq:=fn 91
abbrev QV:=cf "_law_all_in" 861 385 2 521 864
abbrev QW:=ff 91 m724 524
abbrev Zr:=fn 92
abbrev QX:=cf "law" 867 394 1 526 870
abbrev QY:=ff 92 m724 529
abbrev t11(P:aQ):BT:=inq (ins (t10 P) [(3,z4e P),(12,z4f)]) 495 [o11a,j3,QK,o11a,Zm,QL,QM,o11a,j3,QN,o11a,Zn,QO,QP,o11a,j3,QQ,o11a,Zo,QR,QS,o11a,j3,Zp,QT,QU,o11a,j3,Zq,QV,QW,o11a,j3,Zr,QX,QY]
abbrev s11(w:aH)(os:aZ):dm:=⟨t11 w.params,531,{ },#[],{ },873,os⟩
abbrev l10:fT:=[top 87,top 88,top 89,top 90,top 91,top 92]
theorem run_10(w:aH)(os:aZ):dF bJ pw w 11 ann 1 179 (s10 w os) (cW l10 env cE ⟨330,0,331,63⟩ fB)=aa (.next,s11 w os,cE,⟨394,0,418,35⟩):=by
 rewrite[te_sT,te_tb];kernel_rfl
def h1(P:aQ):aV:=⟨⟨[boot_o_0 P,boot_o_1 P,boot_o_2 P,z4e P,boot_o_4 P,boot_o_5 P,boot_o_6 P,boot_o_7 P,boot_o_8 P,boot_o_9 P,boot_o_10 P,o11a,z4f,o13a,o14a,z2U,EM,o17_1 P,o11a,j3,o20_1,o21_1,o11a,z2V P,z37,z2W,o26_1,o27_1,CJ,EM,o30_2 P,o11a,j3,o33_2,o34_2,o11a,z2Y P,z2Z,o38_2,o39_2,CJ,EM,o42_3 P,o11a,j3,o45_3,o46_3,o11a,z31 P,z32,o50_3,o51_3,CJ,EM,o54_4 P,o11a,j3,o57_4,o58_4,o11a,z34 P,z35,o62_4,o63_4,CJ,EM,o66_5 P,o11a,j3,o69_5,o70_5,o11a,z38 P,z39,o74_5,o75_5,o11a,j3,z3a,o11a,o80_5,z3b,z3c,o11a,j3,o85_5,z3d,z3e,o11a,j3,o90_5,z3f,z3g,o11a,j3,o95_5,z3h,z3i,o11a,j3,z3j,Vl,Vm,o11a,j3,z3k,Vn,Vo,o11a,j3,z3m,Vp,Vq,o11a,j3,z3n,Vr,Vs,o11a,j3,Vt,o11a,z3o,Vu,Vv,o11a,j3,Vw,o11a,z3p,Vx,Vy,o11a,j3,Vz,o11a,z3q,VA,VB,o11a,j3,z3r,VC,VD,o11a,j3,VE,o11a,z3s,VF,VG,o11a,j3,VH,o11a,z3t,VI,VJ,o11a,j3,VL,o11a,z3u,VM,VN,o11a,j3,z3v,VO,VP,o11a,j3,VQ,o11a,z3w,VR,VS,o11a,j3,VT,o11a,z3x,VU,VV,o11a,j3,VW,o11a,z3z,VX,VY,o11a,j3,VZ,o11a,z3A,Wa,Wb,o11a,j3,z3B,Wc,Wd,o11a,j3,We,o11a,z3C,Wf,Wg,o11a,j3,Wh,o11a,z3D,Wj,Wk,o11a,j3,Wl,o11a,z3E,Wm,Wn,o11a,j3,Wo,o11a,z3F,Wp,Wq,o11a,j3,Wr,o11a,z3G,Ws,Wt,o11a,j3,Wu,o11a,z3H,Wv,Ww,o11a,j3,z3I,Wx,Wy,o11a,j3,Wz,o11a,z3J,WA,WB,o11a,j3,WD,o11a,z3K,WE,WG,o11a,j3,z3M,WH,WI,o11a,j3,z3N,WJ,WK,o11a,j3,z3O,WL,WM,o11a,j3,WN,o11a,z3P,WO,WP,o11a,j3,z3Q,WQ,WR,o11a,j3,WS,o11a,z3R,WT,WU,o11a,j3,WV,o11a,z3S,WW,WX,o11a,j3,z3T,WY,WZ,o11a,j3,z3U,Xa,Xb,o11a,j3,Xd,o11a,z3V,Xe,Xf,o11a,j3,Xg,o11a,z3W,Xh,Xi,o11a,j3,Xj,o11a,z3X,Xk,Xl,o11a,j3,z3Y,Xm,Xn,o11a,j3,z40,Xo,Xp,o11a,j3,z41,Xq,Xr,o11a,j3,z42,Xs,Xu,o11a,j3,Xv,o11a,z43,Xw,Xx,o11a,j3,z44,Xy,Xz,o11a,j3,z45,XA,XB,o11a,j3,z46,XC,XD,o11a,j3,XE,o11a,z47,XF,XG,o11a,j3,XH,o11a,z48,XI,XJ,o11a,j3,XM,o11a,z49,XO,XQ,o11a,j3,z4a,XR,XS,o11a,j3,XT,o11a,z4b,XU,XV,o11a,j3,z4c,XW,XX,o11a,j3,YZ,Qd,Qe,o11a,j3,Qf,o11a,Za,Qg,Qh,o11a,j3,Qi,o11a,Zb,Qj,Qk,o11a,j3,Ql,o11a,Zc,Qm,Qn,o11a,j3,Qo,o11a,Zd,Qp,Qq,o11a,j3,Ze,Qr,Qs,o11a,j3,Zf,Qt,Qu,o11a,j3,Zg,Qv,Qw,o11a,j3,Qx,o11a,Zh,Qy,Qz,o11a,j3,QA,o11a,Zi,QB,QC,o11a,j3,QD,o11a,Zj,QE,QF,o11a,j3,Zk,QG,QH,o11a,j3,Zl,QI,QJ,o11a,j3,QK,o11a,Zm,QL,QM,o11a,j3,QN,o11a,Zn,QO,QP,o11a,j3,QQ,o11a,Zo,QR,QS,o11a,j3,Zp,QT,QU,o11a,j3,Zq,QV,QW,o11a,j3,Zr,QX,QY]⟩,{ }⟩
abbrev QZ:Drawn:={ }
theorem run_z(w:aH)(os:aZ):topRun bJ pw w 11 ann 2 (s11 w os).abs ⟨doneF .next,cE,⟨394,0,418,35⟩,fB⟩=aa ⟨h1 w.params,#[],QZ,873,os⟩:=by
 rewrite[te_tr,te_tb];kernel_rfl
theorem z5t:behindTheImports pw=(l0++(l1++(l2++(l3++(l4++(l5++(l6++(l7++(l8++(l9++(l10++[]))))))))))):=by kernel_rfl
theorem run_all(w:aH)(os:aZ):topRun bJ pw w 11 ann (12+(1+(196+(214+(214+(214+(382+(376+(382+(395+(387+(385+(179+2))))))))))))) ⟨di w.params,#[],boot_drawn,boot_toks,os⟩ (topStub pw)=aa ⟨h1 w.params,#[],QZ,873,os⟩:=
 go_top (run_a w os) (piece_block (env:=env) (run_b w os) (by rw[z5t];exact(cJ (cI (run_0 w os)) (cJ (cI (run_1 w os)) (cJ (cI (run_2 w os)) (cJ (cI (run_3 w os)) (cJ (cI (run_4 w os)) (cJ (cI (run_5 w os)) (cJ (cI (run_6 w os)) (cJ (cI (run_7 w os)) (cJ (cI (run_8 w os)) (cJ (cI (run_9 w os)) (cJ (cI (run_10 w os)) (run_z w os))))))))))))))
abbrev keep:fQ:=[1,2,3,4,5,7,8,9,10,11,12,13,14,15,16,18,19,20,21,22,23,24,25,26,27,28,29,31,32,33,35,36,37,38,39,40,41,42,43,44,45,46,48,49,50,51,52,54,55,57,58,59,60,61,62,63,65,66,67,68,70,71,72,73,75,76,77,78,79,80,81,82,83,84,85,86,87,88,89,90,91,92]
def K:aQ->PySem.W.Frag:=λP=>(nat_lit 2,boot_o_2 P)::(nat_lit 3,z4e P)::(nat_lit 15,z2U)::(nat_lit 22,o11a)::(nat_lit 23,z2V P)::(nat_lit 24,z37)::(nat_lit 25,z2W)::(nat_lit 28,CJ)::(nat_lit 35,o11a)::(nat_lit 36,z2Y P)::(nat_lit 37,z2Z)::(nat_lit 40,CJ)::(nat_lit 47,o11a)::(nat_lit 48,z31 P)::(nat_lit 49,z32)::(nat_lit 52,CJ)::(nat_lit 59,o11a)::(nat_lit 60,z34 P)::(nat_lit 61,z35)::(nat_lit 64,CJ)::(nat_lit 71,o11a)::(nat_lit 72,z38 P)::(nat_lit 73,z39)::(nat_lit 76,o11a)::(nat_lit 78,z3a)::(nat_lit 79,o11a)::(nat_lit 81,z3b)::(nat_lit 82,z3c)::(nat_lit 83,o11a)::(nat_lit 86,z3d)::(nat_lit 87,z3e)::(nat_lit 88,o11a)::(nat_lit 91,z3f)::(nat_lit 92,z3g)::(nat_lit 93,o11a)::(nat_lit 96,z3h)::(nat_lit 97,z3i)::(nat_lit 98,o11a)::(nat_lit 101,Vl)::(nat_lit 102,Vm)::(nat_lit 103,o11a)::(nat_lit 106,Vn)::(nat_lit 107,Vo)::(nat_lit 108,o11a)::(nat_lit 111,Vp)::(nat_lit 112,Vq)::(nat_lit 113,o11a)::(nat_lit 116,Vr)::(nat_lit 117,Vs)::(nat_lit 118,o11a)::(nat_lit 120,Vt)::(nat_lit 121,o11a)::(nat_lit 123,Vu)::(nat_lit 124,Vv)::(nat_lit 125,o11a)::(nat_lit 127,Vw)::(nat_lit 128,o11a)::(nat_lit 130,Vx)::(nat_lit 131,Vy)::(nat_lit 132,o11a)::(nat_lit 134,Vz)::(nat_lit 135,o11a)::(nat_lit 137,VA)::(nat_lit 138,VB)::(nat_lit 139,o11a)::(nat_lit 142,VC)::(nat_lit 143,VD)::(nat_lit 144,o11a)::(nat_lit 146,VE)::(nat_lit 147,o11a)::(nat_lit 149,VF)::(nat_lit 150,VG)::(nat_lit 151,o11a)::(nat_lit 153,VH)::(nat_lit 154,o11a)::(nat_lit 156,VI)::(nat_lit 157,VJ)::(nat_lit 158,o11a)::(nat_lit 160,VL)::(nat_lit 161,o11a)::(nat_lit 163,VM)::(nat_lit 164,VN)::(nat_lit 165,o11a)::(nat_lit 168,VO)::(nat_lit 169,VP)::(nat_lit 170,o11a)::(nat_lit 172,VQ)::(nat_lit 173,o11a)::(nat_lit 175,VR)::(nat_lit 176,VS)::(nat_lit 177,o11a)::(nat_lit 179,VT)::(nat_lit 180,o11a)::(nat_lit 182,VU)::(nat_lit 183,VV)::(nat_lit 184,o11a)::(nat_lit 186,VW)::(nat_lit 187,o11a)::(nat_lit 189,VX)::(nat_lit 190,VY)::(nat_lit 191,o11a)::(nat_lit 193,VZ)::(nat_lit 194,o11a)::(nat_lit 196,Wa)::(nat_lit 197,Wb)::(nat_lit 198,o11a)::(nat_lit 201,Wc)::(nat_lit 202,Wd)::(nat_lit 203,o11a)::(nat_lit 205,We)::(nat_lit 206,o11a)::(nat_lit 208,Wf)::(nat_lit 209,Wg)::(nat_lit 210,o11a)::(nat_lit 212,Wh)::(nat_lit 213,o11a)::(nat_lit 215,Wj)::(nat_lit 216,Wk)::(nat_lit 217,o11a)::(nat_lit 219,Wl)::(nat_lit 220,o11a)::(nat_lit 222,Wm)::(nat_lit 223,Wn)::(nat_lit 224,o11a)::(nat_lit 226,Wo)::(nat_lit 227,o11a)::(nat_lit 229,Wp)::(nat_lit 230,Wq)::(nat_lit 231,o11a)::(nat_lit 233,Wr)::(nat_lit 234,o11a)::(nat_lit 236,Ws)::(nat_lit 237,Wt)::(nat_lit 238,o11a)::(nat_lit 240,Wu)::(nat_lit 241,o11a)::(nat_lit 243,Wv)::(nat_lit 244,Ww)::(nat_lit 245,o11a)::(nat_lit 248,Wx)::(nat_lit 249,Wy)::(nat_lit 250,o11a)::(nat_lit 252,Wz)::(nat_lit 253,o11a)::(nat_lit 255,WA)::(nat_lit 256,WB)::(nat_lit 257,o11a)::(nat_lit 259,WD)::(nat_lit 260,o11a)::(nat_lit 262,WE)::(nat_lit 263,WG)::(nat_lit 264,o11a)::(nat_lit 267,WH)::(nat_lit 268,WI)::(nat_lit 269,o11a)::(nat_lit 272,WJ)::(nat_lit 273,WK)::(nat_lit 274,o11a)::(nat_lit 277,WL)::(nat_lit 278,WM)::(nat_lit 279,o11a)::(nat_lit 281,WN)::(nat_lit 282,o11a)::(nat_lit 284,WO)::(nat_lit 285,WP)::(nat_lit 286,o11a)::(nat_lit 289,WQ)::(nat_lit 290,WR)::(nat_lit 291,o11a)::(nat_lit 293,WS)::(nat_lit 294,o11a)::(nat_lit 296,WT)::(nat_lit 297,WU)::(nat_lit 298,o11a)::(nat_lit 300,WV)::(nat_lit 301,o11a)::(nat_lit 303,WW)::(nat_lit 304,WX)::(nat_lit 305,o11a)::(nat_lit 308,WY)::(nat_lit 309,WZ)::(nat_lit 310,o11a)::(nat_lit 313,Xa)::(nat_lit 314,Xb)::(nat_lit 315,o11a)::(nat_lit 317,Xd)::(nat_lit 318,o11a)::(nat_lit 320,Xe)::(nat_lit 321,Xf)::(nat_lit 322,o11a)::(nat_lit 324,Xg)::(nat_lit 325,o11a)::(nat_lit 327,Xh)::(nat_lit 328,Xi)::(nat_lit 329,o11a)::(nat_lit 331,Xj)::(nat_lit 332,o11a)::(nat_lit 334,Xk)::(nat_lit 335,Xl)::(nat_lit 336,o11a)::(nat_lit 339,Xm)::(nat_lit 340,Xn)::(nat_lit 341,o11a)::(nat_lit 344,Xo)::(nat_lit 345,Xp)::(nat_lit 346,o11a)::(nat_lit 349,Xq)::(nat_lit 350,Xr)::(nat_lit 351,o11a)::(nat_lit 354,Xs)::(nat_lit 355,Xu)::(nat_lit 356,o11a)::(nat_lit 358,Xv)::(nat_lit 359,o11a)::(nat_lit 361,Xw)::(nat_lit 362,Xx)::(nat_lit 363,o11a)::(nat_lit 366,Xy)::(nat_lit 367,Xz)::(nat_lit 368,o11a)::(nat_lit 371,XA)::(nat_lit 372,XB)::(nat_lit 373,o11a)::(nat_lit 376,XC)::(nat_lit 377,XD)::(nat_lit 378,o11a)::(nat_lit 380,XE)::(nat_lit 381,o11a)::(nat_lit 383,XF)::(nat_lit 384,XG)::(nat_lit 385,o11a)::(nat_lit 387,XH)::(nat_lit 388,o11a)::(nat_lit 390,XI)::(nat_lit 391,XJ)::(nat_lit 392,o11a)::(nat_lit 394,XM)::(nat_lit 395,o11a)::(nat_lit 397,XO)::(nat_lit 398,XQ)::(nat_lit 399,o11a)::(nat_lit 402,XR)::(nat_lit 403,XS)::(nat_lit 404,o11a)::(nat_lit 406,XT)::(nat_lit 407,o11a)::(nat_lit 409,XU)::(nat_lit 410,XV)::(nat_lit 411,o11a)::(nat_lit 414,XW)::(nat_lit 415,XX)::(nat_lit 416,o11a)::(nat_lit 419,Qd)::(nat_lit 420,Qe)::(nat_lit 421,o11a)::(nat_lit 423,Qf)::(nat_lit 424,o11a)::(nat_lit 426,Qg)::(nat_lit 427,Qh)::(nat_lit 428,o11a)::(nat_lit 430,Qi)::(nat_lit 431,o11a)::(nat_lit 433,Qj)::(nat_lit 434,Qk)::(nat_lit 435,o11a)::(nat_lit 437,Ql)::(nat_lit 438,o11a)::(nat_lit 440,Qm)::(nat_lit 441,Qn)::(nat_lit 442,o11a)::(nat_lit 444,Qo)::(nat_lit 445,o11a)::(nat_lit 447,Qp)::(nat_lit 448,Qq)::(nat_lit 449,o11a)::(nat_lit 452,Qr)::(nat_lit 453,Qs)::(nat_lit 454,o11a)::(nat_lit 457,Qt)::(nat_lit 458,Qu)::(nat_lit 459,o11a)::(nat_lit 462,Qv)::(nat_lit 463,Qw)::(nat_lit 464,o11a)::(nat_lit 466,Qx)::(nat_lit 467,o11a)::(nat_lit 469,Qy)::(nat_lit 470,Qz)::(nat_lit 471,o11a)::(nat_lit 473,QA)::(nat_lit 474,o11a)::(nat_lit 476,QB)::(nat_lit 477,QC)::(nat_lit 478,o11a)::(nat_lit 480,QD)::(nat_lit 481,o11a)::(nat_lit 483,QE)::(nat_lit 484,QF)::(nat_lit 485,o11a)::(nat_lit 488,QG)::(nat_lit 489,QH)::(nat_lit 490,o11a)::(nat_lit 493,QI)::(nat_lit 494,QJ)::(nat_lit 495,o11a)::(nat_lit 497,QK)::(nat_lit 498,o11a)::(nat_lit 500,QL)::(nat_lit 501,QM)::(nat_lit 502,o11a)::(nat_lit 504,QN)::(nat_lit 505,o11a)::(nat_lit 507,QO)::(nat_lit 508,QP)::(nat_lit 509,o11a)::(nat_lit 511,QQ)::(nat_lit 512,o11a)::(nat_lit 514,QR)::(nat_lit 515,QS)::(nat_lit 516,o11a)::(nat_lit 519,QT)::(nat_lit 520,QU)::(nat_lit 521,o11a)::(nat_lit 524,QV)::(nat_lit 525,QW)::(nat_lit 526,o11a)::(nat_lit 529,QX)::(nat_lit 530,QY)::[]
abbrev Ka:fP:=[2,3,15,22,23,24,25,28,35,36,37,40,47,48,49,52,59,60,61,64,71,72,73,76,78,79,81,82,83,86,87,88,91,92,93,96,97,98,101,102,103,106,107,108,111,112,113,116,117,118,120,121,123,124,125,127,128,130,131,132,134,135,137,138,139,142,143,144,146,147,149,150,151,153,154,156,157,158,160,161,163,164,165,168,169,170,172,173,175,176,177,179,180,182,183,184,186,187,189,190,191,193,194,196,197,198,201,202,203,205,206,208,209,210,212,213,215,216,217,219,220,222,223,224,226,227,229,230,231,233,234,236,237,238,240,241,243,244,245,248,249,250,252,253,255,256,257,259,260,262,263,264,267,268,269,272,273,274,277,278,279,281,282,284,285,286,289,290,291,293,294,296,297,298,300,301,303,304,305,308,309,310,313,314,315,317,318,320,321,322,324,325,327,328,329,331,332,334,335,336,339,340,341,344,345,346,349,350,351,354,355,356,358,359,361,362,363,366,367,368,371,372,373,376,377,378,380,381,383,384,385,387,388,390,391,392,394,395,397,398,399,402,403,404,406,407,409,410,411,414,415,416,419,420,421,423,424,426,427,428,430,431,433,434,435,437,438,440,441,442,444,445,447,448,449,452,453,454,457,458,459,462,463,464,466,467,469,470,471,473,474,476,477,478,480,481,483,484,485,488,489,490,493,494,495,497,498,500,501,502,504,505,507,508,509,511,512,514,515,516,519,520,521,524,525,526,529,530]
theorem Ke(P:aQ):Ka=(K P).map (·.1):=by kernel_rfl
abbrev qv:aL:=view pw keep
abbrev Xt:am->Bool:=λs=>xlAt qv [] s&&recOk [] s
abbrev sW(w:aH)(os:aZ):am:=⟨h1 w.params,#[],QZ,873,os⟩
theorem opened:∀w:aH,(fencedOpening bJ pw w 6752).map (λs=>(s.heap,s.gens,s.drawn,s.toks))=aa (di w.params,Array.mk [],boot_drawn,boot_toks):=boot_open (by kernel_rfl) (by kernel_rfl) (λs=>by kernel_rfl)
theorem sized(w:aH):((di w.params).isNs az&&(Array.mk []:Array GenState).size==0,(di w.params).objs.size,(di w.params).nsMap az "__annotations__")=(ac,11,ann):=by
 rewrite[te_ns];kernel_rfl
theorem lk0(w:aH)(os:aZ):(staticsOk (dq pw.main.body) (di w.params) (h1 w.params)&&namesBound pw (h1 w.params)&&gensDone (sW w os)&&laidKept (di w.params) (h1 w.params))=ac:=by
 rewrite[te_im];kernel_rfl
theorem lk1(w:aH)(os:aZ):seen ((recsOf qv).map (·.name)) (ownsOf qv) [] { (sW w os)with gens:=#[] }=expectedOf qv:=by
 rewrite[te_seen,te_recs,te_owns];kernel_rfl
theorem lk2(w:aH)(os:aZ):(sW w os).heap.bltView=bltViewBooted:=by
 kernel_rfl
theorem lk3(w:aH)(os:aZ):((sW w os).heap.keysOk (looseW qv []) ((recsOf qv).map (·.name)) ((litsOf qv).map (·.1)) ((clssOf qv (looseW qv [])).map (·.name))&&(sW w os).heap.accountedOkI (dq pw.main.body)&&(sW w os).heap.isNs az&&(sW w os).heap.isNs dU&&tablesOk qv (sW w os).heap&&Xt (sW w os)&&(if ac=ac then(sW w os).gens.size==0 else !leftWithCleanup (sW w os).gens))=ac:=by
 rewrite[te_keys,te_loose,te_recs,te_lits,te_clss,te_acc,te_im,te_tabl];kernel_rfl
theorem lk4(w:aH)(os:aZ):tabsOk qv (sW w os)=ac:=by
 rewrite[te_tabs];kernel_rfl
theorem lk5(w:aH)(os:aZ):pinSeenD qv (drecsOf qv) (sW w os)=pinGoodD (drecsOf qv):=by
 rewrite[te_pin,te_drecs];kernel_rfl
theorem lk6(w:aH)(os:aZ):plainSeenE qv (looseW qv []) (sW w os)=plainGoodE qv (looseW qv []):=by
 rewrite[te_pE,te_loose];kernel_rfl
theorem lk7(w:aH)(os:aZ):plainSeenD qv [] (sW w os)=plainGoodD qv []:=by
 rewrite[te_pD];kernel_rfl
theorem lk8(w:aH)(os:aZ):wideSeen qv (sW w os)=wideGood qv:=by
 rewrite[te_wide];kernel_rfl
theorem lk9(w:aH)(os:aZ):clsSeenW qv [] (sW w os)=clsGoodW qv []:=by
 rewrite[te_cls];kernel_rfl
theorem lk10(w:aH)(os:aZ):Hook.obs (kHook K Ka Ke) (sW w os)=Hook.val (kHook K Ka Ke) w:=by
 kernel_rfl
theorem sn(w:aH)(os:aZ):openSeen qv [] (dq pw.main.body) Xt ac (sW w os)=(seen ((recsOf qv).map (·.name)) (ownsOf qv) [] { (sW w os)with gens:=#[] },(sW w os).heap.bltView,((sW w os).heap.keysOk (looseW qv []) ((recsOf qv).map (·.name)) ((litsOf qv).map (·.1)) ((clssOf qv (looseW qv [])).map (·.name))&&(sW w os).heap.accountedOkI (dq pw.main.body)&&(sW w os).heap.isNs az&&(sW w os).heap.isNs dU&&tablesOk qv (sW w os).heap&&Xt (sW w os)&&(if ac=ac then(sW w os).gens.size==0 else !leftWithCleanup (sW w os).gens)),tabsOk qv (sW w os),pinSeenD qv (drecsOf qv) (sW w os),plainSeenE qv (looseW qv []) (sW w os),plainSeenD qv [] (sW w os),wideSeen qv (sW w os),clsSeenW qv [] (sW w os)):=by kernel_rfl
theorem gd:openGood qv []=(expectedOf qv,bltViewBooted,ac,ac,pinGoodD (drecsOf qv),plainGoodE qv (looseW qv []),plainGoodD qv [],wideGood qv,clsGoodW qv []):=by kernel_rfl
theorem lkS(w:aH)(os:aZ):openSeen qv [] (dq pw.main.body) Xt ac (sW w os)=openGood qv []:=(sn w os).trans (Eq.trans (cF (lk1 w os) (cF (lk2 w os) (cF (lk3 w os) (cF (lk4 w os) (cF (lk5 w os) (cF (lk6 w os) (cF (lk7 w os) (cF (lk8 w os) (lk9 w os))))))))) gd.symm)
theorem left:LeftO pw qv [] Xt (Hook.obs (kHook K Ka Ke)) (Hook.val (kHook K Ka Ke)) 6752:=
 LeftO.of_pieces (H₀:=di) (H₁:=h1) (gs₀:=Array.mk []) (gs₁:=#[]) (d₀:=boot_drawn) (d₁:=QZ) (k₀:=boot_toks) (k₁:=873) (m₀:=11) (ann:=ann) (M:=(12+(1+(196+(214+(214+(214+(382+(376+(382+(395+(387+(385+(179+2)))))))))))))) opened sized run_all (by kernel_rfl) (λw=>funext λos=>
  cF (lk0 w os) (cF (lkS w os) (lk10 w os)))
end
end H
end K25
noncomputable def PySem.W.Fast.tw7300909777749221224:PySem.Program:=PySem.Challenge.pw_changehall_k25_halls_that_do_not_fit
theorem PySem.W.Fast.te7300909777749221224:PySem.Challenge.pw_changehall_k25_halls_that_do_not_fit=PySem.W.Fast.tw7300909777749221224:=rfl
open PySem PySem.W PyProof.Rows
set_option maxRecDepth 100000 in
set_option maxHeartbeats 0 in
theorem PySem.Challenge.cw_changehall_k25_halls_that_do_not_fit_holds : PySem.Challenge.rw_changehall_k25_halls_that_do_not_fit.Holds := by
 w_on;o_law
 refine PySem.W.holds_open (q:=K25.H.qv) (loose:=[]) (Xt:=K25.H.Xt) (XP:=XL K25.H.qv []) (Yf:=Hook.obs (kHook K25.H.K K25.H.Ka K25.H.Ke)) (Ya:=Hook.val (kHook K25.H.K K25.H.Ka K25.H.Ke)) (YP:=Hook.says (kHook K25.H.K K25.H.Ka K25.H.Ke)) (N:=6752) K25.H.left (Hook.of _) (Hook.keeps _) (λs e=>xl_of s (w0E.mp e).1) XL.keeps (by rfl) (by rfl) (by rfl) (λs e=>recFacts_of (w0E.mp e).2) (by rfl) (by first|assumption|decide +kernel) (by decide +kernel) ⟨rfl,rfl,rfl,rfl,rfl,by decide +kernel⟩ ?hw ?hc
 (case hw=>w_witness2)
 k_fill
 refine L2.z06 (x := "_law_script") (k:=13) (fr:=true) (c:=K25.YO) (l:=PySem.Challenge.rw_changehall_k25_halls_that_do_not_fit) rfl rfl (λw h Y=>PySem.W.kIn_of Y) ?F (λns hl=>K25.z2H ns hl) ⟨rfl,by decide,by decide⟩
 case F =>
  intro w mg fa h KX G hmg
  refine' K25.z2S KX G hmg (L2.dh ?e0 ?l0 ?c0 ?k0) (L2.dh ?e1 ?l1 ?c1 ?k1) (L2.dh ?e2 ?l2 ?c2 ?k2) (L2.dh ?e3 ?l3 ?c3 ?k3) (L2.dh ?e4 ?l4 ?c4 ?k4) (L2.dh ?e5 ?l5 ?c5 ?k5) (L2.dh ?e6 ?l6 ?c6 ?k6) (L2.dh ?e7 ?l7 ?c7 ?k7) (L2.dh ?e8 ?l8 ?c8 ?k8) (L2.dh ?e9 ?l9 ?c9 ?k9) (L2.dh ?e10 ?l10 ?c10 ?k10) (L2.dh ?e11 ?l11 ?c11 ?k11) (L2.dh ?e12 ?l12 ?c12 ?k12) (L2.dh ?e13 ?l13 ?c13 ?k13) (L2.dh ?e14 ?l14 ?c14 ?k14) (L2.dh ?e15 ?l15 ?c15 ?k15) (L2.dh ?e16 ?l16 ?c16 ?k16) (L2.dh ?e17 ?l17 ?c17 ?k17) (L2.dh ?e18 ?l18 ?c18 ?k18) (L2.dh ?e19 ?l19 ?c19 ?k19) (L2.dh ?e20 ?l20 ?c20 ?k20) (L2.dh ?e21 ?l21 ?c21 ?k21) (L2.dh ?e22 ?l22 ?c22 ?k22) (L2.dh ?e23 ?l23 ?c23 ?k23) (L2.dh ?e24 ?l24 ?c24 ?k24) (L2.dh ?e25 ?l25 ?c25 ?k25) (L2.dh ?e26 ?l26 ?c26 ?k26) (L2.dh ?e27 ?l27 ?c27 ?k27) (L2.dh ?e28 ?l28 ?c28 ?k28) (L2.dh ?e29 ?l29 ?c29 ?k29) (L2.dh ?e30 ?l30 ?c30 ?k30) (L2.dh ?e31 ?l31 ?c31 ?k31) (L2.dh ?e32 ?l32 ?c32 ?k32) (L2.dh ?e33 ?l33 ?c33 ?k33) (L2.dh ?e34 ?l34 ?c34 ?k34) (L2.dh ?e35 ?l35 ?c35 ?k35) (L2.dh ?e36 ?l36 ?c36 ?k36) (L2.dh ?e37 ?l37 ?c37 ?k37) (L2.dh ?e38 ?l38 ?c38 ?k38) (L2.dh ?e39 ?l39 ?c39 ?k39) (L2.dh ?e40 ?l40 ?c40 ?k40) (L2.dh ?e41 ?l41 ?c41 ?k41) (L2.dh ?e42 ?l42 ?c42 ?k42) (L2.dh ?e43 ?l43 ?c43 ?k43) (L2.dh ?e44 ?l44 ?c44 ?k44) (L2.dh ?e45 ?l45 ?c45 ?k45) (L2.dh ?e46 ?l46 ?c46 ?k46) (L2.dh ?e47 ?l47 ?c47 ?k47) (L2.dh ?e48 ?l48 ?c48 ?k48) (L2.dh ?e49 ?l49 ?c49 ?k49) (L2.dh ?e50 ?l50 ?c50 ?k50) (L2.dh ?e51 ?l51 ?c51 ?k51) (L2.dh ?e52 ?l52 ?c52 ?k52) (L2.dh ?e53 ?l53 ?c53 ?k53) (L2.dh ?e54 ?l54 ?c54 ?k54) (L2.dh ?e55 ?l55 ?c55 ?k55) (L2.dh ?e56 ?l56 ?c56 ?k56) (L2.dh ?e57 ?l57 ?c57 ?k57) (L2.dh ?e58 ?l58 ?c58 ?k58) (L2.dh ?e59 ?l59 ?c59 ?k59) (L2.dh ?e60 ?l60 ?c60 ?k60) (L2.dh ?e61 ?l61 ?c61 ?k61) (L2.dh ?e62 ?l62 ?c62 ?k62) (L2.dh ?e63 ?l63 ?c63 ?k63) (L2.dh ?e64 ?l64 ?c64 ?k64) (L2.dh ?e65 ?l65 ?c65 ?k65) (L2.dh ?e66 ?l66 ?c66 ?k66) (L2.dh ?e67 ?l67 ?c67 ?k67) (L2.dh ?e68 ?l68 ?c68 ?k68) (L2.dh ?e69 ?l69 ?c69 ?k69) (L2.dh ?e70 ?l70 ?c70 ?k70) (L2.dh ?e71 ?l71 ?c71 ?k71) (L2.dh ?e72 ?l72 ?c72 ?k72) (L2.dh ?e73 ?l73 ?c73 ?k73) ?z_ValueError ?z_abs ?z_all ?z_any ?z_bool ?z_enumerate ?z_int ?z_isinstance ?z_len ?z_list ?z_range ?z_reversed ?z_sorted ?z_sum ?z_tuple ?z_zip ?y_MOST_BILLS ?y_MOST_KINDS ?w_HallError ?w_NotWithin ?w_Unlike ?u_NotWithin ?v_NotWithin ?u_Unlike ?v_Unlike ?o_NotWithin_HallError ?o_Unlike_HallError ?o_NotWithin_NotWithin ?o_Unlike_Unlike
  all_goals try k_is
  all_goals kernel_rfl

end

