import PyProof.Rows.All
import Wide.All
import OpenK.AllK
import Wide.FinOn
import Lean
import PyProof.EqAt
import PyProof.EqKinds
import PyProof.TupleCall
import PyProof.CompFree
import PyProof.Cells
import PySem.Challenge.RW_changehall_k27_whole_one_shape
set_option Elab.async false
set_option linter.all false
set_option maxRecDepth 100000
set_option exponentiation.threshold 20000
abbrev aA:=List (List Int)
abbrev aB:=List (PySem.Addr×PySem.Obj)
abbrev aC:=PySem.Value->PySem.Shared->Prop
abbrev aD:=PySem.W.Frag
abbrev aE:=PySem.Str->Option PySem.Value
abbrev aF:=List PySem.Value
abbrev aH:=List Int
set_option compiler.extract_closed false
open Option renaming some->aa,none->aj
open Bool renaming false->ab,true->af
open List renaming range->ah,getD->am,replicate->aP,zipWith->bQ,map->ce,length->dg,lookup->eJ
open PySem renaming wpAny_bind->ai,FuncData->aq,starEach->au,wpAny->av,mainGlobals->aw,wpAny_pure->ax,Expr->az,World->aI,Stmt->aJ,Program->aN,Heap->aR,cellsFrom->aT,Params->aV,OsState->aZ,mem_of_lookup->bg,compareOp->bj,foldedSetIterable->bp,bootBuiltins->bq,NameKind->bt,Around->bu,wpAny_mono->bw,DictEntry->bC,treeTable->bH,wpAny_field->bJ,wpAny_Call_Name_kw->bL,binaryOp->bM,keywordEach->bN,backTo->bO,wpAny_setField_rec->bT,assignEach->bU,wpAny_passesOwn->bV,wpAny_truthy_bool->cn,wpAny_pyIter_list->cq,wpAny_seqItems->cu,sizeLine_eq->cw,IsPair->cA,swapsWith->cD,wpAny_holding->cI,wpAny_attempt->cJ,letOwnedTupleGo->cK,wpAny_callSpecial?_slot->cM,wpAny_newObj_type->cN,backToKw->cO,wpAny_call_entry->cQ,behindInMarks->cR,sliceBounds->cS,importedModules->cX,codeAny_mono->dm,wpAny_standAt->dD,wpAny_rule->dI,builtinsNs->dJ,Keyword->dN,wpAny_execs_nil->dQ,rawInt->ee,firstArgMember->en,callerA->eG,bindArgs->eO,BindsTo->eS,wpAny_isInstance->eZ,PassesOwn->fg
open Or renaming inl->ar,inr->aK
open PySem.PassesOwn renaming never->ay
open Option.some renaming inj->aO
open PySem.W renaming mg_none_of->aQ,nsIn->aU,kia_one->aW,fnOf->bz,keepIn->bI,codeIn->cb,looks_pair->cF,segRun_of->cT,piece_app->cU,findIn->cV,boot_heap->cW,kitx_list->cZ,OpenLaw->du,piecesOf->dw,cellsFrom_some->dA,SharedT->dF,segRunT->dW,methodObj->eB,kitx_dict->eE,instObj->eK,lookIn->eP,kitOne->eQ,mg_of->fe
open PySem.Builtin.SmallTypes renaming nextOrEnd->aY,ownedTupleIsFree->bK,nextOf->cG,ownedTupleHandOut->eI,stopIteration->eR
open PySem.Str renaming ofString->bo
open PySem.Builtin.Int renaming intBits->bB
open PySem.Value renaming ref->bE,none->cL,int->dG,bool->eM
open PySem.NameKind renaming free->bF,cell->cj
open PyProof.Rows renaming callWith_type1->bG,seqObj->cH,envOfC->dH,AllBare->dX
open Ne renaming symm->bR
open False renaming elim->ci
open List.Sublist renaming map->ck
open PySem.Obj renaming mapSeq->cz
open PySem.F renaming slot_tuple_iterator_next->cB,slot_zip_next->dR,slot_list_append->eN
open List.Pairwise renaming imp_of_mem->cC,nil->di
open PySem.PyData renaming depth->cP,depthAll->cY,eqv->dq,canLayAll0->dB,eqvAll->dE,int->dM,canLay0->eF
open PySem.Heap.SameBut renaming update->df
open ForInStep renaming yield->dC
open PySem.Heap renaming SameBut->dO
open Array renaming length_toList->dP
open List.cons renaming inj->dS
open True renaming intro->dU
open Sum renaming inr->dY,inl->dZ
open Prod renaming snd->eV
open List.Perm renaming refl->eX
open Classical renaming byContradiction->eY
open PySem.Data renaming cell->fh,fields->fk
abbrev ak:=@if_pos
abbrev ao:=@if_neg
abbrev aL:=@decide_eq_true
abbrev aM:=@absurd
abbrev aX:=@of_decide_eq_true
abbrev bh:=@decide_eq_false
abbrev bv:=@congrArg
abbrev fq:=List PySem.Str
abbrev ft:=List PySem.Addr
abbrev fu:=List Nat
abbrev fw:=List PySem.Expr
abbrev fy:=List PySem.Stmt
abbrev fA:=List PySem.Env
abbrev fE:=Array PySem.Value
abbrev fF:=List PySem.DictEntry
abbrev fH:=Option Int
abbrev fI:=Option PySem.Value
abbrev fJ:=Option PySem.Addr
open List renaming getElem?_eq_getElem->wa,mem_cons_of_mem->wc,mem_cons_self->wf,mem_map->wj,length_map->wn,length_cons->wu,getElem?_map->wv,mem_append->ww,map_cons->wx,mem_cons->wB,length_append->wF,getElem_of_mem->wI,mem_range->wJ,size_toArray->wL,map_map->wM,mem_append_right->wP,mem_filter->wQ,length_drop->wR,getElem?_append_left->wV,getElem?_eq_none->wW,mem_singleton->ve,getElem?_append_right->vj,lookup_cons->vm,map_append->vn,getElem?_eq_some_iff->vv,getElem_mem->vx,length_take->vy,ext_getElem->vz,pairwise_cons->vA,getElem?_range->vC,filter_sublist->vD,getElem?_replicate->vE,map_congr_left->vI,length_range->vJ,getElem?_set->vK,getElem?_set_ne->vM,mem_of_getElem?->vN,mem_of_mem_drop->vP,nodup_cons->vQ,of_mem_zip->vR,length_set->vS,drop_of_length_le->vV,length_replicate->vW,length_zipWith->uf,mem_append_left->ul,append_assoc->ut,take_of_length_le->uv,filter_cons->uA,mem_filterMap->uB,getD_eq_getElem?_getD->uD,mem_or_eq_of_mem_set->uE,mem_of_mem_take->uI,not_mem_nil->uK,zip_cons_cons->uN,range_succ->uO,pairwise_map->uR,range_eq_range'->uS,all_eq_true->uU,drop_append->uX,drop_eq_getElem_cons->uY,append_nil->w02,getElem?_drop->w04,forIn_nil->w09,range_succ_eq_map->w0a,drop_eq_nil_of_le->w0b,drop_zero->w0c,getElem?_zipWith->w0i,cons_append->w0k,getElem?_append->w0n,mem_iff_getElem->w0o,forIn_cons->w0p,nil_append->w0r,filterMap_cons->w0s,replicate_succ->w0t,getElem?_eq_none_iff->w0A,nodup_append->w0F,map_drop->w0K,map_take->w0L,take_length->w0N,length_eq_zero_iff->w0P,range'_succ->w0Q,getElem?_set_self->w0U,zipWith_map_right->w0W,filter_eq_nil_iff->w0X,foldl_cons->w13,nodup_nil->w18,getElem_zipWith->w1c,length_reverse->w1f,filter_eq_self->w1g,append_of_mem->w1h,getElem?_take->w1i,map_inj_right->w1k,any_eq_false->w1m,map_nil->w1n,take_add_one->w1q,flatMap_cons->w1r,map_set->w1u,foldl_append->w1v,any_eq_true->w1x,zipIdx_cons->w1y,mem_flatMap->w1A,zipWith_map->w1E,range'->w1L,zipIdx_nil->w1O,take_left'->w1S,map_const'->w1U,filter_map->w1V,take_zero->w1X,foldl_map->w1Y
open Nat renaming pow_le_pow_right->wq,le_refl->wt,lt_of_lt_of_le->wG,two_pow_pos->wK,mul_le_mul_right->wN,le_trans->wO,zero_le->vh,ne_of_lt->vt,mul_le_mul_left->vw,pow_add->vB,lt_irrefl->vG,lt_succ_self->vU,pow_succ->vX,mul_assoc->vY,le_of_lt->vZ,mul_le_mul->ue,le_of_not_lt->ug,zero_add->uu,lt_trans->uF,mul_comm->uG,lt_or_gt_of_ne->uM,strongRecOn->uP,pow_lt_pow_right->uT,succ_mul->uV,mul_lt_mul''->uW,pow_le_pow_left->uZ,one_lt_two_pow->w05,ne_of_gt->w07,le_of_succ_le->w08,lt_of_le_of_lt->w0y,le_succ_of_le->w0E,mul_add->w0G,lt_trichotomy->w0I,le_mul_of_pos_right->w0O,sub_self->w0Y,mul_one->w1a,mul_pos->w1b,lt_succ_of_lt->w1o,min_eq_right->w1z,le_add_right->w1B,succ_le_succ->w1C,log2_lt->w1G,add_mul->w1I,pow_pos->w1J,min_eq_left->w1P,le_antisymm->w1Q,not_lt_zero->w1T,not_lt->w1W
open Int renaming mul_comm->wU,natAbs_mul->vq,eq_ofNat_of_zero_le->vF,mul_assoc->vH,mul_left_comm->vL,mul_sub->vO,mul_eq_zero->vT,fmod_nonneg_of_pos->ud,mul_le_mul_of_nonneg_right->ui,le_of_dvd->uj,neg_mul->uq,dvd_add->ur,mul_zero->uw,dvd_trans->uz,fmod_lt_of_pos->uC,mul_add->uH,dvd_mul_of_dvd_right->uJ,mul_le_mul_of_nonneg_left->uL,gcd->uQ,mul_ediv_cancel_left->w01,mul_nonpos_of_nonpos_of_nonneg->w03,dvd_of_fmod_eq_zero->w06,lt_trichotomy->w0d,natAbs_neg->w0e,dvd_refl->w0f,zero_dvd->w0g,dvd_zero->w0h,natAbs_dvd_natAbs->w0j,mul_neg->w0m,zero_add->w0u,gcd_pos_of_ne_zero_left->w0v,natAbs_eq_zero->w0w,fdiv_eq_ediv_of_nonneg->w0z,eq_of_mul_eq_mul_left->w0B,mul_one->w0C,toNat_natCast->w0D,sub_mul->w0H,dvd_sub->w0J,mul_fdiv_cancel_left->w0M,dvd_mul_left->w0R,dvd_mul_of_dvd_left->w0S,fmod_eq_zero_of_dvd->w0T,mul_fdiv_add_fmod->w16,eq_one_of_dvd_one->w17,mul_nonneg->w19,one_dvd->w1d,sub_add_cancel->w1j,cast_ofNat_Int->w1l,le_of_lt->w1s,gcd_dvd_right->w1t,dvd_antisymm->w1D,gcd_dvd_left->w1F,add_mul->w1H,mul_pos->w1K,dvd_neg->w1M,neg_mul_neg->w1R
open Option renaming isSome_iff_exists->w00,map_eq_some_iff->w0Z,getD_none->w1w,map_some->w1N
open PySem.Heap renaming get?_push_of_some->wm,lt_size->wD,get?_push_size->wH,size_push->uc,get?_none_of_le->w0l,get?_update_other->w0V,get?_update_self->w14,get?_push_ne->w1p
open Bool renaming and_eq_true->wS,false_ne_true->vi,or_eq_true->w0q,false_eq_true->w0x,eq_iff_iff->w12,beq_eq_decide_eq->w15,and_eq_true_iff->w1e,not_false->w1Z
open Classical renaming choose_spec->wE,choose->vd,byContradiction->vg
local macro_rules|`(tactic|rfl')=>`(tactic|omega)
local macro_rules|`(())=>`(by rfl')
section
open PySem PySem.Spec PyProof.Rows
section
local macro_rules|`(tactic|rfl')=>`(tactic|first|lia|omega +splitDisjunctions)
namespace L2
abbrev iO:=Sum Int Str
def keyIs:iO->Value->Bool
 |.inl k,v=>Value.isInt k v
 |.inr x,v=>Value.isStrOf x v
def qB(w:aI):iO->Int
 |.inl k=>hashInt k
 |.inr x=>hashStr w x
theorem F6:∀{k:iO}{v:Value},keyIs k v=af->(∃i t,k=dZ i/\v=dG i t)\/(∃x t,k=dY x/\v=Value.str x t)
 |.inl i,v,h=>by
  obtain⟨t,e⟩:=Value.isInt_shape (k:=i) (v:=v) h;exact .inl ⟨i,t,rfl,e⟩
 |.inr x,v,h=>by
  obtain⟨t,e⟩:=Value.isStrOf_shape (x:=x) (v:=v) h;exact .inr ⟨x,t,rfl,e⟩
theorem lO(a b:Int):decide ((dZ a:iO)=dZ b)=(a==b):=by
 by_cases e:a=b
 .subst e;simp
 .have h:¬(dZ a:iO)=dZ b:=λq=>e (Sum.inl.inj q);rw[bh h];exact(beq_eq_false_iff_ne.mpr e).symm
theorem lK(a b:Str):decide ((dY a:iO)=dY b)=decide (a=b):=by
 by_cases e:a=b
 .subst e;simp
 .have h:¬(dY a:iO)=dY b:=λq=>e (Sum.inr.inj q);rw[bh h,bh e]
theorem lN(a:Int)(b:Str):decide ((dZ a:iO)=dY b)=ab:=bh (λq=>nomatch q)
theorem lL(a:Str)(b:Int):decide ((dY a:iO)=dZ b)=ab:=bh (λq=>nomatch q)
def Pm(prog:Program)(w:World):PySem.KeyKind prog w iO where
 is:=keyIs
 hash:=qB w
 inj:=λv a b ha hb=>by
  rcases F6 ha with⟨i,t,rfl,rfl⟩|⟨x,t,rfl,rfl⟩
  .rcases F6 hb with⟨j,u,rfl,e⟩|⟨y,u,rfl,e⟩
   .injection e with e1 _;rw[e1]
   .exact nomatch e
  .rcases F6 hb with⟨j,u,rfl,e⟩|⟨y,u,rfl,e⟩
   .exact nomatch e
   .injection e with e1 _;rw[e1]
 byValue:=λk v h=>by
  rcases F6 h with⟨i,t,rfl,rfl⟩|⟨x,t,rfl,rfl⟩<;>rfl
 pyHash:=λhv h=>by
  rcases F6 hv with⟨i,t,rfl,rfl⟩|⟨x,t,rfl,rfl⟩
  .exact wpAny_pyHash_int h
  .exact wpAny_pyHash_str h
 eqBool:=λhu hv h=>by
  rcases F6 hu with⟨i,t,rfl,rfl⟩|⟨x,t,rfl,rfl⟩
  .rcases F6 hv with⟨j,u,rfl,rfl⟩|⟨y,u,rfl,rfl⟩
   .rw[lO]at h;exact wpAny_eqBool_int h
   .rw[lN]at h;exact SeqAt.EqAt.int_str i t y u _ _ _ _ h
  .rcases F6 hv with⟨j,u,rfl,rfl⟩|⟨y,u,rfl,rfl⟩
   .rw[lL]at h;exact SeqAt.EqAt.str_int x t j u _ _ _ _ h
   .rw[lK]at h;exact wpAny_eqBool_str h
 «strs»:=λk x t v h=>by
  rcases F6 h with⟨i,u,rfl,e⟩|⟨y,u,rfl,e⟩
  .exact nomatch e
  .injection e with e1 _
   subst e1;cases v<;>rfl
inductive V where
 |non|bl (b:Bool)|int (i:Int)|str (x:Str)|byt (b:Array UInt8)|flt (b:UInt64)|ref (a:Addr)|ty (n:String)
 deriving DecidableEq
abbrev fL:=List V
def RelV:V->Value->Prop
 |.non,u=>u=cL
 |.bl b,u=>u=eM b
 |.int i,u=>∃t,u=dG i t
 |.str x,u=>∃t,u=Value.str x t
 |.byt b,u=>∃t,u=Value.bytes b t
 |.flt b,u=>∃t,u=Value.float b t
 |.ref a,u=>u=bE a
 |.ty n,u=>u=Value.type n
abbrev Vals:fL->aF->Prop:=Paired RelV
theorem Vals.length{xs:fL}{us:aF}(r:Vals xs us):xs.length=us.length:=Paired.length r
theorem Vals.get:∀{xs:fL}{us:aF}{i:Nat}{x:V},Vals xs us->xs[i]?=aa x->∃u,us[i]?=aa u/\RelV x u
 |_,_,_,_,.nil,e=>by simp at e
 |_,_,0,_,.cons r _,e=>by simp at e;subst e;exact⟨_,rfl,r⟩
 |_,_,i+1,x,.cons _ t,e=>by
  obtain⟨u,h1,h2⟩:=Vals.get (i:=i) (x:=x) t (by simpa using e);exact⟨u,by simpa using h1,h2⟩
theorem Vals.set{x:V}{u:Value}(r:RelV x u):∀{xs:fL}{us:aF}(i:Nat),Vals xs us->Vals (xs.set i x) (us.set i u)
 |_,_,_,.nil=>.nil
 |_,_,0,.cons _ t=>.cons r t
 |_,_,i+1,.cons q t=>.cons q (Vals.set r i t)
theorem Vals.append:∀{xs ys:fL}{us ws:aF},Vals xs us->Vals ys ws->Vals (xs++ys) (us++ws)
 |_,_,_,_,.nil,s=>s
 |_,_,_,_,.cons r t,s=>.cons r (Vals.append t s)
theorem Vals.take:∀{xs:fL}{us:aF}(n:Nat),Vals xs us->Vals (xs.take n) (us.take n)
 |_,_,0,_=>.nil
 |_,_,_+1,.nil=>.nil
 |_,_,n+1,.cons r t=>.cons r (Vals.take n t)
theorem Vals.drop:∀{xs:fL}{us:aF}(n:Nat),Vals xs us->Vals (xs.drop n) (us.drop n)
 |_,_,0,r=>r
 |_,_,_+1,.nil=>.nil
 |_,_,n+1,.cons _ t=>Vals.drop n t
theorem Vals.none_of:∀{xs:fL}{us:aF}{i:Nat},Vals xs us->xs[i]?=aj->us[i]?=aj:=λ{xs us i}r e=>by
 have h1:=r.length;have h2:xs.length<=i:=w0A.mp e;exact w0A.mpr ()
def RelO:Option V->fI->Prop
 |some v,aa u=>RelV v u
 |none,aj=>True
 |_,_=>False
def KV{κ:Type}:List (κ×V)->List (κ×Value)->Prop:=Paired λ(p:κ×V)(q:κ×Value)=>p.1=q.1/\RelV p.2 q.2
def kV:iO->V
 |.inl i=>.int i
 |.inr x=>.str x
inductive HO where
 |lst (xs:fL)
 |tup (xs:fL)
 |dK (kvs:List (iO×V))|dT (kvs:List (List iO×V))
 |set (S:Int->Bool) (n:Nat)
 |ins (C dx:Addr) (fs:List (Str×V))
 |own (x:Addr)
 |xd (fs:List (Str×V))
 |met (f x:Addr)
 |rng (lo hi:Int)
 |frz (o:Obj) (u:HO)
 |tbl (ps:fE)
 |ext (φ:aR->Prop)
abbrev Hp:=Addr->Option HO
def upd(H:Hp)(a:Addr)(o:HO):Hp:=λb=>if b=a then aa o else H b
theorem B3{H:Hp}{a:Addr}{o:HO}:upd H a o a=aa o:=by unfold upd;rw[ak rfl]
theorem v8{H:Hp}{a b:Addr}{o:HO}(h:b≠a):upd H a o b=H b:=by unfold upd;rw[ao h]
theorem T7{H:Hp}{a b:Addr}{o:HO}(h:H a=aa o)(h':H b=aj):a≠b:=by
 intro e;subst e;rw[h]at h';cases h'
section
variable (P:aN)(w:aI)
def ObjOk(H:Hp)(h:aR)(a:Addr):HO->Prop
 |.lst xs=>xs.length<=sizeLine/\∃(its:aF)(n:Nat),Vals xs its/\h.get? a=aa { cls:=.type "list",data:=.seq its.toArray n }
 |.tup xs=>xs.length<=sizeLine/\∃its:aF,Vals xs its/\IsTup h a its.toArray
 |.dK kvs=>kvs.length<=sizeLine/\(a==sysModules)=ab/\∃vs,KV kvs vs/\h.DictOf (Pm P w) a vs
 |.dT kvs=>kvs.length<=sizeLine/\(a==sysModules)=ab/\∃xs:List (List iO×Addr×Value),
  Paired (λ(p:List iO×V)(q:List iO×Addr×Value)=>p.1=q.1/\H q.2.1=aa (.tup (p.1.map kV))/\RelV p.2 q.2.2) kvs xs /\
  ∃o es ep,h.get? a=aa o/\o.ExactDict/\o.data=.dict es ep/\es.toList=xs.map (entryOfKey (tupleKind (Pm P w)))/\(xs.map (·.1)).Nodup
 |.set S n=>h.SetOf (intKind P w) a S n
 |.ins C dx fs=>H dx=aa (.own a)/\fs.length<=1000/\dx≠a/\h.get? a=aa (eK C dx) /\
  ∃mA,h.Ns1 dx mA/\(∀f,RelO (fs.lookup f) (mA f))/\PySem.Within mA (fs.map (·.1))
 |.own _=>∃o,h.get? a=aa o
 |.xd fs=>∃mA,h.Ns1 a mA/\∀f,RelO (fs.lookup f) (mA f)
 |.rng lo hi=>∃t u v,h.get? a=aa { cls:=.type "range",data:=.fields #[.int lo t,.int hi u,.int 1 v] }
 |.frz o u=>h.get? a=aa o/\ObjOk H h a u
 |.tbl ps=>h.get? a=aa { cls:=.none,data:=.fields ps }
 |.met f x=>h.get? a=aa (eB (.ref f) (.ref x))
 |.ext φ=>φ h/\(∃o,h.get? a=aa o)/\∀h1 h2:aR,φ h1->(∀o,h1.get? a=aa o->h2.get? a=aa o)->φ h2
def HOk(H:Hp)(h:aR):Prop:=∀a o,H a=aa o->ObjOk P w H h a o
end
section
variable {P:aN}{w:aI}{H H':Hp}{h h':aR}{a:Addr}{o:HO}
theorem ObjOk.lt(x:ObjOk P w H h a o):a<h.objs.size:=by
 cases o with
 |lst xs=>obtain⟨_,_,_,_,e⟩:=x;exact wD e
 |tup xs=>obtain⟨_,_,_,p⟩:=x;exact p.lt
 |dK kvs=>obtain⟨_,_,_,_,o,_,_,e,_⟩:=x;exact wD e
 |dT kvs=>obtain⟨_,_,_,_,o,_,_,e,_⟩:=x;exact wD e
 |set S n=>obtain⟨o,_,_,_,e,_⟩:=x;exact wD e
 |ins C dx fs=>obtain⟨_,_,_,e,_⟩:=x;exact wD e
 |own y=>obtain⟨_,e⟩:=x;exact wD e
 |xd fs=>obtain⟨_,⟨_,_,_,e,_⟩,_⟩:=x;exact wD e
 |rng lo hi=>obtain⟨_,_,_,e⟩:=x;exact wD e
 |frz ob u=>obtain⟨e,_⟩:=x;exact wD e
 |tbl ps=>exact wD (show h.get? a=aa _ from x)
 |met f y=>exact wD (show h.get? a=aa _ from x)
 |ext φ=>obtain⟨_,⟨_,e⟩,_⟩:=x;exact wD e
theorem Paired.mapP{α β:Type}{F G:α->β->Prop}:∀{l₁:List α}{l₂:List β},Paired F l₁ l₂->(∀a b,F a b->G a b)->Paired G l₁ l₂
 |_,_,.nil,_=>.nil
 |_,_,.cons r t,f=>.cons (f _ _ r) (Paired.mapP t f)
theorem ObjOk.stay(x:ObjOk P w H h a o)(k:∀b u,(b=a\/H b=aa (.own a))->h.get? b=aa u->h'.get? b=aa u)
  (ho:∀b,H b=aa (.own a)->H' b=aa (.own a)) (ht:∀b xs,H b=aa (.tup xs)->H' b=aa (.tup xs)):ObjOk P w H' h' a o:=by
 induction o with
 |lst xs=>obtain⟨z,its,n,r,e⟩:=x;exact⟨z,its,n,r,k _ _ (.inl rfl) e⟩
 |tup xs=>obtain⟨z,its,r,ob,e,c⟩:=x;exact⟨z,its,r,ob,k _ _ (.inl rfl) e,c⟩
 |dK kvs=>obtain⟨z,y,vs,r,ob,es,ep,e,c⟩:=x;exact⟨z,y,vs,r,ob,es,ep,k _ _ (.inl rfl) e,c⟩
 |dT kvs=>
  obtain⟨z,y,xs,r,ob,es,ep,e,c⟩:=x;exact⟨z,y,xs,Paired.mapP r λp q z=>⟨z.1,ht _ _ z.2.1,z.2.2⟩,ob,es,ep,k _ _ (.inl rfl) e,c⟩
 |set S n=>obtain⟨ob,es,ep,t,e,c⟩:=x;exact⟨ob,es,ep,t,k _ _ (.inl rfl) e,c⟩
 |ins C dx fs=>
  obtain⟨d,z,ne,e,mA,⟨od,es,ep,e2,c⟩,r⟩:=x;exact⟨ho _ d,z,ne,k _ _ (.inl rfl) e,mA,⟨od,es,ep,k _ _ (.inr d) e2,c⟩,r⟩
 |own y=>obtain⟨ob,e⟩:=x;exact⟨ob,k _ _ (.inl rfl) e⟩
 |xd fs=>obtain⟨mA,⟨od,es,ep,e,c⟩,r⟩:=x;exact⟨mA,⟨od,es,ep,k _ _ (.inl rfl) e,c⟩,r⟩
 |rng lo hi=>obtain⟨t,u,v,e⟩:=x;exact⟨t,u,v,k _ _ (.inl rfl) e⟩
 |frz ob u ih=>obtain⟨e,q⟩:=x;exact⟨k _ _ (.inl rfl) e,ih q⟩
 |tbl ps=>
  have e:h.get? a=aa { cls:=.none,data:=.fields ps }:=x;show h'.get? a=aa { cls:=.none,data:=.fields ps };exact k a _ (.inl rfl) e
 |met f y=>
  have e:h.get? a=aa (eB (.ref f) (.ref y)):=x;show h'.get? a=aa (eB (.ref f) (.ref y));exact k a _ (.inl rfl) e
 |ext φ=>obtain⟨p,⟨o,e⟩,st⟩:=x;exact⟨st _ _ p λo q=>k _ _ (.inl rfl) q,⟨o,k _ _ (.inl rfl) e⟩,st⟩
theorem HOk.lt(x:HOk P w H h)(e:H a=aa o):a<h.objs.size:=(x a o e).lt
theorem HOk.fresh(x:HOk P w H h)(e:h.objs.size<=a):H a=aj:=by
 cases q:H a with
 |none=>rfl
 |some u=>exact aM (wG (x.lt q) e) (vG _)
theorem HOk.kept(x:HOk P w H h)(k:∀b u,h.get? b=aa u->h'.get? b=aa u):HOk P w H h':=λa o e=>
 (x a o e).stay (λb u _ q=>k b u q) (λ_ q=>q) λ_ _ q=>q
theorem HOk.laid(x:HOk P w H h)(k:∀b u,h.get? b=aa u->h'.get? b=aa u)(hp:h.objs.size<=a)(new:ObjOk P w (upd H a o) h' a o):HOk P w (upd H a o) h':=λb u e=>by
 have hn:=x.fresh hp;by_cases hb:b=a
 .subst hb;rw[B3]at e;cases e;exact new
 .rw[v8 hb]at e;exact(x b u e).stay (λc v _ q=>k c v q) (λc q=>by rw[v8 (T7 q hn)];exact q) λc xs q=>by rw[v8 (T7 q hn)];exact q
end
def Rd(H:Hp)(a:Addr)(u:HO):Prop:=H a=aa u\/∃o,H a=aa (.frz o u)
theorem Rd.ok{P:aN}{w:aI}{H:Hp}{h:aR}{a:Addr}{u:HO}(r:Rd H a u)(x:HOk P w H h):ObjOk P w H h a u:=by
 rcases r with r|⟨o,r⟩
 .exact x a u r
 .obtain⟨_,q⟩:=x a _ r;exact q
def Mut:Option HO->Prop
 |some (.lst _)=>True
 |some (.dK _)=>True
 |some (.dT _)=>True
 |some (.set _ _)=>True
 |some (.ins _ _ _)=>True
 |some (.ext _)=>True
 |_=>False
section
variable {P:aN}{w:aI}{H:Hp}{h h':aR}{x e:Addr}{o':HO}
theorem HOk.write(ok:HOk P w H h)(mu:Mut (H x))(he:e=x\/H e=aa (.own x))(k:∀b u,b≠e->h.get? b=aa u->h'.get? b=aa u)(heo:∃u,h'.get? e=aa u)
   (new:ObjOk P w (upd H x o') h' x o'):HOk P w (upd H x o') h':=λb u q=>by
 have nown:∀c y,H c=aa (.own y)->c≠x:=λc y r z=>by subst z;rw[r]at mu;exact mu
 have ntup:∀c xs,H c=aa (.tup xs)->c≠x:=λc xs r z=>by subst z;rw[r]at mu;exact mu
 by_cases hb:b=x
 .subst hb;rw[B3]at q;cases q;exact new
 .rw[v8 hb]at q;by_cases hbe:b=e
  .have q':H b=aa (.own x):=by
     rcases he with z|z
     .exact aM (hbe.trans z) hb
     .rw[hbe];exact z
   rw[q]at q';cases q';obtain⟨v,hv⟩:=heo;exact⟨v,by rw[hbe];exact hv⟩
  .refine(ok b u q).stay (λc v hc r=>k c v ?_ r) (λc r=>by rw[v8 (nown c b r)];exact r) λc xs r=>by rw[v8 (ntup c xs r)];exact r
   rcases hc with rfl|hc
   .exact hbe
   .rintro rfl;rcases he with z|z
    .exact nown c b hc z
    .rw[hc]at z;cases z;exact hb rfl
end
structure Un(fs ex:ft)(H H':Hp)(h h':aR):Prop where
 keep:∀b o,h.get? b=aa o->H b=aj->b∉fs->b∉ex->h'.get? b=aa o
 slot:∀b o,h.get? b=aa o->H b=aj->b∈fs->b∉ex->∃sl,h'.get? b=aa { o with slots:=sl }
 free:∀b o,h.get? b=aa o->H b=aj->b∉ex->H' b=aj
 there:∀b o,h.get? b=aa o->b∉ex->∃o',h'.get? b=aa o'
 tups:∀b xs,H b=aa (.tup xs)->H' b=aa (.tup xs)
 frzs:∀b o u,H b=aa (.frz o u)->H' b=aa (.frz o u)
 tbls:∀b ps,H b=aa (.tbl ps)->∃more,H' b=aa (.tbl (ps++more))
section
variable {fs fs' ex ex':ft}{H H1 H2:Hp}{h h1 h2 h':aR}{a x e:Addr}{o:HO}
theorem Un.any(u:Un fs ex H H1 h h1){b:Addr}{ob:Obj}(q:h.get? b=aa ob)(n:H b=aj)(hx:b∉ex):∃sl,h1.get? b=aa { ob with slots:=sl }:=by
 by_cases hb:b∈fs
 .exact u.slot b ob q n hb hx
 .exact⟨ob.slots,u.keep b ob q n hb hx⟩
theorem Un.trans(a:Un fs ex H H1 h h1)(b:Un fs ex H1 H2 h1 h2):Un fs ex H H2 h h2 where
 keep:=λc ob q n hc hx=>b.keep c ob (a.keep c ob q n hc hx) (a.free c ob q n hx) hc hx
 slot:=λc ob q n hc hx=>by
  obtain⟨sl,e1⟩:=a.slot c ob q n hc hx;obtain⟨sl',e2⟩:=b.slot c _ e1 (a.free c ob q n hx) hc hx;exact⟨sl',e2⟩
 free:=λc ob q n hx=>by
  obtain⟨o',e1⟩:=a.there c ob q hx;exact b.free c o' e1 (a.free c ob q n hx) hx
 there:=λc ob q hx=>by
  obtain⟨o',e1⟩:=a.there c ob q hx;exact b.there c o' e1 hx
 tups:=λc xs q=>b.tups c xs (a.tups c xs q)
 frzs:=λc ob xs q=>b.frzs c ob xs (a.frzs c ob xs q)
 tbls:=λc ps q=>by
  obtain⟨m1,e1⟩:=a.tbls c ps q;obtain⟨m2,e2⟩:=b.tbls c _ e1;exact⟨m1++m2,by rw[e2,Array.append_assoc]⟩
theorem Un.kept(k:∀b u,h.get? b=aa u->h'.get? b=aa u):Un fs ex H H h h':=
 ⟨λb ob q _ _ _=>k b ob q,λb ob q _ _ _=>⟨ob.slots,k b ob q⟩,λ_ _ _ n _=>n,λb ob q _=>⟨ob,k b ob q⟩,λ_ _ q=>q,λ_ _ _ q=>q,λ_ ps q=>⟨#[],by rw[q];simp⟩⟩
theorem Un.refl:Un fs ex H H h h:=Un.kept λ_ _ q=>q
theorem Un.laid(k:∀b u,h.get? b=aa u->h'.get? b=aa u)(hp:h.objs.size<=a)(hn:H a=aj):Un fs ex H (upd H a o) h h' where
 keep:=λb u q _ _ _=>k b u q
 slot:=λb u q _ _ _=>⟨u.slots,k b u q⟩
 free:=λb u q n _=>by rw[v8 (vt (wG (wD q) hp))];exact n
 there:=λb u q _=>⟨u,k b u q⟩
 tups:=λb xs q=>by rw[v8 (T7 q hn)];exact q
 frzs:=λb u xs q=>by rw[v8 (T7 q hn)];exact q
 tbls:=λb ps q=>⟨#[],by rw[v8 (T7 q hn),q];simp⟩
theorem Un.write(mu:Mut (H x))(he:e=x\/H e=aa (.own x))(k:∀b u,b≠e->h.get? b=aa u->h'.get? b=aa u)(heo:∃u,h'.get? e=aa u):Un fs ex H (upd H x o) h h':=by
 have hx:∀b,H b=aj->b≠x:=λb n z=>by subst z;rw[n]at mu;exact mu
 have hb:∀b,H b=aj->b≠e:=λb n z=>by
   subst z;rcases he with r|r
   .exact hx b n r
   .rw[n]at r;cases r
 have hm:∀b u,H b=aa u->¬Mut (aa u)->b≠x:=λb u q nm z=>by subst z;rw[q]at mu;exact nm mu
 refine⟨λb u q n _ _=>k b u (hb b n) q,λb u q n _ _=>⟨u.slots,k b u (hb b n) q⟩,λb u q n _=>by rw[v8 (hx b n)];exact n,λb u q _=>?_,
   λb xs q=>by rw[v8 (hm b _ q λz=>z)];exact q,λb u xs q=>by rw[v8 (hm b _ q λz=>z)];exact q,λb ps q=>⟨#[],by rw[v8 (hm b _ q λz=>z),q];simp⟩⟩
 by_cases hbe:b=e
 .subst hbe;exact heo
 .exact⟨u,k b u hbe q⟩
end
def oS(h:aR)(H:Hp):ft:=(ah h.objs.size).filter λa=>(H a).isSome
def iK(h:aR)(H:Hp):aR:=PySem.W.hideAll h (oS h H)
theorem ZO(h:aR)(H:Hp):(iK h H).objs.size=h.objs.size:=PySem.W.hideAll_size _ _
theorem z0Z{h:aR}{H:Hp}{b:Addr}{o:Obj}(e:h.get? b=aa o)(n:H b=aj):(iK h H).get? b=aa o:=
 PySem.W.hideAll_get _ e λhm=>by
  have q:(H b).isSome=af:=(wQ.mp hm).2;rw[n]at q;simp at q
theorem z4w{h:aR}{H:Hp}{b:Addr}{o:Obj}(e:(iK h H).get? b=aa o):h.get? b=aa o/\H b=aj:=by
 have e':h.get? b=aa o:=PySem.W.of_hideAll (oS h H) e;refine⟨e',?_⟩;cases q:H b with
 |none=>rfl
 |some x=>
  have hm:b∈oS h H:=wQ.mpr ⟨wJ.mpr (wD e'),by simp[q]⟩;have z:(iK h H).get? b=aj:=PySem.W.hideAll_none (oS h H) hm;rw[z]at e;cases e
def z4x(g h:aR)(L:Addr):aB:=(ah h.objs.size).filterMap λa=>if a=L\/(g.get? a).isSome=af then aj else(h.get? a).map λo=>(a,o)
def rest(g h:aR)(L d:Addr):aB:=(z4x g h L).filter λp=>decide (p.1≠d)
structure Mod(K:aD)(mg:aE)(base:aR):Prop where
 kin:K.In base
 glob:base.Ns aw mg
 blt:∃mb,base.Ns dJ mb/\∀x:Str,x ≠ "__name__" -> mb x=bq x
 nolimit:base.NoLimit
structure Cx where
 prog:aN
 w:aI
 K:aD
 mg:aE
 base:aR
 A:bu
 N:fq
 s₀:Shared
 H₀:Hp
 env:Env
 outer:fA
 stack:fA
 ex:ft
 fn:Str->Bool
 calm:Bool
 pn:aB
 xe:aC
def iL(l:fA):ft:=l.filterMap (·.frame)
abbrev Cx.fs(X:Cx):ft:=iL X.outer
def me(sc:Scope)(x:Str):Prop:=sc.names.lookup x=aa .local\/sc.names.lookup x=aa .cell\/sc.names.lookup x=aa .free
def mj(sc:Scope)(x:Str):Prop:=sc.names.lookup x=aa .local\/sc.names.lookup x=aa .cell
def qI(env:Env)(h:aR)(m:aE)(x:Str)(u:Value):Prop:=
 (env.kindOf x=aa .local/\m x=aa u)\/((env.kindOf x=aa .cell\/env.kindOf x=aa .free)/\∃c,env.cells.lookup x=aa c/\h.IsCell c (aa u))
structure Cx.Ok(X:Cx):Prop where
 mod:Mod X.K X.mg X.base
 kind:X.env.scope.kind=.function
 glob:X.env.globals=aw
 blt:X.env.builtins=dJ
 above:X.s₀.heap.objs.size<=X.env.locals
 inj:∀x y c,X.env.cells.lookup x=aa c->X.env.cells.lookup y=aa c->x=y
 has:∀x,(X.env.kindOf x=aa .cell\/X.env.kindOf x=aa .free)->∃c,X.env.cells.lookup x=aa c
 cab:∀x c,X.fn x=af->X.env.cells.lookup x=aa c->X.s₀.heap.objs.size<=c
 hd:X.calm=af->X.A.handled=aj
 frames:X.A.frames=aa X.stack
 stk:X.stack=X.outer\/(X.stack=X.env::X.outer/\X.env.frame=aa X.env.locals)
 exf:∀b∈X.ex,b≠X.env.locals/\∀x c,X.env.cells.lookup x=aa c->c≠b
 bs:∀b o,X.base.get? b=aa o->X.s₀.heap.get? b=aa o/\X.H₀ b=aj
 bsz:X.base.objs.size<=X.s₀.heap.objs.size
 noex:∀b o,X.base.get? b=aa o->b∉X.ex
 exfs:∀b∈X.ex,b∉X.fs
 funs:X.s₀.heap.FunFrames X.base X.outer
 frf:∀b∈X.fs,X.H₀ b=aj
structure Inv(X:Cx)(π:aB)(σ:List (Option V))(H:Hp)(s:Shared):Prop where
 ok:X.Ok
 os:s.os=X.s₀.os
 bare:dX s.gens
 base:Un X.fs X.ex X.H₀ H X.s₀.heap s.heap
 loc:∃m,s.heap.Ns X.env.locals m/\∀(i:Nat)(x:Str)(v:V),X.N[i]?=aa x->σ[i]?=aa (aa v)->me X.env.scope x->∃u,RelV v u/\qI X.env s.heap m x u
 cell:∀x c,X.env.cells.lookup x=aa c->∃v,s.heap.IsCell c v
 free:H X.env.locals=aj
 freeC:∀x c,X.env.cells.lookup x=aa c->H c=aj
 pin:∀p∈X.pn++π,s.heap.get? p.1=aa p.2/\H p.1=aj/\p.1≠X.env.locals/\p.1∉X.fs/\∀v,p.2.data ≠ .cell v
 hok:HOk X.prog X.w H s.heap
 len:σ.length=X.N.length
section
variable {X:Cx}{π:aB}{σ:List (Option V)}{H H':Hp}{s:Shared}{h':aR}
theorem Cx.Ok.nofr(ok:X.Ok){b:Addr}{o:Obj}(e:X.base.get? b=aa o):b∉X.fs:=λhb=>by
 have:=(ok.funs.mem hb).1;rw[e]at this;cases this
theorem Inv.bs(I:Inv X π σ H s):∀b o,X.base.get? b=aa o->s.heap.get? b=aa o/\H b=aj:=λb o e=>
 ⟨I.base.keep b o (I.ok.bs b o e).1 (I.ok.bs b o e).2 (I.ok.nofr e) (I.ok.noex b o e),I.base.free b o (I.ok.bs b o e).1 (I.ok.bs b o e).2 (I.ok.noex b o e)⟩
theorem Inv.bk(I:Inv X π σ H s):∀b o,X.base.get? b=aa o->s.heap.get? b=aa o:=λb o e=>(I.bs b o e).1
theorem Inv.mod(I:Inv X π σ H s):Mod X.K X.mg X.base:=I.ok.mod
theorem Inv.kIn(I:Inv X π σ H s):X.K.In s.heap:=I.ok.mod.kin.keeps I.bk
theorem Inv.fr(I:Inv X π σ H s):∃m,Fr X.base X.env.locals s.heap m:=
 let ⟨m,hn,_⟩:=I.loc
 ⟨m,hn,I.bk,wO I.ok.bsz I.ok.above⟩
theorem Inv.lt(I:Inv X π σ H s):X.env.locals<s.heap.objs.size:=let ⟨_,hn,_⟩:=I.loc;hn.lt
theorem Inv.sz(I:Inv X π σ H s):X.s₀.heap.objs.size<=s.heap.objs.size:=wO I.ok.above (vZ I.lt)
theorem Inv.nofs(I:Inv X π σ H s){a:Addr}(h:s.heap.objs.size<=a):a∉X.fs:=λhb=>by
 obtain⟨_,o,ho,_⟩:=I.ok.funs.mem hb;exact aM (wG (wD ho) (wO I.sz h)) (vG _)
theorem Inv.cne(I:Inv X π σ H s):∀x c,X.env.cells.lookup x=aa c->c≠X.env.locals:=λx c e z=>by
 obtain⟨v,o,ho,hd⟩:=I.cell x c e;obtain⟨m,⟨o',es,ep,ho',hd',_⟩,_⟩:=I.loc;rw[z,ho']at ho;cases ho;rw[hd']at hd;cases hd
theorem Inv.funs(I:Inv X π σ H s):s.heap.FunFrames X.base X.outer:=by
 have all:∀(l:fA),(∀b∈iL l,b∈X.fs)->X.s₀.heap.FunFrames X.base l->s.heap.FunFrames X.base l:=by
  intro l
  induction l with
  |nil=>intro _ _;trivial
  |cons env r ih=>
   intro hs hl;obtain⟨hk,⟨L,o,hf,hn,ho,hd⟩,hr⟩:=hl;have hL:L∈X.fs:=hs L (by unfold iL;rw[w0s,hf];exact wf);obtain⟨sl,e⟩:=I.base.slot L o ho (I.ok.frf L hL) hL λz=>I.ok.exfs L z hL;exact⟨hk,⟨L,_,hf,hn,e,hd⟩,ih (λb hb=>hs b (by unfold iL;rw[w0s,hf];exact wc _ hb)) hr⟩
 exact all X.outer (λ_ hb=>hb) I.ok.funs
theorem Inv.stack(I:Inv X π σ H s):s.heap.FunFrames X.base X.stack:=by
 rcases I.ok.stk with e|⟨e,hf⟩
 .rw[e];exact I.funs
 .rw[e];obtain⟨m,hn,_⟩:=I.loc;refine .cons (by rw[I.ok.kind];decide) hf hn ?_ I.funs;exact w0l (wO I.ok.bsz I.ok.above)
theorem Inv.stkSub(I:Inv X π σ H s):∀b∈iL X.stack,b∈X.env.locals::X.fs:=λb hb=>by
 rcases I.ok.stk with e|⟨e,hf⟩
 .rw[e]at hb;exact wc _ hb
 .rw[e]at hb;unfold iL at hb;rw[w0s,hf]at hb;exact hb
theorem Inv.stkFree(I:Inv X π σ H s):∀b∈iL X.stack,H b=aj:=λb hb=>by
 rcases wB.mp (I.stkSub b hb)with e|hb
 .rw[e];exact I.free
 .obtain⟨_,o,ho,_⟩:=I.ok.funs.mem hb;exact I.base.free b o ho (I.ok.frf b hb) λz=>I.ok.exfs b z hb
theorem Inv.step{g':Array GenState}{t':Nat}{d':Drawn}{ch:ft}(I:Inv X π σ H s)
   (hch:∀b∈ch,(b∈X.ex\/X.s₀.heap.objs.size<=b)/\b≠X.env.locals/\(∀x c,X.env.cells.lookup x=aa c->c≠b)/\∀p∈X.pn++π,p.1≠b)
   (keep:∀b o,b≠X.env.locals->b∉X.fs->b∉ch->s.heap.get? b=aa o->H b=aj->h'.get? b=aa o)
   (slot:∀b o,b≠X.env.locals->b∈X.fs->b∉ch->s.heap.get? b=aa o->H b=aj->∃sl,h'.get? b=aa { o with slots:=sl }) (free:∀b o,b∉ch->s.heap.get? b=aa o->H b=aj->H' b=aj)
   (there:∀b o,b∉ch->s.heap.get? b=aa o->∃o',h'.get? b=aa o')
   (tups:∀b xs,H b=aa (.tup xs)->H' b=aa (.tup xs)) (frzs:∀b o u,H b=aa (.frz o u)->H' b=aa (.frz o u)) (tbls:∀b ps,H b=aa (.tbl ps)->∃more,H' b=aa (.tbl (ps++more)))
   (ns:∀m,s.heap.Ns X.env.locals m->h'.Ns X.env.locals m) (hok:HOk X.prog X.w H' h') (hg:dX g') :
   Inv X π σ H' { s with heap:=h',gens:=g',drawn:=d',toks:=t' }:=by
 have neL:∀b o,X.s₀.heap.get? b=aa o->b≠X.env.locals:=λb o e=>vt (wG (wD e) I.ok.above);have neC:∀b o,X.s₀.heap.get? b=aa o->b∉X.ex->b∉ch:=λb o e hx hb=>by
   rcases(hch b hb).1 with z|z
   .exact hx z
   .exact aM (wG (wD e) z) (vG _)
 have cellK:∀x c,X.env.cells.lookup x=aa c->∀v,s.heap.IsCell c v->h'.IsCell c v:=λx c e v⟨o,ho,hd⟩=>by
   have nch:c∉ch:=λz=>(hch c z).2.2.1 x c e rfl;by_cases hc:c∈X.fs
   .obtain⟨sl,q⟩:=slot c o (I.cne x c e) hc nch ho (I.freeC x c e);exact⟨_,q,hd⟩
   .exact⟨o,keep c o (I.cne x c e) hc nch ho (I.freeC x c e),hd⟩
 refine⟨I.ok,I.os,hg,⟨λb o e n hb hx=>?_,λb o e n hb hx=>?_,λb o e n hx=>?_,λb o e hx=>?_,λb xs e=>tups b xs (I.base.tups b xs e),λb o xs e=>frzs b o xs (I.base.frzs b o xs e),λb ps e=>?_⟩,?_,λx c e=>?_,?_,λx c e=>?_,λp hp=>?_,hok,I.len⟩
 .exact keep b o (neL b o e) hb (neC b o e hx) (I.base.keep b o e n hb hx) (I.base.free b o e n hx)
 .obtain⟨sl,e1⟩:=I.base.slot b o e n hb hx;obtain⟨sl',e2⟩:=slot b _ (neL b o e) hb (neC b o e hx) e1 (I.base.free b o e n hx);exact⟨sl',e2⟩
 .obtain⟨o',e1⟩:=I.base.there b o e hx;exact free b o' (neC b o e hx) e1 (I.base.free b o e n hx)
 .obtain⟨o',e1⟩:=I.base.there b o e hx;exact there b o' (neC b o e hx) e1
 .obtain⟨m1,e1⟩:=I.base.tbls b ps e;obtain⟨m2,e2⟩:=tbls b _ e1;exact⟨m1++m2,by rw[e2,Array.append_assoc]⟩
 .obtain⟨m,hn,hl⟩:=I.loc;refine⟨m,ns m hn,λi x v e1 e2 e3=>?_⟩;obtain⟨u,r,l⟩:=hl i x v e1 e2 e3;refine⟨u,r,?_⟩;rcases l with l|⟨k,c,e,z⟩
  .exact .inl l
  .exact .inr ⟨k,c,e,cellK x c e _ z⟩
 .obtain⟨v,z⟩:=I.cell x c e;exact⟨v,cellK x c e v z⟩
 .obtain⟨m,⟨o,_,_,ho,_⟩,_⟩:=I.loc;exact free _ o (λz=>(hch _ z).2.1 rfl) ho I.free
 .obtain⟨v,o,ho,hd⟩:=I.cell x c e;exact free c o (λz=>(hch c z).2.2.1 x c e rfl) ho (I.freeC x c e)
 .obtain⟨e,n,ne,nf,d⟩:=I.pin p hp;have nch:p.1∉ch:=λz=>(hch p.1 z).2.2.2 p hp rfl;exact⟨keep p.1 p.2 ne nf nch e n,free p.1 p.2 nch e n,ne,nf,d⟩
theorem Inv.un{t':Nat}(I:Inv X π σ H s)(u:Un X.fs [] H H' s.heap h')(hok:HOk X.prog X.w H' h'):Inv X π σ H' { s with heap:=h',toks:=t' }:=by
 obtain⟨m,⟨o,es,ep,ho,r⟩,_⟩:=id I.loc;obtain⟨sl,hL⟩:=u.any ho I.free (by simp);exact I.step (g':=s.gens) (d':=s.drawn) (ch:=[]) (λ_ z=>nomatch z) (λb o _ hb _ e n=>u.keep b o e n hb (by simp)) (λb o _ hb _ e n=>u.slot b o e n hb (by simp)) (λb o _ e n=>u.free b o e n (by simp)) (λb o _ e=>u.there b o e (by simp)) u.tups u.frzs u.tbls (λm' hm=>by
  obtain⟨o',es',ep',ho',r'⟩:=hm;rw[ho]at ho';cases ho';exact⟨_,es',ep',hL,r'⟩) hok I.bare
theorem Inv.call{g':Array GenState}{t':Nat}{d':Drawn}{ch:ft}(I:Inv X π σ H s)(u:Un (iL X.stack) ch H H' s.heap h')(hok:HOk X.prog X.w H' h')(hg:dX g')
  (hch:∀b∈ch,(b∈X.ex\/X.s₀.heap.objs.size<=b)/\b≠X.env.locals/\(∀x c,X.env.cells.lookup x=aa c->c≠b)/\∀p∈X.pn++π,p.1≠b) :
  Inv X π σ H' { s with heap:=h',gens:=g',drawn:=d',toks:=t' }:=by
 obtain⟨m,⟨o,es,ep,ho,r⟩,_⟩:=id I.loc;obtain⟨sl,hL⟩:=u.any ho I.free λz=>(hch _ z).2.1 rfl;exact I.step (ch:=ch) hch (λb o hL hb hc e n=>u.keep b o e n (λz=>(wB.mp (I.stkSub b z)).elim hL hb) hc) (λb o _ _ hc e n=>u.any e n hc) (λb o hc e n=>u.free b o e n hc) (λb o hc e=>u.there b o e hc) u.tups u.frzs u.tbls (λm' hm=>by
  obtain⟨o',es',ep',ho',r'⟩:=hm;rw[ho]at ho';cases ho';exact⟨_,es',ep',hL,r'⟩) hok hg
theorem Inv.turned{t':Nat}{it:Addr}(I:Inv X π σ H s)(k:∀b o,b≠it->s.heap.get? b=aa o->h'.get? b=aa o)(hn:H it=aj)(hL:it≠X.env.locals)
   (h1:it∈X.ex\/X.s₀.heap.objs.size<=it) (h2:∀x c,X.env.cells.lookup x=aa c->c≠it) (h3:∀p∈X.pn++π,p.1≠it):Inv X π σ H { s with heap:=h',toks:=t' }:=by
 have nit:∀b u,H b=aa u->b≠it:=λb u e z=>by rw[z,hn]at e;cases e
 refine I.step (g':=s.gens) (d':=s.drawn) (ch:=[it]) (λb hb=>?_) (λb o _ _ hc e _=>k b o (λz=>hc (by simp[z])) e) (λb o _ _ hc e _=>⟨o.slots,k b o (λz=>hc (by simp[z])) e⟩) (λ_ _ _ _ n=>n)
   (λb o hc e=>⟨o,k b o (λz=>hc (by simp[z])) e⟩) (λ_ _ e=>e) (λ_ _ _ e=>e) (λb ps e=>⟨#[],by rw[e];simp⟩) (λm hm=>?_) (λb u e=>?_) I.bare
 .have e:b=it:=by simpa using hb
  subst e;exact⟨h1,hL,h2,h3⟩
 .obtain⟨o,es,ep,ho,r⟩:=hm;exact⟨o,es,ep,k _ o (bR hL) ho,r⟩
 .refine(I.hok b u e).stay (λc v hc q=>k c v ?_ q) (λ_ q=>q) λ_ _ q=>q;rcases hc with z|z
  .rw[z];exact nit b u e
  .exact nit c _ z
theorem Inv.tok(I:Inv X π σ H s)(t:Nat):Inv X π σ H { s with toks:=t }:=I.un (h':=s.heap) (t':=t) Un.refl I.hok
theorem Inv.kept{t':Nat}(I:Inv X π σ H s)(k:∀b u,s.heap.get? b=aa u->h'.get? b=aa u):Inv X π σ H { s with heap:=h',toks:=t' }:=I.un (Un.kept k) (I.hok.kept k)
theorem Inv.laid{a:Addr}{o:HO}{t':Nat}(I:Inv X π σ H s)(k:∀b u,s.heap.get? b=aa u->h'.get? b=aa u)(hp:s.heap.objs.size<=a)(new:ObjOk X.prog X.w (upd H a o) h' a o):
 Inv X π σ (upd H a o) { s with heap:=h',toks:=t' }:=I.un (Un.laid k hp (I.hok.fresh hp)) (I.hok.laid k hp new)
theorem Inv.write{x e:Addr}{o:HO}{t':Nat}(I:Inv X π σ H s)(mu:Mut (H x))(he:e=x\/H e=aa (.own x))(k:∀b u,b≠e->s.heap.get? b=aa u->h'.get? b=aa u)(heo:∃u,h'.get? e=aa u)
 (new:ObjOk X.prog X.w (upd H x o) h' x o):Inv X π σ (upd H x o) { s with heap:=h',toks:=t' }:=I.un (Un.write mu he k heo) (I.hok.write mu he k heo new)
theorem Inv.weak{σ':List (Option V)}(I:Inv X π σ H s)(hl:σ'.length=σ.length)(w:∀(i:Nat)v,σ'[i]?=aa (aa v)->σ[i]?=aa (aa v)):Inv X π σ' H s:=
 ⟨I.ok,I.os,I.bare,I.base,let ⟨m,hn,hl'⟩:=I.loc;⟨m,hn,λi x v e1 e2 e3=>hl' i x v e1 (w i v e2) e3⟩,I.cell,I.free,I.freeC,I.pin,I.hok,hl.trans I.len⟩
theorem Inv.pins_of{pins':aB}(I:Inv X π σ H s)(h:∀p∈pins',s.heap.get? p.1=aa p.2/\H p.1=aj/\p.1≠X.env.locals/\p.1∉X.fs/\∀v,p.2.data ≠ .cell v):Inv X pins' σ H s:=
 ⟨I.ok,I.os,I.bare,I.base,I.loc,I.cell,I.free,I.freeC,λp hp=>(ww.mp hp).elim (λz=>I.pin p (ul _ z)) (h p),I.hok,I.len⟩
theorem QO{N:fq}(hN:N.Nodup){i j:Nat}{x:Str}(a:N[i]?=aa x)(b:N[j]?=aa x):i=j:=by
 obtain⟨h1,e1⟩:=vv.mp a;obtain⟨h2,e2⟩:=vv.mp b;exact(List.getElem_inj hN).mp (e1.trans e2.symm)
theorem Nq{M:Model}{A:bu}{E:aC}{i:Nat}{x:Str}{v:V}{u:Value}{Q:Unit->Shared->Prop}(I:Inv X π σ H s)(hN:X.N.Nodup)(hi:X.N[i]?=aa x)(hx:mj X.env.scope x)(r:RelV v u)
   (h:∀s',Inv X π (σ.set i (aa v)) H s'->(∃a,dO a s.heap s'.heap/\(a=X.env.locals\/X.env.cells.lookup x=aa a))->Q .unit s') (hf:X.fn x=af\/X.env.scope.names.lookup x=aa .local:=by first|exact .inl rfl|exact .inr rfl|assumption):av M A (storeName X.env x u) Q E s:=by
 obtain⟨m,hn,hl⟩:=id I.loc;have hcls:(X.env.scope.kind==.class||(X.env.scope.kind==.module&&X.env.locals != X.env.globals))=ab:=by rw[I.ok.kind];rfl
 have hiσ:i<σ.length:=by rw[I.len];exact(vv.mp hi).1
 have cne:=I.cne;have tracked:∀{a:Addr}{h':aR},(∃o,s.heap.get? a=aa o/\H a=aj)->dO a s.heap h'->HOk X.prog X.w H h':=λ{a h'}ha hs b ob e=>by
   obtain⟨_,_,hfree⟩:=ha;refine(I.hok b ob e).stay (λc w' hc q=>(hs.2 c ?_).trans q) (λ_ q=>q) λ_ _ q=>q;rintro rfl;rcases hc with rfl|hc
   .rw[hfree]at e;cases e
   .rw[hfree]at hc;cases hc
 rcases hx with hk|hk
 .refine wpAny_storeName_local hk hn (λh' hn' hs=>?_) hcls;obtain⟨oL,_,_,hoL,_⟩:=id hn;refine h _ ⟨I.ok,I.os,I.bare,⟨λb o e n hb hx=>?_,λb o e n hb hx=>?_,I.base.free,λb o e hx=>?_,I.base.tups,I.base.frzs,I.base.tbls⟩,⟨_,hn',λj y v' e1 e2 e3=>?_⟩,λy c e=>?_,I.free,I.freeC,λp hp=>?_,tracked ⟨oL,hoL,I.free⟩ hs,by simpa using I.len⟩ ⟨_,hs,.inl rfl⟩
  .exact(hs.2 b (vt (wG (wD e) I.ok.above))).trans (I.base.keep b o e n hb hx)
  .obtain⟨sl,e1⟩:=I.base.slot b o e n hb hx;exact⟨sl,(hs.2 b (vt (wG (wD e) I.ok.above))).trans e1⟩
  .obtain⟨o',e1⟩:=I.base.there b o e hx;exact⟨o',(hs.2 b (vt (wG (wD e) I.ok.above))).trans e1⟩
  .by_cases hj:j=i
   .subst hj;rw[hi]at e1;cases e1;rw[w0U hiσ]at e2;cases e2;exact⟨u,r,.inl ⟨hk,by simp⟩⟩
   .rw[vM (bR hj)]at e2;obtain⟨u',r',q⟩:=hl j y v' e1 e2 e3;refine⟨u',r',?_⟩;rcases q with⟨k,e⟩|⟨k,c,e,z⟩
    .refine .inl ⟨k,?_⟩;have:y≠x:=λe=>hj (QO hN e1 (e ▸ hi));simp[this,e]
    .exact .inr ⟨k,c,e,z.sameBut hs (cne y c e)⟩
  .obtain⟨w',z⟩:=I.cell y c e;exact⟨w',z.sameBut hs (cne y c e)⟩
  .obtain⟨e,n,ne,nf,d⟩:=I.pin p hp;exact⟨(hs.2 p.1 ne).trans e,n,ne,nf,d⟩
 .have hfn:X.fn x=af:=by
    rcases hf with z|z
    .exact z
    .rw[z]at hk;cases hk
  obtain⟨c,hc⟩:=I.ok.has x (.inl hk);obtain⟨w',z⟩:=I.cell x c hc;refine wpAny_storeName_cell I.ok.kind hk hc z (λh' hc' hs=>?_);obtain⟨oc,hoc,hocd⟩:=id z;refine h { s with heap:=h' } ⟨I.ok,I.os,I.bare,⟨λb o e n hb hx=>?_,λb o e n hb hx=>?_,I.base.free,λb o e hx=>?_,I.base.tups,I.base.frzs,I.base.tbls⟩,⟨m,hn.sameBut hs (bR (cne x c hc)),λj y v' e1 e2 e3=>?_⟩,λy c' e=>?_,I.free,I.freeC,λp hp=>?_,tracked ⟨oc,hoc,I.freeC x c hc⟩ hs,by simpa using I.len⟩ ⟨c,hs,.inr hc⟩
  .exact(hs.2 b (vt (wG (wD e) (I.ok.cab x c hfn hc)))).trans (I.base.keep b o e n hb hx)
  .obtain⟨sl,e1⟩:=I.base.slot b o e n hb hx;exact⟨sl,(hs.2 b (vt (wG (wD e) (I.ok.cab x c hfn hc)))).trans e1⟩
  .obtain⟨o',e1⟩:=I.base.there b o e hx;exact⟨o',(hs.2 b (vt (wG (wD e) (I.ok.cab x c hfn hc)))).trans e1⟩
  .by_cases hj:j=i
   .subst hj;rw[hi]at e1;cases e1;rw[w0U hiσ]at e2;cases e2;exact⟨u,r,.inr ⟨.inl hk,c,hc,hc'⟩⟩
   .rw[vM (bR hj)]at e2;obtain⟨u',r',q⟩:=hl j y v' e1 e2 e3;refine⟨u',r',?_⟩;rcases q with q|⟨k,c',e,z'⟩
    .exact .inl q
    .refine .inr ⟨k,c',e,z'.sameBut hs ?_⟩;rintro rfl;exact hj (QO hN e1 (I.ok.inj _ _ _ e hc ▸ hi))
  .by_cases hcc:c'=c
   .subst hcc;exact⟨_,hc'⟩
   .obtain⟨w2,z2⟩:=I.cell y c' e;exact⟨w2,z2.sameBut hs hcc⟩
  .obtain⟨e,n,ne,nf,d⟩:=I.pin p hp;refine⟨(hs.2 p.1 ?_).trans e,n,ne,nf,d⟩;intro q;rw[q,hoc]at e;have q':oc=p.2:=aO e;exact d w' (by rw[<-q'];exact hocd)
theorem QP{M:Model}{A:bu}{E:aC}{i:Nat}{x:Str}{v:V}{u:Value}{Q:Unit->Shared->Prop}(I:Inv X π σ H s)(hN:X.N.Nodup)(hi:X.N[i]?=aa x)(hx:mj X.env.scope x)(r:RelV v u)
  (h:∀s',Inv X π (σ.set i (aa v)) H s'->Q .unit s') (hf:X.fn x=af\/X.env.scope.names.lookup x=aa .local:=by first|exact .inl rfl|exact .inr rfl|assumption):av M A (storeName X.env x u) Q E s:=
 Nq I hN hi hx r (λs' I' _=>h s' I') hf
theorem Inv.call'{s':Shared}{ch:ft}(I:Inv X π σ H s)(ho:s'.os=s.os)(u:Un (iL X.stack) ch H H' s.heap s'.heap)(hok:HOk X.prog X.w H' s'.heap)(hg:dX s'.gens)
  (hch:∀b∈ch,(b∈X.ex\/X.s₀.heap.objs.size<=b)/\b≠X.env.locals/\(∀x c,X.env.cells.lookup x=aa c->c≠b)/\∀p∈X.pn++π,p.1≠b):Inv X π σ H' s':=by
 obtain⟨h',g',d',t',o'⟩:=s';have e:o'=s.os:=ho;subst e;exact I.call (g':=g') (t':=t') (d':=d') u hok hg hch
end
abbrev XK:=Value->fJ->Hp->Prop
abbrev St:=List (Option V)
abbrev VK:=V->Hp->Prop
abbrev TE:=St->Hp->VK->Prop
abbrev TT:=St->Hp->(Bool->Hp->Prop)->Prop
abbrev TA:=St->Hp->(fL->Hp->Prop)->Prop
structure Ends where
 nx:St->Hp->Prop
 rt:VK
 bk:St->Hp->Prop:=λ_ _=>False
 ct:St->Hp->Prop:=λ_ _=>False
abbrev TS:=Ends->St->Hp->Prop
def EP(X:Cx)(π:aB)(σ:St)(Q:VK)(u:Value)(s':Shared):Prop:=∃v H',Inv X π σ H' s'/\RelV v u/\Q v H'
def TP(X:Cx)(π:aB)(σ:St)(Q:Bool->Hp->Prop)(b:Bool)(s':Shared):Prop:=∃H',Inv X π σ H' s'/\Q b H'
def AP(X:Cx)(π:aB)(σ:St)(Q:fL->Hp->Prop)(us:aF)(s':Shared):Prop:=∃vs H',Inv X π σ H' s'/\Vals vs us/\Q vs H'
def SP(X:Cx)(π:aB)(D:Ends)(f:Flow)(s':Shared):Prop:=
 match f with
 |.next=>∃σ' H',Inv X π σ' H' s'/\D.nx σ' H'
 |.brk=>∃σ' H',Inv X π σ' H' s'/\D.bk σ' H'
 |.cont=>∃σ' H',Inv X π σ' H' s'/\D.ct σ' H'
 |.ret u=>∃v σ' H',Inv X π σ' H' s'/\RelV v u/\D.rt v H'
def PE(X:Cx)(e:az)(t:TE):Prop:=
 ∀(π:aB)(s:Shared)(σ:St)(H:Hp)(Q:VK),Inv X π σ H s->t σ H Q->av (model X.prog X.w) X.A (eval e X.env) (EP X π σ Q) X.xe s
def PT(X:Cx)(e:az)(t:TT):Prop:=
 ∀(π:aB)(s:Shared)(σ:St)(H:Hp)(Q:Bool->Hp->Prop),Inv X π σ H s->t σ H Q->av (model X.prog X.w) X.A (isTrue e X.env (eval e X.env)) (TP X π σ Q) X.xe s
def PW(X:Cx)(e:az)(t:TT):Prop:=
 ∀(whole:Sem Value)(π:aB)(s:Shared)(σ:St)(H:Hp)(Q:Bool->Hp->Prop),Inv X π σ H s->t σ H Q->av (model X.prog X.w) X.A (isTrue e X.env whole) (TP X π σ Q) X.xe s
theorem PW.pt{X:Cx}{e:az}{t:TT}(h:PW X e t):PT X e t:=h _
def PA(X:Cx)(es:fw)(t:TA):Prop:=
 ∀(pos:Pos)(π:aB)(s:Shared)(σ:St)(H:Hp)(Q:fL->Hp->Prop),Inv X π σ H s->t σ H Q->av (model X.prog X.w) X.A (spliced (bO pos (au es X.env))) (AP X π σ Q) X.xe s
def PS(X:Cx)(st:aJ)(t:TS):Prop:=
 ∀(π:aB)(s:Shared)(σ:St)(H:Hp)(D:Ends),Inv X π σ H s->t D σ H->av (model X.prog X.w) X.A (exec st X.env) (SP X π D) X.xe s
def PSs(X:Cx)(st:fy)(t:TS):Prop:=
 ∀(π:aB)(s:Shared)(σ:St)(H:Hp)(D:Ends),Inv X π σ H s->t D σ H->av (model X.prog X.w) X.A (execs st X.env) (SP X π D) X.xe s
theorem gF{α:Type}{t:Sem α}{Q Q':α->Shared->Prop}{M:Model}{A:bu}{E:aC}{s:Shared}(h:av M A t Q E s)(hQ:∀a s,Q a s->Q' a s):av M A t Q' E s:=bw h hQ λ_ _ x=>x
section
variable {X:Cx}
def hG(i:Nat):TE:=λσ H Q=>∃v,σ[i]?=aa (aa v)/\Q v H
def tC(v:V):TE:=λ_ H Q=>Q v H
theorem Bj{i:Nat}{x:Str}{pos:Pos}(hN:X.N[i]?=aa x)(hv:me X.env.scope x)(hd:(x==("__debug__":Str))=ab:=by decide)(hcd:(x==("__classdict__":Str))=ab:=by decide):PE X (.Name x pos) (hG i):=by
 intro π s σ H Q I h;obtain⟨v,e,h⟩:=h;obtain⟨m,hn,hl⟩:=I.loc;obtain⟨u,r,l⟩:=hl i x v hN e hv;have fin:EP X π σ Q u s:=⟨v,H,I,r,h⟩;rcases l with⟨hk,hm⟩|⟨hk,c,hc,hcell⟩
 .exact wpAny_Name (wpAny_loadName_local I.ok.kind hk hn hm fin) hd
 .rcases hk with hk|hk
  .exact wpAny_Name (wpAny_loadName_cell I.ok.kind hk hc hcell fin) hd
  .exact wpAny_Name (wpAny_loadName_free I.ok.kind hk hc hcell fin hcd) hd
theorem pe_int{i j pos}:PE X (.Constant (.int i) j pos) (tC (.int i)):=λ_ _ _ H _ I h=>wpAny_Constant_int ⟨.int i,H,I.tok _,⟨_,rfl⟩,h⟩
theorem pe_bl{b j pos}:PE X (.Constant (.bool b) j pos) (tC (.bl b)):=λ_ _ _ H _ I h=>Constant_bool ⟨.bl b,H,I,rfl,h⟩
theorem pe_non{j pos}:PE X (.Constant .none j pos) (tC .non):=λ_ _ _ H _ I h=>Constant_none ⟨.non,H,I,rfl,h⟩
def Gl(X:Cx)(x:Str):Prop:=X.env.kindOf x=aa .globalImplicit
theorem Yt{E:aC}{π:aB}{s:Shared}{σ:St}{H:Hp}{x:Str}{u:Value}{pos:Pos}{Q:aC}(I:Inv X π σ H s)(hg:Gl X x)(hm:X.mg x=aa u)(h:Q u s)
  (hd:(x==("__debug__":Str))=ab:=by decide):av (model X.prog X.w) X.A (eval (.Name x pos) X.env) Q E s:=
 Calls.Name_function_global I.ok.kind hg (Calls.loadGlobal_global (by rw[I.ok.glob];exact I.mod.glob.keeps I.bk) hm h) hd
theorem Ck{E:aC}{π:aB}{s:Shared}{σ:St}{H:Hp}{x:Str}{u:Value}{pos:Pos}{Q:aC}(I:Inv X π σ H s)(hg:Gl X x)(hm:X.mg x=aj)(hv:bq x=aa u)(h:Q u s)
  (hn:x ≠ "__name__":=by decide) (hd:(x==("__debug__":Str))=ab:=by decide):av (model X.prog X.w) X.A (eval (.Name x pos) X.env) Q E s:=by
 obtain⟨mb,h1,h2⟩:=I.mod.blt;exact Calls.Name_function_global I.ok.kind hg (Calls.loadGlobal_builtin (by rw[I.ok.glob];exact I.mod.glob.keeps I.bk) hm (by rw[I.ok.blt];exact h1.keeps I.bk) ((h2 x hn).trans hv) h) hd
theorem Yu{x:Str}{v:V}{u:Value}{pos:Pos}(hg:Gl X x)(hm:X.mg x=aa u)(r:RelV v u)(hd:(x==("__debug__":Str))=ab:=by decide):PE X (.Name x pos) (tC v):=
 λ_ _ _ H _ I h=>Yt I hg hm ⟨v,H,I,r,h⟩ hd
theorem z4y{x:Str}{v:V}{u:Value}{pos:Pos}(hg:Gl X x)(hm:X.mg x=aj)(hv:bq x=aa u)(r:RelV v u)(hn:x ≠ "__name__":=by decide)(hd:(x==("__debug__":Str))=ab:=by decide):PE X (.Name x pos) (tC v):=
 λ_ _ _ H _ I h=>Ck I hg hm hv ⟨v,H,I,r,h⟩ hn hd
variable {a b:az}{ta tb:TE}{pos:Pos}
variable {tA tB':TT}{rest:fw}
def qg(t u:TT):TT:=λσ H Q=>t σ H λc H1=>if c=af then u σ H1 Q else Q ab H1
def tOr(t u:TT):TT:=λσ H Q=>t σ H λc H1=>if c=af then Q af H1 else u σ H1 Q
def qe(t:TT):TT:=λσ H Q=>t σ H λc H1=>Q (!c) H1
theorem z4z(ha:PT X a tA):PW X (.BoolOp .And [a] pos) tA:=by
 intro wh π s σ H Q I h;refine isTrue_and (gF (ha π s σ H Q I h) λc s1 e=>?_);cases c with
 |true=>exact isTrue_and_nil e
 |false=>exact e
theorem kN(ha:PT X a tA):PW X (.BoolOp .Or [a] pos) tA:=by
 intro wh π s σ H Q I h;refine isTrue_or (gF (ha π s σ H Q I h) λc s1 e=>?_);cases c with
 |false=>exact isTrue_or_nil e
 |true=>exact e
theorem kO(ha:PT X a tA)(hb:PW X (.BoolOp .And (b::rest) pos) tB'):PW X (.BoolOp .And (a::b::rest) pos) (qg tA tB'):=by
 intro wh π s σ H Q I h;refine isTrue_and (gF (ha π s σ H _ I h) ?_);rintro c s1 ⟨H1,I1,q1⟩;cases c with
 |true=>exact hb wh π s1 σ H1 Q I1 q1
 |false=>exact⟨H1,I1,q1⟩
theorem nE(ha:PT X a tA)(hb:PW X (.BoolOp .Or (b::rest) pos) tB'):PW X (.BoolOp .Or (a::b::rest) pos) (tOr tA tB'):=by
 intro wh π s σ H Q I h;refine isTrue_or (gF (ha π s σ H _ I h) ?_);rintro c s1 ⟨H1,I1,q1⟩;cases c with
 |true=>exact⟨H1,I1,q1⟩
 |false=>exact hb wh π s1 σ H1 Q I1 q1
theorem kP(ha:PT X a tA):PT X (.UnaryOp .Not a pos) (qe tA):=by
 intro π s σ H Q I h;exact isTrue_not (ha π s σ H (λc H1=>Q (!c) H1) I h)
def mQ(ta tb:TE):TE:=λσ H Q=>ta σ H λx H1=>∃c,x=.bl c/\if c=af then tb σ H1 Q else Q (.bl ab) H1
def mN(ta:TE):TE:=λσ H Q=>ta σ H λx H1=>∃c,x=.bl c/\Q (.bl (!c)) H1
theorem kT{op}{t:TE}(h:PE X a t):PE X (.BoolOp op [a] pos) t:=λπ s σ H Q I hw=>BoolOp_one (h π s σ H Q I hw)
theorem kX(ha:PE X a ta)(hb:PE X (.BoolOp .And (b::rest) pos) tb):PE X (.BoolOp .And (a::b::rest) pos) (mQ ta tb):=by
 intro π s σ H Q I h;refine BoolOp_and (gF (ha π s σ H _ I h) ?_);rintro v s1 ⟨x,H1,I1,r1,q1⟩;obtain⟨c,rfl,q1⟩:=q1;cases r1;refine cn ?_;cases c with
 |true=>exact hb π s1 σ H1 Q I1 q1
 |false=>exact⟨.bl ab,H1,I1,rfl,q1⟩
theorem kU(ha:PE X a ta):PE X (.UnaryOp .Not a pos) (mN ta):=by
 intro π s σ H Q I h;refine UnaryOp_ (gF (ha π s σ H _ I h) ?_);rintro v s1 ⟨x,H1,I1,r1,q1⟩;obtain⟨c,rfl,q1⟩:=q1;cases r1;exact not_of (cn ⟨.bl (!c),H1,I1,rfl,q1⟩)
def tIf(t:TT)(ta tb:TE):TE:=λσ H Q=>t σ H λc H1=>if c=af then ta σ H1 Q else tb σ H1 Q
theorem z10{c:az}(hc:PT X c tA)(ha:PE X a ta)(hb:PE X b tb):PE X (.IfExp c a b pos) (tIf tA ta tb):=by
 intro π s σ H Q I h;refine wpAny_IfExp (gF (hc π s σ H _ I h) ?_);rintro d s1 ⟨H1,I1,q1⟩;cases d with
 |true=>exact ha π s1 σ H1 Q I1 q1
 |false=>exact hb π s1 σ H1 Q I1 q1
end
def SqL(K:aD)(H:Hp)(a:Addr)(xs:fL):Prop:=
 Rd H a (.lst xs) \/
  ∃(o:Obj)(its:fE)(n:Nat),K.lookup a=aa o/\o.cls=.type "list" /\ o.dict=aj/\o.data=.seq its n/\its.size<=sizeLine/\Vals xs its.toList
def SqT(K:aD)(H:Hp)(a:Addr)(xs:fL):Prop:=
 Rd H a (.tup xs) \/
  ∃(o:Obj)(its:fE)(n:Nat),K.lookup a=aa o/\o.cls=.type "tuple" /\ o.data=.seq its n/\its.size<=sizeLine/\Vals xs its.toList
def absV:Value->Option V
 |.none=>aa .non
 |.bool b=>aa (.bl b)
 |.int i _=>aa (.int i)
 |.str x _=>aa (.str x)
 |.bytes b _=>aa (.byt b)
 |.float b _=>aa (.flt b)
 |.ref a=>aa (.ref a)
 |.type n=>aa (.ty n)
 |_=>aj
theorem RelV.abs{x:V}{u:Value}(r:RelV x u):absV u=aa x:=by
 cases x with
 |non=>cases r;rfl
 |bl _=>cases r;rfl
 |int _=>obtain⟨t,rfl⟩:=r;rfl
 |str _=>obtain⟨t,rfl⟩:=r;rfl
 |byt _=>obtain⟨t,rfl⟩:=r;rfl
 |flt _=>obtain⟨t,rfl⟩:=r;rfl
 |ref _=>cases r;rfl
 |ty _=>cases r;rfl
theorem RelV.inj{x y:V}{u:Value}(r:RelV x u)(q:RelV y u):x=y:=aO (r.abs.symm.trans q.abs)
theorem Vals.inj:∀{xs ys:fL}{us:aF},Vals xs us->Vals ys us->xs=ys
 |_,_,_,.nil,.nil=>rfl
 |_,_,_,.cons r t,.cons r' t'=>by rw[r.inj r',Vals.inj t t']
section
variable {X:Cx}{π:aB}{σ:St}{H:Hp}{s:Shared}{a:Addr}{xs ys:fL}
theorem SqL.of{K:aD}(h:H a=aa (.lst xs)):SqL K H a xs:=.inl (.inl h)
theorem SqT.of{K:aD}(h:H a=aa (.tup xs)):SqT K H a xs:=.inl (.inl h)
theorem Inv.list(I:Inv X π σ H s)(h:SqL X.K H a xs):∃its:aF,Vals xs its/\PlainL s.heap a its.toArray/\xs.length<=sizeLine:=by
 rcases h with h|⟨o,its,n,hk,hc,hd,hs,hz,r⟩
 .obtain⟨z,its,n,r,e⟩:=h.ok I.hok;exact⟨its,r,⟨_,n,e,rfl,rfl,rfl⟩,z⟩
 .refine⟨its.toList,r,⟨o,n,I.kIn a o hk,hc,hd,by simpa using hs⟩,?_⟩;have e:=r.length;simp only[dP]at e;rfl'
theorem Inv.tuple(I:Inv X π σ H s)(h:SqT X.K H a xs):∃its:aF,Vals xs its/\IsTup s.heap a its.toArray/\xs.length<=sizeLine:=by
 rcases h with h|⟨o,its,n,hk,hc,hs,hz,r⟩
 .obtain⟨z,its,r,p⟩:=h.ok I.hok;exact⟨its,r,p,z⟩
 .refine⟨its.toList,r,⟨o,I.kIn a o hk,hc,n,by simpa using hs⟩,?_⟩;have e:=r.length;simp only[dP]at e;rfl'
theorem Inv.list_inj(I:Inv X π σ H s)(h:SqL X.K H a xs)(h':SqL X.K H a ys):xs=ys:=by
 obtain⟨its,r,⟨o,n,e,_,_,d⟩,_⟩:=I.list h;obtain⟨its',r',⟨o',n',e',_,_,d'⟩,_⟩:=I.list h';rw[e]at e';cases e';rw[d]at d';injection d' with d1 _
 have:its=its':=by simpa using bv Array.toList d1
 subst this;exact r.inj r'
theorem Inv.tuple_inj(I:Inv X π σ H s)(h:SqT X.K H a xs)(h':SqT X.K H a ys):xs=ys:=by
 obtain⟨its,r,⟨o,e,_,n,d⟩,_⟩:=I.tuple h;obtain⟨its',r',⟨o',e',_,n',d'⟩,_⟩:=I.tuple h';rw[e]at e';cases e';rw[d]at d';injection d' with d1 _
 have:its=its':=by simpa using bv Array.toList d1
 subst this;exact r.inj r'
end
abbrev Cx.wish(X:Cx)(E:aC):Cx:={ X with xe:=E }
abbrev Cx.nox(X:Cx):Cx:=X.wish λ_ _=>False
theorem Cx.Ok.wish{X:Cx}(ok:X.Ok)(E:aC):(X.wish E).Ok:=
 ⟨ok.mod,ok.kind,ok.glob,ok.blt,ok.above,ok.inj,ok.has,ok.cab,ok.hd,ok.frames,ok.stk,ok.exf,ok.bs,ok.bsz,ok.noex,ok.exfs,ok.funs,ok.frf⟩
theorem Cx.Ok.unwish{X:Cx}{E:aC}(ok:(X.wish E).Ok):X.Ok:=
 ⟨ok.mod,ok.kind,ok.glob,ok.blt,ok.above,ok.inj,ok.has,ok.cab,ok.hd,ok.frames,ok.stk,ok.exf,ok.bs,ok.bsz,ok.noex,ok.exfs,ok.funs,ok.frf⟩
section
variable {X:Cx}{π:aB}{σ:St}{H:Hp}{s:Shared}{E:aC}
theorem Inv.wish(I:Inv X π σ H s)(E:aC):Inv (X.wish E) π σ H s:=⟨I.ok.wish E,I.os,I.bare,I.base,I.loc,I.cell,I.free,I.freeC,I.pin,I.hok,I.len⟩
theorem Inv.unwish(I:Inv (X.wish E) π σ H s):Inv X π σ H s:=⟨I.ok.unwish,I.os,I.bare,I.base,I.loc,I.cell,I.free,I.freeC,I.pin,I.hok,I.len⟩
theorem SP.unwish{D:Ends}{f:Flow}{s':Shared}(h:SP (X.wish E) π D f s'):SP X π D f s':=by
 cases f with
 |next=>obtain⟨σ',H',I,q⟩:=h;exact⟨σ',H',I.unwish,q⟩
 |brk=>obtain⟨σ',H',I,q⟩:=h;exact⟨σ',H',I.unwish,q⟩
 |cont=>obtain⟨σ',H',I,q⟩:=h;exact⟨σ',H',I.unwish,q⟩
 |ret u=>obtain⟨v,σ',H',I,r,q⟩:=h;exact⟨v,σ',H',I.unwish,r,q⟩
theorem PSs.nox{st:fy}{t:TS}(h:PSs X.nox st t):PSs X st t:=λπ s σ H D I hw=>
 bw (h π s σ H D (I.wish _) hw) (λ_ _ q=>q.unwish) λ_ _ z=>ci z
end
section
variable {X:Cx}{st:aJ}{rest:fy}{t u:TS}{e:az}{te:TE}{pos:Pos}
def tNext:TS:=λD σ H=>D.nx σ H
def iI(t u:TS):TS:=λD σ H=>t { D with nx:=u D } σ H
theorem z4A:PSs X [] tNext:=λ_ _ σ H _ I h=>dQ ⟨σ,H,I,h⟩
theorem Ac(h1:PS X st t)(h2:PSs X rest u):PSs X (st::rest) (iI t u):=by
 intro π s σ H D I h;refine wpAny_execs_cons (gF (h1 π s σ H { D with nx:=u D } I h) λf s1 q=>?_);cases f with
 |next=>
  obtain⟨σ',H',I',q⟩:=q;exact h2 π s1 σ' H' D I' q
 |ret v=>exact q
 |brk=>exact q
 |cont=>exact q
theorem Cl(h1:PS X st t):PSs X [st] t:=by
 intro π s σ H D I h;refine wpAny_execs_cons (gF (h1 π s σ H D I h) λf s1 q=>?_);cases f with
 |next=>exact dQ q
 |ret v=>exact q
 |brk=>exact q
 |cont=>exact q
theorem Inv.quiet{π:aB}{σ:St}{H:Hp}{s:Shared}(I:Inv X π σ H s):interactive X.env=ab:=by simp[interactive,I.ok.kind]
def jz(te:TE):TS:=λD σ H=>te σ H λ_ H1=>D.nx σ H1
theorem Pn(he:PE X e te)(hs:cD e aj pos.line X.env=pure ab:=by rfl):PS X (.Expr e pos) (jz te):=by
 intro π s σ H D I h;exact wpAny_Expr_any (gF (he π s σ H _ I h) λv s1⟨x,H1,I1,r1,q1⟩=>⟨σ,H1,I1,q1⟩) I.quiet hs
def jj(te:TE):TS:=λD σ H=>te σ H D.rt
theorem tQ(he:PE X e te):PS X (.Return (aa e) pos) (jj te):=by
 intro π s σ H D I h;exact wpAny_Return_some (gF (he π s σ H _ I h) λv s1⟨x,H1,I1,r1,q1⟩=>⟨x,σ,H1,I1,r1,q1⟩)
def kE(c:TT)(t u:TS):TS:=λD σ H=>c σ H λb H1=>if b=af then t D σ H1 else u D σ H1
theorem pZ{c:az}{a b:fy}{tc:TT}(hc:PT X c tc)(ha:PSs X a t)(hb:PSs X b u):PS X (.If c a b pos) (kE tc t u):=by
 intro π s σ H D I h;refine wpAny_If (gF (hc π s σ H _ I h) ?_);rintro d s1 ⟨H1,I1,q1⟩;cases d with
 |true=>exact ha π s1 σ H1 D I1 q1
 |false=>exact hb π s1 σ H1 D I1 q1
end
abbrev TG:=V->St->Hp->(St->Hp->Prop)->Prop
abbrev ki:=fL->St->Hp->(St->Hp->Prop)->Prop
def PG(X:Cx)(target:az)(t:TG):Prop:=
 ∀(π:aB)(s:Shared)(σ:St)(H:Hp)(v:V)(u:Value)(Q:St->Hp->Prop),Inv X π σ H s->RelV v u->t v σ H Q ->
  av (model X.prog X.w) X.A (assign target X.env u) (λ_ s'=>∃σ' H',Inv X π σ' H' s'/\Q σ' H') X.xe s
def kj(X:Cx)(ts:fw)(t:ki):Prop:=
 ∀(π:aB)(s:Shared)(σ:St)(H:Hp)(vs:fL)(us:aF)(Q:St->Hp->Prop),Inv X π σ H s->Vals vs us->t vs σ H Q ->
  av (model X.prog X.w) X.A (assignInOrder ((bU ts X.env).map (·.2)) us) (λ_ s'=>∃σ' H',Inv X π σ' H' s'/\Q σ' H') X.xe s
abbrev mh:=V->V->V->Hp->(Hp->Prop)->Prop
def oO(X:Cx)(t:mh):Prop:=
 ∀(π:aB)(s:Shared)(σ:St)(H:Hp)(o i v:V)(ov iv u:Value)(Q:Hp->Prop),Inv X π σ H s->RelV o ov->RelV i iv->RelV v u->t o i v H Q ->
  av (model X.prog X.w) X.A (setItem ov iv u) (λ_ s'=>∃H',Inv X π σ H' s'/\Q H') X.xe s
section
variable {X:Cx}{pos:Pos}
def Ad(i:Nat):TG:=λv σ H Q=>Q (σ.set i (aa v)) H
theorem v9{i:Nat}{x:Str}(hN:X.N.Nodup)(hi:X.N[i]?=aa x)(hx:mj X.env.scope x)(hf:X.fn x=af\/X.env.scope.names.lookup x=aa .local:=by first|exact .inl rfl|exact .inr rfl|assumption):PG X (.Name x pos) (Ad i):=by
 intro π s σ H v u Q I r h;exact wpAny_assign_Name (QP I hN hi hx r (λs' I'=>⟨_,H,I',h⟩) hf)
def gNil:ki:=λvs σ H Q=>vs=[]/\Q σ H
def ke(t:TG)(u:ki):ki:=λvs σ H Q=>∃v r,vs=v::r/\t v σ H λσ' H'=>u r σ' H' Q
theorem z4B:kj X [] gNil:=by
 intro π s σ H vs us Q I r h;obtain⟨e,h⟩:=h;subst e;cases r;exact assignInOrder_nil ⟨σ,H,I,h⟩
theorem z13{e:az}{es:fw}{t:TG}{u:ki}(h1:PG X e t)(h2:kj X es u)
  (hs:(bU (e::es) X.env).map (·.2)=assign e X.env::(bU es X.env).map (·.2):=by rfl):kj X (e::es) (ke t u):=by
 intro π s σ H vs us Q I r h;obtain⟨v,vr,e1,h⟩:=h;subst e1;cases r with
 |cons r rr=>
  rw[hs];refine assignInOrder_cons (gF (h1 π s σ H _ _ _ I r h) ?_);rintro _ s1 ⟨σ1,H1,I1,q1⟩;exact h2 π s1 σ1 H1 _ _ Q I1 rr q1
def oE(K:aD)(n:Nat)(t:ki):TG:=λv σ H Q=>∃a xs,v=.ref a/\SqT K H a xs/\xs.length=n/\t xs σ H Q
theorem kQ{es:fw}{k:Nat}{t:ki}{n:Nat}(hc:X.calm=af)(h:kj X es t)
  (hn:(bU es X.env).length=n:=by rfl) (hst:(bU es X.env).findIdx? (·.1)=aj:=by rfl):PG X (.Tuple es k pos) (oE X.K n t):=by
 intro π s σ H v u Q I r hw;obtain⟨a,xs,e1,hq,hl,hw⟩:=hw;subst e1;cases r;obtain⟨its,rv,ht,hz⟩:=I.tuple hq;refine assign_Tuple_tuple (I.ok.hd hc) ht (by simp[hn,<-hl,rv.length]) hst λh' hx=>?_;have I1:Inv X π σ H { s with heap:=h' }:=I.kept (t':=s.toks) λb o e=>hx b o (vt (wD e)) e;exact h π _ σ H xs _ Q I1 (by simpa using rv) hw
def je(to ti:TE)(t:mh):TG:=λv σ H Q=>to σ H λo H1=>ti σ H1 λi H2=>t o i v H2 λH3=>Q σ H3
theorem KE{o i:az}{to ti:TE}{t:mh}(ho:PE X o to)(hi:PE X i ti)(hs:oO X t)
  (ha:∀ v,assign (.Subscript o i pos) X.env v=(do
   let ov <-holding [v] (eval o X.env);let iv <-holding [v,ov] (eval i X.env)
   standAt pos
   holding [v,ov,iv] (setItem ov iv v)
   release [v,ov,iv] []):=by intro _;rfl):PG X (.Subscript o i pos) (je to ti t):=by
 intro π s σ H v u Q I r h;rw[ha];refine ai (cI (gF (ho π s σ H _ I h) ?_));rintro ov s1 ⟨x,H1,I1,r1,q1⟩;refine ai (cI (gF (hi π s1 σ H1 _ I1 q1) ?_));rintro iv s2 ⟨y,H2,I2,r2,q2⟩;refine ai (dD (ai (cI (gF (hs π s2 σ H2 x y v ov iv u _ I2 r1 r2 r q2) ?_))));rintro _ s3 ⟨H3,I3,q3⟩;exact wpAny_release ⟨σ,H3,I3,q3⟩
def ie(te:TE)(g:TG):TS:=λD σ H=>te σ H λx H1=>g x σ H1 D.nx
theorem KG{tg e:az}{te:TE}{g:TG}(he:PE X e te)(hg:PG X tg g)(hs:swapsWithSole [tg] e pos.line X.env=pure ab:=by rfl)(hw:swappedStores [tg] e X.env=pure aj:=by rfl)
  (h1:(bU [tg] X.env).map (·.2)=[assign tg X.env]:=by rfl):PS X (.Assign [tg] e pos) (ie te g):=by
 intro π s σ H D I h;refine wpAny_Assign_stores (gF (he π s σ H _ I h) λv s1⟨x,H1,I1,r1,q1⟩=>?_) hs hw;rw[h1];exact gF (hg π s1 σ H1 x v _ I1 r1 q1) λ_ s2 q=>q
theorem Po{i:Nat}{x:Str}{e:az}{te:TE}{pos':Pos}(hN:X.N.Nodup)(hi:X.N[i]?=aa x)(hx:mj X.env.scope x)(he:PE X e te)(hs:cD e (aa (.Name x pos')) pos.line X.env=pure ab:=by rfl)(hf:X.fn x=af\/X.env.scope.names.lookup x=aa .local:=by first|exact .inl rfl|exact .inr rfl|assumption):
  PS X (.Assign [.Name x pos'] e pos) (ie te (Ad i)):=by
 intro π s σ H D I h;refine wpAny_Assign_Name (gF (he π s σ H _ I h) λv s1⟨y,H1,I1,r1,q1⟩=>?_) hs;exact QP I1 hN hi hx r1 (λs2 I2=>⟨_,H1,I2,q1⟩) hf
end
section
variable {X:Cx}{pos:Pos}
def kD(c:TT)(tb:TS):TS:=λD σ H=>∃W:Nat->St->Hp->Prop,(∃m,W m σ H)/\∀m σ H,W m σ H ->
 c σ H λb H1=>if b=af then ∃N:St->Hp->Prop,(∀σ' H',N σ' H'->∃m',m'<m/\W m' σ' H')/\tb { D with nx:=N,ct:=N,bk:=D.nx } σ H1 else D.nx σ H1
theorem z14{c:az}{body:fy}{tc:TT}{tb:TS}(hp:fg (model X.prog X.w) X.A X.env X.xe)(hc:PT X c tc)(hb:PSs X body tb):PS X (.While c body [] pos) (kD tc tb):=by
 intro π s σ H D I h;obtain⟨W,⟨m0,w0⟩,turn⟩:=h;refine wpAny_While (codeAny_whileLoop (λn s'=>∃σ' H',Inv X π σ' H' s'/\W n σ' H') ?_ m0 ⟨σ,H,I,w0⟩);rintro n s1 ⟨σ1,H1,I1,w1⟩;refine bV hp (gF (hc π s1 σ1 H1 _ I1 (turn n σ1 H1 w1)) ?_);rintro b s2 ⟨H2,I2,q2⟩;cases b with
 | true =>
  obtain⟨N,hN,q2⟩:=q2;rw[ak rfl];refine bV hp (gF (hb π s2 σ1 H2 _ I2 q2) λf s3 q3=>?_);cases f with
  |next=>
   obtain⟨σ3,H3,I3,n3⟩:=q3;obtain⟨m',hm,w3⟩:=hN σ3 H3 n3;exact⟨m',hm,σ3,H3,I3,w3⟩
  |cont=>
   obtain⟨σ3,H3,I3,n3⟩:=q3;obtain⟨m',hm,w3⟩:=hN σ3 H3 n3;exact⟨m',hm,σ3,H3,I3,w3⟩
  |brk=>exact q3
  |ret v=>exact q3
 |false=>
  rw[ao vi];exact dQ ⟨σ1,H2,I2,q2⟩
end
structure It where
 go:Nat->Hp->Prop
 yld:Nat->Hp->V->Hp->Prop
 stop:Nat->Hp->Prop
def gY(X:Cx)(π:aB)(H:Hp)(b:Addr):Prop:=
 H b=aj/\b≠X.env.locals/\b∉X.fs/\(b∈X.ex\/X.s₀.heap.objs.size<=b)/\(∀x c,X.env.cells.lookup x=aa c->c≠b)/\∀p∈X.pn++π,p.1≠b
theorem Inv.fpOk{X:Cx}{π:aB}{σ:St}{H H':Hp}{s:Shared}{b:Addr}(I:Inv X π σ H s)(hb:s.heap.objs.size<=b)(hn:H' b=aj):gY X π H' b:=by
 refine⟨hn,w07 (wG I.lt hb),I.nofs hb,.inr (wO I.sz hb),λx c e z=>?_,λp hp z=>?_⟩
 .obtain⟨v,q⟩:=I.cell x c e;exact aM (wG q.lt (by rw[z];exact hb)) (vG _)
 .exact aM (wG (wD (I.pin p hp).1) (by rw[z];exact hb)) (vG _)
structure Turn(P:aN)(w:aI)(K:aD)(tg:az)(J:It)(fp:ft)(it:Addr)(tn:Nat->aR->Prop):Prop where
 mem:it∈fp
 obj:∀i h,tn i h->∀b∈fp,∃o,h.get? b=aa o/\∀v,o.data ≠ .cell v
 keep:∀i h h',tn i h->(∀b∈fp,∀o,h.get? b=aa o->h'.get? b=aa o)->tn i h'
 item:∀(X:Cx),X.prog=P->X.w=w->X.K=K->X.calm=af->∀(i:Nat)(π:aB)(s:Shared)(σ:St)(H:Hp)(E:aC),Inv X π σ H s->(∀b∈fp,gY X π H b)->tn i s.heap->J.go i H ->
  av (model P w) X.A (pyNext (.ref it)) (λr s1=>∃u,r=aa u /\
   av (model P w) X.A (cK tg (.ref it) u) (λ_ s2=>∃x H',Inv X π σ H' s2/\RelV x u/\J.yld i H x H'/\tn (i+1) s2.heap/\∀b∈fp,H' b=aj) E s1) E s
 done:∀(X:Cx),X.prog=P->X.w=w->X.K=K->X.calm=af->∀(i:Nat)(π:aB)(s:Shared)(σ:St)(H:Hp)(E:aC),Inv X π σ H s->(∀b∈fp,gY X π H b)->tn i s.heap->J.stop i H ->
  av (model P w) X.A (pyNext (.ref it)) (λr s1=>r=aj/\Inv X π σ H s1) E s
 self:∀(A:bu)(i:Nat)(s:Shared)(Q:aC)(E:aC),tn i s.heap->Q (.ref it) s->av (model P w) A (pyIter (.ref it)) Q E s
abbrev TI:=St->Hp->(It->Hp->Prop)->Prop
def tZ(X:Cx)(π:aB)(σ:St)(tg:az)(R:It->Hp->Prop)(itv:Value)(s2:Shared):Prop:=
 ∃(it:Addr)(fp:ft)(tn:Nat->aR->Prop)(J:It)(H':Hp),itv=.ref it/\Inv X π σ H' s2/\Turn X.prog X.w X.K tg J fp it tn/\tn 0 s2.heap/\(∀b∈fp,gY X π H' b)/\R J H'
def PI(X:Cx)(tg iter:az)(wi:TI):Prop:=
 ∀(π:aB)(s:Shared)(σ:St)(H:Hp)(R:It->Hp->Prop),Inv X π σ H s->wi σ H R ->
  av (model X.prog X.w) X.A (eval iter X.env) (λv s1=>av (model X.prog X.w) X.A (pyIter v) (tZ X π σ tg R) X.xe s1) X.xe s
theorem Yv{M:Model}{A:Around}{E:Value→Shared→Prop}{s:Shared}{tg:Expr}{it:Addr}{u:Value}{o:Obj}{n:String}{vs:Array Value}{Q:Unit→Shared→Prop}(ho:s.heap.get? it=some o)(hc:o.cls = .type n)(hd:o.data = .fields vs)
    (hn:["enumerate","zip","dict_itemiterator","dict_reverseitemiterator","odict_iterator","itertools.zip_longest","itertools.pairwise"].contains n=ab) (hQ:Q .unit s):av M A (cK tg (.ref it) u) Q E s:=by
  unfold cK
  cases tg<;>first
    |exact ax hQ
    |(cases u<;>first
        |exact ax hQ
        | (refine wpAny_bind (wpAny_load ho ?_)
           rw[hc,hd];show av M A (if(["enumerate","zip","dict_itemiterator","dict_reverseitemiterator","odict_iterator","itertools.zip_longest","itertools.pairwise"].contains n&&vs[0]?==aa (ee _))=af then _ else _) Q E s;rw[ao (by intro h;rw[hn,Bool.false_and]at h;cases h)];exact ax hQ))
def mE(K:aD)(a:Addr):It:=
 ⟨λi H=>∃xs x,SqL K H a xs/\xs[i]?=aa x,λi H x H'=>H'=H/\∀xs,SqL K H a xs->xs[i]?=aa x,λi H=>∃xs,SqL K H a xs/\xs.length<=i⟩
def xb(K:aD)(a:Addr):It:=
 ⟨λi H=>∃xs x,SqT K H a xs/\xs[i]?=aa x,λi H x H'=>H'=H/\∀xs,SqT K H a xs->xs[i]?=aa x,λi H=>∃xs,SqT K H a xs/\xs.length<=i⟩
def oQ(lo:Int)(n:Nat):It:=⟨λi _=>i<n,λi H x H'=>H'=H/\x=.int (lo+i),λi _=>n<=i⟩
theorem Nr{P:aN}{w:aI}{K:aD}{tg:az}(a it:Addr):Turn P w K tg (mE K a) [it] it (λi h=>h.IsListIter it a i) where
 mem:=by simp
 obj:=λi h st b hb=>by
  have e:b=it:=by simpa using hb
  subst e;obtain⟨o,e,c,d⟩:=st;exact⟨o,e,λv z=>by rw[d]at z;cases z⟩
 keep:=λi h h' st k=>st.at λo e=>k it (by simp) o e
 item:=by
  intro X hP hw hK hc i π s σ H E I hf st hg;subst hP hw hK;obtain⟨xs,x,hq,hx⟩:=hg;obtain⟨its,rv,p,hz⟩:=I.list hq;obtain⟨u,hu,ru⟩:=rv.get hx;obtain⟨f0,f1,f2,f3,f4,f5⟩:=hf it (by simp);refine wpAny_pyNext_list_item st p.isList (x:=u) (by simpa using hu) λh' st' sb=>?_;have I1:Inv X π σ H { s with heap:=h' }:=I.turned (t':=s.toks) (λb o hb e=>(sb.2 b hb).trans e) f0 f1 f3 f4 f5;obtain⟨o,e,c,d⟩:=id st';exact⟨u,rfl,Yv (s:={ s with heap:=h' }) e c d (by decide) ⟨x,H,I1,ru,⟨rfl,λys hy=>by rw[I.list_inj hy hq];exact hx⟩,st',λb hb=>(hf b hb).1⟩⟩
 done:=by
  intro X hP hw hK hc i π s σ H E I hf st hg;subst hP hw hK;obtain⟨xs,hq,hx⟩:=hg;obtain⟨its,rv,p,hz⟩:=I.list hq;obtain⟨f0,f1,f2,f3,f4,f5⟩:=hf it (by simp);have hl:=rv.length;exact wpAny_pyNext_list_end (I.ok.hd hc) st p.isList (by simp;rfl') λh' eb=>⟨rfl,I.turned (t':=s.toks) (λb o hb e=>eb b o hb e) f0 f1 f3 f4 f5⟩
 self:=λ_ _ _ _ _ st h=>wpAny_pyIter_listiter st h
theorem Tq{P:aN}{w:aI}{K:aD}{tg:az}(a it:Addr):Turn P w K tg (xb K a) [it] it (λi h=>h.IsTupleIter it a i) where
 mem:=by simp
 obj:=λi h st b hb=>by
  have e:b=it:=by simpa using hb
  subst e;obtain⟨o,e,c,d⟩:=st;exact⟨o,e,λv z=>by rw[d]at z;cases z⟩
 keep:=λi h h' st k=>st.at λo e=>k it (by simp) o e
 item:=by
  intro X hP hw hK hc i π s σ H E I hf st hg;subst hP hw hK;obtain⟨xs,x,hq,hx⟩:=hg;obtain⟨its,rv,p,hz⟩:=I.tuple hq;obtain⟨u,hu,ru⟩:=rv.get hx;obtain⟨f0,f1,f2,f3,f4,f5⟩:=hf it (by simp);refine wpAny_pyNext_tuple_item st (show s.heap.IsTuple a its.toArray from p) (x:=u) (by simpa using hu) λh' st' sb=>?_;have I1:Inv X π σ H { s with heap:=h' }:=I.turned (t':=s.toks) (λb o hb e=>(sb.2 b hb).trans e) f0 f1 f3 f4 f5;obtain⟨o,e,c,d⟩:=id st';exact⟨u,rfl,Yv (s:={ s with heap:=h' }) e c d (by decide) ⟨x,H,I1,ru,⟨rfl,λys hy=>by rw[I.tuple_inj hy hq];exact hx⟩,st',λb hb=>(hf b hb).1⟩⟩
 done:=by
  intro X hP hw hK hc i π s σ H E I hf st hg;subst hP hw hK;obtain⟨xs,hq,hx⟩:=hg;obtain⟨its,rv,p,hz⟩:=I.tuple hq;obtain⟨f0,f1,f2,f3,f4,f5⟩:=hf it (by simp);have hl:=rv.length;exact wpAny_pyNext_tuple_end (I.ok.hd hc) st (show s.heap.IsTuple a its.toArray from p) (by simp;rfl') λh' eb=>⟨rfl,I.turned (t':=s.toks) (λb o hb e=>eb b o hb e) f0 f1 f3 f4 f5⟩
 self:=λ_ _ _ _ _ st h=>wpAny_pyIter_tupleiter st h
theorem Tr{P:aN}{w:aI}{K:aD}{tg:az}(it:Addr)(lo:Int)(n:Nat):Turn P w K tg (oQ lo n) [it] it (λi h=>IsRangeIter h it (lo+(i:Nat)*1) ((n:Int)-(i:Nat)) 1) where
 mem:=by simp
 obj:=λi h st b hb=>by
  have e:b=it:=by simpa using hb
  subst e;exact⟨_,st,λv z=>by
   have z':fk _=fh v:=z;cases z'⟩
 keep:=λi h h' st k=>k it (by simp) _ st
 item:=by
  intro X hP hw hK hc i π s σ H E I hf st hg;subst hP hw hK;obtain⟨f0,f1,f2,f3,f4,f5⟩:=hf it (by simp);have W:=Walks.range (prog:=X.prog) (w:=X.w) (I.ok.hd hc) it lo 1 n;refine W.item i s _ _ hg st λv h' tk hv st' kk=>?_;obtain⟨t,rfl⟩:=hv;have I1:Inv X π σ H { s with heap:=h',toks:=tk }:=I.turned (λb o hb e=>kk b o (by simpa using hb) e) f0 f1 f3 f4 f5;refine⟨_,rfl,Yv (s:={ s with heap:=h',toks:=tk }) (n :="range_iterator") st' rfl rfl (by decide) ⟨.int (lo+i),H,I1,⟨t,?_⟩,⟨rfl,rfl⟩,st',λb hb=>(hf b hb).1⟩⟩;rw[w0C]
 done:=by
  intro X hP hw hK hc i π s σ H E I hf st hg;subst hP hw hK;obtain⟨f0,f1,f2,f3,f4,f5⟩:=hf it (by simp);exact wpAny_pyNext_range_end (I.ok.hd hc) st (by have:n<=i:=hg;rfl') λh' eb=>⟨rfl,I.turned (t':=s.toks) (λb o hb e=>eb b o hb e) f0 f1 f3 f4 f5⟩
 self:=λ_ _ _ _ _ st h=>wpAny_pyIter_rangeiter st h
section
variable {X:Cx}{tg:az}
def Yw(K:aD)(tl:TE):TI:=λσ H R=>tl σ H λx H1=>∃a,x=.ref a/\(∃xs,SqL K H1 a xs)/\R (mE K a) H1
theorem z4C{l:az}{tl:TE}(hl:PE X l tl):PI X tg l (Yw X.K tl):=by
 intro π s σ H R I h;refine gF (hl π s σ H _ I h) ?_;rintro v s1 ⟨x,H1,I1,r1,q1⟩;obtain⟨a,e,⟨xs,hq⟩,q⟩:=q1;subst e;cases r1;obtain⟨its,rv,p,hz⟩:=I1.list hq;refine cq p.isList ?_;refine⟨s1.heap.objs.size,[s1.heap.objs.size],_,_,H1,rfl,I1.kept (t':=s1.toks) λb o e=>wm _ e,Nr a _,⟨_,wH _ rfl,rfl,rfl⟩,λb hb=>?_,q⟩;have e:b=s1.heap.objs.size:=by simpa using hb
 subst e;exact I1.fpOk (wt _) (I1.hok.fresh (wt _))
theorem QQ{π:aB}{σ:St}{H:Hp}{s:Shared}{R:It->Hp->Prop}{E:aC}{lo hi:Int}{t u v:Tok}{tk:Nat}(I:Inv X π σ H s)(h1 : -(2^62)<=lo)(h2:lo<2^62)(h3 : -(2^62)<=hi)(h4:hi<2^62)
   (q:R (oQ lo (hi-lo).toNat) H):av (model X.prog X.w) X.A (pyIter (.ref s.heap.objs.size)) (tZ X π σ tg R) E { s with heap:=s.heap.push { cls:=.type "range",data:=.fields #[.int lo t,.int hi u,.int 1 v] },toks:=tk }:=by
 refine wpAny_pyIter_range (IsRange.new ..) (small_one h1 h2 h3 h4) ?_;have I1:Inv X π σ H { s with heap:=s.heap.push { cls:=.type "range",data:=.fields #[.int lo t,.int hi u,.int 1 v] },toks:=tk }:=I.kept λb o e=>wm _ e;refine⟨(s.heap.push { cls:=.type "range",data:=.fields #[.int lo t,.int hi u,.int 1 v] }).objs.size,[(s.heap.push { cls:=.type "range",data:=.fields #[.int lo t,.int hi u,.int 1 v] }).objs.size],_,_,H,rfl,
   I1.kept (t':=tk) λb o e=>wm _ e,Tr _ lo (hi-lo).toNat,?_,λb hb=>?_,q⟩
 .have e1:lo+((0:Nat):Int)*1=lo:=by simp
  have e2:(((hi-lo).toNat:Nat):Int)-((0:Nat):Int)=Builtin.Range.rangeSize lo hi 1:=by rw[rangeSize_one];split<;>rfl'
  show IsRangeIter _ _ (lo+((0:Nat):Int)*1) ((((hi-lo).toNat:Nat):Int)-((0:Nat):Int)) 1;rw[e1,e2];exact wH _ rfl
 .have e:b=(s.heap.push { cls:=.type "range",data:=.fields #[.int lo t,.int hi u,.int 1 v] }).objs.size:=by simpa using hb
  subst e;exact I1.fpOk (wt _) (I1.hok.fresh (wt _))
def oC(ta:TA):TI:=λσ H R=>ta σ H λvs H1=>∃j:Int,vs=[.int j] /\ -(2^62)<=j/\j<2^62/\R (oQ 0 j.toNat) H1
def oB(ta:TA):TI:=λσ H R=>ta σ H λvs H1=>∃i j:Int,vs=[.int i,.int j]/\(-(2^62)<=i/\i<2^62 /\ -(2^62)<=j/\j<2^62)/\R (oQ i (j-i).toNat) H1
theorem Nt{a:az}{ta:TA}{p pos:Pos}(hg:Gl X "range")(hm:X.mg "range"=aj)(ha:PA X [a] ta)(hs:au [a] X.env=[(ab,eval a X.env)]:=by rfl):PI X tg (.Call (.Name "range" p) [a] [] pos) (oC ta):=by
 intro π s σ H R I h;refine Call_ (Ck I hg hm boot_range (bG (gF (ha pos π s σ H _ I h) λus s1⟨vs,H1,I1,r1,q1⟩=>?_) hs rfl));obtain⟨j,e,q1,q2,q⟩:=q1;subst e;cases r1 with
 |cons r rr=>
  cases rr;obtain⟨t,rfl⟩:=r;exact call_range_1 (QQ I1 () () q1 q2 (by simpa using q))
theorem Nu{a b:az}{ta:TA}{p pos:Pos}(hg:Gl X "range")(hm:X.mg "range"=aj)(ha:PA X [a,b] ta)(hs:au [a,b] X.env=[(ab,eval a X.env),(ab,eval b X.env)]:=by rfl)(hs2:au [b] X.env=[(ab,eval b X.env)]:=by rfl):
  PI X tg (.Call (.Name "range" p) [a,b] [] pos) (oB ta):=by
 intro π s σ H R I h;refine Call_ (Ck I hg hm boot_range (bG (gF (ha pos π s σ H _ I h) λus s1⟨vs,H1,I1,r1,q1⟩=>?_) (by rw[hs,hs2]) (by rw[hs2];rfl)));obtain⟨i,j,e,⟨q1,q2,q3,q4⟩,q⟩:=q1;subst e;cases r1 with
 | cons r rr =>
  cases rr with
  |cons r' rr=>
   cases rr;obtain⟨t,rfl⟩:=r;obtain⟨t',rfl⟩:=r';exact call_range_2 (QQ I1 q1 q2 q3 q4 q)
def jl(wi:TI)(g:TG)(tb:TS):TS:=λD σ H=>wi σ H λJ H1=>∃W:Nat->Nat->St->Hp->Prop,(∃m,W 0 m σ H1)/\∀i m σ H,W i m σ H ->
 (J.stop i H/\D.nx σ H)\/(J.go i H/\∃N:St->Hp->Prop,(∀σ' H',N σ' H'->∃m',m'<m/\W (i+1) m' σ' H')/\∀x H',J.yld i H x H'->g x σ H' λσ2 H2=>tb { D with nx:=N,ct:=N,bk:=D.nx } σ2 H2)
def KH(fp:ft)(h:aR):aB:=fp.filterMap λb=>(h.get? b).map λo=>(b,o)
theorem Cm{fp:ft}{h:aR}{b:Addr}{o:Obj}(hb:b∈fp)(e:h.get? b=aa o):(b,o)∈KH fp h:=uB.mpr ⟨b,hb,by rw[e];rfl⟩
theorem ZP{fp:ft}{h:aR}{p:Addr×Obj}(hp:p∈KH fp h):p.1∈fp/\h.get? p.1=aa p.2:=by
 obtain⟨b,hb,e⟩:=uB.mp hp;cases q:h.get? b with
 |none=>rw[q]at e;cases e
 |some o=>
  rw[q]at e;have e':(b,o)=p:=aO e;subst e';exact⟨hb,q⟩
theorem Inv.pinned{π:aB}{σ:St}{H:Hp}{s:Shared}{fp:ft}(I:Inv X π σ H s)(hf:∀b∈fp,gY X π H b)(ho:∀b∈fp,∃o,s.heap.get? b=aa o/\∀v,o.data ≠ .cell v):Inv X (π++KH fp s.heap) σ H s:=
 I.pins_of λp hp=>(ww.mp hp).elim (λz=>I.pin p (wP _ z)) λz=>by
  obtain⟨hb,e⟩:=ZP z;obtain⟨f0,f1,f2,_⟩:=hf p.1 hb;obtain⟨o,e',d⟩:=ho p.1 hb;rw[e]at e';cases e';exact⟨e,f0,f1,f2,d⟩
theorem Inv.unpinned{π pl:aB}{σ:St}{H:Hp}{s:Shared}(I:Inv X (π++pl) σ H s):Inv X π σ H s:=I.pins_of λp hp=>I.pin p (wP _ (ul _ hp))
theorem Ts{iter:az}{body:fy}{wi:TI}{g:TG}{tb:TS}{pos:Pos}(hp:fg (model X.prog X.w) X.A X.env X.xe)(hc:X.calm=af)(hi:PI X tg iter wi)(hg:PG X tg g)(hb:PSs X body tb)
   (hs:∀x,bp iter X.env x=pure x:=by intro _;rfl):PS X (.For tg iter body [] pos) (jl wi g tb):=by
 intro π s σ H D I h;refine wpAny_For (gF (hi π s σ H _ I h) λv s1 h1=>gF h1 λitv s2 h2=>?_) hs;obtain⟨it,fp,tn,J,H2,e,I2,T,st2,f2,W,⟨m0,w0⟩,turn⟩:=h2;subst e;have stat:∀{H':Hp},(∀b∈fp,H' b=aj)->∀b∈fp,gY X π H' b:=λhn b hb=>⟨hn b hb,(f2 b hb).2⟩;refine codeAny_forLoop_any (λn s'=>∃i σ' H',Inv X π σ' H' s'/\tn i s'.heap/\(∀b∈fp,H' b=aj)/\W i n σ' H') ?_ m0 ⟨0,σ,H2,I2,st2,λb hb=>(f2 b hb).1,w0⟩;rintro n s3 ⟨i,σ3,H3,I3,st3,fr3,w3⟩;rcases turn i n σ3 H3 w3 with⟨stop,qn⟩|⟨go,N,hN,step⟩
 .refine bV hp (gF (T.done X rfl rfl rfl hc i π s3 σ3 H3 X.xe I3 (stat fr3) st3 stop) ?_);rintro r s4 ⟨hr,I4⟩;subst hr;exact dQ ⟨σ3,H3,I4,qn⟩
 .refine bV hp (gF (T.item X rfl rfl rfl hc i π s3 σ3 H3 X.xe I3 (stat fr3) st3 go) ?_);rintro r s4 ⟨u,hr,h4⟩;subst hr;refine bV hp (gF h4 ?_);rintro _ s5 ⟨x,H5,I5,r5,y5,st5,fr5⟩;have I5':=I5.pinned (stat fr5) (T.obj _ _ st5);refine bV hp (gF (hg _ s5 σ3 H5 x u _ I5' r5 (step x H5 y5)) ?_);rintro _ s6 ⟨σ6,H6,I6,q6⟩;refine bV hp (gF (hb _ s6 σ6 H6 _ I6 q6) λf s7 q7=>?_);have again:∀{σ7:St}{H7:Hp},Inv X (π++KH fp s5.heap) σ7 H7 s7->N σ7 H7->∃m,m<n/\∃i σ' H',Inv X π σ' H' s7/\tn i s7.heap/\(∀b∈fp,H' b=aj)/\W i m σ' H':=λ{σ7 H7}I7 n7=>by
   obtain⟨m',hm,w7⟩:=hN σ7 H7 n7;refine⟨m',hm,i+1,σ7,H7,I7.unpinned,T.keep _ _ _ st5 λb hb o e=>(I7.pin (b,o) (wP _ (wP _ (Cm hb e)))).1,λb hb=>?_,w7⟩;obtain⟨o,e,d⟩:=T.obj _ _ st5 b hb;exact(I7.pin (b,o) (wP _ (wP _ (Cm hb e)))).2.1
  cases f with
  |next=>obtain⟨σ7,H7,I7,n7⟩:=q7;exact again I7 n7
  |cont=>obtain⟨σ7,H7,I7,n7⟩:=q7;exact again I7 n7
  |brk=>obtain⟨σ7,H7,I7,q7⟩:=q7;exact⟨σ7,H7,I7.unpinned,q7⟩
  |ret v=>obtain⟨x7,σ7,H7,I7,r7,q7⟩:=q7;exact⟨x7,σ7,H7,I7.unpinned,r7,q7⟩
end
theorem z15{K:aD}{a:Addr}{xs:fL}{g:TG}{tb:TS}{D:Ends}{σ:St}{H:Hp}(Pv:Nat->St->Hp->Prop)(h0:Pv 0 σ H)(hl:∀i σ H,i<=xs.length->Pv i σ H->SqL K H a xs)
   (hs:∀i x σ H,xs[i]?=aa x->Pv i σ H->g x σ H λσ2 H2=>tb { D with nx:=Pv (i+1),ct:=Pv (i+1),bk:=D.nx } σ2 H2) (hd:∀σ H,Pv xs.length σ H->D.nx σ H) :
   ∃W:Nat->Nat->St->Hp->Prop,(∃m,W 0 m σ H)/\∀i m σ H,W i m σ H ->
    ((mE K a).stop i H/\D.nx σ H)\/((mE K a).go i H/\∃N:St->Hp->Prop,(∀σ' H',N σ' H'->∃m',m'<m/\W (i+1) m' σ' H')/\∀x H',(mE K a).yld i H x H'->g x σ H' λσ2 H2=>tb { D with nx:=N,ct:=N,bk:=D.nx } σ2 H2):=by
 refine⟨λi m σ H=>m=xs.length-i/\i<=xs.length/\Pv i σ H,⟨xs.length,by simp,vh _,h0⟩,?_⟩;rintro i m σ H ⟨rfl,hi,p⟩;have q:=hl i σ H hi p;by_cases hlt:i<xs.length
 .refine .inr ⟨⟨xs,xs[i],q,by simp[hlt]⟩,Pv (i+1),λσ' H' p'=>⟨xs.length-(i+1),(),rfl,hlt,p'⟩,λx H' y=>?_⟩;obtain⟨e,y⟩:=y;subst e;exact hs i x σ _ (y xs q) p
 .have e:i=xs.length:=()
  subst e;exact .inl ⟨⟨xs,q,wt _⟩,hd σ H p⟩
abbrev R2:=V->V->Hp->VK->Prop
def ik(X:Cx)(f:Value->Value->Sem Value)(r:R2):Prop:=
 ∀(π:aB)(s:Shared)(σ:St)(H:Hp)(x y:V)(v u:Value)(Q:VK),Inv X π σ H s->RelV x v->RelV y u->r x y H Q ->
  av (model X.prog X.w) X.A (f v u) (EP X π σ Q) X.xe s
def qE(X:Cx)(f:Value->Sem Value)(r:V->Hp->VK->Prop):Prop:=
 ∀(π:aB)(s:Shared)(σ:St)(H:Hp)(x:V)(v:Value)(Q:VK),Inv X π σ H s->RelV x v->r x H Q ->
  av (model X.prog X.w) X.A (f v) (EP X π σ Q) X.xe s
def GH(X:Cx)(f:Value)(r:fL->Hp->VK->Prop):Prop:=
 ∀(π:aB)(s:Shared)(σ:St)(H:Hp)(xs:fL)(us:aF)(Q:VK),Inv X π σ H s->Vals xs us->r xs H Q ->
  av (model X.prog X.w) X.A (call f us) (EP X π σ Q) X.xe s
def qF(X:Cx)(r:V->Hp->(Bool->Hp->Prop)->Prop):Prop:=
 ∀(π:aB)(s:Shared)(σ:St)(H:Hp)(x:V)(v:Value)(Q:Bool->Hp->Prop),Inv X π σ H s->RelV x v->r x H Q ->
  av (model X.prog X.w) X.A (truthy v) (TP X π σ Q) X.xe s
def oU(r:R2)(ta tb:TE):TE:=λσ H Q=>ta σ H λx H1=>tb σ H1 λy H2=>r x y H2 Q
def tUn(r:V->Hp->VK->Prop)(ta:TE):TE:=λσ H Q=>ta σ H λx H1=>r x H1 Q
def rI(C:Int->Int->Prop)(g:Int->Int->V):R2:=λx y H Q=>∃i j,x=.int i/\y=.int j/\C i j/\Q (g i j) H
def jo(g:Int->Int->V):R2:=λx y H Q=>∃i j,x=.int i/\y=.int j/\Q (g i j) H
def rU(g:Int->V):V->Hp->VK->Prop:=λx H Q=>∃i,x=.int i/\Q (g i) H
section
variable {X:Cx}{a b c:az}{ta tb tc:TE}{pos:Pos}
theorem ma(ha:PE X a ta)(hb:PE X b tb){π:aB}{s:Shared}{σ:St}{H:Hp}{R:V->V->Hp->Prop}(I:Inv X π σ H s)
  (h:ta σ H λx H1=>tb σ H1 λy H2=>R x y H2) {Q:aC} {f:Value->Value->Sem Value}
  (hf:∀v u s2 x y H2,Inv X π σ H2 s2->RelV x v->RelV y u->R x y H2->av (model X.prog X.w) X.A (f v u) Q X.xe s2) :
  av (model X.prog X.w) X.A (eval a X.env) (λv s₁=>av (model X.prog X.w) X.A (eval b X.env) (λu s₂=>av (model X.prog X.w) X.A (f v u) Q X.xe s₂) X.xe s₁) X.xe s:=by
 refine gF (ha π s σ H _ I h) ?_;rintro v s1 ⟨x,H1,I1,r1,q1⟩;refine gF (hb π s1 σ H1 _ I1 q1) ?_;rintro u s2 ⟨y,H2,I2,r2,q2⟩;exact hf v u s2 x y H2 I2 r1 r2 q2
theorem nJ{op:Operator}{r:R2}(ho:ik X (bM op) r)(ha:PE X a ta)(hb:PE X b tb):PE X (.BinOp a op b pos) (oU r ta tb):=by
 intro π s σ H Q I h;exact wpAny_BinOp (ma ha hb I h λv u s2 x y H2 I2 rx ry q=>ho π s2 σ H2 x y v u Q I2 rx ry q)
theorem nG{op:UnaryOp}{r:V->Hp->VK->Prop}(ho:qE X (unaryOp op) r)(ha:PE X a ta):PE X (.UnaryOp op a pos) (tUn r ta):=by
 intro π s σ H Q I h;exact UnaryOp_ (gF (ha π s σ H _ I h) λv s1⟨x,H1,I1,r1,q1⟩=>ho π s1 σ H1 x v Q I1 r1 q1)
theorem oV{f:Value->Value->Sem Value}{C:Int->Int->Prop}{g:Int->Int->Int}
  (rule:∀(i j:Int)(t u:Tok)(s:Shared)(Q:aC)(E:aC),C i j->Q (.int (g i j) s.toks) { s with toks:=s.toks+1 }->av (model X.prog X.w) X.A (f (.int i t) (.int j u)) Q E s) :
  ik X f (rI C λi j=>.int (g i j)):=by
 intro π s σ H x y v u Q I rx ry h;obtain⟨i,j,rfl,rfl,hc,q⟩:=h;obtain⟨t,rfl⟩:=rx;obtain⟨t',rfl⟩:=ry;exact rule i j t t' s _ _ hc ⟨.int (g i j),H,I.tok _,⟨_,rfl⟩,q⟩
theorem nQ{f:Value->Value->Sem Value}{g:Int->Int->Int}
  (rule:∀(i j:Int)(t u:Tok)(s:Shared)(Q:aC)(E:aC),Q (.int (g i j) s.toks) { s with toks:=s.toks+1 }->av (model X.prog X.w) X.A (f (.int i t) (.int j u)) Q E s) :
  ik X f (jo λi j=>.int (g i j)):=by
 intro π s σ H x y v u Q I rx ry h;obtain⟨i,j,rfl,rfl,q⟩:=h;obtain⟨t,rfl⟩:=rx;obtain⟨t',rfl⟩:=ry;exact rule i j t t' s _ _ ⟨.int (g i j),H,I.tok _,⟨_,rfl⟩,q⟩
theorem jq{f:Value->Value->Sem Value}{g:Int->Int->Bool}
  (rule:∀(i j:Int)(t u:Tok)(s:Shared)(Q:aC)(E:aC),Q (.bool (g i j)) s->av (model X.prog X.w) X.A (f (.int i t) (.int j u)) Q E s) :
  ik X f (jo λi j=>.bl (g i j)):=by
 intro π s σ H x y v u Q I rx ry h;obtain⟨i,j,rfl,rfl,q⟩:=h;obtain⟨t,rfl⟩:=rx;obtain⟨t',rfl⟩:=ry;exact rule i j t t' s _ _ ⟨.bl (g i j),H,I,rfl,q⟩
def qK(i j:Int):Prop:=0<=j/\j<=1000000/\i.natAbs<2^64
def CMul(i j:Int):Prop:=(-(2^64)<i/\i<2^64)\/(-(2^64)<j/\j<2^64)
theorem CMul.ok{i j:Int}(h:CMul i j):IntMulOk i j:=by
 rcases h with⟨h1,h2⟩|⟨h1,h2⟩
 .exact .of_left (intBits_le_64 h1 h2)
 .exact .of_right (intBits_le_64 h1 h2)
theorem op_add:ik X (bM .Add) (jo λi j=>.int (i+j)):=nQ λ_ _ _ _ _ _ _ q=>add_int q
theorem op_sub:ik X (bM .Sub) (jo λi j=>.int (i-j)):=nQ λ_ _ _ _ _ _ _ q=>sub_int q
theorem z4D:ik X (bM .Mod) (rI (λ_ j=>j≠0) λi j=>.int (i.fmod j)):=oV λ_ _ _ _ _ _ _ hc q=>mod_int' hc q
theorem op_pow:ik X (bM .Pow) (rI qK λi j=>.int (i^j.toNat)):=oV λ_ _ _ _ _ _ _ hc q=>pow_int_small hc.1 hc.2.1 hc.2.2 q
theorem unI{f:Value->Sem Value}{g:Int->Int}
  (rule:∀(i:Int)(t:Tok)(s:Shared)(Q:aC)(E:aC),Q (.int (g i) s.toks) { s with toks:=s.toks+1 }->av (model X.prog X.w) X.A (f (.int i t)) Q E s) :
  qE X f (rU λi=>.int (g i)):=by
 intro π s σ H x v Q I rx h;obtain⟨i,rfl,q⟩:=h;obtain⟨t,rfl⟩:=rx;exact rule i t s _ _ ⟨.int (g i),H,I.tok _,⟨_,rfl⟩,q⟩
theorem un_neg:qE X (unaryOp .USub) (rU λi=>.int (-i)):=unI λ_ _ _ _ _ q=>neg_int q
end
def scal:V->V->Bool
 |.non,.non=>af|.non,.int _=>af|.int _,.non=>af|.non,.bl _=>af|.bl _,.non=>af|.non,.str _=>af|.str _,.non=>af
 |.int _,.int _=>af|.bl _,.bl _=>af|.str _,.str _=>af|.byt _,.byt _=>af
 |.int _,.str _=>af|.str _,.int _=>af|.bl _,.str _=>af|.str _,.bl _=>af
 |_,_=>ab
section
variable {X:Cx}{a b c:az}{ta tb tc:TE}{pos:Pos}
theorem Tt{π:aB}{σ:St}{H:Hp}{s:Shared}{Q:VK}{k k':Bool}(I:Inv X π σ H s)(q:Q (.bl k) H)(e:k=k'):EP X π σ Q (.bool k') s:=by
 subst e;exact⟨.bl k,H,I,rfl,q⟩
theorem op_lt:ik X (bj .Lt) (jo λi j=>.bl (decide (i<j))):=jq λ_ _ _ _ _ _ _ q=>lt_int q
theorem op_le:ik X (bj .LtE) (jo λi j=>.bl (decide (i<=j))):=jq λ_ _ _ _ _ _ _ q=>le_int q
theorem op_gt:ik X (bj .Gt) (jo λi j=>.bl (decide (j<i))):=jq λ_ _ _ _ _ _ _ q=>gt_int q
theorem op_ge:ik X (bj .GtE) (jo λi j=>.bl (decide (j<=i))):=jq λ_ _ _ _ _ _ _ q=>ge_int q
theorem op_isN:ik X (bj .Is) (λx y H Q=>y=.non/\Q (.bl (decide (x=.non))) H):=by
 intro π s σ H x y v u Q I rx ry h;obtain⟨rfl,q⟩:=h;cases ry;refine is_none_gen (Tt I q ?_);cases x<;>first
  |(cases rx;rfl)
  |(obtain⟨t,rfl⟩:=rx;rfl)
theorem z4E:ik X (bj .IsNot) (λx y H Q=>y=.non/\Q (.bl (!decide (x=.non))) H):=by
 intro π s σ H x y v u Q I rx ry h;obtain⟨rfl,q⟩:=h;cases ry;refine isnot_none_gen (Tt I q ?_);cases x<;>first
  |(cases rx;rfl)
  |(obtain⟨t,rfl⟩:=rx;rfl)
theorem tP(b:az){op:CmpOp}(h:op ≠ .In:=by decide)(h2:op ≠ .NotIn:=by decide):cR op b=ab:=by
 have e1:(op==CmpOp.In)=ab:=by cases op<;>first|rfl|exact aM rfl h
 have e2:(op==CmpOp.NotIn)=ab:=by cases op<;>first|rfl|exact aM rfl h2
 cases b<;>simp[cR,e1,e2]
theorem z4F{op:CmpOp}{r:R2}(ho:ik X (bj op) r)(ha:PE X a ta)(hb:PE X b tb)(hm:cR op b=ab):PE X (.Compare a [op] [b] pos) (oU r ta tb):=by
 intro π s σ H Q I h;exact wpAny_Compare1 (ma ha hb I h λv u s2 x y H2 I2 rx ry q=>ho π s2 σ H2 x y v u Q I2 rx ry q) hm
def mK(t:TE):TT:=λσ H Q=>t σ H λx H'=>∃k,x=.bl k/\Q k H'
theorem z4G{op:CmpOp}{r:R2}(ho:ik X (bj op) r)(ha:PE X a ta)(hb:PE X b tb)(hm:cR op b=ab):PT X (.Compare a [op] [b] pos) (mK (oU r ta tb)):=by
 intro π s σ H Q I h;refine wpAny_isTrue_Compare1 (gF (ha π s σ H _ I h) λv s1⟨x,H1,I1,r1,q1⟩=>gF (hb π s1 σ H1 _ I1 q1) λu s2⟨y,H2,I2,r2,q2⟩=>
  gF (ho π s2 σ H2 x y v u _ I2 r1 r2 q2) λc s3⟨z,H3,I3,r3,k,e,q3⟩=>?_) hm
 subst e;cases r3;exact cn ⟨H3,I3,q3⟩
def tO(r r':R2)(ta tb tc:TE):TE:=λσ H Q=>ta σ H λx H1=>tb σ H1 λy H2=>r x y H2 λz H3=>∃k,z=.bl k /\
 (if k=af then tc σ H3 λw' H4=>r' y w' H4 Q else Q (.bl ab) H3)
theorem z18{op op':CmpOp}{r r':R2}(ho:ik X (bj op) r)(ho':ik X (bj op') r')(ha:PE X a ta)(hb:PE X b tb)(hc:PE X c tc)
  (hm:lastMarks [op,op'] [b,c]=ab:=by with_unfolding_all rfl):PE X (.Compare a [op,op'] [b,c] pos) (tO r r' ta tb tc):=by
 intro π s σ H Q I h;refine Compare_chain (gF (ha π s σ H _ I h) λv s1⟨x,H1,I1,r1,q1⟩=>chain_link (gF (hb π s1 σ H1 _ I1 q1) λu s2⟨y,H2,I2,r2,q2⟩=>
  gF (ho π s2 σ H2 x y v u _ I2 r1 r2 q2) λd s3⟨z,H3,I3,r3,k,e,q3⟩=>?_)) hm
 subst e;cases r3;refine cn ?_;cases k with
 |false=>exact ite_ff ⟨.bl ab,H3,I3,rfl,q3⟩
 |true=>exact ite_tt (chain_last (gF (hc π s3 σ H3 _ I3 q3) λw' s4⟨z',H4,I4,r4,q4⟩=>ho' π s4 σ H4 y z' u w' Q I4 r2 r4 q4))
def mf(K:aD)(x:V)(H:Hp)(k:Bool):Prop:=
 match x with
 |.non=>k=ab
 |.bl b=>k=b
 |.int i=>k=(i != 0)
 |.str y=>y.length<=sizeLine/\k=((y.length:Int) != 0)
 |.byt y=>y.size<=sizeLine/\k=((y.size:Int) != 0)
 |.ref p=>(∃xs,SqL K H p xs/\k=!xs.isEmpty)\/(∃xs,SqT K H p xs/\k=!xs.isEmpty)\/∃kvs,H p=aa (.dK kvs)/\k=!kvs.isEmpty
 |_=>False
theorem Tu{κ:Type}{kvs:List (κ×V)}{vs:List (κ×Value)}(r:KV kvs vs):(!vs.isEmpty)=!kvs.isEmpty:=by
 cases r<;>rfl
theorem KI{xs:fL}{its:aF}(r:Vals xs its):(!its.toArray.isEmpty)=!xs.isEmpty:=by
 cases r<;>simp
theorem Ig:(sizeLine:Nat)<2^63:=by rw[cw];decide
theorem tru_ok:qF X (λx H Q=>∃k,mf X.K x H k/\Q k H):=by
 intro π s σ H x v Q I rx h;obtain⟨k,e,q⟩:=h;have hl:=Ig;have hs:sizeLine=16777216:=cw;cases x with
 |non=>
  cases rx;have e':k=ab:=e;subst e';exact truthy_none ⟨H,I,q⟩
 |bl b=>
  cases rx;have e':k=b:=e;subst e';exact cn ⟨H,I,q⟩
 |int i=>
  obtain⟨t,rfl⟩:=rx;have e':k=(i != 0):=e;subst e';exact PySem.P.truthy_int ⟨H,I,q⟩
 |str y=>
  obtain⟨t,rfl⟩:=rx;obtain⟨hy,e'⟩:y.length<=sizeLine/\k=((y.length:Int) != 0):=e;subst e';exact PySem.P.truthy_str () ⟨H,I.tok _,q⟩
 |byt y=>
  obtain⟨t,rfl⟩:=rx;obtain⟨hy,e'⟩:y.size<=sizeLine/\k=((y.size:Int) != 0):=e;subst e';exact PySem.W.truthy_bytes () ⟨H,I.tok _,q⟩
 |ref p=>
  cases rx;have e':(∃xs,SqL X.K H p xs/\k=!xs.isEmpty)\/(∃xs,SqT X.K H p xs/\k=!xs.isEmpty)\/∃kvs,H p=aa (.dK kvs)/\k=!kvs.isEmpty:=e;rcases e' with⟨xs,hx,e'⟩|⟨xs,hx,e'⟩|⟨kvs,hx,e'⟩
  .subst e';obtain⟨its,r,pl,hz⟩:=I.list hx;have hlen:=r.length;exact wpAny_truthy_list pl.isList (by simp only[wL];rfl') ⟨H,I.tok _,by rw[KI r];exact q⟩
  .subst e';obtain⟨its,r,pl,hz⟩:=I.tuple hx;have hlen:=r.length;exact truthy_tuple pl (by simp only[wL];rfl') ⟨H,I.tok _,by rw[KI r];exact q⟩
  .subst e';obtain⟨hz,hS,vs,r,m⟩:kvs.length<=sizeLine/\(p==sysModules)=ab/\∃vs,KV kvs vs/\s.heap.DictOf (Pm X.prog X.w) p vs:=I.hok p _ hx;have hlen:kvs.length=vs.length:=Paired.length r;exact wpAny_truthy_dict hS m () ⟨H,I.tok _,by rw[Tu r];exact q⟩
 |_=>exact(show False from e).elim
theorem z19(ha:PE X a ta)(he:∀whole,isTrue a X.env whole=(do let v <-whole;standAt a.pos;holding [v] (truthy v))):
  PT X a (λσ H Q=>ta σ H λx H'=>∃k,mf X.K x H' k/\Q k H'):=by
 intro π s σ H Q I h;exact isTrue_plain (gF (ha π s σ H _ I h) λv s1⟨x,H1,I1,r1,q1⟩=>tru_ok π s1 σ H1 x v Q I1 r1 q1) (he _)
theorem Nv{x:V}{us:aF}(r:Vals [x] us):∃u,us=[u]/\RelV x u:=by
 cases r with
 |cons r1 r2=>cases r2;exact⟨_,rfl,r1⟩
theorem mH{x y:V}{us:aF}(r:Vals [x,y] us):∃u w',us=[u,w']/\RelV x u/\RelV y w':=by
 cases r with
 |cons r1 r2=>
  cases r2 with
  |cons r3 r4=>cases r4;exact⟨_,_,rfl,r1,r3⟩
theorem z1a:GH X (.builtin "abs") (λxs H Q=>∃i,xs=[.int i]/\Q (.int (if i<0 then -i else i)) H):=by
 intro π s σ H xs us Q I r h;obtain⟨i,rfl,q⟩:=h;obtain⟨u,rfl,t,rfl⟩:=Nv r;exact call_abs_int λu tk=>⟨.int (if i<0 then -i else i),H,I.tok _,⟨_,rfl⟩,q⟩
theorem Nw:GH X (.type "int") (λxs H Q=>(∃i,xs=[.int i]/\Q (.int i) H)\/∃k,xs=[.bl k]/\Q (.int (if k then 1 else 0)) H):=by
 intro π s σ H xs us Q I r h;rcases h with⟨i,rfl,q⟩|⟨k,rfl,q⟩
 .obtain⟨u,rfl,t,rfl⟩:=Nv r;exact call_int_int ⟨.int i,H,I,⟨_,rfl⟩,q⟩
 .obtain⟨u,rfl,r1⟩:=Nv r;cases r1;exact call_int_bool ⟨.int (if k then 1 else 0),H,I.tok _,⟨_,rfl⟩,q⟩
end
structure ObjM(h:aR)(x dx C:Addr)(mA:aE):Prop where
 obj:h.get? x=aa (eK C dx)
 ns:h.Ns1 dx mA
 ne:dx≠x
theorem ZQ{h:aR}{dx:Addr}{mA:aE}(n:h.Ns1 dx mA):∃od,h.get? dx=aa od/\∀name,eP name od=aa (mA name):=by
 obtain⟨o,es,ep,ho,hd,hk,_,hm⟩:=n;refine⟨o,ho,λname=>?_⟩;have e:=hm name;unfold nsFind findBy at e;rw[<-Array.find?_toList]at e;unfold eP;rw[hd];dsimp only;split
 .rename_i y q;rw[q]at e;exact bv aa e
 .rename_i q;rw[q]at e;have a:es.toList.any (·.refKey)=ab:=by
   rw[w1m];intro y hy;obtain⟨z,t,hkey⟩:=hk y (Array.mem_toList_iff.mp hy);simp[DictEntry.refKey,hkey]
  have a':¬es.toList.any (·.refKey)=af:=by rw[a];exact vi
  rw[ao a'];exact bv aa e
theorem ObjM.look{h:aR}{x dx C:Addr}{mA:aE}(I:ObjM h x dx C mA):∃od,PySem.W.InstAt h x (eK C dx) C (aa od)/\∀name,eP name od=aa (mA name):=
 let ⟨od,ho,hl⟩:=ZQ I.ns
 ⟨od,⟨I.obj,rfl,rfl,ho⟩,hl⟩
section
variable {prog:aN}{w:aI}{A:bu}{E:aC}{s:Shared}{K:aD}{x dx C f:Addr}{mA:aE}{name:Str}{v:Value}
end
def nF(f:Str)(v:V):List (Str×V)->List (Str×V)
 |[]=>[(f,v)]
 |(g,x)::r=>if g=f then(g,v)::r else(g,x)::nF f v r
section
variable {P:aN}{w:aI}{H H':Hp}{h h':aR}{a C dx:Addr}{fs fs':List (Str×V)}
theorem z4H(hok:HOk P w H h)(e:H a=aa (.ins C dx fs)):∃mA,ObjM h a dx C mA/\(∀f,RelO (fs.lookup f) (mA f))/\PySem.Within mA (fs.map (·.1))/\fs.length<=1000/\H dx=aa (.own a):=by
 obtain⟨d,z,ne,ob,mA,n,r,q⟩:=(show ObjOk P w H h a (.ins C dx fs)from hok a _ e);exact⟨mA,⟨ob,n,ne⟩,r,q,z,d⟩
end
structure Cls(K:aD)(C:Addr):Prop where
 pg:PySem.W.plainGet K C Str.empty=af
 hd:PySem.W.hasDictIn K C=af
 po:PySem.W.plainOver K C=af
 sa:cV K (.ref C) "__setattr__"=aa (aa (.builtin "object.__setattr__"))
theorem Cls.get{K:aD}{C:Addr}(c:Cls K C)(f:Str):PySem.W.plainGet K C f=af:=c.pg
def KJ(K:aD)(C:Addr)(f:Str):Prop:=cV K (.ref C) f=aa aj
structure Meth(K:aD)(C:Addr)(m:Str)(f:Addr):Prop where
 at_:cV K (.ref C) m=aa (aa (.ref f))
 fn:PySem.W.isFn K (.ref f)=af
 kp:bI K (.ref f)=af
section
variable {X:Cx}{π:aB}{σ:St}{H:Hp}{s:Shared}{a C dx:Addr}{fs:List (Str×V)}{f:Str}{v:V}{A:bu}{E:aC}
end
def mO(K:aD)(ta:TE)(f:Str):TE:=λσ H Q=>ta σ H λx H1=>∃a C dx fs v,x=.ref a/\H1 a=aa (.ins C dx fs)/\Cls K C/\KJ K C f/\fs.lookup f=aa v/\Q v H1
def qh(K:aD)(ta tv:TE)(f:Str):TS:=λD σ H=>tv σ H λy H1=>ta σ H1 λx H2=>∃a C dx fs,x=.ref a/\H2 a=aa (.ins C dx fs)/\Cls K C/\KJ K C f/\fs.length<1000 /\
 D.nx σ (upd H2 a (.ins C dx (nF f y fs)))
section
variable {X:Cx}{o e value:az}{f:Str}{pos pos' tpos:Pos}{ta tv:TE}
end
section
variable {X:Cx}{π:aB}{σ:St}{H:Hp}{s:Shared}{A:bu}{E:aC}{Q:aC}{c:Value}{b:Bool}
inductive TyOf (K:aD) (H:Hp):V->Value->Prop where
 |non:TyOf K H .non (.type "NoneType")
 |bl (x:Bool):TyOf K H (.bl x) (.type "bool")
 |int (i:Int):TyOf K H (.int i) (.type "int")
 |str (x:Str):TyOf K H (.str x) (.type "str")
 |flt (x:UInt64):TyOf K H (.flt x) (.type "float")
 |lst {a:Addr} {xs:fL} (e:H a=aa (.lst xs)):TyOf K H (.ref a) (.type "list")
 |frz {a:Addr} {o:Obj} {xs:fL} (e:H a=aa (.frz o (.lst xs))):TyOf K H (.ref a) (.type "list")
 |tup {a:Addr} {xs:fL} (e:H a=aa (.tup xs)):TyOf K H (.ref a) (.type "tuple")
 |dK {a:Addr} {kvs:List (iO×V)} (e:H a=aa (.dK kvs)):TyOf K H (.ref a) (.type "dict")
 |dT {a:Addr} {kvs:List (List iO×V)} (e:H a=aa (.dT kvs)):TyOf K H (.ref a) (.type "dict")
 |ins {a C dx:Addr} {fs:List (Str×V)} (e:H a=aa (.ins C dx fs)) (cl:Cls K C) (ha:cV K (.ref C) "__class__"=aa (aa (.builtin "object.__class__")))
  (hn:PySem.W.specialIn K (.builtin "object.__class__") "__get__"=aa (aa (.builtin "getset_descriptor.__get__"))) (htk:PySem.W.takesIn K (.builtin "object.__class__")=aa af)
  (hm:PySem.W.mroIn K C (.type "object")=aa af):TyOf K H (.ref a) (.ref C)
theorem Bx{x:V}{u t:Value}(I:Inv X π σ H s)(rx:RelV x u)(ty:TyOf X.K H x t)(e:eQ X.K t c=aa b)(h:∀tk,Q (.bool b) { s with toks:=tk }):
  av (model X.prog X.w) A (call (.builtin "isinstance") [u,c]) Q E s:=by
 cases ty with
 |non=>cases (show u=cL from rx);exact aW PySem.W.kitx_none I.kIn dU e (λz=>nomatch z) h
 |bl y=>cases (show u=eM y from rx);exact aW PySem.W.kitx_bool I.kIn dU e (λz=>nomatch z) h
 |int i=>obtain⟨t,q⟩:=(show ∃t,u=dG i t from rx);cases q;exact aW PySem.W.kitx_int I.kIn dU e (λz=>nomatch z) h
 |str y=>obtain⟨t,q⟩:=(show ∃t,u=Value.str y t from rx);cases q;exact aW PySem.W.kitx_str I.kIn dU e (λz=>nomatch z) h
 |flt y=>obtain⟨t,q⟩:=(show ∃t,u=Value.float y t from rx);cases q;exact aW PySem.W.kitx_float I.kIn dU e (λz=>nomatch z) h
 | @lst a xs ea=>
  cases (show u=bE a from rx);obtain⟨_,_,n,_,h1⟩:=(show ObjOk X.prog X.w H s.heap a (.lst xs)from I.hok a _ ea);exact aW cZ I.kIn ⟨_,h1,rfl⟩ e (λz=>nomatch z) h
 | @frz a ob xs ea=>
  cases (show u=bE a from rx);obtain⟨_,_,_,n,_,h1⟩:=(show ObjOk X.prog X.w H s.heap a (.frz ob (.lst xs))from I.hok a _ ea);exact aW cZ I.kIn ⟨_,h1,rfl⟩ e (λz=>nomatch z) h
 | @tup a xs ea=>
  cases (show u=bE a from rx);obtain⟨_,_,_,p⟩:=(show ObjOk X.prog X.w H s.heap a (.tup xs)from I.hok a _ ea);obtain⟨o,h1,h2,_⟩:=p;exact aW PySem.W.kitx_tuple I.kIn ⟨o,h1,h2⟩ e (λz=>nomatch z) h
 | @dK a kvs ea=>
  cases (show u=bE a from rx);obtain⟨_,_,vs,_,p⟩:=(show ObjOk X.prog X.w H s.heap a (.dK kvs)from I.hok a _ ea);obtain⟨o,es,ep,h1,h2,_⟩:=p;exact aW eE I.kIn ⟨o,h1,h2.1⟩ e (λz=>nomatch z) h
 | @dT a kvs ea=>
  cases (show u=bE a from rx);obtain⟨_,_,xs,_,o,es,ep,h1,h2,_⟩:=(show ObjOk X.prog X.w H s.heap a (.dT kvs)from I.hok a _ ea);exact aW eE I.kIn ⟨o,h1,h2.1⟩ e (λz=>nomatch z) h
 | @ins a C dx fs ea cl ha hn htk hm=>
  cases (show u=bE a from rx);obtain⟨mA,O,_⟩:=z4H I.hok ea;obtain⟨od,J,_⟩:=O.look;exact aW (PySem.W.kitx_own (cl.get _) cl.hd ha hn htk hm) I.kIn J e (λz=>nomatch z) h
end
structure Room(k:Nat)(A:bu):Prop where
 hd:A.handled=aj
 dp:A.depth+3*k+5<recursionLimit
 un:A.units+16*k+200<cLine
theorem Room.mono{j k:Nat}{A:bu}(r:Room k A)(h:j<=k):Room j A:=⟨r.hd,by have:=r.dp;rfl',by have:=r.un;rfl'⟩
theorem Room.deeper{k:Nat}{A:bu}(r:Room (k+1) A)(env:Env):Room k (A.deeper env):=
 ⟨r.hd,by have:=r.dp;show A.depth+1+3*k+5<_;rfl',by have:=r.un;show A.units+3+16*k+200<_;rfl'⟩
theorem Room.in1{k:Nat}{A:bu}(r:Room (k+1) A):Room k A.in1:=
 ⟨r.hd,by have:=r.dp;show A.depth+3*k+5<_;rfl',by have:=r.un;show A.units+1+16*k+200<_;rfl'⟩
theorem Room.depth{k:Nat}{A:bu}(r:Room k A):A.depth<recursionLimit:=by have:=r.dp;rfl'
theorem Room.units{k:Nat}{A:bu}(r:Room k A):A.units+64<cLine:=by have:=r.un;rfl'
def tNil:TA:=λ_ H Q=>Q [] H
def pW(ta:TE)(tr:TA):TA:=λσ H Q=>ta σ H λx H1=>tr σ H1 λxs H2=>Q (x::xs) H2
section
variable {X:Cx}{e:az}{es:fw}{te:TE}{t:TA}{pos:Pos}
theorem Ih:PA X [] tNil:=λ_ _ _ _ H Q I h=>Calls.spliced_nil ⟨[],H,I,.nil,h⟩
theorem X5(ha:PE X e te)(hr:PA X es t)(hs:au (e::es) X.env=(ab,eval e X.env)::au es X.env:=by rfl):PA X (e::es) (pW te t):=by
 intro pos π s σ H Q I h;rw[hs];show av _ _ (spliced ((ab,eval e X.env)::bO pos (au es X.env))) _ _ s;refine Calls.spliced_cons (gF (ha π s σ H _ I h) ?_);rintro u s1 ⟨x,H1,I1,r1,q1⟩;exact gF (hr pos π s1 σ H1 _ I1 q1) λus s2⟨xs,H2,I2,r2,q2⟩=>⟨x::xs,H2,I2,.cons r1 r2,q2⟩
def qd(t:TA):TE:=λσ H Q=>t σ H λxs H1=>xs.length<=sizeLine/\∀p,H1 p=aj->Q (.ref p) (upd H1 p (.tup xs))
def qf(t:TA):TE:=λσ H Q=>t σ H λxs H1=>xs.length<=sizeLine/\∀p,H1 p=aj->Q (.ref p) (upd H1 p (.lst xs))
theorem kR{x1}(h:PA X es t):PE X (.Tuple es x1 pos) (qd t):=by
 intro π s σ H Q I hq;refine wpAny_Tuple_spliced (gF (h pos π s σ H _ I hq) λus s1⟨xs,H1,I1,r,z,q⟩=>⟨by rw[<-r.length];exact z,?_⟩);have hf:H1 s1.heap.objs.size=aj:=I1.hok.fresh (wt _);refine⟨.ref s1.heap.objs.size,upd H1 s1.heap.objs.size (.tup xs),I1.laid (t':=s1.toks) (λb u e=>wm _ e) (wt _) ?_,rfl,q _ hf⟩;exact⟨z,us,r,⟨_,wH _ rfl,rfl,_,rfl⟩⟩
theorem kW(h:PA X es t):PE X (.List es pos) (qf t):=by
 intro π s σ H Q I hq;refine wpAny_List_spliced (gF (h pos π s σ H _ I hq) λus s1⟨xs,H1,I1,r,z,q⟩=>⟨by rw[<-r.length];exact z,?_⟩);have hf:H1 s1.heap.objs.size=aj:=I1.hok.fresh (wt _);refine⟨.ref s1.heap.objs.size,upd H1 s1.heap.objs.size (.lst xs),I1.laid (t':=s1.toks) (λb u e=>wm _ e) (wt _) ?_,rfl,q _ hf⟩;exact⟨z,us,0,r,wH _ rfl⟩
end
abbrev Sp:=fL->Hp->VK->XK->Prop
abbrev ja:=fA->Hp->Shared->XK->aC
structure Env0(P:aN)(w:aI)(K:aD)(mg:aE)(base:aR)(A:bu)(outer:fA)(s:Shared)(H:Hp):Prop where
 frames:A.frames=aa outer
 mod:Mod K mg base
 bs:∀b o,base.get? b=aa o->s.heap.get? b=aa o/\H b=aj
 bsz:base.objs.size<=s.heap.objs.size
 funs:s.heap.FunFrames base outer
 frf:∀b∈iL outer,H b=aj
 hok:HOk P w H s.heap
 bare:dX s.gens
def CE(outer:fA)(P:aN)(w:aI)(H:Hp)(s:Shared)(Q:VK)(u:Value)(s':Shared):Prop:=
 ∃v H',s'.os=s.os/\dX s'.gens/\Un (iL outer) [] H H' s.heap s'.heap/\HOk P w H' s'.heap/\RelV v u/\Q v H'
def CR(CX:ja)(outer:fA)(P:aN)(w:aI)(H:Hp)(s:Shared)(Q:VK)(E:XK)(r:Result)(s':Shared):Prop:=
 match r with
 |.ok (.ret u)=>CE outer P w H s Q u s'
 |.ok _=>False
 |.error e=>CX outer H s E e s'
structure FnOk(P:aN)(w:aI)(K:aD)(mg:aE)(base:aR)(CX:ja)(k:Nat)(f:Addr)(fd:aq)(ps:fq)(sp:Sp):Prop where
 len:∀vs H Q E,sp vs H Q E->vs.length=ps.length
 run:∀(A:bu)(outer:fA)(s:Shared)(H:Hp)(args:Args)(us:aF)(vs:fL)(Q:VK)(E:XK),Room k A->Env0 P w K mg base A outer s H->eS s fd args (ps.zip us)->Vals vs us->sp vs H Q E ->
  codeAny (model P w) A (.call (.ref f) args) (CR CX outer P w H s Q E) s
theorem Env0.in1{P:aN}{w:aI}{K:aD}{mg:aE}{base:aR}{A:bu}{outer:fA}{s:Shared}{H:Hp}(e:Env0 P w K mg base A outer s H):
 Env0 P w K mg base A.in1 outer s H:=⟨e.frames,e.mod,e.bs,e.bsz,e.funs,e.frf,e.hok,e.bare⟩
section
variable {X:Cx}{π:aB}{σ:St}{H:Hp}{s s':Shared}
theorem Inv.env0(I:Inv X π σ H s):Env0 X.prog X.w X.K X.mg X.base X.A X.stack s H:=
 ⟨I.ok.frames,I.ok.mod,I.bs,wO I.ok.bsz I.sz,I.stack,I.stkFree,I.hok,I.bare⟩
theorem Inv.after{Q:VK}{u:Value}(I:Inv X π σ H s)(h:CE X.stack X.prog X.w H s Q u s'):EP X π σ Q u s':=by
 obtain⟨v,H',os,bare,un,hok,r,q⟩:=h;obtain⟨hh,g,d,t,os'⟩:=s';obtain rfl:os'=s.os:=os;exact⟨v,H',I.call (h':=hh) (g':=g) (d':=d) (t':=t) (ch:=[]) un hok bare (λb z=>aM z (by simp)),r,q⟩
end
def mP(sp:Sp)(dvs:fL)(E:XK)(t:TA):TE:=λσ H Q=>t σ H λvs H1=>sp (vs++dvs) H1 Q E
def Binds(K:aD)(fd:aq)(ps:fq)(ds:aF):Prop:=
 ∀(s:Shared)(us:aF),K.In s.heap->(us++ds).length=ps.length->eS s fd ⟨us,[]⟩ (ps.zip (us++ds))
theorem Binds.all{K:aD}{fd:aq}{ps:fq}(h:∀us:aF,us.length=ps.length->eO fd ⟨us,[]⟩=pure (ps.zip us)):Binds K fd ps []:=λs us _ hl=>by
 rw[w02]at hl|-;exact .of_eq (h us hl)
def Pp(CX:ja)(X:Cx)(E:XK):Prop:=∀(π:aB)(σ:St)(H:Hp)(s:Shared)(e:Value)(s':Shared),Inv X π σ H s->CX X.stack H s E e s'->X.xe e s'
section
variable {X:Cx}{CX:ja}{k:Nat}{f C:Addr}{fd:aq}{ps:fq}{sp:Sp}{dvs:fL}{ds:aF}{E:XK}{x m:Str}{p pos apos:Pos}{e o:az}{es:fw}{ta:TE}{t:TA}
theorem kJ{π:aB}{σ:St}{H:Hp}{s:Shared}{Q:VK}{us:aF}{vs:fL}(F:FnOk X.prog X.w X.K X.mg X.base CX k f fd ps sp)(hr:Room k X.A)(hb:Binds X.K fd ps ds)(hd:Vals dvs ds)(hx:Pp CX X E)
  (I:Inv X π σ H s) (r:Vals vs us) (h:sp (vs++dvs) H Q E):av (model X.prog X.w) X.A (call (.ref f) us) (EP X π σ Q) X.xe s:=by
 have r2:Vals (vs++dvs) (us++ds):=r.append hd;have hl:(us++ds).length=ps.length:=by rw[<-r2.length];exact F.len _ _ _ _ h
 refine wpAny_call (dm (F.run X.A X.stack s H ⟨us,[]⟩ (us++ds) (vs++dvs) Q E hr I.env0 (hb s us I.kIn hl) r2 h) λr s' hq=>?_);cases r with
 |error e=>exact hx π σ H s e s' I hq
 |ok fl=>
  cases fl with
  |ret u=>exact I.after hq
  |next=>exact ci hq
  |brk=>exact ci hq
  |cont=>exact ci hq
theorem z4I(F:FnOk X.prog X.w X.K X.mg X.base CX k f fd ps sp)(hr:Room k X.A)(hg:Gl X x)(hm:X.mg x=aa (.ref f))(hk:bI X.K (.ref f)=af)(hb:Binds X.K fd ps ds)(hd:Vals dvs ds)(hx:Pp CX X E)
  (ha:PA X (e::es) t) (hdb:(x==("__debug__":Str))=ab:=by decide) (he:au (e::es) X.env=(ab,eval e X.env)::au es X.env:=by rfl) (hpl:(bO pos (au es X.env)).any (·.1)=ab:=by rfl) :
  PE X (.Call (.Name x p) (e::es) [] pos) (mP sp dvs E t):=by
 intro π s σ H Q I h;refine bL (Yt I hg hm ?_ hdb);refine PySem.W.callWith_K (h₀:=X.base) I.ok.mod.kin hk (gF (ha pos π s σ H _ I h) λus s1⟨vs,H1,I1,r,q⟩=>⟨I1.kIn,?_⟩) he hpl;exact kJ F hr hb hd hx I1 r q
end
def PK(X:Cx)(kws:List dN)(t:TA):Prop:=
 ∀(pos:Pos)(π:aB)(s:Shared)(σ:St)(H:Hp)(Q:fL->Hp->Prop),Inv X π σ H s->t σ H Q->av (model X.prog X.w) X.A (evalAll ((cO pos (bN kws X.env)).map (·.2))) (AP X π σ Q) X.xe s
section
variable {X:Cx}{CX:ja}{k:Nat}{f C:Addr}{fd:aq}{ps ks:fq}{sp:Sp}{E:XK}{x m:Str}{p pos apos kpos:Pos}{e o:az}{es:fw}{kws:List dN}{te ta:TE}{t tk:TA}{nm:Option Str}
theorem z1c:PK X [] tNil:=λ_ _ _ _ H Q I h=>wpAny_evalAll_nil ⟨[],H,I,.nil,h⟩
theorem Yx(ha:PE X e te)(hr:PK X kws t):PK X (⟨nm,e,kpos⟩::kws) (pW te t):=by
 intro pos π s σ H Q I h;show av _ _ (evalAll ((do let v <-eval e X.env;standAt pos;pure v)::(cO pos (bN kws X.env)).map (·.2))) _ _ s;refine wpAny_evalAll_cons (ai (gF (ha π s σ H _ I h) λu s1⟨x,H1,I1,r1,q1⟩=>ai (dD (ax ?_))));exact gF (hr pos π s1 σ H1 _ I1 q1) λus s2⟨xs,H2,I2,r2,q2⟩=>⟨x::xs,H2,I2,.cons r1 r2,q2⟩
variable {g:aF->aF->aF}{gV:fL->fL->fL}
end
structure FnScope(N P:fq)(sc:Scope):Prop where
 kind:sc.kind=.function
 co:sc.isCoroutine=ab
 gen:sc.isGenerator=ab
 nd:N.Nodup
 pre:N.take P.length=P
 par:∀x∈P,sc.names.lookup x=aa .local\/sc.names.lookup x=aa .cell
 nofree:∀y∈sc.names,y.2 ≠ .free
theorem Nx{kindOf:Str->Option bt}{x:Str}:∀{binds:List (Str×Value)}{m:aE},(∀v,(x,v)∉binds)->bindL kindOf binds m x=m x
 |[],_,_=>rfl
 | (n,v)::r,m,h=>by
  unfold bindL;rw[Nx λw hw=>h w (wc _ hw)];split
  .have:x≠n:=by rintro rfl;exact h v wf
   simp[this]
  .rfl
theorem Ny{kindOf:Str->Option bt}{x:Str}:∀{binds:List (Str×Value)}{m:aE},(∀v,(x,v)∉binds)->bindC kindOf binds m x=m x
 |[],_,_=>rfl
 | (n,v)::r,m,h=>by
  unfold bindC;rw[Ny λw hw=>h w (wc _ hw)];split
  .rfl
  .have:x≠n:=by rintro rfl;exact h v wf
   simp[this]
theorem Nz{kindOf:Str->Option bt}{x:Str}{v:Value}:∀{P:fq}{vs:aF}{i:Nat}{m:aE},P.Nodup->P[i]?=aa x->vs[i]?=aa v->kindOf x=aa .local ->
  bindL kindOf (P.zip vs) m x=aa v
 |[],_,_,_,_,h,_,_=>by simp at h
 |_::_,[],_,_,_,_,h,_=>by simp at h
 |p::P,w::vs,0,m,nd,h1,h2,hk=>by
  simp at h1 h2;subst h1;subst h2;show bindL kindOf ((p,w)::P.zip vs) m p=_;unfold bindL;rw[Nx λv hv=>(vQ.mp nd).1 (vR hv).1,ak hk];simp
 |p::P,w::vs,i+1,m,nd,h1,h2,hk=>by
  show bindL kindOf ((p,w)::P.zip vs) m x=_;unfold bindL;exact Nz (i:=i) (vQ.mp nd).2 (by simpa using h1) (by simpa using h2) hk
theorem NA{kindOf:Str->Option bt}{x:Str}{v:Value}:∀{P:fq}{vs:aF}{i:Nat}{m:aE},P.Nodup->P[i]?=aa x->vs[i]?=aa v->kindOf x≠aa .local ->
  bindC kindOf (P.zip vs) m x=aa v
 |[],_,_,_,_,h,_,_=>by simp at h
 |_::_,[],_,_,_,_,h,_=>by simp at h
 |p::P,w::vs,0,m,nd,h1,h2,hk=>by
  simp at h1 h2;subst h1;subst h2;show bindC kindOf ((p,w)::P.zip vs) m p=_;unfold bindC;rw[Ny λv hv=>(vQ.mp nd).1 (vR hv).1,ao hk];simp
 |p::P,w::vs,i+1,m,nd,h1,h2,hk=>by
  show bindC kindOf ((p,w)::P.zip vs) m x=_;unfold bindC;exact NA (i:=i) (vQ.mp nd).2 (by simpa using h1) (by simpa using h2) hk
def start(N:fq)(vs:fL):St:=vs.map aa++aP (N.length-vs.length) aj
def iM(CX:ja)(P:aN)(w:aI)(K:aD)(mg:aE)(base:aR)(N:fq)(qual:Str)(scope:Scope)(f:Addr)(cd:Value)(A:bu)(outer:fA)(s:Shared)(H:Hp)(E:XK):Cx where
 prog:=P
 w:=w
 K:=K
 mg:=mg
 base:=base
 A:=A.deeper (dH qual scope s.heap.objs.size f cd)
 N:=N
 s₀:=s
 H₀:=H
 env:=dH qual scope s.heap.objs.size f cd
 outer:=outer
 stack:=dH qual scope s.heap.objs.size f cd::outer
 ex:=[]
 calm:=af
 fn:=λ_=>af
 pn:=[]
 xe:=λe s'=>av (model P w) (A.deeper (dH qual scope s.heap.objs.size f cd)) (leaving (dH qual scope s.heap.objs.size f cd) e) (λ_ s''=>CX outer H s E e s'') (λe' s''=>CX outer H s E e' s'') s'
theorem QR{sc:Scope}{n:Nat}{x:Str}(h:sc.names.lookup x=aa .cell):∃c,(aT n sc.names []).lookup x=aa c:=by
 have q:=dA sc.names n [] (.inl h);exact w00.mp q
theorem ZR{CX:ja}{P:aN}{w:aI}{K:aD}{mg:aE}{base:aR}{N ps:fq}{qual:Str}{scope:Scope}{f:Addr}{cd:Value}{A:bu}{outer:fA}{s s1:Shared}{H:Hp}{E:XK}{us:aF}{vs:fL}
   (S:FnScope N ps scope) (hd:A.handled=aj) (e0:Env0 P w K mg base A outer s H) (hl:vs.length=ps.length) (r:Vals vs us)
   (x:InCallC s s.heap.objs.size (bindL (dH qual scope s.heap.objs.size f cd).kindOf (ps.zip us) λ_=>aj) (aT (s.heap.objs.size+1) scope.names []) (bindC (dH qual scope s.heap.objs.size f cd).kindOf (ps.zip us) λ_=>aj) s1) :
   Inv (iM CX P w K mg base N qual scope f cd A outer s H E) [] (start N vs) H s1:=by
 have hpl:ps.length<=N.length:=by have:=bv dg S.pre;rw[vy]at this;rfl'
 obtain⟨h1,tk,rfl,hk⟩:=x.done;have noA:∀b:Addr,b∉(iM CX P w K mg base N qual scope f cd A outer s H E).ex:=λb z=>aM (show b∈([]:ft)from z) (by simp);refine⟨⟨e0.mod,S.kind,rfl,rfl,wt _,λy z c h1 h2=>?_,λy hy=>?_,λy c _ h=>?_,λ_=>hd,Around.frames_deeper e0.frames,.inr ⟨rfl,rfl⟩,λb z=>aM z (noA b),e0.bs,e0.bsz,λb _ _=>noA b,λb z=>aM z (noA b),e0.funs,e0.frf⟩,
   rfl,e0.bare,Un.kept hk,⟨_,x.toInCall.ns,λi y v h1 h2 h3=>?_⟩,λy c h=>⟨_,x.cell y c h⟩,e0.hok.fresh (wt _),λy c h=>?_,λp hp=>aM (show p∈([]:aB)from hp) (by simp),e0.hok.kept hk,?_⟩
 .exact name_of_addr x.apart (bg h1) (bg h2)
 .have hy:scope.names.lookup y=aa .cell\/scope.names.lookup y=aa .free:=hy;rcases hy with hy|hy
  .exact QR hy
  .exact aM rfl (S.nofree _ (bg hy))
 .exact vZ (x.above y c (bg h))
 .have hi:i<vs.length:=by
    unfold start at h2;by_cases hi:i<vs.length
    .exact hi
    .rw[vj (by simpa using hi)]at h2;rw[vE]at h2;split at h2<;>cases h2
  have ha:vs[i]?=aa v:=by
    unfold start at h2;rw[wV (by simpa using hi),wv]at h2;cases e:vs[i]? with
    |none=>rw[e]at h2;cases h2
    |some a=>rw[e]at h2;cases h2;rfl
  obtain⟨u,hu,rv⟩:=r.get ha;have hp:ps[i]?=aa y:=by
    rw[<-S.pre,List.getElem?_take_of_lt ()];exact h1
  have ndP:ps.Nodup:=by rw[<-S.pre];exact S.nd.sublist (List.take_sublist _ _)
  refine⟨u,rv,?_⟩;rcases S.par y (vN hp)with k|k
  .exact .inl ⟨k,Nz ndP hp hu k⟩
  .obtain⟨c,e⟩:=QR (n:=s.heap.objs.size+1) k;refine .inr ⟨.inl k,c,e,?_⟩;have q:=x.cell y c e;rw[NA ndP hp hu (by show scope.names.lookup y≠_;rw[k];decide)]at q;exact q
 .exact e0.hok.fresh (vZ (x.above y c (bg h)))
 .unfold start;show _=N.length;rw[wF,wn,vW];rfl'
theorem oG{CX:ja}{P:aN}{w:aI}{K:aD}{mg:aE}{base:aR}{k:Nat}{f:Addr}{name qual:Str}{params:Arguments}{body:fy}{scope:Scope}{dV kV doc pm cdv ct oc:Value}{an od:fJ}
  {osl:Array (fI)} {N ps:fq} {sp:Sp} (lk:K.lookup f=aa ⟨oc,od,.func (bz name qual params body scope dV kV doc pm an cdv ct),osl⟩) (hcd:cb K cdv qual=af) (S:FnScope N ps scope)
  (len:∀vs H Q E,sp vs H Q E->vs.length=ps.length)
  (hbody:∀(A:bu)(outer:fA)(s:Shared)(H:Hp)(vs:fL)(Q:VK)(E:XK),Room k (A.deeper (dH qual scope s.heap.objs.size f cdv))->sp vs H Q E ->
    ∃t,PSs (iM CX P w K mg base N qual scope f cdv A outer s H E) body t/\t { nx:=λ_ H'=>Q .non H',rt:=Q } (start N vs) H) :
  FnOk P w K mg base CX (k+1) f (bz name qual params body scope dV kV doc pm an cdv ct) ps sp:=by
 refine⟨len,λA outer s H args us vs Q E hr e0 hb r hsp=>?_⟩;have hl:=len _ _ _ _ hsp;have KX:K.In s.heap:=e0.mod.kin.keeps λb o e=>(e0.bs b o e).1;have lim:s.heap.NoLimit:=e0.mod.nolimit.keeps λb o e=>(e0.bs b o e).1;have hkind:∀y∈ps.zip us,scope.names.lookup y.1=aa .local\/(scope.names.lookup y.1=aa .cell/\((aT (s.heap.objs.size+1) scope.names []).lookup y.1).isSome=af):=λ⟨n,v⟩hy=>by
  rcases S.par n (vR hy).1 with q|q
  .exact .inl q
  .exact .inr ⟨q,dA _ _ _ (.inl q)⟩
 refine codeAny_call_function hr.depth (KX _ _ lk) rfl S.co S.gen rfl (PySem.W.codeRec_of KX hcd) (hb _ _ _ _ ?_);refine wpAny_newFunctionEnv_cells S.kind hkind λenv he s1 x=>?_;subst he;refine⟨lim.keeps x.toInCall.keep,codeAny_func ?_⟩;obtain⟨t,ht,hq⟩:=hbody A outer s H vs Q E (hr.deeper _) hsp;have I:Inv (iM CX P w K mg base N qual scope f cdv A outer s H E) [] (start N vs) H s1:=ZR S hr.hd e0 hl r x;refine bw (ht [] s1 (start N vs) H _ I hq) (λfl s' hs=>?_) λe s' hs=>hs;have fin:∀{σ':St}{H':Hp}{v:V}{u:Value},Inv (iM CX P w K mg base N qual scope f cdv A outer s H E) [] σ' H' s'->RelV v u->Q v H'->CE outer P w H s Q u s':=
  λ{σ' H' v u}J rv q=>⟨v,H',J.os,J.bare,J.base,J.hok,rv,q⟩
 cases fl with
 |ret u=>
  obtain⟨v,σ',H',J,rv,q⟩:=hs;exact fin J rv q
 |next=>
  obtain⟨σ',H',J,q⟩:=hs;exact fin (v:=V.non) (u:=cL) J rfl q
 |brk=>
  obtain⟨_,_,_,q⟩:=hs;exact ci q
 |cont=>
  obtain⟨_,_,_,q⟩:=hs;exact ci q
section
variable {X:Cx}{x:Str}{p pos:Pos}{e:az}{es:fw}{t:TA}{id T:String}{r:fL->Hp->VK->Prop}
def tV(r:fL->Hp->VK->Prop)(t:TA):TE:=λσ H Q=>t σ H λvs H1=>r vs H1 Q
theorem QS(hc:GH X (.builtin id) r)(hg:Gl X x)(hm:X.mg x=aj)(hv:bq x=aa (.builtin id))(ha:PA X (e::es) t)(hn:x ≠ "__name__":=by decide)(hdb:(x==("__debug__":Str))=ab:=by decide)
  (he:au (e::es) X.env=(ab,eval e X.env)::au es X.env:=by rfl) (hpl:(bO pos (au es X.env)).any (·.1)=ab:=by rfl):PE X (.Call (.Name x p) (e::es) [] pos) (tV r t):=by
 intro π s σ H Q I h;refine bL (Ck I hg hm hv ?_ hn hdb);exact PyProof.Rows.callWith_builtin1 (gF (ha pos π s σ H _ I h) λus s1⟨vs,H1,I1,r1,q1⟩=>hc π s1 σ H1 vs us Q I1 r1 q1) he hpl
theorem ZS(hc:GH X (.type T) r)(hg:Gl X x)(hm:X.mg x=aj)(hv:bq x=aa (.type T))(ha:PA X (e::es) t)(hn:x ≠ "__name__":=by decide)(hdb:(x==("__debug__":Str))=ab:=by decide)
  (he:au (e::es) X.env=(ab,eval e X.env)::au es X.env:=by rfl) (hpl:(bO pos (au es X.env)).any (·.1)=ab:=by rfl):PE X (.Call (.Name x p) (e::es) [] pos) (tV r t):=by
 intro π s σ H Q I h;refine bL (Ck I hg hm hv ?_ hn hdb);exact bG (gF (ha pos π s σ H _ I h) λus s1⟨vs,H1,I1,r1,q1⟩=>hc π s1 σ H1 vs us Q I1 r1 q1) he hpl
end
end L2
namespace HT
section
open PySem.SeqAt
open PySem.AutoSeq1 (wpAny_loadPart')
open PySem.MeetsSeq PySem.MeetsSeq2 PySem.MeetsSeq3
end
section
variable {prog:aN}{w:aI}{A:bu}{E:aC}{s:Shared}
def sIx(n d:Nat):fH->Nat
 |none=>d
 |some v=>if v<0 then(v+(n:Int)).toNat else min v.toNat n
theorem sIx_none(n d:Nat):sIx n d aj=d:=rfl
theorem sIx_nat(n d k:Nat):sIx n d (aa (k:Int))=min k n:=by
 show(if(k:Int)<0 then((k:Int)+(n:Int)).toNat else min (k:Int).toNat n)=min k n;rw[ao (),w0D]
end
end HT
namespace L2
abbrev TO:=St->Hp->(fH->Hp->Prop)->Prop
def PO(X:Cx)(e:Option az)(t:TO):Prop:=
 ∀(π:aB)(s:Shared)(σ:St)(H:Hp)(Q:fH->Hp->Prop),Inv X π σ H s->t σ H Q ->
  av (model X.prog X.w) X.A (evalPart e X.env) (λu s'=>∃o H',Inv X π σ H' s'/\IsPart u o/\Q o H') X.xe s
def z4J:TO:=λ_ H Q=>Q aj H
def mM(t:TE):TO:=λσ H Q=>t σ H λx H1=>∃i,x=.int i/\Q (aa i) H1
section
variable {X:Cx}{e:az}{te:TE}{lo hi:Option az}{tl th:TO}{pos p2:Pos}
theorem z4K:PO X aj z4J:=by
 intro π s σ H Q I h;rw[evalPart_none];exact ax ⟨aj,H,I,.none,h⟩
theorem z4L(h:PE X e te):PO X (aa e) (mM te):=by
 intro π s σ H Q I hw;rw[evalPart_some];refine gF (h π s σ H _ I hw) ?_;rintro u s1 ⟨x,H1,I1,r1,q1⟩;obtain⟨i,rfl,q⟩:=q1;obtain⟨t,rfl⟩:=r1;exact⟨aa i,H1,I1,.int i t,q⟩
def tY(X:Cx)(r:V->fH->fH->Hp->VK->Prop):Prop:=
 ∀(π:aB)(s:Shared)(σ:St)(H:Hp)(x:V)(v vl vu:Value)(lo hi:fH)(sl:Addr)(Q:VK),Inv X π σ H s->RelV x v->s.heap.IsSliceOf sl vl vu .none->IsPart vl lo->IsPart vu hi->r x lo hi H Q ->
  ∃T id,typeLookup (.type T) "__getitem__"=pure (aa (.builtin id))/\s.TypeIs v T/\av (model X.prog X.w) X.A (getItem v (.ref sl)) (EP X π σ Q) X.xe s
def tSl(r:V->fH->fH->Hp->VK->Prop)(te:TE)(tl th:TO):TE:=λσ H Q=>te σ H λx H1=>tl σ H1 λl H2=>th σ H2 λu H3=>r x l u H3 Q
theorem z1d{r:V->fH->fH->Hp->VK->Prop}(hr:tY X r)(he:PE X e te)(hl:PO X lo tl)(hu:PO X hi th):PE X (.Subscript e (.Slice lo hi aj p2) pos) (tSl r te tl th):=by
 intro π s σ H Q I h;refine Subscript_ (gF (he π s σ H _ I h) ?_);rintro v s1 ⟨x,H1,I1,r1,q1⟩;refine wpAny_Slice (gF (hl π s1 σ H1 _ I1 q1) λvl s2⟨l,H2,I2,pl,q2⟩=>gF (hu π s2 σ H2 _ I2 q2) ?_);rintro vu s3 ⟨u,H3,I3,pu,q3⟩;rw[evalPart_none];refine ax ?_;have I4:Inv X π σ H3 { s3 with heap:=s3.heap.push { cls:=.type "slice",data:=.fields #[vl,vu,.none] } }:=I3.kept (t':=s3.toks) λb ob q=>wm _ q;obtain⟨T,id,hT,ht,hg⟩:=hr π { s3 with heap:=s3.heap.push { cls:=.type "slice",data:=.fields #[vl,vu,.none] } } σ H3 x v vl vu l u s3.heap.objs.size Q I4 r1 (Heap.IsSliceOf.new ..) pl pu q3;show av (model X.prog X.w) X.A (subscriptTail e (.Slice lo hi aj p2) v (.ref s3.heap.objs.size)) (EP X π σ Q) X.xe { s3 with heap:=s3.heap.push { cls:=.type "slice",data:=.fields #[vl,vu,.none] } };exact tail_any (ops:=[.ref s3.heap.objs.size,v]) ht hT hg (by with_unfolding_all rfl)
def jf(xs:fL)(lo hi:fH):fL:=(xs.drop (HT.sIx xs.length 0 lo)).take (HT.sIx xs.length xs.length hi-HT.sIx xs.length 0 lo)
theorem QT(xs:fL)(lo hi:fH):(jf xs lo hi).length<=xs.length:=by
 unfold jf;rw[vy,wR];rfl'
end
def iD(n:Nat)(i:Int):Option Nat:=if 0<=i then(if i<n then aa i.toNat else aj) else if -(n:Int)<=i then aa (i+n).toNat else aj
def gJ{α:Type}(xs:List α)(i:Int):Option α:=(iD xs.length i).bind λj=>xs[j]?
theorem Yy{n:Nat}{i:Int}{j:Nat}(h:iD n i=aa j):seqIndex? i n=aa j/\j<n /\ -(n:Int)<=i/\i<n:=by
 unfold iD at h;by_cases h0:0<=i
 .rw[ak h0]at h;by_cases h1:i<n
  .rw[ak h1]at h;have e:i.toNat=j:=aO h;exact⟨by rw[seqIndex_of h0 h1,e],(),(),h1⟩
  .rw[ao h1]at h;cases h
 .rw[ao h0]at h;by_cases h1 : -(n:Int)<=i
  .rw[ak h1]at h;have e:(i+n).toNat=j:=aO h;exact⟨by rw[seqIndex_neg () h1,e],(),h1,()⟩
  .rw[ao h1]at h;cases h
theorem Pq{α:Type}{xs:List α}{i:Int}{v:α}(h:gJ xs i=aa v):∃j,seqIndex? i xs.length=aa j/\xs[j]?=aa v/\j<xs.length /\ -(xs.length:Int)<=i/\i<xs.length:=by
 unfold gJ at h;cases e:iD xs.length i with
 |none=>rw[e]at h;cases h
 |some j=>
  rw[e]at h;obtain⟨h1,h2,h3,h4⟩:=Yy e;exact⟨j,h1,h,h2,h3,h4⟩
theorem X6{α:Type}{xs:List α}{j:Nat}{v:α}(h:xs[j]?=aa v):gJ xs (j:Int)=aa v:=by
 have hj:j<xs.length:=(vv.mp h).1;have e:iD xs.length (j:Int)=aa j:=by
  unfold iD;rw[ak (),ak ()];simp
 unfold gJ;rw[e];exact h
def Pr(b:az):Prop:=∀o i,subscripted b ab o i=operate [o,i] (getItem o i)
def IxR(X:Cx)(r:R2):Prop:=
 ∀(value slice:az)(π:aB)(s:Shared)(σ:St)(H:Hp)(x y:V)(v u:Value)(Q:VK),Inv X π σ H s->RelV x v->RelV y u->r x y H Q ->
  subscripted slice ab v u=operate [v,u] (getItem v u)->av (model X.prog X.w) X.A (subscriptTail value slice v u) (EP X π σ Q) X.xe s
def MtR(X:Cx)(id:String)(r:V->fL->Hp->VK->Prop):Prop:=
 ∀(π:aB)(s:Shared)(σ:St)(H:Hp)(x:V)(xs:fL)(v:Value)(us:aF)(Q:VK),Inv X π σ H s->RelV x v->Vals xs us->r x xs H Q ->
  av (model X.prog X.w) X.A (call (.builtin id) (v::us)) (EP X π σ Q) X.xe s
section
variable {X:Cx}{a b:az}{ta tb:TE}{pos:Pos}
theorem IxR.or{r r':R2}(h:IxR X r)(h':IxR X r'):IxR X (λx y H Q=>r x y H Q\/r' x y H Q):=by
 intro value slice π s σ H x y v u Q I rx ry q hs;rcases q with q|q
 .exact h value slice π s σ H x y v u Q I rx ry q hs
 .exact h' value slice π s σ H x y v u Q I rx ry q hs
theorem nK{r:R2}(hr:IxR X r)(ha:PE X a ta)(hb:PE X b tb)(hs:Pr b):PE X (.Subscript a b pos) (oU r ta tb):=by
 intro π s σ H Q I h;exact Subscript_ (ma ha hb I h λv u s2 x y H2 I2 rx ry q=>hr a b π s2 σ H2 x y v u Q I2 rx ry q (hs _ _))
def nC(K:aD):R2:=λx y H Q=>∃p xs i v,x=.ref p/\y=.int i/\SqL K H p xs/\gJ xs i=aa v/\Q v H
def nB(K:aD):R2:=λx y H Q=>∃p xs i v,x=.ref p/\y=.int i/\SqT K H p xs/\gJ xs i=aa v/\Q v H
def rIxS:R2:=λx y H Q=>∃z i c,x=.str z/\y=.int i/\z.length<=sizeLine/\gJ z.cps.toList i=aa c/\Q (.str ⟨#[c]⟩) H
theorem z4M:IxR X (nC X.K):=by
 intro value slice π s σ H x y v u Q I rx ry h hs;obtain⟨p,xs,i,z,rfl,rfl,hq,he,q⟩:=h;cases rx;obtain⟨t,rfl⟩:=ry;obtain⟨its,r,pl,hz⟩:=I.list hq;obtain⟨j,h1,h2,h3,h4,h5⟩:=Pq he;obtain⟨w,ew,rw'⟩:=r.get h2;have hl:=r.length;have hn:=Ig;have fin:EP X π σ Q w s:=⟨z,H,I,rw',q⟩;by_cases h0:0<=i
 .have hj:i.toNat=j:=by
   rw[seqIndex_of h0 h5]at h1;exact aO h1
  exact item_listR pl.isList h0 () (by rw[hj];simpa using ew) fin hs
 .have hj:(i+(its.toArray.size:Int)).toNat=j:=by
   rw[seqIndex_neg () h4]at h1;rw[wL,<-hl];exact aO h1
  exact subscriptTail_builtinR (x:=w) pl.isList.typeIs slot_list_getitem.lookup
   (wpAny_getItem_list_neg (Q:=λr s'=>r=w/\EP X π σ Q r s') pl.isList () (by rw[wL]<;>rfl') () (by rw[hj];simpa using ew) ⟨rfl,fin⟩) hs
theorem ix_tup:IxR X (nB X.K):=by
 intro value slice π s σ H x y v u Q I rx ry h hs;obtain⟨p,xs,i,z,rfl,rfl,hq,he,q⟩:=h;cases rx;obtain⟨t,rfl⟩:=ry;obtain⟨its,r,pl,hz⟩:=I.tuple hq;obtain⟨j,h1,h2,h3,h4,h5⟩:=Pq he;obtain⟨w,ew,rw'⟩:=r.get h2;have hl:=r.length;have hn:=Ig;have fin:EP X π σ Q w s:=⟨z,H,I,rw',q⟩;exact subscriptTail_builtinR (x:=w) pl.typeIs slot_tuple_getitem.lookup
  (getItem_tuple (j:=j) (Q:=λr s'=>r=w/\EP X π σ Q r s') pl () () (by rw[wL,<-hl];exact h1) (by simpa using ew) ⟨rfl,fin⟩) hs
theorem ix_str:IxR X rIxS:=by
 intro value slice π s σ H x y v u Q I rx ry h hs;obtain⟨z,i,c,rfl,rfl,hz,he,q⟩:=h;obtain⟨t,rfl⟩:=rx;obtain⟨t',rfl⟩:=ry;obtain⟨j,h1,h2,h3,h4,h5⟩:=Pq he;have hl:z.cps.toList.length=z.length:=by simp[Str.length]
 rw[hl]at h1 h4 h5;have hn:=Ig;exact tail_any (typeIs_str s z t) slot_str_getitem.lookup (getItem_str (c:=c) (by
  have e1:decide (i < -(2^63:Int))=ab:=bh ();have e2:decide (i≥2^63)=ab:=bh ();rw[e1,e2,Bool.or_false]) (by rw[h1];simpa using h2) ⟨.str ⟨#[c]⟩,H,I.tok _,⟨_,rfl⟩,q⟩) hs
def rIx(K:aD):R2:=λx y H Q=>nC K x y H Q\/nB K x y H Q\/rIxS x y H Q
theorem ix_seq:IxR X (rIx X.K):=z4M.or (ix_tup.or ix_str)
theorem Tv(its:aF)(n j:Nat)(u:Value):cz (·.setIfInBounds j u) { cls:=.type "list",data:=.seq its.toArray n }={ cls:=.type "list",data:=.seq (its.set j u).toArray n }:=by
 simp[cz]
theorem Inv.lst{π:aB}{σ:St}{H:Hp}{s:Shared}{p:Addr}{xs:fL}(I:Inv X π σ H s)(h:H p=aa (.lst xs)):
  ∃(its:aF)(n:Nat),Vals xs its/\s.heap.get? p=aa { cls:=.type "list",data:=.seq its.toArray n }/\xs.length<=sizeLine:=by
 obtain⟨z,its,n,r,e⟩:=I.hok p _ h;exact⟨its,n,r,e,z⟩
theorem Inv.lstUpd{π:aB}{σ:St}{H:Hp}{s:Shared}{p:Addr}{xs ys:fL}{its its':aF}{n n':Nat}{f:Obj->Obj}(I:Inv X π σ H s)(h:H p=aa (.lst xs))
  (ho:s.heap.get? p=aa { cls:=.type "list",data:=.seq its.toArray n }) (hf:f { cls:=.type "list",data:=.seq its.toArray n }={ cls:=.type "list",data:=.seq its'.toArray n' }) (r:Vals ys its') (hz:ys.length<=sizeLine) (t:Nat) :
  Inv X π σ (upd H p (.lst ys)) { s with heap:=s.heap.update p f,toks:=t }:=by
 have e:(s.heap.update p f).get? p=aa { cls:=.type "list",data:=.seq its'.toArray n' }:=by
  rw[w14 f ho (by rw[hf]<;>rfl),hf]
 refine I.write (x:=p) (e:=p) (by rw[h];trivial) (.inl rfl) (λb u hb q=>(w0V _ _ (bR hb)).trans q) ⟨_,e⟩ ?_;exact⟨hz,its',n',r,e⟩
def NB:V->V->V->Hp->(Hp->Prop)->Prop:=λo i v H Q=>∃p xs k j,o=.ref p/\i=.int k/\H p=aa (.lst xs)/\iD xs.length k=aa j/\Q (upd H p (.lst (xs.set j v)))
theorem Dq:oO X NB:=by
 intro π s σ H o i v ov iv u Q I ro ri rv h;obtain⟨p,xs,k,j,rfl,rfl,hp,hj,q⟩:=h;cases ro;obtain⟨t,rfl⟩:=ri;obtain⟨its,n,r,ho,hz⟩:=I.lst hp;obtain⟨h1,h2,h3,h4⟩:=Yy hj;have hl:=r.length;have hn:=Ig;have I':Inv X π σ (upd H p (.lst (xs.set j v))) { s with heap:=s.heap.update p (cz (·.setIfInBounds j u)) }:=
   I.lstUpd hp ho (Tv its n j u) (r.set rv j) (by rw[vS];exact hz) s.toks
 by_cases h0:0<=k
 .have hk:k.toNat=j:=by
   rw[seqIndex_of h0 h4]at h1;exact aO h1
  exact PySem.W.ki_setAt ho h0 () (by rw[wL,<-hl];exact h4) (by rw[hk];exact⟨_,I',q⟩)
 .have hk:(k+(its.toArray.size:Int)).toNat=j:=by
   rw[seqIndex_neg () h3]at h1;rw[wL,<-hl];exact aO h1
  exact PySem.W.ki_setBack ho () (by rw[wL,<-hl];exact h3) () (by rw[hk];exact⟨_,I',q⟩)
theorem Ps(lo hi:fH)(n:Nat):(cS lo hi aj n).1=((HT.sIx n 0 lo:Nat):Int)/\(cS lo hi aj n).2.1=((HT.sIx n n hi:Nat):Int)/\(cS lo hi aj n).2.2=1:=by
 refine⟨?_,?_,rfl⟩
 .cases lo with
  |none=>simp[cS,HT.sIx]
  |some i=>
   simp only[cS,HT.sIx,w1w,show(1:Int) > 0 by decide,if_true];by_cases h:i<0
   .simp only[h,if_true]<;>rfl'
   .simp only[h,if_false]<;>rfl'
 .cases hi with
  |none=>simp[cS,HT.sIx]
  |some i=>
   simp only[cS,HT.sIx,w1w,show(1:Int) > 0 by decide,if_true];by_cases h:i<0
   .simp only[h,if_true]<;>rfl'
   .simp only[h,if_false]<;>rfl'
theorem Nj(its:aF)(lo hi:fH):slicePick its.toArray lo hi aj=((its.drop (HT.sIx its.length 0 lo)).take (HT.sIx its.length its.length hi-HT.sIx its.length 0 lo)).toArray:=by
 obtain⟨h1,h2,h3⟩:=Ps lo hi its.toArray.size;unfold slicePick;rw[h1,h2,h3];simp only[sliceRange_one,pick_run,wL]<;>rfl
def qj(K:aD):V->fH->fH->Hp->VK->Prop:=λx lo hi H Q=>∃a xs,x=.ref a/\SqL K H a xs/\∀p,H p=aj->Q (.ref p) (upd H p (.lst (jf xs lo hi)))
theorem z4N:tY X (qj X.K):=by
 intro π s σ H x v vl vu lo hi sl Q I rx hs pl pu h;obtain⟨a,xs,rfl,hx,q⟩:=h;cases rx;obtain⟨its,r,ht,hz⟩:=I.list hx;have hlen:=r.length;refine⟨"list",_,slot_list_getitem.lookup,ht.isList.typeIs,?_⟩;refine wpAny_getItem_list_slice ht.isList hs pl pu .none (by simp) ?_ (by rw[wL]<;>rfl');rw[Nj,<-hlen];refine⟨.ref s.heap.objs.size,_,I.laid (t':=s.toks) (o:=.lst (jf xs lo hi)) (λb ob q=>wm _ q) (wt _) ?_,rfl,q _ (I.hok.fresh (wt _))⟩;exact⟨wO (QT xs lo hi) hz,_,0,(r.drop (HT.sIx xs.length 0 lo)).take (HT.sIx xs.length xs.length hi-HT.sIx xs.length 0 lo),wH _ rfl⟩
theorem Cn:GH X (.builtin "len") (λxs H Q=>∃p ys,xs=[.ref p]/\(SqL X.K H p ys\/SqT X.K H p ys)/\Q (.int ys.length) H):=by
 intro π s σ H xs us Q I r h;obtain⟨p,ys,rfl,hq,q⟩:=h;obtain⟨u,rfl,rx⟩:=Nv r;cases rx;have hn:=Ig;rcases hq with hq|hq
 .obtain⟨its,r',pl,hz⟩:=I.list hq;have hlen:=r'.length;exact Calls.call_len_list pl.isList (by simp only[wL]<;>rfl') ⟨.int ys.length,H,I.tok _,⟨s.toks+1,by rw[wL,hlen]⟩,q⟩
 .obtain⟨its,r',pl,hz⟩:=I.tuple hq;have hlen:=r'.length;exact len_tuple pl (by simp only[wL]<;>rfl') ⟨.int ys.length,H,I.tok _,⟨s.toks+1,by rw[wL,hlen]⟩,q⟩
theorem GI:GH X (.type "list") (λxs H Q=>∃p ys,xs=[.ref p]/\(SqL X.K H p ys\/SqT X.K H p ys)/\∀l,H l=aj->Q (.ref l) (upd H l (.lst ys))):=by
 intro π s σ H xs us Q I r h;obtain⟨p,ys,rfl,hq,q⟩:=h;obtain⟨u,rfl,rx⟩:=Nv r;cases rx;have fin:∀(its:aF),Vals ys its->ys.length<=sizeLine->∀(h':aR)(c':Nat),(∀b o',s.heap.get? b=aa o'->h'.get? b=aa o') ->
    h'.get? s.heap.objs.size=aa { cls:=.type "list",dict:=aj,data:=.seq its.toArray c',slots:=#[] }->EP X π σ Q (.ref s.heap.objs.size) { s with heap:=h' }:=λits r' hz h' c' kp e=>
   ⟨.ref s.heap.objs.size,_,I.laid (t':=s.toks) kp (wt _) (show ObjOk X.prog X.w _ h' _ (.lst ys) from⟨hz,its,c',r',e⟩),rfl,q _ (I.hok.fresh (wt _))⟩
 rcases hq with hq|hq
 .obtain⟨its,r',pl,hz⟩:=I.list hq;have hlen:=r'.length;obtain⟨o,ho,hc,n,hd⟩:=pl.isList;exact call_list_seq p (.inl rfl) ho hc hd (λh' c' kp e=>fin its r' hz h' c' kp e) (by simp only[wL]<;>rfl')
 .obtain⟨its,r',pl,hz⟩:=I.tuple hq;have hlen:=r'.length;obtain⟨o,ho,hc,n,hd⟩:=pl;exact call_list_seq p (.inr rfl) ho hc hd (λh' c' kp e=>fin its r' hz h' c' kp e) (by simp only[wL]<;>rfl')
theorem Fn:GH X (.type "tuple") (λxs H Q=>∃p ys,xs=[.ref p]/\((SqL X.K H p ys/\∀l,H l=aj->Q (.ref l) (upd H l (.tup ys)))\/(SqT X.K H p ys/\Q (.ref p) H))):=by
 intro π s σ H xs us Q I r h;obtain⟨p,ys,rfl,h⟩:=h;obtain⟨u,rfl,rx⟩:=Nv r;cases rx;rcases h with⟨hq,q⟩|⟨hq,q⟩
 .obtain⟨its,r',pl,hz⟩:=I.list hq;have hlen:=r'.length;refine call_tuple_list pl.isList (λh' kp=>?_) (by simp only[wL]<;>rfl');have I1:Inv X π σ H { s with heap:=h' }:=I.kept (t':=s.toks) kp;have I2:Inv X π σ (upd H h'.objs.size (.tup ys)) { s with heap:=h'.push { cls:=.type "tuple",data:=.seq its.toArray } }:=
   I1.laid (t':=s.toks) (λb o e=>wm _ e) (wt _) (show ObjOk X.prog X.w _ _ _ (.tup ys) from⟨hz,its,r',IsTup.new _ _⟩)
  exact⟨.ref h'.objs.size,_,I2,rfl,q _ (I1.hok.fresh (wt _))⟩
 .obtain⟨its,r',pl,hz⟩:=I.tuple hq;exact call_tuple_same pl ⟨.ref p,H,I,rfl,q⟩
def tT(K:aD)(T:String)(x:V)(H:Hp):Prop:=match x with
 |.str _=>T ="str"
 |.int _=>T ="int"
 |.ref p=>(T ="list" /\ ∃xs,SqL K H p xs)\/(T ="tuple" /\ ∃o,K.lookup p=aa o/\o.cls=.type "tuple" /\ o.dict=aj) \/
  (T ="dict" /\ ((∃kvs,H p=aa (.dK kvs))\/∃kvs,H p=aa (.dT kvs)))\/(T ="set" /\ ∃S n,H p=aa (.set S n))
 |_=>False
theorem kv{π:aB}{σ:St}{H:Hp}{s:Shared}{T:String}{x:V}{v:Value}(I:Inv X π σ H s)(r:RelV x v)(ty:tT X.K T x H):
  s.TypeIs v T/\∀a,v=.ref a->∃ob,s.heap.get? a=aa ob/\ob.dict=aj:=by
 cases x with
 |str z=>
  obtain⟨t,rfl⟩:=r;cases (show T ="str" from ty);exact⟨typeIs_str s z t,λ_ e=>nomatch e⟩
 |int i=>
  obtain⟨t,rfl⟩:=r;cases (show T ="int" from ty);exact⟨typeIs_int s i t,λ_ e=>nomatch e⟩
 |ref p=>
  cases r;rcases ty with⟨rfl,xs,hq⟩|⟨rfl,o,hk,hc,hd⟩|⟨rfl,hk⟩|⟨rfl,S,n,hk⟩
  .obtain⟨its,_,pl,_⟩:=I.list hq;refine⟨pl.isList.typeIs,λa e=>?_⟩;cases e;obtain⟨o,n,e,c,hd,_⟩:=pl;exact⟨o,e,hd⟩
  .refine⟨⟨o,I.kIn p o hk,hc⟩,λa e=>?_⟩;cases e;exact⟨o,I.kIn _ o hk,hd⟩
  .have z:∃o,s.heap.get? p=aa o/\o.ExactDict:=by
    rcases hk with⟨kvs,hk⟩|⟨kvs,hk⟩
    .obtain⟨_,_,_,_,o,_,_,e,ex,_⟩:=I.hok p _ hk;exact⟨o,e,ex⟩
    .obtain⟨_,_,_,_,o,_,_,e,ex,_⟩:=I.hok p _ hk;exact⟨o,e,ex⟩
   obtain⟨o,e,ex⟩:=z;refine⟨⟨o,e,ex.1⟩,λa e2=>?_⟩;cases e2;exact⟨o,e,ex.2.1⟩
  .obtain⟨o,_,_,_,e,ex,_⟩:=I.hok p _ hk;refine⟨⟨o,e,ex.1⟩,λa e2=>?_⟩;cases e2;exact⟨o,e,ex.2.1⟩
 |_=>exact ci ty
def tW(K:aD)(T:String)(r:V->fL->Hp->VK->Prop)(to:TE)(t:TA):TE:=λσ H Q=>to σ H λx H1=>tT K T x H1/\t σ H1 λxs H2=>r x xs H2 Q
variable {o e:az}{es:fw}{to:TE}{t:TA}{name:Str}{apos cpos:Pos}{T id:String}{r:V->fL->Hp->VK->Prop}
theorem jC(pa:PlainAttrs T)(slot:Slot T name id)(hty:typeOf (.builtin id)=pure (.type "method_descriptor"))(hm:MtR X id r)(ho:PE X o to)(ha:PA X (e::es) t)
  (hbase:attributeBase o name X.env (eval o X.env)=eval o X.env:=by rfl)
  (hfew:((backTo cpos (starEach (e::es) X.env)).all (fun x=>!x.1)&&(backToKw cpos (keywordEach [] X.env)).all (fun x=>x.1.isSome)
   && decide ((e::es).length+([]:List dN).length+(if([]:List dN).isEmpty then 0 else 1)<30))=af:=by rfl)
  (hline:(apos.endLine==cpos.line)=af:=by rfl) (hs:au (e::es) X.env=(ab,eval e X.env)::au es X.env:=by rfl) (hplain:(bO cpos (au es X.env)).any (·.1)=ab:=by rfl) :
  PE X (.Call (.Attribute o name apos) (e::es) [] cpos) (tW X.K T r to t):=by
 intro π s σ H Q I h;refine wpAny_Call_method_late hbase hfew hline rfl (gF (ho π s σ H _ I h) ?_);rintro v s1 ⟨x,H1,I1,r1,ty,q1⟩;obtain⟨h1,h2⟩:=kv I1 r1 ty;refine⟨T,id,pa,slot,hty,h1,h2,?_⟩;have hA:=ha cpos π s1 σ H1 _ I1 q1;rw[hs]at hA|-;refine Calls.callWith_builtin (by show(ab||(bO cpos (au es X.env)).any (·.1))=ab;rw[hplain]<;>rfl) (Calls.evalArgs_plain ?_);exact gF hA λus s2⟨vs,H2,I2,r2,q2⟩=>hm π s2 σ H2 x vs v us Q I2 r1 r2 q2
end
def oP(X:Cx)(id:String)(r:V->fL->Hp->VK->Prop):Prop:=
 ∀(π:aB)(s:Shared)(σ:St)(H:Hp)(x:V)(xs:fL)(v:Value)(us:aF)(Q:VK),Inv X π σ H s->RelV x v->Vals xs us->r x xs H Q ->
  av (model X.prog X.w) X.A (call (.builtin id) (v::us)) (EP X π σ Q) X.xe s
theorem Vals.zero:∀{us:aF},Vals [] us->us=[]
 |_,.nil=>rfl
theorem Vals.uncons{x:V}{xs:fL}{us:aF}(h:Vals (x::xs) us):∃u vs,us=u::vs/\RelV x u/\Vals xs vs:=by
 cases h with
 |cons r t=>exact⟨_,_,rfl,r,t⟩
theorem Vals.one{x:V}{us:aF}(h:Vals [x] us):∃u,us=[u]/\RelV x u:=by
 obtain⟨u,vs,e,r,t⟩:=h.uncons;rw[t.zero]at e;exact⟨u,e,r⟩
theorem Vals.two{x y:V}{us:aF}(h:Vals [x,y] us):∃u v,us=[u,v]/\RelV x u/\RelV y v:=by
 obtain⟨u,vs,e,r,t⟩:=h.uncons;obtain⟨v,e2,q⟩:=t.one;rw[e2]at e;exact⟨u,v,e,r,q⟩
section
variable {X:Cx}{π:aB}{σ:St}{H:Hp}{s:Shared}{l b:Addr}{xs ys zs:fL}
theorem Inv.lset{its its':aF}{n:Nat}{f:fE->fE}{t':Nat}(I:Inv X π σ H s)(hH:H l=aa (.lst xs))
  (e:s.heap.get? l=aa { cls:=.type "list",data:=.seq its.toArray n }) (hf:f its.toArray=its'.toArray) (hv:Vals ys its') (hz:ys.length<=sizeLine) :
  Inv X π σ (upd H l (.lst ys)) { s with heap:=s.heap.update l (cz f),toks:=t' }:=by
 have q:=PySem.IsL.update e f;rw[hf]at q;refine I.write (x:=l) (e:=l) (by rw[hH];exact trivial) (.inl rfl) (λb' u hb hu=>(w0V s.heap (cz f) (bR hb)).trans hu) ⟨_,q⟩ ?_;exact⟨hz,its',_,hv,q⟩
theorem Inv.lnew{its:aF}{t':Nat}(I:Inv X π σ H s)(hv:Vals ys its)(hz:ys.length<=sizeLine):
  Inv X π σ (upd H s.heap.objs.size (.lst ys)) { s with heap:=s.heap.push { cls:=.type "list",data:=.seq its.toArray },toks:=t' }:=
 I.laid (λ_ _ q=>wm _ q) (wt _) ⟨hz,its,0,hv,wH _ rfl⟩
theorem Inv.fresh(I:Inv X π σ H s):H s.heap.objs.size=aj:=I.hok.fresh (wt _)
theorem Inv.lstM(I:Inv X π σ H s)(hH:H l=aa (.lst xs)):xs.length<=sizeLine/\∃(its:aF)(n:Nat),Vals xs its/\xs.length=its.length/\s.heap.get? l=aa { cls:=.type "list",data:=.seq its.toArray n }:=by
 obtain⟨z,its,n,r,e⟩:=I.hok l _ hH;exact⟨z,its,n,r,r.length,e⟩
end
section
variable {X:Cx}
def Yz:V->fL->Hp->VK->Prop:=λx vs H Q=>∃l xs y,x=.ref l/\vs=[y]/\H l=aa (.lst xs)/\xs.length<sizeLine/\Q .non (upd H l (.lst (xs++[y])))
theorem NC:oP X "list.append" Yz:=by
 intro π s σ H x vs v us Q I rx rv h;obtain⟨l,xs,y,rfl,rfl,hH,hz,q⟩:=h;cases rx;obtain⟨u,rfl,ru⟩:=rv.one;obtain⟨z,its,n,r,hl,e⟩:=I.lstM hH;refine call_meets eN ⟨_,e,rfl⟩ F.entry_list_append (F.args_list_append_2 _ _) (PySem.list_append l its.toArray n u (by rw[wL];rfl')) ⟨e,?_⟩;refine⟨.non,_,I.lset (its':=its++[u]) hH e (by simp) (r.append (.cons ru .nil)) ?_,rfl,q⟩;rw[wF,List.length_singleton];rfl'
def rCat:R2:=λx y H Q=>∃l b xs zs,x=.ref l/\y=.ref b/\H l=aa (.lst xs)/\H b=aa (.lst zs)/\xs.length+zs.length<=sizeLine/\∀p,H p=aj->Q (.ref p) (upd H p (.lst (xs++zs)))
theorem op_cat:ik X (bM .Add) rCat:=by
 intro π s σ H x y v u Q I rx ry h;obtain⟨l,b,xs,zs,rfl,rfl,hH,hB,hz,q⟩:=h;cases rx;cases ry;obtain⟨z,its,n,r,hl,e⟩:=I.lstM hH;obtain⟨z2,its2,n2,r2,hl2,e2⟩:=I.lstM hB;refine PySem.P.add_list e e2 ?_ (by rw[wL,wL];rfl');have ea:its.toArray++its2.toArray=(its++its2).toArray:=by simp
 rw[ea];exact⟨.ref _,_,I.lnew (t':=s.toks) (r.append r2) (by rw[wF];rfl'),rfl,q _ I.fresh⟩
end
section
variable {prog:aN}{w:aI}{A:bu}{E:aC}{s:Shared}
end
section
variable {X:Cx}
end
end L2
namespace Att
open PySem.W PySem.Calls
theorem Kg{P:aV}{h:aR}:∀(ns:aH)(vs:aF),WellAll P h vs (ns.map WData.int)->IntsAre vs ns:=by
 intro ns
 induction ns with
 |nil=>
  intro vs w;rw[w1n]at w;cases w;exact .nil
 | cons n ns ih =>
  intro vs w;rw[wx]at w;cases w with
  |cons a b=>
   cases a;exact .cons _ _ (ih _ b)
theorem ZT{l:du}{n:Nat}(hn:l.most=aa n){P:aV}{h:aR}{args:List WData}{vals:aF}
  (hpre:l.row.toRowW.claim.pre args=af) (hwl:WellAll P h vals args) :
  ∃a vs ns,vals=[bE a]/\args=[WData.list (ns.map WData.int)]/\h.get? a=aa { cls:=.type "list",data:=.seq vs.toArray }/\IntsAre vs ns/\ns.length<=n:=by
 have hsh:WShape.hasAll [] args [.list .int]=af:=(pre_splitW hpre).1;have hc:l.pre.holds [] { args:=args }=af:=(pre_splitW hpre).2;obtain⟨d,r,rfl,h1,h2⟩:=hasAllW_cons hsh;obtain rfl:=hasAllW_nil h2;obtain⟨xs,rfl,h3⟩:=hasW_list h1;obtain⟨ns,rfl⟩:=items_int h3;have hlen:ns.length<=n:=by
  unfold OpenLaw.pre at hc;have h4:(WTm.not (.lt (.lit (.int (n:Int))) (.len (.arg 0)))).holds [] { args:=[.list (ns.map .int)] }=af:=by
   have h4:=(holds_andW hc).1;rw[hn]at h4;exact h4
  have h5:=condW_of h4 (w_not (w_lt w_lit (w_len_list (w_arg rfl))));rw[wn]at h5;refine ug λq=>?_;have q':(n:Int)<((ns.length:Nat):Int):=()
  first
   |(rw[aL q']at h5;exact aM h5 (by decide))
   |(simp at h5;rfl')
 cases hwl with
 |cons w1 w2=>
  cases w2;cases w1 with
  |list ho hall=>exact⟨_,_,ns,rfl,rfl,ho,Kg ns _ hall,hlen⟩
theorem ZU(l:du)(args:List WData):l.row.toRowW.claim.post args (.bool af) args=af:=
 postW_of (r:=l.row.toRowW) (X:=(af==af))
  (show WShape.has [] (.bool af) .bool=af by first|rfl|decide|simp[WShape.has,WShape.arms,WShape.armsAll])
  (show(WTm.eq .res (.lit (.bool af))).value [] { args:=args,res:=aa (.bool af),after:=args }=aa (.bool (af==af))from w_eq_bool (w_res rfl) w_lit) rfl
theorem attach_call{l:du}{n:Nat}{q:aN}{loose:fq}{XP:(aE)->aR->Prop}{YP:aI->aR->Prop}{d:DefRec}
  (hn:l.most=aa n) (hdf:d.params.defaults=[])
  (call:∀(w:World) (s₀ s₁:Shared) (mg mb:Str→Option Value) (fa:Addr) (o:Obj) (pm cd doc:Value) (a:Addr) (vs:List Value) (ns:List Int),
   Ground q loose [] XP w s₀ mg mb s₁.heap->YP w s₁.heap ->
   s₁.heap.get? fa=aa o->o.data=.func (docDef d.name d.params d.body d.scope pm cd doc)->s₁.heap.CodeRec cd d.name->mg d.name=aa (.ref fa) ->
   s₁.heap.get? a=aa { cls:=.type "list",data:=.seq vs.toArray }->IntsAre vs ns->ns.length<=n->s₁.gens=#[] ->
   codeAny (model l.prog w) eG (.call (.ref fa) ⟨[.ref a],[]⟩) (λr s'=>r=.ok (.ret (.bool af))/\OldK s₁.heap s'.heap/\s'.os=s₁.os/\dX s'.gens) s₁) :
  WalkO q loose XP YP l.row.toRowW d [] (λf vs=>PySem.call f vs):=by
 intro w s₀ s₁ mg mb G Y fa o pm cd doc dV kV ho hd hcd hD hmg hg args vals as hpre hlay hrd hwl hlo;obtain rfl:dV=.none:=Dflts.none hD hdf;obtain rfl:kV=.none:=Dflts.noKw hD;obtain⟨a,vs,ns,rfl,rfl,hobj,hints,hlen⟩:=ZT hn hpre hwl;refine enter_call (dm (call w s₀ s₁ mg mb fa o pm cd doc a vs ns G Y ho (fd_plain hd) hcd hmg hobj hints hlen hg) λr s' hq=>?_);obtain⟨rfl,h2,h3,h4⟩:=hq;exact⟨.inl ⟨.bool af,.bool af,[],rfl,λ_=>rfl,.bool af,ZU l _,λ_=>⟨di,λ_ hm=>(nomatch hm)⟩⟩,h2,h3,h4⟩
section
variable {prog:aN}{w:aI}{A:bu}{E:aC}{s:Shared}{K:Frag}
end
end Att
namespace L2
theorem ND:∀{vs:aF}{ns:aH},IntsAre vs ns->Vals (ns.map V.int) vs
 |_,_,.nil=>.nil
 |_,_,.cons n t h=>.cons ⟨t,rfl⟩ (ND h)
def jy(H:Hp):Prop:=∀b,H b=aj\/∃o xs,H b=aa (.frz o (.lst xs))
theorem z1e{P:aN}{w:aI}{K:aD}{mg mb:aE}{CX:ja}{k:Nat}{fa a:Addr}{fd:aq}{x:Str}{sp:Sp}{s₁:Shared}{vs:aF}{ns:aH}
  (KX:K.In s₁.heap) (hns:s₁.heap.Ns aw mg) (hb:s₁.heap.Ns dJ mb) (hbb:∀x:Str,x ≠ "__name__" -> mb x=bq x) (hlim:s₁.heap.NoLimit) (hg:s₁.gens=#[])
  (ha:s₁.heap.get? a=aa { cls:=.type "list",data:=.seq vs.toArray }) (hi:IntsAre vs ns) (hl:ns.length<=sizeLine) (hr:Room k eG)
  (F:∀base:aR,K.In base->base.Ns aw mg->FnOk P w K mg base CX k fa fd [x] sp) (hbind:∀(s:Shared)(u:Value),eS s fd ⟨[u],[]⟩ [(x,u)])
  (hsp:∀H:Hp,jy H->SqL K H a (ns.map V.int)->sp [.ref a] H (λv _=>v=.bl af) λ_ _ _=>False)
  (hCX:∀H e s',CX [] H s₁ (λ_ _ _=>False) e s'->False) :
  codeAny (model P w) eG (.call (.ref fa) ⟨[.ref a],[]⟩) (λr s'=>r=.ok (.ret (.bool af))/\OldK s₁.heap s'.heap/\s'.os=s₁.os/\dX s'.gens) s₁:=by
 have rv:=ND hi;have lenV:=hi.length
 have core:∀ H:Hp,jy H→SqL K H a (ns.map V.int)→HOk P w H s₁.heap→(∀ b,H b≠none→b=a)→(H a≠none→K.lookup a=none) →
    codeAny (model P w) eG (.call (.ref fa) ⟨[.ref a],[]⟩) (λr s'=>r=.ok (.ret (.bool af))/\OldK s₁.heap s'.heap/\s'.os=s₁.os/\dX s'.gens) s₁:=by
  intro H hO hS hok hA hK;have base_of:∀{b:Addr}{o:Obj},s₁.heap.get? b=aa o->H b=aj->(iK s₁.heap H).get? b=aa o:=λe n=>z0Z e n;have noA:∀{b:Addr}{o:Obj}{es:Array bC}{ep:Nat},s₁.heap.get? b=aa o->o.data=.dict es ep->H b=aj:=λ{b o es ep}e d=>by
    cases q:H b with
    |none=>rfl
    | some u =>
      have e':b=a:=hA b (by rw[q];simp);subst e';rw[ha]at e;cases e;have d':Data.seq vs.toArray _=Data.dict es ep:=d;cases d'
  have nsK:∀{b:Addr}{m:aE},s₁.heap.Ns b m->(iK s₁.heap H).Ns b m:=λ{b m}⟨o,es,ep,e,d,r⟩=>⟨o,es,ep,base_of e (noA e d),d,r⟩;have hKb:K.In (iK s₁.heap H):=λb o e=>base_of (KX b o e) (by
    cases q:H b with
    |none=>rfl
    | some u =>
      have e':b=a:=hA b (by rw[q];simp);subst e';rw[hK (by rw[q];simp)]at e;cases e)
  have hM:Mod K mg (iK s₁.heap H):=⟨hKb,nsK hns,⟨mb,nsK hb,hbb⟩,let ⟨mc,h1,h2⟩:=hlim;⟨mc,nsK h1,h2⟩⟩;have e0:Env0 P w K mg (iK s₁.heap H) eG [] s₁ H:=⟨rfl,hM,λb o e=>z4w e,Nat.le_of_eq (ZO _ _),trivial,λb hb=>aM (show b∈([]:ft)from hb) (by simp),hok,.of_eq hg⟩;refine dm ((F _ hKb (nsK hns)).run eG [] s₁ H ⟨[.ref a],[]⟩ [.ref a] [.ref a] _ _ hr e0 (hbind s₁ (.ref a)) (.cons rfl .nil) (hsp H hO hS)) λr s' h=>?_;cases r with
  |error e=>exact(hCX H e s' h).elim
  | ok fl =>
    cases fl with
    |next=>exact ci h
    |brk=>exact ci h
    |cont=>exact ci h
    | ret u =>
      obtain⟨v,H',os,bare,un,hok',r',q⟩:=h;have q':v=.bl af:=q;subst q';obtain rfl:u=eM af:=r';refine⟨rfl,OldK.of_keep λb o e=>?_,os,bare⟩;cases q:H b with
      |none=>exact un.keep b o e q (by intro z;exact aM (show b∈([]:ft)from z) (by simp)) (by simp)
      |some u=>
       rcases hO b with z|⟨ob,xs,z⟩
       .rw[q]at z;cases z
       .have z2:=un.frzs b ob _ z;obtain⟨e1,_⟩:=hok b _ z;obtain⟨e2,_⟩:=hok' b _ z2;rw[e]at e1;cases e1;exact e2
 cases hk:K.lookup a with
 |some o=>
  have e:=KX a o hk;rw[ha]at e;cases e;refine core (λ_=>aj) (λ_=>.inl rfl) (.inr ⟨_,vs.toArray,_,hk,rfl,rfl,rfl,by rw[wL,lenV];exact hl,by simpa using rv⟩) (λb u z=>by have z':(aj:Option HO)=aa u:=z;cases z') (λb z=>aM rfl z) λz=>aM rfl z
 |none=>
  refine core (λb=>if b=a then aa (.frz { cls:=.type "list",data:=.seq vs.toArray } (.lst (ns.map V.int))) else aj) (λb=>?_) (.inl (.inr ⟨{ cls:=.type "list",data:=.seq vs.toArray },ak rfl⟩)) (λb u z=>?_) (λb z=>?_) λ_=>hk
  .by_cases hb:b=a
   .exact .inr ⟨_,_,ak hb⟩
   .exact .inl (ao hb)
  .by_cases hb:b=a
   .have z':=(ak hb).symm.trans z;cases z';subst hb;exact⟨ha,by rw[wn];exact hl,vs,_,rv,ha⟩
   .have z':=(ao hb).symm.trans z;cases z'
  .by_cases hb:b=a
   .exact hb
   .exact aM (ao hb) z
theorem z4O{l:du}{n k:Nat}{q:aN}{loose:fq}{XP:(aE)->aR->Prop}{YP:aI->aR->Prop}{d:DefRec}{K:aV->aD}{CX:aI->ja}{sp:aI->Sp}{x:Str}
  (hn:l.most=aa n) (hn2:n<=sizeLine) (hdf:d.params.defaults=[]) (hr:Room k eG)
  (hY:∀(w:aI)(h:aR),YP w h->(K w.params).In h)
  (F:∀(w:World) (mg:Str→Option Value) (fa:Addr) (h:Heap),(K w.params).In h→h.Ns mainGlobals mg→mg d.name=some (.ref fa) →
   ∃fd:aq,(∀(s:Shared)(u:Value),eS s fd ⟨[u],[]⟩ [(x,u)]) /\
    ∀base:aR,(K w.params).In base->base.Ns aw mg->FnOk l.prog w (K w.params) mg base (CX w) k fa fd [x] (sp w))
  (hsp:∀(w:aI)(H:Hp)(a:Addr)(ns:aH),ns.length<=n->jy H->SqL (K w.params) H a (ns.map V.int)->sp w [.ref a] H (λv _=>v=.bl af) λ_ _ _=>False)
  (hCX:∀(w:aI)(H:Hp)(s:Shared)(e:Value)(s':Shared),CX w [] H s (λ_ _ _=>False) e s'->False) :
  PySem.W.WalkO q loose XP YP l.row.toRowW d [] (λf vs=>PySem.call f vs):=by
 refine Att.attach_call hn hdf λw s₀ s₁ mg mb fa o pm cd doc a vs ns G Y ho hd hcd hmg hobj hints hlen hg=>?_;have KX:=hY w _ Y;obtain⟨fd,hb,hF⟩:=F w mg fa _ KX G.T.g hmg;exact z1e KX G.T.g G.T.b G.T.builtins G.T.nolimit hg hobj hints (wO hlen hn2) hr hF hb (λH hO hS=>hsp w H a ns hlen hO hS) λH e s'=>hCX w H s₁ e s'
def O8(s:aJ):Arguments:=match s with
 |.FunctionDef _ a _ _ _ _ _ _ _ _=>a
 |_=>{ posonlyargs:=[],args:=[],vararg:=aj,kwonlyargs:=[],kw_defaults:=[],kwarg:=aj,defaults:=[] }
def G9(s:aJ):fy:=match s with
 |.FunctionDef _ _ b _ _ _ _ _ _ _=>b
 |_=>[]
def f9(s:aJ):Scope:=match s with
 |.FunctionDef _ _ _ _ _ _ sc _ _ _=>sc
 |_=>{ kind:=.function,names:=[],isGenerator:=ab,isCoroutine:=ab }
abbrev CX0:ja:=λ_ _ _ _ _ _=>False
abbrev E0:XK:=λ_ _ _=>False
theorem nM{X:Cx}:Pp CX0 X E0:=λ_ _ _ _ _ _ _ h=>h.elim
structure Fun(K:aD)(x qual:Str)(st:aJ)(f:Addr)(fd:aq):Prop where
 ex:∃(oc:Value)(od:fJ)(kV doc pm:Value)(an:fJ)(cdv ct:Value)(osl:Array (fI)),
  fd=bz x qual (O8 st) (G9 st) (f9 st) .none kV doc pm an cdv ct/\K.lookup f=aa ⟨oc,od,.func fd,osl⟩/\cb K cdv qual=af
 kp:bI K (.ref f)=af
section
variable {P:aN}{w:aI}{K:aD}{mg:aE}{base:aR}
theorem Fun.ok{x qual:Str}{st:aJ}{f:Addr}{fd:aq}{N ps:fq}{k:Nat}{sp:Sp}(F:Fun K x qual st f fd)(S:FnScope N ps (f9 st))(len:∀vs H Q E,sp vs H Q E->vs.length=ps.length)
  (hbody:∀(cdv:Value) (A:Around) (outer:List Env) (s:Shared) (H:Hp) (vs:List V) (Q:VK) (E:XK),Room k (A.deeper (envOfC qual (f9 st) s.heap.objs.size f cdv))→sp vs H Q E →
   ∃t,PSs (iM CX0 P w K mg base N qual (f9 st) f cdv A outer s H E).nox (G9 st) t/\t { nx:=λ_ H'=>Q .non H',rt:=Q } (start N vs) H):FnOk P w K mg base CX0 (k+1) f fd ps sp:=by
 obtain⟨oc,od,kV,doc,pm,an,cdv,ct,osl,rfl,lk,hcd⟩:=F.ex;refine oG lk hcd S len λA outer s H vs Q E hr hsp=>?_;obtain⟨t,h,q⟩:=hbody cdv A outer s H vs Q E hr hsp;exact⟨t,h.nox,q⟩
theorem Fun.binds{x qual:Str}{st:aJ}{f:Addr}{fd:aq}{ps:fq}(F:Fun K x qual st f fd)
  (h:∀(kV doc pm:Value)(an:fJ)(cdv ct:Value)(us:aF),us.length=ps.length->eO (bz x qual (O8 st) (G9 st) (f9 st) .none kV doc pm an cdv ct) ⟨us,[]⟩=pure (ps.zip us)):Binds K fd ps []:=by
 obtain⟨oc,od,kV,doc,pm,an,cdv,ct,osl,rfl,lk,hcd⟩:=F.ex;exact .all (h kV doc pm an cdv ct)
theorem tx{x qual:Str}{st:aJ}{f:Addr}{oc:Value}{od an:fJ}{osl:Array (fI)}{kV doc pm cdv ct:Value}(l:K.lookup f=aa ⟨oc,od,.func (bz x qual (O8 st) (G9 st) (f9 st) .none kV doc pm an cdv ct),osl⟩)
 (c:cb K cdv qual=af) (k:bI K (.ref f)=af):Fun K x qual st f (bz x qual (O8 st) (G9 st) (f9 st) .none kV doc pm an cdv ct):=⟨⟨oc,od,kV,doc,pm,an,cdv,ct,osl,rfl,l,c⟩,k⟩
end
section
variable {X:Cx}
end
def Same(H H':Hp):Prop:=∀b o,H b=aa o->H' b=aa o
theorem Same.refl(H:Hp):Same H H:=λ_ _ h=>h
theorem Same.trans{H H1 H2:Hp}(a:Same H H1)(b:Same H1 H2):Same H H2:=λc o h=>b c o (a c o h)
theorem Same.free{H H':Hp}(e:Same H H'){l:Addr}(h:H' l=aj):H l=aj:=by
 cases q:H l with
 |none=>rfl
 |some o=>
  rw[e l o q]at h;cases h
theorem Same.seq{K:aD}{H H':Hp}{a:Addr}{xs:fL}(e:Same H H')(h:SqL K H a xs):SqL K H' a xs:=by
 rcases h with(h|⟨o,h⟩)|h
 .exact .inl (.inl (e _ _ h))
 .exact .inl (.inr ⟨o,e _ _ h⟩)
 .exact .inr h
end L2
end
section
namespace L2
theorem pV{x:Str}{lo:Nat}:∀(names:List (Str×bt))(n:Nat)(acc:List (Str×Addr))(c:Addr),lo<=n->(∀c,acc.lookup x=aa c->lo<=c)->(aT n names acc).lookup x=aa c->lo<=c
 |[],_,_,_,_,h,e=>h _ e
 | (y,k)::r,n,acc,c,hn,h,e=>by
  unfold aT at e;split at e
  .refine pV r (n+1) _ c (w0E hn) (λc' e'=>?_) e;rw[vm]at e';split at e'
   .cases e';exact hn
   .exact h c' e'
  .exact pV r n acc c hn h e
theorem Tw{x:Str}:∀(names:List (Str×bt))(n:Nat)(acc:List (Str×Addr))(c:Addr),names.lookup x=aa .cell->(aT n names acc).lookup x=aa c->n<=c
 |[],_,_,_,h,_=>by cases h
 | (y,k)::r,n,acc,c,h,e=>by
  rw[vm]at h;unfold aT at e;cases hb:x==y with
  |true=>
   rw[hb]at h;have hk:k=.cell:=by cases h;rfl
   subst hk;rw[ak (show(cj==cj)=af from rfl)]at e;refine pV r (n+1) _ c (Nat.le_succ _) (λc' e'=>?_) e;rw[vm,hb]at e';cases e';exact wt _
  |false=>
   rw[hb]at h;split at e
   .exact w08 (Tw r (n+1) _ c h e)
   .exact Tw r n acc c h e
theorem Tx{x:Str}:∀(names:List (Str×bt))(n:Nat)(acc:List (Str×Addr)),(∀y∈names,y.1=x->y.2 ≠ .cell)->(aT n names acc).lookup x=acc.lookup x
 |[],_,_,_=>rfl
 | (y,k)::r,n,acc,h=>by
  unfold aT;have hr:∀y∈r,y.1=x->y.2 ≠ .cell:=λz hz=>h z (wc _ hz);split
  .rename_i hk;rw[Tx r (n+1) _ hr,vm];have hne:(x==y)=ab:=by
    cases hb:x==y with
    |false=>rfl
    |true=>exact aM (beq_iff_eq.mp hk) (h (y,k) wf (beq_iff_eq.mp hb).symm)
   rw[hne]
  .exact Tx r n acc hr
theorem Ty:∀(names:List (Str×bt))(n:Nat)(acc:List (Str×Addr))(p:Str×Addr),p∈aT n names acc->n<=p.2\/p∈acc
 |[],_,_,_,e=>.inr e
 | (y,k)::r,n,acc,p,e=>by
  unfold aT at e;split at e
  .rcases Ty r (n+1) _ p e with q|q
   .exact .inl (w08 q)
   .rcases wB.mp q with q|q
    .subst q;exact .inl (wt _)
    .exact .inr q
  .exact Ty r n acc p e
theorem KK:∀(names:List (Str×bt))(n:Nat)(acc:List (Str×Addr)),(∀p∈acc,p.2<n)->(acc.Pairwise λx y=>x.2≠y.2)->(aT n names acc).Pairwise λx y=>x.2≠y.2
 |[],_,_,_,h=>h
 | (y,k)::r,n,acc,hl,h=>by
  unfold aT;split
  .refine KK r (n+1) _ (λp hp=>?_) (vA.mpr ⟨λp hp e=>?_,h⟩)
   .rcases wB.mp hp with q|q
    .subst q;exact vU _
    .exact w1o (hl p q)
   .have e':n=p.2:=e;have q:=hl p hp;rw[<-e']at q;exact aM q (vG _)
  .exact KK r n acc hl h
theorem KL:∀(names:List (Str×bt))(n:Nat)(acc:List (Str×Addr)),aT n names acc=aT n names []++acc
 |[],_,_=>rfl
 |(y,k)::r,n,acc=>by
  unfold aT;split
  .rw[KL r (n+1) ((y,n)::acc),KL r (n+1) [(y,n)],ut];rfl
  .exact KL r n acc
def C1(env:Env):List (Str×bt)->List (Str×Addr)->List (Str×Addr)
 |[],acc=>acc
 |(y,k)::r,acc=>if k==.free then C1 env r (match env.cells.lookup y with|some c=>(y,c)::acc|none=>acc) else C1 env r acc
theorem Bl{env:Env}{x:Str}:∀(names:List (Str×bt))(acc:List (Str×Addr)),(∀c,acc.lookup x=aa c->env.cells.lookup x=aa c)->∀c,(C1 env names acc).lookup x=aa c->env.cells.lookup x=aa c
 |[],_,h=>h
 | (y,k)::r,acc,h=>by
  unfold C1;split
  .refine Bl r _ λc e=>?_;cases hy:env.cells.lookup y with
   |none=>rw[hy]at e;exact h c e
   |some d=>
    rw[hy]at e;dsimp only at e;rw[vm]at e;split at e
    .rename_i hb;cases e;rw[beq_iff_eq.mp hb];exact hy
    .exact h c e
  .exact Bl r acc h
theorem FL{env:Env}:∀(names:List (Str×bt))(acc:List (Str×Addr))(p:Str×Addr),p∈C1 env names acc->p∈acc\/env.cells.lookup p.1=aa p.2
 |[],_,_,h=>.inl h
 | (y,k)::r,acc,p,h=>by
  unfold C1 at h;split at h
  .rcases FL r _ p h with q|q
   .cases hy:env.cells.lookup y with
    |none=>rw[hy]at q;exact .inl q
    |some d=>
     rw[hy]at q;rcases wB.mp q with q|q
     .subst q;exact .inr hy
     .exact .inl q
   .exact .inr q
  .exact FL r acc p h
theorem Co{env:Env}{x:Str}:∀(names:List (Str×bt))(acc:List (Str×Addr)),(acc.lookup x).isSome=af->((C1 env names acc).lookup x).isSome=af
 |[],_,h=>h
 | (y,k)::r,acc,h=>by
  unfold C1;split
  .refine Co r _ ?_;cases hy:env.cells.lookup y with
   |none=>exact h
   |some d=>
    show(eJ x ((y,d)::acc)).isSome=af;rw[vm];split
    .rfl
    .exact h
  .exact Co r acc h
theorem FM{env:Env}{x:Str}{c:Addr}:∀(names:List (Str×bt))(acc:List (Str×Addr)),names.lookup x=aa .free->env.cells.lookup x=aa c->((C1 env names acc).lookup x).isSome=af
 |[],_,h,_=>by cases h
 | (y,k)::r,acc,h,hc=>by
  rw[vm]at h;unfold C1;cases hb:x==y with
  |true=>
   rw[hb]at h;have hk:k=.free:=by cases h;rfl
   subst hk;rw[ak (show(bF==bF)=af from rfl)];refine Co r _ ?_;have hxy:x=y:=beq_iff_eq.mp hb;subst hxy;rw[hc];show(eJ x ((x,c)::acc)).isSome=af;rw[vm,hb];rfl
  |false=>
   rw[hb]at h;split
   .exact FM r _ h hc
   .exact FM r _ h hc
theorem FN{env:Env}:∀(names:List (Str×bt))(acc:List (Str×Addr))(f:Str×bt->List (Str×Addr)->Sem (ForInStep (List (Str×Addr)))),
  (∀name kind cs,f (name,kind) cs=if kind==.free then(do let a <-cellOf env name;pure (.yield ((name,a)::cs))) else pure (.yield cs)) ->
  (∀y∈names,y.2=.free->∃c,env.cells.lookup y.1=aa c)->forIn names acc f=(pure (C1 env names acc):Sem _)
 |[],acc,f,hf,h=>by rw[w09];rfl
 | (y,k)::r,acc,f,hf,h=>by
  have hr:∀z∈r,z.2=.free->∃c,env.cells.lookup z.1=aa c:=λz hz=>h z (wc _ hz);rw[w0p,hf];unfold C1;by_cases hk:(k==bF)=af
  .rw[ak hk,ak hk];obtain⟨c,hc⟩:=h (y,k) wf (beq_iff_eq.mp hk);have hc':env.cells.lookup y=aa c:=hc;have e:cellOf env y=(pure c:Sem Addr):=by unfold cellOf;rw[hc']
   rw[e,hc'];simp only[pure_bind];exact FN r _ f hf hr
  .rw[ao hk,ao hk];simp only[pure_bind];exact FN r _ f hf hr
theorem Tz{scope:Scope}{env:Env}(h:∀y∈scope.names,y.2=.free->∃c,env.cells.lookup y.1=aa c):closureFor scope env=pure (C1 env scope.names []):=by
 unfold closureFor;simp only[];rw[FN scope.names [] _ (λname kind cs=>by cases hk:kind==bF<;>simp[hk]) h];rfl
end L2
end
section
namespace L2
section
variable {prog:aN}{w:aI}{A:bu}{R:Result->Shared->Prop}{s:Shared}
theorem Pt{elt target iter:az}{ifs:fw}{scope:Scope}{pos:Pos}{it acc:Value}{env:Env}(I:Nat->Shared->Prop)
  (turn:∀ n s,I n s→wpAny (model prog w) A (pyNext it) (fun r s₁=>match r with
   |none=>R (.ok .next) s₁
   | some v=>wpAny (model prog w) A (letOwnedTupleGo target it v) (fun _ s₁'=>wpAny (model prog w) A (assign target env v) (fun _ s₂ =>
    av (model prog w) A (forIn ifs af λc r=>if r=af then do let ok <-isTrue c env (eval c env);pure (dC ok) else pure (dC r)) (λok s₃=>
     if ok=af then av (model prog w) A (eval elt env) (λx s₄=>
      av (model prog w) A (call (.builtin "list.append") [acc,x]) (λ_ s₅=>∃m,m<n/\I m s₅) (notedBy (model prog w) A env λe s'=>R (.error e) s') s₄) (notedBy (model prog w) A env λe s'=>R (.error e) s') s₃
     else ∃m,m<n/\I m s₃) (notedBy (model prog w) A env λe s'=>R (.error e) s') s₂) (notedBy (model prog w) A env λe s'=>R (.error e) s') s₁')
    (notedBy (model prog w) A env λe s'=>R (.error e) s') s₁) (notedBy (model prog w) A env λe s'=>R (.error e) s') s)
  (n:Nat) (h:I n s) :
  codeAny (model prog w) A (.compLoop (.ListComp elt [⟨target,iter,ifs,0⟩] scope pos) 0 it acc env) R s:=by
 refine codeAny_loop rfl I (λn s hI=>?_) n h;show av _ A ((compTurn (.ListComp elt [⟨target,iter,ifs,0⟩] scope pos) 0 it acc env).onRaise (λx=>do noteFrame x env;theTreesLotGoes x)) _ _ s;refine wpAny_noted ?_;rw[compTurn_list];refine ai (dD (ai (bw (turn n s hI) (λr s₁ h₁=>?_) λ_ _ h'=>h')));cases r with
 |none=>exact ax h₁
 | some v =>
  refine ai (bw h₁ (λ_ s₁' h₁'=>?_) λ_ _ h'=>h');refine ai (bw h₁' (λ_ s₂ h₂=>ai (bw h₂ (λok s₃ h₃=>?_) λ_ _ h'=>h')) λ_ _ h'=>h');cases ok with
  |false=>exact ax ⟨rfl,h₃⟩
  |true=>
   exact ai (ai (bw h₃ (λx s₄ h₄=>ai (bw h₄ (λ_ s₅ h₅=>ax (ax ⟨rfl,h₅⟩)) λ_ _ h'=>h')) λ_ _ h'=>h'))
theorem z1h{M:Model}{E:aC}{scope:Scope}{globals:Addr}{cl:List (Str×Addr)}{qual:Str}{func:fJ}{code:Value}{env:Env}{Q:Env->Shared->Prop}
  (hQ:∀ h',h'.Ns s.heap.objs.size (fun _=>none)→(∀ b o,s.heap.get? b=some o→h'.get? b=some o)→(∀ n c,(n,c)∈cellsFrom (s.heap.objs.size+1) scope.names []→h'.IsCell c none) →
   Q (newEnv scope s.heap.objs.size globals (aT (s.heap.objs.size+1) scope.names cl) qual func code (aa env) dJ) { s with heap:=h' }) :
  av M A (newFunctionEnv scope globals cl [] qual func code (aa env)) Q E s:=by
 simp only[newFunctionEnv,Option.isSome_some,if_true];refine ai (wpAny_alloc ?_);refine ai (wpAny_layCells _ (λname kind cells=>by cases hkc:kind==cj<;>simp[hkc]) _ _ _ _ ?_);have ok:=cellsFrom_ok scope.names (s.heap.push { cls:=.type "dict",data:=.dict #[] }) (s.heap.objs.size+1) [] ⟨λ_ _ hm=>(nomatch hm),di⟩ (by rw[uc];exact wt _);rw[uc]at ok;rw[show({ s with heap:=s.heap.push { cls:=.type "dict",data:=.dict #[] } }:Shared).heap.objs.size=s.heap.objs.size+1 from uc ..];refine ai ?_;rw[w09];refine ax (ax ?_);exact hQ _ ((Heap.Ns.new s.heap (.type "dict")).keeps (pushCells_keeps _ _)) (λb o e=>pushCells_keeps _ _ b o (wm _ e)) λn c hm=>(ok.empty n c hm).1
end
end L2
end
section
namespace L2
def C2(X:Cx)(N:fq)(scope:Scope)(cl:List (Str×Addr))(C:Addr)(fp:ft)(s:Shared)(H:Hp):Cx where
 prog:=X.prog
 w:=X.w
 K:=X.K
 mg:=X.mg
 base:=X.base
 A:=X.A
 N:=N
 s₀:=s
 H₀:=H
 env:=compEnvC scope cl C X.env
 outer:=X.stack
 stack:=X.stack
 ex:=fp
 fn:=λx=>scope.names.lookup x==aa .cell
 calm:=X.calm
 pn:=[]
 xe:=λ_ _=>False
structure CompScope(X:Cx)(N:fq)(scope:Scope)(nt:Nat)(js:fu):Prop where
 kind:scope.kind=.function
 nd:(scope.names.map (·.1)).Nodup
 loc:∀x∈scope.names,x.2=.local->scope.names.lookup x.1=aa .local
 len:N.length=nt+js.length
 names:∀k j,js[k]?=aa j->∃x,N[nt+k]?=aa x/\X.N[j]?=aa x/\scope.names.lookup x=aa .free
 fre:∀x∈scope.names,x.2=.free->X.env.kindOf x.1=aa .cell\/X.env.kindOf x.1=aa .free
def iV(nt:Nat)(js:fu)(σ:St):St:=aP nt aj++js.map λj=>(σ[j]?).join
def PTs(X:Cx)(ifs:fw)(t:TT):Prop:=
 ∀(π:aB)(s:Shared)(σ:St)(H:Hp)(Q:Bool->Hp->Prop),Inv X π σ H s->t σ H Q ->
  av (model X.prog X.w) X.A (forIn ifs af λc r=>if r=af then do let ok <-isTrue c X.env (eval c X.env);pure (dC ok) else pure (dC r)) (TP X π σ Q) X.xe s
def tYes:TT:=λ_ H Q=>Q af H
theorem z4P{X:Cx}:PTs X [] tYes:=λπ s σ H Q I h=>wpAny_tests_nil ⟨H,I,h⟩
theorem z4Q{X:Cx}{c:az}{t:TT}(hc:PT X c t):PTs X [c] t:=λπ s σ H Q I h=>wpAny_tests_one (hc π s σ H Q I h)
theorem oW{a b:Nat}(h1:a+1<=b)(h2:b<a):False:=()
theorem W8{α:Type}:∀{l:List (Str×α)}{p:Str×α},(l.map (·.1)).Nodup->p∈l->l.lookup p.1=aa p.2
 |[],_,_,h=>by cases h
 | (y,k)::r,p,nd,h=>by
  have nd:(y::r.map (·.1)).Nodup:=nd;obtain⟨n1,n2⟩:=vQ.mp nd;rw[vm];rcases wB.mp h with e|e
  .subst e;show(match y==y with|true=>aa k|false=>_)=aa k;rw[beq_self_eq_true]
  .cases hb:p.1==y with
   |true=>
    rw[<-beq_iff_eq.mp hb]at n1;exact aM (wj.mpr ⟨p,e,rfl⟩) n1
   |false=>exact W8 n2 e
theorem Dr{env:Env}{x:Str}:∀{names:List (Str×bt)}{k:bt},names.lookup x=aa k ->
  (names.map λ(n,k)=>if(k==bF&&env.scope.kind==.function&&env.kindOf n==aa .cell) then(n,cj) else(n,k)).lookup x=aa (if(k==bF&&env.scope.kind==.function&&env.kindOf x==aa .cell)=af then .cell else k)
 |[],_,h=>by cases h
 | (y,k')::r,k,h=>by
  rw[vm]at h;show eJ x ((if(k'==bF&&env.scope.kind==.function&&env.kindOf y==aa .cell)=af then(y,cj) else(y,k'))::_)=_;cases hb:x==y with
  |true=>
   rw[hb]at h;have hk:k'=k:=by cases h;rfl
   have hxy:x=y:=beq_iff_eq.mp hb;subst hk;subst hxy;split<;>(rw[vm];rw[hb])
  |false=>
   rw[hb]at h;have ih:=@Dr env x r k h;split<;>(rw[vm];rw[hb];exact ih)
theorem Cp{env:Env}{x:Str}{k:bt}:∀{names:List (Str×bt)},
  (names.map λ(n,k)=>if(k==bF&&env.scope.kind==.function&&env.kindOf n==aa .cell) then(n,cj) else(n,k)).lookup x=aa k->∃k',names.lookup x=aa k'/\(k=k'\/(k'=.free/\k=.cell))
 |[],h=>by cases h
 | (y,k')::r,h=>by
  have h:eJ x ((if(k'==bF&&env.scope.kind==.function&&env.kindOf y==aa .cell)=af then(y,cj) else(y,k'))::r.map λ(n,k)=>if(k==bF&&env.scope.kind==.function&&env.kindOf n==aa .cell) then(n,cj) else(n,k))=aa k:=h;rw[vm];cases hb:x==y with
  |true=>
   split at h
   .rename_i hc;rw[vm,hb]at h;have hf:(k'==bF)=af:=by
     rw[wS,wS]at hc;exact hc.1.1
    cases h;exact⟨k',rfl,.inr ⟨beq_iff_eq.mp hf,rfl⟩⟩
   .rw[vm,hb]at h;cases h;exact⟨k,rfl,.inl rfl⟩
  |false=>
   split at h
   all_goals
     rw[vm,hb]at h;exact Cp h
section
variable {X:Cx}{N:fq}{scope:Scope}{nt:Nat}{js:fu}{π:aB}{σ:St}{H:Hp}{s:Shared}{fp:ft}
theorem z1i{s2:Shared}{H2:Hp}(S:CompScope X N scope nt js)(I2:Inv X π σ H2 s2)(I:Inv X π σ H s)(hu:Un (iL X.stack) fp H2 H s2.heap s.heap)(hos:s.os=s2.os)(hz:s2.heap.objs.size<=s.heap.objs.size)
   (hf:∀b∈fp,gY X π H b) (ho:∀b∈fp,∃o,s.heap.get? b=aa o) {h':aR}
   (ns:h'.Ns s.heap.objs.size (λ_=>aj)) (k:∀b o,s.heap.get? b=aa o->h'.get? b=aa o) (nc:∀n c,(n,c)∈aT (s.heap.objs.size+1) scope.names []->h'.IsCell c aj) :
   Inv (C2 X N scope (aT (s.heap.objs.size+1) scope.names (C1 X.env scope.names [])) s.heap.objs.size fp s2 H2) [] (iV nt js σ) H { s with heap:=h' }:=by
 have ok:=I.ok;have hcl:∀p∈C1 X.env scope.names [],X.env.cells.lookup p.1=aa p.2:=λp hp=>(FL _ _ p hp).resolve_left (by simp);have hlt:∀x c,X.env.cells.lookup x=aa c->c<s.heap.objs.size:=λx c e=>by
   obtain⟨v,o,ho,_⟩:=I.cell x c e;exact wD ho
 have mem:∀x c,(aT (s.heap.objs.size+1) scope.names (C1 X.env scope.names [])).lookup x=aa c->s.heap.objs.size+1<=c\/X.env.cells.lookup x=aa c:=λx c e=>by
   rcases Ty _ _ _ _ (bg e)with q|q
   .exact .inl q
   .exact .inr (hcl _ q)
 have frec:∀x,scope.names.lookup x=aa .free->∃c,X.env.cells.lookup x=aa c/\(aT (s.heap.objs.size+1) scope.names (C1 X.env scope.names [])).lookup x=aa c:=λx hx=>by
   obtain⟨c,hc⟩:=ok.has x (S.fre (x,.free) (bg hx) rfl);refine⟨c,hc,?_⟩;rw[Tx _ _ _ λy hy e=>?_]
   .obtain⟨d,hd⟩:=w00.mp (FM (env:=X.env) scope.names [] hx hc);have:=Bl (env:=X.env) (x:=x) scope.names [] (λc e=>by simp at e) d hd;rw[hc]at this;cases this;exact hd
   .have q:=W8 S.nd hy;rw[e,hx]at q;intro z;rw[z]at q;cases q
 refine⟨⟨ok.mod,S.kind,ok.glob,ok.blt,hz,λx y c hx hy=>?_,λx hx=>?_,λx c hx e=>?_,ok.hd,ok.frames,.inl rfl,λb hb=>⟨?_,λx c e=>?_⟩,λb o e=>?_,?_,λb o e hb=>?_,λb hb=>?_,I2.stack,I2.stkFree⟩,
   hos,I.bare,hu.trans (Un.kept k),⟨_,ns,λi x v h1 h2 h3=>?_⟩,λx c e=>?_,?_,λx c e=>?_,λp hp=>aM (show p∈([]:aB)from hp) (by simp),I.hok.kept k,?_⟩
 ·
   rcases mem x c hx with q|q
   .rcases mem y c hy with q'|q'
    .have in1:∀z:Str,(z,c)∈aT (s.heap.objs.size+1) scope.names (C1 X.env scope.names [])->(z,c)∈aT (s.heap.objs.size+1) scope.names []:=λz hz=>by
       rw[KL]at hz;rcases ww.mp hz with hz|hz
       .exact hz
       .exact(oW q (hlt _ _ (hcl _ hz))).elim
     exact name_of_addr (KK scope.names (s.heap.objs.size+1) [] (λp hp=>by simp at hp) di) (in1 x (bg hx)) (in1 y (bg hy))
    .exact(oW q (hlt _ _ q')).elim
   .rcases mem y c hy with q'|q'
    .exact(oW q' (hlt _ _ q)).elim
    .exact ok.inj x y c q q'
 ·
   have hx:(relabel scope X.env).names.lookup x=aa .cell\/(relabel scope X.env).names.lookup x=aa .free:=hx;have cs:scope.names.lookup x=aa .cell\/scope.names.lookup x=aa .free:=by
     rcases hx with q|q
     .obtain⟨k',e1,e2⟩:=Cp q;rcases e2 with e2|⟨e2,_⟩
      .rw[<-e2]at e1;exact .inl e1
      .rw[e2]at e1;exact .inr e1
     .obtain⟨k',e1,e2⟩:=Cp q;rcases e2 with e2|⟨_,e2⟩
      .rw[<-e2]at e1;exact .inr e1
      .cases e2
   rcases cs with q|q
   .exact w00.mp (dA scope.names _ _ (.inl q))
   .obtain⟨c,_,e⟩:=frec x q;exact⟨c,e⟩
 ·
   have hx:(scope.names.lookup x==aa .cell)=af:=hx;exact wO hz (w08 (Tw scope.names _ _ c (beq_iff_eq.mp hx) e))
 ·
   intro e;obtain⟨o,hb'⟩:=ho b hb;exact aM (wD hb') (by rw[e];exact vG _)
 .rcases mem x c e with q|q
  .intro z;obtain⟨o,hb'⟩:=ho b hb;have:=wD hb';rw[<-z]at this;exact oW q this
  .exact(hf b hb).2.2.2.2.1 x c q
 .exact I2.bs b o e
 .exact wO ok.bsz I2.sz
 ·
   rcases(hf b hb).2.2.2.1 with q|q
   .exact ok.noex b o e q
   .exact aM (wG (wD e) (wO ok.bsz q)) (vG _)
 ·
   intro z;rcases wB.mp (I.stkSub b z)with q|q
   .exact(hf b hb).2.1 q
   .exact(hf b hb).2.2.1 q
 ·
   have hi:nt<=i:=by
     by_cases hi:i<nt
     .unfold iV at h2;rw[wV (by simpa using hi),vE]at h2;split at h2<;>cases h2
     .rfl'
   unfold iV at h2;rw[vj (by simpa using hi),vW,wv]at h2;cases ej:js[i-nt]? with
   |none=>rw[ej]at h2;cases h2
   | some j =>
     rw[ej]at h2;have h2:(σ[j]?).join=aa v:=aO h2;obtain⟨y,n1,n2,n3⟩:=S.names _ _ ej;have hxy:x=y:=by
       have e:nt+(i-nt)=i:=()
       rw[e]at n1;have h1:N[i]?=aa x:=h1;rw[h1]at n1;exact aO n1
     subst hxy;have h2':σ[j]?=aa (aa v):=by
       cases eσ:σ[j]? with
       |none=>rw[eσ]at h2;cases h2
       | some a =>
         rw[eσ]at h2;have h2:a=aa v:=h2;rw[h2]
     obtain⟨m,hn,hl⟩:=I.loc;have kd:=S.fre (x,.free) (bg n3) rfl;obtain⟨u,ru,lk⟩:=hl j x v n2 h2' (.inr kd);refine⟨u,ru,?_⟩;obtain⟨c,c1,c2⟩:=frec x n3;rcases lk with⟨z,_⟩|⟨_,d,d1,d2⟩
     .have kd':X.env.kindOf x=aa .cell\/X.env.kindOf x=aa .free:=kd;rw[z]at kd';rcases kd' with q|q<;>cases q
     .rw[c1]at d1;cases d1;refine .inr ⟨?_,c,c2,d2.keeps k⟩;have:=Dr (env:=X.env) n3;show(relabel scope X.env).names.lookup x=aa .cell\/(relabel scope X.env).names.lookup x=aa .free;unfold relabel;dsimp only;rw[this];split
      .exact .inl rfl
      .exact .inr rfl
 ·
   have e:(aT (s.heap.objs.size+1) scope.names (C1 X.env scope.names [])).lookup x=aa c:=e;have hm:=bg e;rw[KL]at hm;rcases ww.mp hm with q|q
   .exact⟨aj,nc x c q⟩
   .obtain⟨v,hv⟩:=I.cell x c (hcl _ q);exact⟨v,hv.keeps k⟩
 .exact I.hok.fresh (wt _)
 .rcases mem x c e with q|q
  .exact I.hok.fresh (w08 q)
  .exact I.freeC x c q
 .show(iV nt js σ).length=N.length;unfold iV;rw[wF,vW,wn,S.len]
end
end L2
end
section
namespace L2
def Jv(nt:Nat)(js:fu)(wi:TI)(g:TG)(tc:Hp->TT)(te:Hp->TE):TE:=λσ H Q=>wi σ H λJ H1=>∀D,H1 D=aj ->
 ∃ W:Nat→Nat→List V→Hp→Prop,(∃ m,W 0 m [] (upd H1 D (.lst [])))∧∀ i m ys H,W i m ys H →
  (J.stop i H∧Q (.ref D) H)∨(J.go i H∧∀ x H',J.yld i H x H'→g x (iV nt js σ) H' fun σ2 H2=>tc H1 σ2 H2 fun b H3 =>
   if b=af then te H1 σ2 H3 λv H4=>H4 D=aa (.lst ys)/\ys.length<sizeLine/\∃m',m'<m/\W (i+1) m' (ys++[v]) (upd H4 D (.lst (ys++[v])))
   else ∃m',m'<m/\W (i+1) m' ys H3)
section
variable {X:Cx}{N:fq}{scope:Scope}{nt:Nat}{js:fu}{tg elt iter:az}{ifs:fw}{wi:TI}{g:TG}{tc:Hp->TT}{te:Hp->TE}{pos:Pos}
theorem z1j{σ σ2:St}(hl:σ2.length=(iV nt js σ).length)(h:∀i,nt<=i->σ2[i]?=(iV nt js σ)[i]?):∀(i:Nat)v,(iV nt js σ)[i]?=aa (aa v)->σ2[i]?=aa (aa v):=λi v e=>by
 by_cases hi:nt<=i
 .rw[h i hi];exact e
 .unfold iV at e;rw[wV (by rw[vW];rfl'),vE]at e;split at e<;>cases e
def jw(nt:Nat)(g:TG):Prop:=∀x σ H(Q:St->Hp->Prop),g x σ H Q->g x σ H λσ2 H2=>(σ2.length=σ.length/\∀i,nt<=i->σ2[i]?=σ[i]?)/\Q σ2 H2
theorem QU(S:CompScope X N scope nt js)(hc:X.calm=af)(hi:PI X tg iter wi)
  (hg:∀cl C fp s H,PG (C2 X N scope cl C fp s H) tg g) (ht:jw nt g) (hcs:∀cl C fp s H,PTs (C2 X N scope cl C fp s H) ifs (tc H)) (he:∀cl C fp s H,PE (C2 X N scope cl C fp s H) elt (te H))
  {use:Option (Value->Sem Unit)} {π:aB} {s:Shared} {σ:St} {H:Hp} {Q:VK} {Q':aC} (I:Inv X π σ H s) (h:Jv nt js wi g tc te σ H Q)
  (hs:∀x,bp iter X.env x=pure x)
  (fin:∀(D C:Addr)(H':Hp)(s':Shared),Inv X π σ H' s'->Q (.ref D) H'->H' C=aj->C≠X.env.locals->(X.s₀.heap.objs.size<=C)->(∀x c,X.env.cells.lookup x=aa c->c≠C)->(∀p∈X.pn++π,p.1≠C)->(∃m,s'.heap.Ns C m) ->
    compPost (model X.prog X.w) X.A X.xe use Q' (.ref D) C (.ok .next) s') :
  av (model X.prog X.w) X.A (comprehension (.ListComp elt [⟨tg,iter,ifs,0⟩] scope pos) scope X.env (firstIterPos [⟨tg,iter,ifs,0⟩] pos) (newList []) ab (eval iter X.env) use) Q' X.xe s:=by
 have clo:closureFor scope X.env=pure (C1 X.env scope.names []):=Tz λy hy e=>I.ok.has y.1 (S.fre y hy e);refine wpAny_comprehension_free (cl:=C1 X.env scope.names []) rfl hs clo S.kind S.loc (gF (hi π s σ H _ I h) λxv s1 h1=>gF h1 λitv s2 h2=>?_);obtain⟨it,fp,tn,J,H2,rfl,I2,T,st2,f2,q2⟩:=h2;refine cN (hd:=by size_fits) ?_;have fresh2:H2 s2.heap.objs.size=aj:=I2.fresh;have I3:=I2.lnew (ys:=[]) (its:=[]) (t':=s2.toks) .nil (vh _);obtain⟨W,⟨m0,w0⟩,turn⟩:=q2 s2.heap.objs.size fresh2;have ltf:∀b∈fp,b<s2.heap.objs.size:=λb hb=>by
  obtain⟨o,e,_⟩:=T.obj 0 _ st2 b hb;exact wD e
 have ned:∀b∈fp,b≠s2.heap.objs.size:=λb hb=>vt (ltf b hb);have f3:∀b∈fp,gY X π (upd H2 s2.heap.objs.size (.lst [])) b:=λb hb=>⟨by rw[v8 (ned b hb)];exact(f2 b hb).1,(f2 b hb).2⟩;generalize e3:({ s2 with heap:=s2.heap.push { cls:=.type "list",dict:=aj,data:=.seq ([]:aF).toArray } }:Shared)=s3 at *;have k3:∀b o,s2.heap.get? b=aa o->s3.heap.get? b=aa o:=λb o e=>by rw[<-e3];exact wm _ e
 have os3:s3.os=s2.os:=by rw[<-e3]
 have sz3:s2.heap.objs.size<s3.heap.objs.size:=by rw[<-e3];show _<(s2.heap.push _).objs.size;rw[uc];exact vU _
 refine z1h λh4 ns4 k4 nc4=>?_;have I4:=z1i S I2 I3 (Un.laid k3 (wt _) fresh2) os3 (vZ sz3) f3 (λb hb=>by obtain⟨o,e,_⟩:=T.obj 0 _ st2 b hb;exact⟨o,k3 b o e⟩) ns4 k4 nc4;have st4:tn 0 h4:=T.keep _ _ _ st2 λb _ o e=>k4 b o (k3 b o e);generalize eC:s3.heap.objs.size=C at *;have stat:∀{H':Hp},(∀b∈fp,H' b=aj)->∀b∈fp,gY (C2 X N scope (aT (C+1) scope.names (C1 X.env scope.names [])) C fp s2 H2) [] H' b:=λhn b hb=>
  ⟨hn b hb,(I4.ok.exf b hb).1,I4.ok.exfs b hb,.inl hb,(I4.ok.exf b hb).2,λp hp=>aM (show p∈([]:aB)from hp) (by simp)⟩
 have loop:∀ s4:Shared,s4={ s3 with heap:=h4 }→codeAny (model X.prog X.w) X.A (.compLoop (.ListComp elt [⟨tg,iter,ifs,0⟩] scope pos) 0 (.ref it) (.ref s2.heap.objs.size) (compEnvC scope (cellsFrom (C+1) scope.names (C1 X.env scope.names [])) C X.env))
    (compPost (model X.prog X.w) X.A X.xe use Q' (.ref s2.heap.objs.size) C) s4:=by
  rintro s4 rfl;refine Pt (λn s'=>∃i ys H',Inv (C2 X N scope (aT (C+1) scope.names (C1 X.env scope.names [])) C fp s2 H2) [] (iV nt js σ) H' s'/\tn i s'.heap/\(∀b∈fp,H' b=aj)/\W i n ys H') ?_ m0
    ⟨0,[],_,I4,st4,λb hb=>(f3 b hb).1,w0⟩
  rintro n s5 ⟨i,ys,H5,I5,st5,fr5,w5⟩;rcases turn i n ys H5 w5 with⟨stop,q⟩|⟨go,step⟩
  .refine bw (T.done (C2 X N scope (aT (C+1) scope.names (C1 X.env scope.names [])) C fp s2 H2) rfl rfl rfl hc i [] s5 _ H5 _ I5 (stat fr5) st5 stop) (λr s6⟨hr,I6⟩=>?_) λ_ _ z=>z;subst hr;have u:Un (iL X.stack) fp H2 H5 s2.heap s6.heap:=I6.base;have J6:Inv X π σ H5 s6:=I2.call' I6.os u I6.hok I6.bare λb hb=>⟨(f2 b hb).2.2.2.1,(f2 b hb).2.1,(f2 b hb).2.2.2.2.1,(f2 b hb).2.2.2.2.2⟩;have hCs:s2.heap.objs.size<=C:=vZ sz3;refine fin _ C H5 s6 J6 q I6.free (λz=>?_) (wO I2.sz hCs) (λx c e z=>?_) (λp hp z=>?_) ?_
   .exact aM I2.lt (by rw[<-z];exact w1W.mpr hCs)
   .obtain⟨v,o,ho,_⟩:=I2.cell x c e;exact aM (wD ho) (by rw[z];exact w1W.mpr hCs)
   .exact aM (wD (I2.pin p hp).1) (by rw[z];exact w1W.mpr hCs)
   .obtain⟨m,hm,_⟩:=I6.loc;exact⟨m,hm⟩
  .refine bw (T.item (C2 X N scope (aT (C+1) scope.names (C1 X.env scope.names [])) C fp s2 H2) rfl rfl rfl hc i [] s5 _ H5 _ I5 (stat fr5) st5 go) (λr s6⟨u,hr,h6⟩=>?_) λ_ _ z=>z;subst hr;refine bw h6 (λ_ s7⟨x,H7,I7,r7,y7,st7,fr7⟩=>?_) λ_ _ z=>z;have I7':=I7.pinned (stat fr7) (T.obj _ _ st7);refine bw (hg _ _ _ _ _ _ s7 _ H7 x u _ I7' r7 (ht _ _ _ _ (step x H7 y7))) (λ_ s8⟨σ8,H8,I8,⟨l8,o8⟩,q8⟩=>?_) λ_ _ z=>z.elim;have again:∀{s9:Shared}{H9:Hp}{ys9:fL},Inv (C2 X N scope (aT (C+1) scope.names (C1 X.env scope.names [])) C fp s2 H2) ([]++KH fp s7.heap) σ8 H9 s9->(∃m',m'<n/\W (i+1) m' ys9 H9) ->
      ∃m,m<n/\∃i ys H',Inv (C2 X N scope (aT (C+1) scope.names (C1 X.env scope.names [])) C fp s2 H2) [] (iV nt js σ) H' s9/\tn i s9.heap/\(∀b∈fp,H' b=aj)/\W i m ys H':=λ{s9 H9 ys9}I9⟨m',hm,w9⟩=>by
     refine⟨m',hm,i+1,ys9,H9,I9.unpinned.weak l8.symm (z1j l8 o8),T.keep _ _ _ st7 λb hb o e=>(I9.pin (b,o) (wP _ (wP _ (Cm hb e)))).1,λb hb=>?_,w9⟩;obtain⟨o,e,_⟩:=T.obj _ _ st7 b hb;exact(I9.pin (b,o) (wP _ (wP _ (Cm hb e)))).2.1
   refine bw (hcs _ _ _ _ _ _ s8 σ8 H8 _ I8 q8) (λok s9⟨H9,I9,q9⟩=>?_) λ_ _ z=>z.elim;cases ok with
   | false =>
     rw[ao vi]at q9|-;exact again I9 q9
   | true =>
     rw[ak rfl]at q9|-;refine bw (he _ _ _ _ _ _ s9 σ8 H9 _ I9 q9) (λy s10⟨v,H10,I10,r10,d10,l10,w10⟩=>?_) λ_ _ z=>z.elim;refine bw (NC (X:=C2 X N scope (aT (C+1) scope.names (C1 X.env scope.names [])) C fp s2 H2) _ s10 σ8 H10 (.ref s2.heap.objs.size) [v] (.ref s2.heap.objs.size) [y] (λz H'=>∃m',m'<n/\W (i+1) m' (ys++[v]) H') I10 rfl (.cons r10 .nil) ⟨_,ys,v,rfl,rfl,d10,l10,w10⟩) (λ_ s11⟨_,H11,I11,_,w11⟩=>?_) λ_ _ z=>z.elim;exact again I11 w11
 exact codeAny_compStart_list (loop _ rfl) (T.self _ _ _ _ _ st4 (loop _ rfl))
theorem z4R(S:CompScope X N scope nt js)(hc:X.calm=af)(hi:PI X tg iter wi)
  (hg:∀cl C fp s H,PG (C2 X N scope cl C fp s H) tg g) (ht:jw nt g) (hcs:∀cl C fp s H,PTs (C2 X N scope cl C fp s H) ifs (tc H)) (he:∀cl C fp s H,PE (C2 X N scope cl C fp s H) elt (te H))
  (hs:∀x,bp iter X.env x=pure x:=by intro _;rfl):PE X (.ListComp elt [⟨tg,iter,ifs,0⟩] scope pos) (Jv nt js wi g tc te):=by
 intro π s σ H Q I h;rw[eval_ListComp];refine QU (use:=aj) S hc hi hg ht hcs he I h hs ?_;rintro D C H' s' I' q hC hL hz hcl hpn ⟨m,hm⟩;exact⟨m,hm,λh' sb=>⟨.ref D,H',I'.turned (λb o hb e=>sb.extBut b o hb e) hC hL (.inr hz) hcl hpn,rfl,q⟩⟩
theorem YA{i:Nat}{x:Str}{pos' spos:Pos}(hN:X.N.Nodup)(hix:X.N[i]?=aa x)(hx:X.env.scope.names.lookup x=aa .local)(S:CompScope X N scope nt js)(hc:X.calm=af)(hi:PI X tg iter wi)
  (hg:∀cl C fp s H,PG (C2 X N scope cl C fp s H) tg g) (ht:jw nt g) (hcs:∀cl C fp s H,PTs (C2 X N scope cl C fp s H) ifs (tc H)) (he:∀cl C fp s H,PE (C2 X N scope cl C fp s H) elt (te H))
  (hsw:cD (.ListComp elt [⟨tg,iter,ifs,0⟩] scope pos) (aa (.Name x pos')) spos.line X.env=pure af)
  (hs:∀x,bp iter X.env x=pure x:=by intro _;rfl):PS X (.Assign [.Name x pos'] (.ListComp elt [⟨tg,iter,ifs,0⟩] scope pos) spos) (ie (Jv nt js wi g tc te) (Ad i)):=by
 intro π s σ H D0 I h;rw[exec_Assign_Name_used _ _ _ _ hsw];refine ai (dD (ai ?_));show av _ X.A (do let _ <-comprehension (.ListComp elt [⟨tg,iter,ifs,0⟩] scope pos) scope X.env _ (newList []) ab (eval iter X.env) (aa (assign (.Name x pos') X.env))) _ _ s;refine ai (bw (QU (use:=aa (assign (.Name x pos') X.env)) (Q':=λ_ s'=>SP X π D0 .next s') S hc hi hg ht hcs he I h hs λD C H' s' I' q hC hL hz hcl hpn⟨m,hm⟩=>?_) (λ_ s' hq=>ax (ax hq)) λ_ _ e=>e);show av _ X.A (assign (.Name x pos') X.env (.ref D)) _ _ s';refine wpAny_assign_Name (Nq (v:=.ref D) I' hN hix (.inl hx) rfl (λs'' I''⟨a,sb,ha⟩=>?_) (.inr hx));have hCa:C≠a:=by
  rintro rfl;rcases ha with ha|ha
  .exact hL ha
  .exact hcl x C ha rfl
 refine⟨m,hm.sameBut sb hCa,λh' sb'=>⟨_,H',I''.turned (λb o hb e=>sb'.extBut b o hb e) hC hL (.inr hz) hcl hpn,q⟩⟩
end
end L2
end
section
namespace L2
section
variable {X:Cx}
def oR(_ j:Int):Prop:=j≠0/\j.natAbs.log2<9000
theorem z1k:ik X (bM .FloorDiv) (rI oR λi j=>.int (i.fdiv j)):=oV λ_ _ _ _ _ _ _ hc q=>floordiv_int hc.1 q (.inl (PyProof.noPylong_of_log2 hc.2))
theorem Pu{i:Int}{k:Nat}(h:i.natAbs<2^k):bB i<=k:=by
 unfold bB;split
 .exact vh _
 .rename_i h0;have h1:i.natAbs≠0:=by
   intro e;apply h0;have:i=0:=w0w.mp e;subst this;rfl
  exact Nat.succ_le_of_lt ((w1G h1).mpr h)
theorem nI{x:Str}{T:String}{pos:Pos}(hg:Gl X x)(hm:X.mg x=aj)(hv:bq x=aa (.type T))(hn:x ≠ "__name__":=by decide)(hd:(x==("__debug__":Str))=ab:=by decide):PE X (.Name x pos) (tC (.ty T)):=z4y (v:=V.ty T) hg hm hv rfl hn hd
end
end L2
end
section
namespace L2
def fU(A:ft)(H:Hp):Hp:=λb=>if b∈A then aj else H b
def E3(A:ft)(H H':Hp):Hp:=λb=>if b∈A then H b else H' b
section
variable {A:ft}{H H' H1:Hp}{a b:Addr}{o:HO}
theorem V3(h:b∈A):fU A H b=aj:=ak h
theorem r9(h:b∉A):fU A H b=H b:=ao h
theorem R6(h:fU A H b=aa o):b∉A/\H b=aa o:=by
 unfold fU at h;split at h
 .cases h
 .rename_i q;exact⟨q,h⟩
theorem A9:Same (fU A H) H:=λb o e=>(R6 e).2
theorem QV:fU [] H=H:=funext λb=>by unfold fU;simp
theorem AM(h:b∈A):E3 A H H' b=H b:=ak h
theorem F7(h:b∉A):E3 A H H' b=H' b:=ao h
theorem Same.glue(h:Same (fU A H) H')(hn:∀a∈A,H' a=aj):Same H (E3 A H H'):=λb o e=>by
 by_cases q:b∈A
 .rw[AM q];exact e
 .rw[F7 q];exact h b o (by rw[r9 q];exact e)
theorem R7(hn:∀a∈A,H' a=aj):fU A (E3 A H H')=H':=funext λb=>by
 by_cases q:b∈A
 .rw[V3 q,hn b q]
 .rw[r9 q,F7 q]
end
def iQ(X:Cx)(A:ft)(H:Hp):Prop:=∀a∈A,(∃vs,H a=aa (.lst vs))/\X.H₀ a=aj
section
variable {X:Cx}{A:ft}{π:aB}{σ:St}{H H':Hp}{s s':Shared}
def QW(h:aR)(A:ft):aB:=A.filterMap λa=>(h.get? a).map λo=>(a,o)
theorem NE{h:aR}{a:Addr}{o:Obj}(ha:a∈A)(e:h.get? a=aa o):(a,o)∈QW h A:=uB.mpr ⟨a,ha,by rw[e];rfl⟩
theorem z1l{h:aR}{p:Addr×Obj}(hp:p∈QW h A):p.1∈A/\h.get? p.1=aa p.2:=by
 obtain⟨a,ha,e⟩:=uB.mp hp;cases q:h.get? a with
 |none=>rw[q]at e;cases e
 |some o=>rw[q]at e;cases e;exact⟨ha,q⟩
theorem Inv.fsFree(I:Inv X π σ H s){b:Addr}(hb:b∈X.fs):H b=aj:=by
 obtain⟨_,o,ho,_⟩:=I.ok.funs.mem hb;exact I.base.free b o ho (I.ok.frf b hb) λz=>I.ok.exfs b z hb
theorem Inv.hide(I:Inv X π σ H s)(hA:iQ X A H):Inv X (π++QW s.heap A) σ (fU A H) s:=by
 have nl:∀b o,H b=aa o->(∀vs,o ≠ .lst vs)->b∉A:=λb o e n hb=>by
   obtain⟨⟨vs,q⟩,_⟩:=hA b hb;rw[e]at q;exact n vs (aO q)
 refine⟨I.ok,I.os,I.bare,⟨I.base.keep,I.base.slot,λb o e n hx=>?_,I.base.there,λb xs e=>?_,λb o u e=>?_,λb ps e=>?_⟩,I.loc,I.cell,?_,λx c e=>?_,λp hp=>?_,λa o e=>?_,I.len⟩
 .have:=I.base.free b o e n hx;unfold fU;split
  .rfl
  .exact this
 .have:=I.base.tups b xs e;rw[r9 (nl b _ this λ_ z=>by cases z)];exact this
 .have:=I.base.frzs b o u e;rw[r9 (nl b _ this λ_ z=>by cases z)];exact this
 .obtain⟨more,this⟩:=I.base.tbls b ps e;exact⟨more,by rw[r9 (nl b _ this λ_ z=>by cases z)];exact this⟩
 .have:=I.free;unfold fU;split
  .rfl
  .exact this
 .have:=I.freeC x c e;unfold fU;split
  .rfl
  .exact this
 .rw[<-ut]at hp;rcases ww.mp hp with hp|hp
  .obtain⟨q1,q2,q3⟩:=I.pin p hp;refine⟨q1,?_,q3⟩;unfold fU;split
   .rfl
   .exact q2
  .obtain⟨q1,q2⟩:=z1l hp;obtain⟨⟨vs,q⟩,_⟩:=hA _ q1;refine⟨q2,V3 q1,λz=>?_,λz=>?_,λv z=>?_⟩
   .rw[z,I.free]at q;cases q
   .rw[I.fsFree z]at q;cases q
   .obtain⟨_,its,n,_,e⟩:=I.hok _ _ q;rw[q2]at e;have e:=aO e;rw[e]at z;cases z
 .obtain⟨q1,q2⟩:=R6 e;refine(I.hok a o q2).stay (λb u _ z=>z) (λb z=>?_) (λb xs z=>?_)
  .rw[r9 (nl b _ z λ_ z=>by cases z)];exact z
  .rw[r9 (nl b _ z λ_ z=>by cases z)];exact z
theorem Inv.unhide{σ':St}(I:Inv X π σ H s)(hA:iQ X A H)(J:Inv X (π++QW s.heap A) σ' H' s'):(∀a∈A,H' a=aj)/\Inv X π σ' (E3 A H H') s':=by
 have pn:∀a∈A,∃o,s.heap.get? a=aa o/\s'.heap.get? a=aa o/\H' a=aj:=λa ha=>by
   obtain⟨⟨vs,q⟩,_⟩:=hA a ha;obtain⟨_,its,n,_,e⟩:=I.hok _ _ q;have:=J.pin _ (wP _ (wP _ (NE ha e)));exact⟨_,e,this.1,this.2.1⟩
 have hn:∀a∈A,H' a=aj:=λa ha=>by obtain⟨o,_,_,q⟩:=pn a ha;exact q
 have out:∀b,H b=aj->b∉A:=λb e hb=>by
   obtain⟨⟨vs,q⟩,_⟩:=hA b hb;rw[e]at q;cases q
 have tr:∀b o,H' b=aa o->b∉A:=λb o e hb=>by rw[hn b hb]at e;cases e
 refine⟨hn,J.ok,J.os,J.bare,⟨J.base.keep,J.base.slot,λb o e n hx=>?_,J.base.there,λb xs e=>?_,λb o u e=>?_,λb ps e=>?_⟩,J.loc,J.cell,?_,λx c e=>?_,λp hp=>?_,λa o e=>?_,J.len⟩
 .rw[F7 (out b (I.base.free b o e n hx))];exact J.base.free b o e n hx
 .have:=J.base.tups b xs e;rw[F7 (tr b _ this)];exact this
 .have:=J.base.frzs b o u e;rw[F7 (tr b _ this)];exact this
 .obtain⟨more,this⟩:=J.base.tbls b ps e;exact⟨more,by rw[F7 (tr b _ this)];exact this⟩
 .rw[F7 (out _ I.free)];exact J.free
 .rw[F7 (out _ (I.freeC x c e))];exact J.freeC x c e
 .have hp':p∈X.pn++(π++QW s.heap A):=by
    rw[<-ut];exact ul _ hp
  obtain⟨q1,q2,q3⟩:=J.pin p hp';refine⟨q1,?_,q3⟩;rw[F7 (out _ (I.pin p hp).2.1)];exact q2
 .by_cases ha:a∈A
  .rw[AM ha]at e;obtain⟨⟨vs,q⟩,_⟩:=hA a ha;rw[q]at e;cases e;obtain⟨hz,its,n,r,e1⟩:=I.hok _ _ q;obtain⟨o,e2,e3,_⟩:=pn a ha;rw[e1]at e2;cases e2;exact⟨hz,its,n,r,e3⟩
  .rw[F7 ha]at e;refine(J.hok a o e).stay (λb u _ z=>z) (λb z=>?_) (λb xs z=>?_)
   .rw[F7 (tr b _ z)];exact z
   .rw[F7 (tr b _ z)];exact z
theorem PE.frame{e:az}{t:TE}(h:PE X e t):PE X e (λσ H Q=>∃A,iQ X A H/\t σ (fU A H) λv H'=>(∀a∈A,H' a=aj)->Q v (E3 A H H')):=by
 intro π s σ H Q I ⟨A,hA,z⟩;refine gF (h _ s σ _ _ (I.hide hA) z) ?_;rintro u s' ⟨v,H',J,r,q⟩;obtain⟨hn,J'⟩:=I.unhide hA J;exact⟨v,_,J',r,q hn⟩
theorem PA.frame{es:fw}{t:TA}(h:PA X es t):PA X es (λσ H Q=>∃A,iQ X A H/\t σ (fU A H) λv H'=>(∀a∈A,H' a=aj)->Q v (E3 A H H')):=by
 intro pos π s σ H Q I ⟨A,hA,z⟩;refine gF (h pos _ s σ _ _ (I.hide hA) z) ?_;rintro u s' ⟨v,H',J,r,q⟩;obtain⟨hn,J'⟩:=I.unhide hA J;exact⟨v,_,J',r,q hn⟩
def qC(A:ft)(H:Hp)(D:Ends):Ends where
 nx:=λσ H'=>(∀a∈A,H' a=aj)->D.nx σ (E3 A H H')
 rt:=λv H'=>(∀a∈A,H' a=aj)->D.rt v (E3 A H H')
 bk:=λσ H'=>(∀a∈A,H' a=aj)->D.bk σ (E3 A H H')
 ct:=λσ H'=>(∀a∈A,H' a=aj)->D.ct σ (E3 A H H')
theorem PS.frame{st:aJ}{t:TS}(h:PS X st t):PS X st (λD σ H=>∃A,iQ X A H/\t (qC A H D) σ (fU A H)):=by
 intro π s σ H D I ⟨A,hA,z⟩;refine gF (h _ s σ _ _ (I.hide hA) z) λf s' q=>?_;cases f with
 |next=>obtain⟨σ',H',J,q⟩:=q;obtain⟨hn,J'⟩:=I.unhide hA J;exact⟨_,_,J',q hn⟩
 |brk=>obtain⟨σ',H',J,q⟩:=q;obtain⟨hn,J'⟩:=I.unhide hA J;exact⟨_,_,J',q hn⟩
 |cont=>obtain⟨σ',H',J,q⟩:=q;obtain⟨hn,J'⟩:=I.unhide hA J;exact⟨_,_,J',q hn⟩
 |ret u=>obtain⟨v,σ',H',J,r,q⟩:=q;obtain⟨hn,J'⟩:=I.unhide hA J;exact⟨_,_,_,J',r,q hn⟩
theorem PI.frame{tg e:az}{t:TI}(h:PI X tg e t):PI X tg e (λσ H R=>∃A,iQ X A H/\t σ (fU A H) λJ H'=>(∀a∈A,H' a=aj)->R J (E3 A H H')):=by
 intro π s σ H R I ⟨A,hA,z⟩;refine gF (h _ s σ _ _ (I.hide hA) z) λv s1 q=>gF q ?_;rintro itv s2 ⟨it,fp,tn,J,H',e,I2,T,st,hf,r⟩;obtain⟨hn,I3⟩:=I.unhide hA I2;refine⟨it,fp,tn,J,_,e,I3,T,st,λb hb=>?_,r hn⟩;obtain⟨f1,f2,f3,f4,f5,f6⟩:=hf b hb;have hbA:b∉A:=λha=>by
  obtain⟨⟨vs,q⟩,_⟩:=hA b ha;obtain⟨_,its,n,_,e⟩:=I.hok _ _ q;exact f6 _ (wP _ (wP _ (NE ha e))) rfl
 refine⟨by rw[F7 hbA];exact f1,f2,f3,f4,f5,λp hp=>f6 p ?_⟩;rw[<-ut];exact ul _ hp
end
end L2
end
section
namespace L2
inductive Dt where
 |non|bl (b:Bool)|int (i:Int)|str (x:Str)|lst (xs:List Dt)|tup (xs:List Dt)|scr (ns:aH)|dic|obj (C:Addr) (k b:Dt) (es:List Dt)
abbrev fK:=List Dt
structure Bk(K:aD)(C:Addr):Prop where
 cls:Cls K C
 n1:KJ K C "kinds"
 n2:KJ K C "bills"
 n3:KJ K C "earlier"
 ha:cV K (.ref C) "__class__"=aa (aa (.builtin "object.__class__"))
 hn:PySem.W.specialIn K (.builtin "object.__class__") "__get__"=aa (aa (.builtin "getset_descriptor.__get__"))
 tk:PySem.W.takesIn K (.builtin "object.__class__")=aa af
 hm:PySem.W.mroIn K C (.type "object")=aa af
 is:∀T∈["int","bool","str","list","tuple","dict"],eQ K (.ref C) (.type T)=aa ab
def emp:Hp:=λ_=>aj
def SqF(K:aD)(H:Hp)(a:Addr)(xs:fL):Prop:=
 (∃ q,H a=some (.frz q (.lst xs))) ∨
  ∃(o:Obj)(its:fE)(n:Nat),K.lookup a=aa o/\o.cls=.type "list" /\ o.dict=aj/\o.data=.seq its n/\its.size<=sizeLine/\Vals xs its.toList
section
variable {K:aD}{H H':Hp}{a:Addr}{xs:fL}
theorem SqF.sq(h:SqF K H a xs):SqL K H a xs:=h.elim (λh=>.inl (.inr h)) .inr
theorem SqF.mono(h:SqF K H a xs)(e:Same H H'):SqF K H' a xs:=h.elim (λ⟨q,h⟩=>.inl ⟨q,e _ _ h⟩) .inr
theorem SqF.hid{A:ft}(h:SqF K H a xs)(n:a∉A):SqF K (fU A H) a xs:=h.elim (λ⟨q,h⟩=>.inl ⟨q,by rw[r9 n];exact h⟩) .inr
theorem SqF.of(h:SqL K H a xs)(o:jy H):SqF K H a xs:=by
 rcases h with(h|h)|h
 .rcases o a with z|⟨q,ys,z⟩<;>rw[h]at z<;>cases z
 .exact .inl h
 .exact .inr h
end
theorem GJ{A C:ft}{H:Hp}:fU A (fU C H)=fU C (fU A H):=funext λb=>by
 unfold fU;by_cases p:b∈A<;>by_cases q:b∈C<;>simp[p,q]
theorem E9{A:ft}{H H':Hp}(h:Same H H'):Same (fU A H) (fU A H'):=λb o e=>by
 obtain⟨q1,q2⟩:=R6 e;rw[r9 q1];exact h b o q2
theorem BA{A B:ft}{H:Hp}(h:∀a∈B,a∈A):Same (fU A H) (fU B H):=λb o e=>by
 obtain⟨q1,q2⟩:=R6 e;rw[r9 λz=>q1 (h b z)];exact q2
theorem Same.seqT{K:aD}{H H':Hp}{a:Addr}{xs:fL}(e:Same H H')(h:SqT K H a xs):SqT K H' a xs:=by
 rcases h with(h|⟨o,h⟩)|h
 .exact .inl (.inl (e _ _ h))
 .exact .inl (.inr ⟨o,e _ _ h⟩)
 .exact .inr h
theorem Same.emp{H:Hp}:Same emp H:=λ_ _ e=>by cases e
def kf(a:Addr)(h:aR):Prop:=h.get? a=aa { cls:=.type "dict",data:=.dict #[] }
mutual
def Rp(K:aD)(B:Hp):Dt->Hp->V->Prop
 |.non,_,v=>v=.non
 |.bl b,_,v=>v=.bl b
 |.int i,_,v=>v=.int i
 |.str x,_,v=>v=.str x
 |.dic,H,v=>∃a,v=.ref a/\H a=aa (.ext (kf a))
 |.lst ds,H,v=>∃a vs,v=.ref a/\B a=aj/\H a=aa (.lst vs)/\Rps K B ds (fU [a] H) vs
 |.tup ds,H,v=>∃a vs,v=.ref a/\SqT K H a vs/\Rps K B ds H vs
 |.scr ns,H,v=>∃a,v=.ref a/\B a=aj/\SqF K H a (ns.map V.int)
 |.obj C k b es,H,v=>∃a dx vk vb e vs,v=.ref a/\B a=aj/\H a=aa (.ins C dx [("kinds",vk),("bills",vb),("earlier",.ref e)])/\H dx=aa (.own a)/\B e=aj/\H e=aa (.lst vs)/\Bk K C/\Rp K B k (fU [a,e] H) vk/\Rp K B b (fU [a,e] H) vb/\Rps K B es (fU [a,e] H) vs
def Rps(K:aD)(B:Hp):fK->Hp->fL->Prop
 |[],_,vs=>vs=[]
 |d::ds,H,vs=>∃v r,vs=v::r/\Rp K B d H v/\Rps K B ds H r
end
section
variable {K:aD}{B B' H H':Hp}
theorem Rp.int_{i:Int}{v:V}:Rp K B (.int i) H v↔v=.int i:=by unfold Rp;exact Iff.rfl
theorem Rp.bl_{b:Bool}{v:V}:Rp K B (.bl b) H v↔v=.bl b:=by unfold Rp;exact Iff.rfl
theorem Rp.non_{v:V}:Rp K B .non H v↔v=.non:=by unfold Rp;exact Iff.rfl
theorem Rp.str_{x:Str}{v:V}:Rp K B (.str x) H v↔v=.str x:=by unfold Rp;exact Iff.rfl
theorem Rp.dic_{v:V}:Rp K B .dic H v↔∃a,v=.ref a/\H a=aa (.ext (kf a)):=by unfold Rp;exact Iff.rfl
theorem Rp.lst_{ds:fK}{v:V}:Rp K B (.lst ds) H v↔∃a vs,v=.ref a/\B a=aj/\H a=aa (.lst vs)/\Rps K B ds (fU [a] H) vs:=by rw[Rp]
theorem Rp.tup_{ds:fK}{v:V}:Rp K B (.tup ds) H v↔∃a vs,v=.ref a/\SqT K H a vs/\Rps K B ds H vs:=by rw[Rp]
theorem Rp.obj_{C:Addr}{k b:Dt}{es:fK}{v:V}:Rp K B (.obj C k b es) H v↔∃a dx vk vb e vs,v=.ref a/\B a=aj/\H a=aa (.ins C dx [("kinds",vk),("bills",vb),("earlier",.ref e)])/\H dx=aa (.own a)/\B e=aj/\H e=aa (.lst vs)/\Bk K C/\Rp K B k (fU [a,e] H) vk/\Rp K B b (fU [a,e] H) vb/\Rps K B es (fU [a,e] H) vs:=by rw[Rp]
theorem Rp.scr_{ns:aH}{v:V}:Rp K B (.scr ns) H v↔∃a,v=.ref a/\B a=aj/\SqF K H a (ns.map V.int):=by rw[Rp]
theorem Rps.nil_{vs:fL}:Rps K B [] H vs↔vs=[]:=by rw[Rps]
theorem Rps.cons_{d:Dt}{ds:fK}{vs:fL}:Rps K B (d::ds) H vs↔∃v r,vs=v::r/\Rp K B d H v/\Rps K B ds H r:=by rw[Rps]
mutual
theorem Rp.mono:∀(d:Dt){H H':Hp}{v:V},Same H H'->Rp K B d H v->Rp K B d H' v
 |.non,_,_,v,e,h=>by unfold Rp at h|-;exact h
 |.bl b,_,_,v,e,h=>by unfold Rp at h|-;exact h
 |.int i,_,_,v,e,h=>by unfold Rp at h|-;exact h
 |.str x,_,_,v,e,h=>by unfold Rp at h|-;exact h
 |.dic,_,_,v,e,h=>by unfold Rp at h|-;obtain⟨a,q,r⟩:=h;exact⟨a,q,e _ _ r⟩
 |.lst ds,_,_,v,e,h=>by
  unfold Rp at h|-;obtain⟨a,vs,rfl,h0,h1,h2⟩:=h;exact⟨a,vs,rfl,h0,e _ _ h1,Rps.mono ds (E9 e) h2⟩
 |.tup ds,_,_,v,e,h=>by
  unfold Rp at h|-;obtain⟨a,vs,rfl,h1,h2⟩:=h;exact⟨a,vs,rfl,e.seqT h1,Rps.mono ds e h2⟩
 |.scr ns,_,_,v,e,h=>by
  unfold Rp at h|-;obtain⟨a,rfl,h0,h1⟩:=h;exact⟨a,rfl,h0,h1.mono e⟩
 |.obj C k b es,_,_,v,e,h=>by
  unfold Rp at h|-;obtain⟨a,dx,vk,vb,l,vs,rfl,h0,h1,h2,h3,h4,h5,h6,h7,h8⟩:=h;exact⟨a,dx,vk,vb,l,vs,rfl,h0,e _ _ h1,e _ _ h2,h3,e _ _ h4,h5,Rp.mono k (E9 e) h6,Rp.mono b (E9 e) h7,Rps.mono es (E9 e) h8⟩
theorem Rps.mono:∀(ds:fK){H H':Hp}{vs:fL},Same H H'->Rps K B ds H vs->Rps K B ds H' vs
 |[],_,_,vs,e,h=>by unfold Rps at h|-;exact h
 |d::ds,_,_,vs,e,h=>by
  unfold Rps at h|-;obtain⟨v,r,rfl,h1,h2⟩:=h;exact⟨v,r,rfl,Rp.mono d e h1,Rps.mono ds e h2⟩
end
mutual
theorem Rp.anti(e:Same B' B):∀(d:Dt){H:Hp}{v:V},Rp K B d H v->Rp K B' d H v
 |.non,_,v,h=>by unfold Rp at h|-;exact h
 |.bl b,_,v,h=>by unfold Rp at h|-;exact h
 |.int i,_,v,h=>by unfold Rp at h|-;exact h
 |.str x,_,v,h=>by unfold Rp at h|-;exact h
 |.dic,_,v,h=>by unfold Rp at h|-;exact h
 |.lst ds,_,v,h=>by
  unfold Rp at h|-;obtain⟨a,vs,rfl,h0,h1,h2⟩:=h;exact⟨a,vs,rfl,e.free h0,h1,Rps.anti e ds h2⟩
 |.tup ds,_,v,h=>by
  unfold Rp at h|-;obtain⟨a,vs,rfl,h1,h2⟩:=h;exact⟨a,vs,rfl,h1,Rps.anti e ds h2⟩
 |.scr ns,_,v,h=>by
  unfold Rp at h|-;obtain⟨a,rfl,h0,h1⟩:=h;exact⟨a,rfl,e.free h0,h1⟩
 |.obj C k b es,_,v,h=>by
  unfold Rp at h|-;obtain⟨a,dx,vk,vb,l,vs,rfl,h0,h1,h2,h3,h4,h5,h6,h7,h8⟩:=h;exact⟨a,dx,vk,vb,l,vs,rfl,e.free h0,h1,h2,e.free h3,h4,h5,Rp.anti e k h6,Rp.anti e b h7,Rps.anti e es h8⟩
theorem Rps.anti(e:Same B' B):∀(ds:fK){H:Hp}{vs:fL},Rps K B ds H vs->Rps K B' ds H vs
 |[],_,vs,h=>by unfold Rps at h|-;exact h
 |d::ds,_,vs,h=>by
  unfold Rps at h|-;obtain⟨v,r,rfl,h1,h2⟩:=h;exact⟨v,r,rfl,Rp.anti e d h1,Rps.anti e ds h2⟩
end
theorem SqT.hid{A:ft}{a:Addr}{xs:fL}(hA:∀b∈A,∀o,H b=aa o->∃vs,o=.lst vs)(h:SqT K H a xs):SqT K (fU A H) a xs:=by
 rcases h with(h|⟨o,h⟩)|h
 .refine .inl (.inl ?_);rw[r9 λz=>by obtain⟨vs,e⟩:=hA a z _ h;cases e];exact h
 .refine .inl (.inr ⟨o,?_⟩);rw[r9 λz=>by obtain⟨vs,e⟩:=hA a z _ h;cases e];exact h
 .exact .inr h
mutual
theorem Rp.hid{A:ft}(hB:∀b∈A,B b≠aj):∀(d:Dt){H:Hp}{v:V},(∀b∈A,∀o,H b=aa o->∃vs,o=.lst vs)->Rp K B d H v->Rp K B d (fU A H) v
 |.non,_,v,_,h=>by unfold Rp at h|-;exact h
 |.bl b,_,v,_,h=>by unfold Rp at h|-;exact h
 |.int i,_,v,_,h=>by unfold Rp at h|-;exact h
 |.str x,_,v,_,h=>by unfold Rp at h|-;exact h
 |.dic,_,v,hA,h=>by unfold Rp at h|-;obtain⟨a,q,r⟩:=h;exact⟨a,q,by rw[r9 λz=>by obtain⟨vs,e⟩:=hA a z _ r;cases e];exact r⟩
 |.lst ds,H,v,hA,h=>by
  unfold Rp at h|-;obtain⟨a,vs,rfl,h0,h1,h2⟩:=h;refine⟨a,vs,rfl,h0,by rw[r9 λz=>hB a z h0];exact h1,?_⟩;rw[GJ];exact Rps.hid hB ds (λb hb o e=>hA b hb o (R6 e).2) h2
 |.tup ds,H,v,hA,h=>by
  unfold Rp at h|-;obtain⟨a,vs,rfl,h1,h2⟩:=h;exact⟨a,vs,rfl,h1.hid hA,Rps.hid hB ds hA h2⟩
 |.scr ns,H,v,hA,h=>by
  unfold Rp at h|-;obtain⟨a,rfl,h0,h1⟩:=h;exact⟨a,rfl,h0,h1.hid λz=>hB a z h0⟩
 |.obj C k b es,H,v,hA,h=>by
  unfold Rp at h|-;obtain⟨a,dx,vk,vb,l,vs,rfl,h0,h1,h2,h3,h4,h5,h6,h7,h8⟩:=h;refine⟨a,dx,vk,vb,l,vs,rfl,h0,by rw[r9 λz=>hB a z h0];exact h1,by rw[r9 λz=>by obtain⟨vs,e⟩:=hA dx z _ h2;cases e];exact h2,h3,by rw[r9 λz=>hB l z h3];exact h4,h5,?_⟩;rw[GJ];exact⟨Rp.hid hB k (λb hb o e=>hA b hb o (R6 e).2) h6,Rp.hid hB b (λb hb o e=>hA b hb o (R6 e).2) h7,Rps.hid hB es (λb hb o e=>hA b hb o (R6 e).2) h8⟩
theorem Rps.hid{A:ft}(hB:∀b∈A,B b≠aj):∀(ds:fK){H:Hp}{vs:fL},(∀b∈A,∀o,H b=aa o->∃vs,o=.lst vs)->Rps K B ds H vs->Rps K B ds (fU A H) vs
 |[],_,vs,_,h=>by unfold Rps at h|-;exact h
 |d::ds,_,vs,hA,h=>by
  unfold Rps at h|-;obtain⟨v,r,rfl,h1,h2⟩:=h;exact⟨v,r,rfl,Rp.hid hB d hA h1,Rps.hid hB ds hA h2⟩
end
end
mutual
def Dt.flat:Dt->Bool
 |.lst _=>ab
 |.scr _=>ab
 |.obj _ _ _ _=>ab
 |.tup ds=>L8 ds
 |_=>af
def L8:fK->Bool
 |[]=>af
 |d::ds=>d.flat&&L8 ds
end
section
variable {K:aD}{B B' H H':Hp}
mutual
theorem Rp.flat:∀(d:Dt){H:Hp}{v:V},d.flat=af->Rp K B d H v->Rp K B' d H v
 |.non,_,v,_,h=>by unfold Rp at h|-;exact h
 |.bl b,_,v,_,h=>by unfold Rp at h|-;exact h
 |.int i,_,v,_,h=>by unfold Rp at h|-;exact h
 |.str x,_,v,_,h=>by unfold Rp at h|-;exact h
 |.dic,_,v,_,h=>by unfold Rp at h|-;exact h
 |.lst ds,_,v,f,h=>by unfold Dt.flat at f;cases f
 |.tup ds,_,v,f,h=>by
  unfold Dt.flat at f;unfold Rp at h|-;obtain⟨a,vs,rfl,h1,h2⟩:=h;exact⟨a,vs,rfl,h1,Rps.flat ds f h2⟩
 |.scr ns,_,v,f,h=>by unfold Dt.flat at f;cases f
 |.obj C k b es,_,v,f,h=>by unfold Dt.flat at f;cases f
theorem Rps.flat:∀(ds:fK){H:Hp}{vs:fL},L8 ds=af->Rps K B ds H vs->Rps K B' ds H vs
 |[],_,vs,_,h=>by unfold Rps at h|-;exact h
 |d::ds,_,vs,f,h=>by
  unfold L8 at f;rw[wS]at f;unfold Rps at h|-;obtain⟨v,r,rfl,h1,h2⟩:=h;exact⟨v,r,rfl,Rp.flat d f.1 h1,Rps.flat ds f.2 h2⟩
end
theorem Rps.length:∀{ds:fK}{vs:fL},Rps K B ds H vs->vs.length=ds.length
 |[],vs,h=>by rw[Rps.nil_.mp h];rfl
 |d::ds,vs,h=>by
  obtain⟨v,r,rfl,_,h2⟩:=Rps.cons_.mp h;rw[wu,wu,Rps.length h2]
theorem Rps.get:∀{ds:fK}{vs:fL}{i:Nat}{d:Dt},Rps K B ds H vs->ds[i]?=aa d->∃v,vs[i]?=aa v/\Rp K B d H v
 |[],vs,i,d,_,e=>by simp at e
 |c::ds,vs,0,d,h,e=>by
  obtain⟨v,r,rfl,h1,_⟩:=Rps.cons_.mp h;simp at e;subst e;exact⟨v,rfl,h1⟩
 |c::ds,vs,i+1,d,h,e=>by
  obtain⟨v,r,rfl,_,h2⟩:=Rps.cons_.mp h;have e:ds[i]?=aa d:=by simpa using e
  obtain⟨u,q1,q2⟩:=Rps.get h2 e;exact⟨u,by simpa using q1,q2⟩
theorem Rps.append:∀{ds ds':fK}{vs vs':fL},Rps K B ds H vs->Rps K B ds' H vs'->Rps K B (ds++ds') H (vs++vs')
 |[],ds',vs,vs',h,h'=>by rw[Rps.nil_.mp h];exact h'
 |d::ds,ds',vs,vs',h,h'=>by
  obtain⟨v,r,rfl,h1,h2⟩:=Rps.cons_.mp h;exact Rps.cons_.mpr ⟨v,r++vs',rfl,h1,Rps.append h2 h'⟩
theorem Rps.one{d:Dt}{v:V}(h:Rp K B d H v):Rps K B [d] H [v]:=Rps.cons_.mpr ⟨v,[],rfl,h,Rps.nil_.mpr rfl⟩
theorem Rps.take:∀{ds:fK}{vs:fL}(n:Nat),Rps K B ds H vs->Rps K B (ds.take n) H (vs.take n)
 |ds,vs,0,_=>by rw[w1X,w1X];exact Rps.nil_.mpr rfl
 |[],vs,n+1,h=>by rw[Rps.nil_.mp h];exact Rps.nil_.mpr rfl
 |d::ds,vs,n+1,h=>by
  obtain⟨v,r,rfl,h1,h2⟩:=Rps.cons_.mp h;exact Rps.cons_.mpr ⟨v,r.take n,rfl,h1,Rps.take n h2⟩
theorem Rps.drop:∀{ds:fK}{vs:fL}(n:Nat),Rps K B ds H vs->Rps K B (ds.drop n) H (vs.drop n)
 |ds,vs,0,h=>h
 |[],vs,n+1,h=>by rw[Rps.nil_.mp h];exact Rps.nil_.mpr rfl
 |d::ds,vs,n+1,h=>by
  obtain⟨v,r,rfl,h1,h2⟩:=Rps.cons_.mp h;exact Rps.drop n h2
theorem Rps.set:∀{ds:fK}{vs:fL}(i:Nat){d:Dt}{v:V},Rps K B ds H vs->Rp K B d H v->Rps K B (ds.set i d) H (vs.set i v)
 |[],vs,i,d,v,h,_=>by rw[Rps.nil_.mp h];exact Rps.nil_.mpr rfl
 |c::ds,vs,0,d,v,h,q=>by
  obtain⟨u,r,rfl,h1,h2⟩:=Rps.cons_.mp h;exact Rps.cons_.mpr ⟨v,r,rfl,q,h2⟩
 |c::ds,vs,i+1,d,v,h,q=>by
  obtain⟨u,r,rfl,h1,h2⟩:=Rps.cons_.mp h;exact Rps.cons_.mpr ⟨u,r.set i v,rfl,h1,Rps.set i h2 q⟩
theorem Rps.ints:∀{ns:aH}{vs:fL},Rps K B (ns.map Dt.int) H vs↔vs=ns.map V.int
 |[],vs=>Rps.nil_
 |n::ns,vs=>by
  rw[wx,Rps.cons_];constructor
  .rintro⟨v,r,rfl,h1,h2⟩;rw[Rp.int_.mp h1,Rps.ints.mp h2];rfl
  .rintro rfl;exact⟨_,_,rfl,Rp.int_.mpr rfl,Rps.ints.mpr rfl⟩
theorem QX{p:Addr}{o:HO}(h:H p=aj):fU [p] (upd H p o)=H:=funext λb=>by
 by_cases q:b=p
 .subst q;rw[V3 (by simp),h]
 .rw[r9 (by simpa using q),v8 q]
theorem J0{p:Addr}{o:HO}(h:H p=aj):Same H (upd H p o):=λb u e=>by rw[v8 (T7 e h)];exact e
theorem Rp.new{ds:fK}{vs:fL}{p:Addr}(hp:H p=aj)(hB:B p=aj)(r:Rps K B ds H vs):Rp K B (.lst ds) (upd H p (.lst vs)) (.ref p):=
 Rp.lst_.mpr ⟨p,vs,rfl,hB,B3,by rw[QX hp];exact r⟩
end
inductive Fl where
 |sh|tn|fr|nw
def Fl.isNw:Fl->Bool
 |.nw=>af
 |_=>ab
def Fl.isFr:Fl->Bool
 |.nw=>af
 |.fr=>af
 |_=>ab
abbrev Dv:=Fl×Dt
abbrev fM:=List Dv
def nrm(f:Fl)(d:Dt):Dv:=(if d.flat then .nw else f,d)
structure Ky where
 K:aD
 H₀:Hp
abbrev Cx.ky(X:Cx):Ky:=⟨X.K,X.H₀⟩
def RpF(X:Ky)(H:Hp)(f:Fl)(d:Dt)(H':Hp)(v:V):Prop:=match f with
 |.sh=>Rp X.K emp d H' v
 |.tn=>Rp X.K emp d H' v/\(∃ds,d=.lst ds)/\∀a,v=.ref a->H a=aj
 |.fr=>Rp X.K X.H₀ d H' v
 |.nw=>Rp X.K H d H' v
section
variable {X:Ky}{H H' H1:Hp}{f:Fl}{d:Dt}{v:V}
theorem RpF.sh(h:RpF X H f d H' v):Rp X.K emp d H' v:=by
 cases f with
 |sh=>exact h
 |tn=>exact h.1
 |fr=>exact Rp.anti Same.emp d h
 |nw=>exact Rp.anti Same.emp d h
theorem RpF.fr(h0:Same X.H₀ H)(e:f.isFr=af)(h:RpF X H f d H' v):Rp X.K X.H₀ d H' v:=by
 cases f with
 |sh=>cases e
 |tn=>cases e
 |fr=>exact h
 |nw=>exact Rp.anti h0 d h
theorem RpF.mono(h:RpF X H f d H' v)(s:Same H' H1):RpF X H f d H1 v:=by
 cases f with
 |sh=>exact Rp.mono d s h
 |tn=>exact⟨Rp.mono d s h.1,h.2⟩
 |fr=>exact Rp.mono d s h
 |nw=>exact Rp.mono d s h
theorem RpF.early(s:Same H H1)(h:RpF X H1 f d H' v):RpF X H f d H' v:=by
 cases f with
 |sh=>exact h
 |tn=>exact⟨h.1,h.2.1,λa e=>s.free (h.2.2 a e)⟩
 |fr=>exact h
 |nw=>exact Rp.anti s d h
theorem RpF.nrm(h:RpF X H f d H' v):RpF X H (nrm f d).1 d H' v:=by
 unfold L2.nrm;by_cases q:d.flat=af
 .rw[ak q];exact Rp.flat d q h.sh
 .rw[ao q];exact h
theorem RpF.scal(q:d.flat=af)(h:Rp X.K emp d H' v):RpF X H .nw d H' v:=Rp.flat d q h
end
inductive Cell where
 |no|sh (f:Bool) (d:Dt)|ow (f:Bool) (ds:fK)|ex
abbrev gI:=List Cell
def flOf(f:Bool):Fl:=if f then .fr else .sh
def Cell.val:Cell->Option Dv
 |.no=>aj
 |.ex=>aj
 |.sh f d=>aa (nrm (flOf f) d)
 |.ow f ds=>aa (flOf f,.lst ds)
def YB(ρ:gI)(i:Nat):Option Dv:=(ρ[i]?).bind Cell.val
def gN(X:Ky)(f:Bool):Hp:=if f then X.H₀ else emp
def km(K:aD)(a:Addr)(h:aR):Prop:=∃oe C,h.get? a=aa oe/\oe.cls=.ref C/\PySem.W.kitCls K (.ref C) (.type "ValueError")=aa af
def RpC(X:Ky)(H:Hp):Cell->Option V->Prop
 |.no,_=>True
 |.ex,o=>∃a φ,o=aa (.ref a)/\H a=aa (.ext φ)/\∀h,φ h->km X.K a h
 |.sh f d,o=>∃v,o=aa v/\Rp X.K (gN X f) d H v
 |.ow f ds,o=>∃v,o=aa v/\Rp X.K (gN X f) (.lst ds) H v
structure RepS(X:Ky)(H:Hp)(ρ:gI)(σ:St):Prop where
 len:ρ.length=σ.length
 base:Same X.H₀ H
 at_:∀(i:Nat)(c:Cell),ρ[i]?=aa c->∃o,σ[i]?=aa o/\RpC X H c o
section
variable {X:Ky}{H H':Hp}{ρ:gI}{σ:St}
theorem RpC.mono(e:Same H H'){c:Cell}{o:Option V}(h:RpC X H c o):RpC X H' c o:=by
 cases c with
 |no=>trivial
 |ex=>obtain⟨a,φ,q,r,z⟩:=h;exact⟨a,φ,q,e _ _ r,z⟩
 |sh f d=>obtain⟨v,q,r⟩:=h;exact⟨v,q,Rp.mono d e r⟩
 |ow f ds=>obtain⟨v,q,r⟩:=h;exact⟨v,q,Rp.mono _ e r⟩
theorem RepS.mono(h:RepS X H ρ σ)(e:Same H H'):RepS X H' ρ σ:=⟨h.len,h.base.trans e,λi c q=>by obtain⟨o,q1,q2⟩:=h.at_ i c q;exact⟨o,q1,q2.mono e⟩⟩
theorem tw{f:Bool}{d:Dt}{v:V}(h:Rp X.K (gN X f) d H v):RpF X H (flOf f) d H v:=by
 cases f with
 |false=>exact h
 |true=>exact h
theorem RepS.val(h:RepS X H ρ σ){i:Nat}{f:Fl}{d:Dt}(e:YB ρ i=aa (f,d)):∃v,σ[i]?=aa (aa v)/\RpF X H f d H v:=by
 unfold YB at e;cases q:ρ[i]? with
 |none=>rw[q]at e;cases e
 | some c =>
  rw[q]at e;obtain⟨o,q1,q2⟩:=h.at_ i c q;cases c with
  |no=>cases e
  |ex=>cases e
  |sh f' d'=>
   obtain⟨v,rfl,r⟩:=q2;have e:nrm (flOf f') d'=(f,d):=aO e;have r':=(tw r).nrm;refine⟨v,q1,?_⟩;have e1:d'=d:=bv eV e;subst e1;rw[e]at r';exact r'
  |ow f' ds=>
   obtain⟨v,rfl,r⟩:=q2;cases e;exact⟨v,q1,tw r⟩
end
end L2
end
section
namespace L2
theorem PE.imp{X:Cx}{e:az}{t t':TE}(h:PE X e t)(q:∀σ H Q,t' σ H Q->t σ H Q):PE X e t':=λπ s σ H Q I z=>h π s σ H Q I (q σ H Q z)
theorem PT.imp{X:Cx}{e:az}{t t':TT}(h:PT X e t)(q:∀σ H Q,t' σ H Q->t σ H Q):PT X e t':=λπ s σ H Q I z=>h π s σ H Q I (q σ H Q z)
theorem PW.imp{X:Cx}{e:az}{t t':TT}(h:PW X e t)(q:∀σ H Q,t' σ H Q->t σ H Q):PW X e t':=λwhole π s σ H Q I z=>h whole π s σ H Q I (q σ H Q z)
theorem PA.imp{X:Cx}{es:fw}{t t':TA}(h:PA X es t)(q:∀σ H Q,t' σ H Q->t σ H Q):PA X es t':=λpos π s σ H Q I z=>h pos π s σ H Q I (q σ H Q z)
theorem i9{α β:Type}{o:Option α}{f:α->Option β}{b:β}(h:o.bind f=aa b):∃a,o=aa a/\f a=aa b:=by
 cases o with
 |none=>cases h
 |some a=>exact⟨a,rfl,h⟩
section
variable {X:Ky}{H H':Hp}
theorem RpF.i_{i:Int}:RpF X H .nw (.int i) H' (.int i):=(Rp.int_ (K:=X.K) (B:=H) (H:=H')).mpr rfl
theorem RpF.b_{i:Bool}:RpF X H .nw (.bl i) H' (.bl i):=(Rp.bl_ (K:=X.K) (B:=H) (H:=H')).mpr rfl
theorem RpF.n_:RpF X H .nw .non H' .non:=(Rp.non_ (K:=X.K) (B:=H) (H:=H')).mpr rfl
end
abbrev FE:=gI->Option Dv
abbrev FT:=gI->Option Bool
abbrev FA:=gI->Option (fM)
def my(Y:Ky)(F:FE):TE:=λσ H Q=>∃ρ f d,RepS Y H ρ σ/\F ρ=aa (f,d)/\∀v H',Same H H'->RpF Y H f d H' v->Q v H'
abbrev io(X:Cx)(F:FE):TE:=my X.ky F
def PF(X:Cx)(e:az)(F:FE):Prop:=PE X e (io X F)
def iH(Y:Ky)(F:FT):TT:=λσ H Q=>∃ρ b,RepS Y H ρ σ/\F ρ=aa b/\∀H',Same H H'->Q b H'
abbrev mI(X:Cx)(F:FT):TT:=iH X.ky F
def iY(X:Cx)(e:az)(F:FT):Prop:=PT X e (mI X F)
def PFW(X:Cx)(e:az)(F:FT):Prop:=PW X e (mI X F)
theorem PFW.pt{X:Cx}{e:az}{F:FT}(h:PFW X e F):iY X e F:=PW.pt h
section
variable {X:Cx}{a b c e:az}{Fa Fb Fc:FE}{pos:Pos}
def fN(i:Nat):FE:=λρ=>YB ρ i
theorem b9(i:Nat){x:Str}{pos:Pos}(hN:X.N[i]?=aa x:=by rfl)(hv:me X.env.scope x:=by first|exact ar rfl|exact aK (ar rfl)|exact aK (aK rfl))(hd:(x==("__debug__":Str))=ab:=by decide)
  (hcd:(x==("__classdict__":Str))=ab:=by decide):PF X (.Name x pos) (fN i):=
 (Bj hN hv hd hcd).imp fun σ H Q ⟨ρ,f,d,rs,e,k⟩=>by
  obtain⟨v,e1,e2⟩:=rs.val e;exact⟨v,e1,k v H (Same.refl H) e2⟩
def fC(d:Dt):FE:=λ_=>aa (.nw,d)
theorem j3{i:Int}{j:Nat}:PF X (.Constant (.int i) j pos) (fC (.int i)):=pe_int.imp (by rintro σ H Q ⟨ρ,f,d,rs,e,k⟩;cases e;exact k _ H (Same.refl H) RpF.i_)
theorem gP{v:Bool}{j:Nat}:PF X (.Constant (.bool v) j pos) (fC (.bl v)):=pe_bl.imp (by rintro σ H Q ⟨ρ,f,d,rs,e,k⟩;cases e;exact k _ H (Same.refl H) RpF.b_)
theorem GK{j:Nat}:PF X (.Constant .none j pos) (fC .non):=pe_non.imp (by rintro σ H Q ⟨ρ,f,d,rs,e,k⟩;cases e;exact k _ H (Same.refl H) RpF.n_)
theorem tq{x:Str}{i:Int}{t:Tok}(hg:Gl X x)(hm:X.mg x=aa (.int i t))(hd:(x==("__debug__":Str))=ab:=by decide):PF X (.Name x pos) (fC (.int i)):=
 (Yu (v:=V.int i) hg hm ⟨t,rfl⟩ hd).imp (by rintro σ H Q ⟨ρ,f,d,rs,e,k⟩;cases e;exact k _ H (Same.refl H) RpF.i_)
abbrev FO:=Dt->Dt->Option Dv
def OpF(X:Cx)(f:Value->Value->Sem Value)(r:FO):Prop:=
 ik X f (λx y H Q=>∃dx dy f d,Rp X.K emp dx H x/\Rp X.K emp dy H y/\r dx dy=aa (f,d)/\∀v H',Same H H'->RpF X.ky H f d H' v->Q v H')
def fOp(r:FO)(Fa Fb:FE):FE:=λρ=>(Fa ρ).bind λx=>(Fb ρ).bind λy=>r x.2 y.2
theorem TB{r:FO}{σ:St}{H:Hp}{Q:VK}(h:io X (fOp r Fa Fb) σ H Q):
  io X Fa σ H λx H1=>io X Fb σ H1 λy H2=>∃dx dy f d,Rp X.K emp dx H2 x/\Rp X.K emp dy H2 y/\r dx dy=aa (f,d)/\∀v H',Same H2 H'->RpF X.ky H2 f d H' v->Q v H':=by
 obtain⟨ρ,f,d,rs,e,k⟩:=h;obtain⟨⟨fa,da⟩,ea,e⟩:=i9 e;obtain⟨⟨fb,db⟩,eb,e⟩:=i9 e;exact⟨ρ,fa,da,rs,ea,λv H1 s1 r1=>⟨ρ,fb,db,rs.mono s1,eb,λu H2 s2 r2=>⟨da,db,f,d,Rp.mono _ s2 r1.sh,r2.sh,e,λw H' s' r'=>k w H' (s1.trans (s2.trans s')) (r'.early (s1.trans s2))⟩⟩⟩
theorem fZ{op:Operator}{r:FO}(ho:OpF X (bM op) r)(ha:PF X a Fa)(hb:PF X b Fb):PF X (.BinOp a op b pos) (fOp r Fa Fb):=(nJ ho ha hb).imp λσ H Q h=>TB h
theorem nN{op:CmpOp}{r:FO}(ho:OpF X (bj op) r)(ha:PF X a Fa)(hb:PF X b Fb)(hm:cR op b=ab):PF X (.Compare a [op] [b] pos) (fOp r Fa Fb):=(z4F ho ha hb hm).imp λσ H Q h=>TB h
def iW(C:Int->Int->Bool)(g:Int->Int->Dt):FO
 |.int i,.int j=>if C i j then aa (.nw,g i j) else aj
 |_,_=>aj
theorem Pw{f:Value->Value->Sem Value}{P:Int->Int->Prop}{C:Int->Int->Bool}{g:Int->Int->V}{g':Int->Int->Dt}(ho:ik X f (rI P g))(hP:∀i j,C i j=af->P i j)(hf:∀i j,(g' i j).flat=af)(hg:∀i j H,Rp X.K emp (g' i j) H (g i j)):OpF X f (iW C g'):=
 λπ s σ H x y v u Q I r1 r2 ⟨d1,d2,f,d,q1,q2,e,k⟩=>by
  unfold iW at e;split at e
  .rename_i i j;split at e
   .rename_i hc;cases e;rw[Rp.int_]at q1 q2;exact ho π s σ H x y v u Q I r1 r2 ⟨i,j,q1,q2,hP i j hc,k _ H (Same.refl H) (RpF.scal (hf i j) (hg i j H))⟩
   .cases e
  .cases e
theorem Ew{f:Value->Value->Sem Value}{g:Int->Int->V}{g':Int->Int->Dt}(ho:ik X f (jo g))(hf:∀i j,(g' i j).flat=af)(hg:∀i j H,Rp X.K emp (g' i j) H (g i j)):OpF X f (iW (λ_ _=>af) g'):=
 λπ s σ H x y v u Q I r1 r2⟨d1,d2,f,d,q1,q2,e,k⟩=>by
  unfold iW at e;split at e
  .rename_i i j;rw[ak rfl]at e;cases e;rw[Rp.int_]at q1 q2;exact ho π s σ H x y v u Q I r1 r2 ⟨i,j,q1,q2,k _ H (Same.refl H) (RpF.scal (hf i j) (hg i j H))⟩
  .cases e
def OpF.or{f:Value->Value->Sem Value}{r r':FO}(h:OpF X f r)(h':OpF X f r'):OpF X f (λx y=>(r x y).orElse λ_=>r' x y):=
 λπ s σ H x y v u Q I r1 r2⟨d1,d2,f,d,q1,q2,e,k⟩=>by
  replace e:((r d1 d2).orElse λ_=>r' d1 d2)=aa (f,d):=e;cases q:r d1 d2 with
  |some z=>
   rw[q]at e;cases e;exact h π s σ H x y v u Q I r1 r2 ⟨d1,d2,_,_,q1,q2,q,k⟩
  |none=>
   rw[q]at e;exact h' π s σ H x y v u Q I r1 r2 ⟨d1,d2,_,_,q1,q2,e,k⟩
def E4(i j:Int):Bool:=decide (bB i+bB j<=134217728)||(decide (i.natAbs<2^64)||decide (j.natAbs<2^64))
def K9(_ j:Int):Bool:=decide (j≠0)&&decide (j.natAbs.log2<9000)
def X3(_ j:Int):Bool:=decide (j≠0)
def GL(i j:Int):Bool:=decide (0<=j)&&decide (j<=1000000)&&decide (i.natAbs<2^64)
theorem z4S:ik X (bM .Mult) (rI (λi j=>E4 i j=af) λi j=>.int (i*j)):=oV λi j _ _ _ _ _ hc q=>by
 refine mul_int q ?_;unfold E4 at hc;rw[w0q,w0q]at hc;rcases hc with hc|hc|hc
 .exact IntMulOk.of_le (wt _) (wt _) (aX hc)
 .have:=aX hc;exact CMul.ok (.inl ⟨(),()⟩)
 .have:=aX hc;exact CMul.ok (.inr ⟨(),()⟩)
def z1o:FO:=iW (λ_ _=>af) λi j=>.int (i+j)
def Ae:FO:=iW (λ_ _=>af) λi j=>.int (i-j)
def D9:FO:=iW E4 λi j=>.int (i*j)
def Af:FO:=iW K9 λi j=>.int (i.fdiv j)
def F8:FO:=iW X3 λi j=>.int (i.fmod j)
def Jw:FO:=iW GL λi j=>.int (i^j.toNat)
def opLt:FO:=iW (λ_ _=>af) λi j=>.bl (decide (i<j))
def opLe:FO:=iW (λ_ _=>af) λi j=>.bl (decide (i<=j))
def opGt:FO:=iW (λ_ _=>af) λi j=>.bl (decide (j<i))
def opGe:FO:=iW (λ_ _=>af) λi j=>.bl (decide (j<=i))
theorem o_addI:OpF X (bM .Add) z1o:=Ew op_add (λ_ _=>rfl) λ_ _ _=>Rp.int_.mpr rfl
theorem KM:OpF X (bM .Sub) Ae:=Ew op_sub (λ_ _=>rfl) λ_ _ _=>Rp.int_.mpr rfl
theorem AN:OpF X (bM .Mult) D9:=Pw z4S (λ_ _ h=>h) (λ_ _=>rfl) λ_ _ _=>Rp.int_.mpr rfl
theorem W9:OpF X (bM .FloorDiv) Af:=Pw z1k (λi j h=>by unfold K9 at h;rw[wS]at h;exact⟨aX h.1,aX h.2⟩) (λ_ _=>rfl) λ_ _ _=>Rp.int_.mpr rfl
theorem O1:OpF X (bM .Mod) F8:=Pw z4D (λi j h=>aX h) (λ_ _=>rfl) λ_ _ _=>Rp.int_.mpr rfl
theorem YC:OpF X (bM .Pow) Jw:=Pw op_pow (λi j h=>by unfold GL at h;rw[wS,wS]at h;exact⟨aX h.1.1,aX h.1.2,aX h.2⟩) (λ_ _=>rfl) λ_ _ _=>Rp.int_.mpr rfl
theorem o_lt:OpF X (bj .Lt) opLt:=Ew op_lt (λ_ _=>rfl) λ_ _ _=>Rp.bl_.mpr rfl
theorem o_le:OpF X (bj .LtE) opLe:=Ew op_le (λ_ _=>rfl) λ_ _ _=>Rp.bl_.mpr rfl
theorem o_gt:OpF X (bj .Gt) opGt:=Ew op_gt (λ_ _=>rfl) λ_ _ _=>Rp.bl_.mpr rfl
theorem o_ge:OpF X (bj .GtE) opGe:=Ew op_ge (λ_ _=>rfl) λ_ _ _=>Rp.bl_.mpr rfl
def ji(ds:fK):Fl:=if L8 ds then .nw else .tn
def gM(ds:fK):Dv:=(ji ds,.lst ds)
theorem GM{X:Ky}{H:Hp}{ds:fK}{vs:fL}{p:Addr}(hp:H p=aj)(r:Rps X.K emp ds H vs):RpF X H (ji ds) (.lst ds) (upd H p (.lst vs)) (.ref p):=by
 unfold ji;by_cases q:L8 ds=af
 .rw[ak q];exact Rp.new hp hp (Rps.flat ds q r)
 .rw[ao q];exact⟨Rp.new hp rfl r,⟨ds,rfl⟩,λa e=>by cases e;exact hp⟩
def Ds:FO
 |.lst xs,.lst ys=>if xs.length+ys.length<=1000000 then aa (gM (xs++ys)) else aj
 |_,_=>aj
theorem Rp.items{K:aD}{B H:Hp}{ds:fK}{v:V}(h:Rp K B (.lst ds) H v):∃a vs,v=.ref a/\B a=aj/\H a=aa (.lst vs)/\Rps K B ds H vs:=by
 obtain⟨a,vs,e,h0,h1,h2⟩:=Rp.lst_.mp h;exact⟨a,vs,e,h0,h1,Rps.mono _ A9 h2⟩
theorem o_cat:OpF X (bM .Add) Ds:=by
 rintro π s σ H x y v u Q I r1 r2 ⟨d1,d2,f,d,q1,q2,e,k⟩;unfold Ds at e;split at e
 .rename_i xs ys;split at e
  .rename_i hc;cases e;obtain⟨a,vs,rfl,_,ha,ra⟩:=q1.items;obtain⟨b,ws,rfl,_,hb,rb⟩:=q2.items;exact op_cat π s σ H _ _ v u Q I r1 r2 ⟨a,b,vs,ws,rfl,rfl,ha,hb,wO (by rw[ra.length,rb.length];exact hc) (by decide),λp hp=>k _ _ (J0 hp) (GM hp (ra.append rb))⟩
  .cases e
 .cases e
def o6:FO:=λx y=>(z1o x y).orElse λ_=>Ds x y
theorem J1:OpF X (bM .Add) o6:=o_addI.or o_cat
def truD:Dt->Option Bool
 |.non=>aa ab
 |.bl b=>aa b
 |.int i=>aa (i != 0)
 |.lst ds=>aa (!ds.isEmpty)
 |.tup ds=>aa (!ds.isEmpty)
 |_=>aj
theorem Rps.isEmpty{K:aD}{B H:Hp}{ds:fK}{vs:fL}(h:Rps K B ds H vs):(!vs.isEmpty)=!ds.isEmpty:=by
 have:=h.length;cases ds<;>cases vs<;>first|rfl|(simp at this)
theorem z4T{H:Hp}{d:Dt}{v:V}{k:Bool}(r:Rp X.K emp d H v)(e:truD d=aa k):mf X.K v H k:=by
 cases d with
 |non=>rw[Rp.non_.mp r];cases e;rfl
 |bl b=>rw[Rp.bl_.mp r];cases e;rfl
 |int i=>rw[Rp.int_.mp r];cases e;rfl
 |str x=>cases e
 |dic=>cases e
 |obj _ _ _ _=>cases e
 |scr x=>cases e
 |lst ds=>
  obtain⟨p,vs,rfl,_,h1,h2⟩:=r.items;cases e;exact .inl ⟨vs,SqL.of h1,h2.isEmpty.symm⟩
 |tup ds=>
  obtain⟨p,vs,rfl,h1,h2⟩:=Rp.tup_.mp r;cases e;exact .inr (.inl ⟨vs,h1,h2.isEmpty.symm⟩)
def blD:Dt->Option Bool
 |.bl b=>aa b
 |_=>aj
def n4(F:FE):FT:=λρ=>(F ρ).bind λx=>blD x.2
def fTru(F:FE):FT:=λρ=>(F ρ).bind λx=>truD x.2
theorem mJ{op:CmpOp}{r:FO}(ho:OpF X (bj op) r)(ha:PF X a Fa)(hb:PF X b Fb)(hm:cR op b=ab):iY X (.Compare a [op] [b] pos) (n4 (fOp r Fa Fb)):=
 (z4G ho ha hb hm).imp fun σ H Q hZ=>hZ.elim fun ρ hZ=>hZ.elim fun k hZ=>hZ.elim fun rs hZ=>hZ.elim fun e q=>by
  obtain⟨⟨f,d⟩,e1,e2⟩:=i9 e;refine TB ⟨ρ,f,d,rs,e1,λv H' s r=>?_⟩;cases d<;>first|cases e2|skip
  exact⟨k,Rp.bl_.mp r.sh,q H' s⟩
theorem T6(ha:PF X a Fa)(he:∀whole,isTrue a X.env whole=(do let v <-whole;standAt a.pos;holding [v] (truthy v))):iY X a (fTru Fa):=
 (z19 ha he).imp fun σ H Q hZ=>hZ.elim fun ρ hZ=>hZ.elim fun k hZ=>hZ.elim fun rs hZ=>hZ.elim fun e q=>by
  obtain⟨⟨f,d⟩,e1,e2⟩:=i9 e;exact⟨ρ,f,d,rs,e1,λv H' s r=>⟨k,z4T r.sh e2,q H' s⟩⟩
def fNot(F:FT):FT:=λρ=>(F ρ).map not
theorem V6{F:FT}(ha:iY X a F):iY X (.UnaryOp .Not a pos) (fNot F):=(kP ha).imp λσ H Q⟨ρ,k,rs,e,q⟩=>by
 unfold fNot at e;cases h:F ρ with
 |none=>rw[h]at e;cases e
 |some b=>rw[h]at e;cases e;exact⟨ρ,b,rs,h,q⟩
def fAnd(F G:FT):FT:=λρ=>(F ρ).bind λb=>if b then G ρ else aa ab
def fOr(F G:FT):FT:=λρ=>(F ρ).bind λb=>if b then aa af else G ρ
theorem ku{F:FT}(ha:iY X a F):PFW X (.BoolOp .And [a] pos) F:=z4z ha
theorem GN{F:FT}(ha:iY X a F):PFW X (.BoolOp .Or [a] pos) F:=kN ha
theorem mG{rest:fw}{F G:FT}(ha:iY X a F)(hb:PFW X (.BoolOp .And (b::rest) pos) G):PFW X (.BoolOp .And (a::b::rest) pos) (fAnd F G):=
 (kO ha hb).imp fun σ H Q hZ=>hZ.elim fun ρ hZ=>hZ.elim fun k hZ=>hZ.elim fun rs hZ=>hZ.elim fun e q=>by
  obtain⟨z,e1,e2⟩:=i9 e;refine⟨ρ,z,rs,e1,λH' s=>?_⟩;dsimp only;cases z with
  |true=>rw[ak rfl]at e2|-;exact⟨ρ,k,rs.mono s,e2,λH'' s'=>q H'' (s.trans s')⟩
  |false=>rw[ao vi]at e2|-;cases e2;exact q H' s
theorem iE{rest:fw}{F G:FT}(ha:iY X a F)(hb:PFW X (.BoolOp .Or (b::rest) pos) G):PFW X (.BoolOp .Or (a::b::rest) pos) (fOr F G):=
 (nE ha hb).imp fun σ H Q hZ=>hZ.elim fun ρ hZ=>hZ.elim fun k hZ=>hZ.elim fun rs hZ=>hZ.elim fun e q=>by
  obtain⟨z,e1,e2⟩:=i9 e;refine⟨ρ,z,rs,e1,λH' s=>?_⟩;dsimp only;cases z with
  |true=>rw[ak rfl]at e2|-;cases e2;exact q H' s
  |false=>rw[ao vi]at e2|-;exact⟨ρ,k,rs.mono s,e2,λH'' s'=>q H'' (s.trans s')⟩
def vAnd(F G:FE):FE:=λρ=>(n4 F ρ).bind λb=>if b then G ρ else aa (.nw,.bl ab)
def vNot(F:FE):FE:=λρ=>(n4 F ρ).map λb=>(.nw,.bl (!b))
theorem KN{op}(h:PF X a Fa):PF X (.BoolOp op [a] pos) Fa:=kT h
theorem KO{rest:fw}(ha:PF X a Fa)(hb:PF X (.BoolOp .And (b::rest) pos) Fb):PF X (.BoolOp .And (a::b::rest) pos) (vAnd Fa Fb):=
 (kX ha hb).imp fun σ H Q hZ=>hZ.elim fun ρ hZ=>hZ.elim fun f hZ=>hZ.elim fun d hZ=>hZ.elim fun rs hZ=>hZ.elim fun e k=>by
  obtain⟨z,e1,e2⟩:=i9 e;obtain⟨⟨f1,d1⟩,e3,e4⟩:=i9 e1;refine⟨ρ,f1,d1,rs,e3,λv H' s r=>?_⟩;cases d1<;>first|cases e4|skip
  refine⟨z,Rp.bl_.mp r.sh,?_⟩;cases z with
  |true=>rw[ak rfl]at e2|-;exact⟨ρ,f,d,rs.mono s,e2,λv H'' s' r=>k v H'' (s.trans s') (r.early s)⟩
  |false=>rw[ao vi]at e2|-;cases e2;exact k _ H' s RpF.b_
theorem pU(ha:PF X a Fa):PF X (.UnaryOp .Not a pos) (vNot Fa):=(kU ha).imp λσ H Q⟨ρ,f,d,rs,e,k⟩=>by
 unfold vNot at e;cases h:n4 Fa ρ with
 |none=>rw[h]at e;cases e
 |some z=>
  rw[h]at e;cases e;obtain⟨⟨f1,d1⟩,e3,e4⟩:=i9 h;refine⟨ρ,f1,d1,rs,e3,λv H' s r=>?_⟩;cases d1<;>first|cases e4|skip
  exact⟨z,Rp.bl_.mp r.sh,k _ H' s RpF.b_⟩
def fIf(F:FT)(Fa Fb:FE):FE:=λρ=>(F ρ).bind λb=>if b then Fa ρ else Fb ρ
theorem kY{F:FT}(hc:iY X c F)(ha:PF X a Fa)(hb:PF X b Fb):PF X (.IfExp c a b pos) (fIf F Fa Fb):=
 (z10 hc ha hb).imp fun σ H Q hZ=>hZ.elim fun ρ hZ=>hZ.elim fun f hZ=>hZ.elim fun d hZ=>hZ.elim fun rs hZ=>hZ.elim fun e k=>by
  obtain⟨z,e1,e2⟩:=i9 e;refine⟨ρ,z,rs,e1,λH' s=>?_⟩;dsimp only;cases z with
  |true=>rw[ak rfl]at e2|-;exact⟨ρ,f,d,rs.mono s,e2,λv H'' s' r=>k v H'' (s.trans s') (r.early s)⟩
  |false=>rw[ao vi]at e2|-;exact⟨ρ,f,d,rs.mono s,e2,λv H'' s' r=>k v H'' (s.trans s') (r.early s)⟩
def fNeg(F:FE):FE:=λρ=>(F ρ).bind λx=>match x.2 with|.int i=>aa (.nw,.int (-i))|_=>aj
theorem KP(ha:PF X a Fa):PF X (.UnaryOp .USub a pos) (fNeg Fa):=(nG un_neg ha).imp λσ H Q⟨ρ,f,d,rs,e,k⟩=>by
 obtain⟨⟨f1,d1⟩,e1,e2⟩:=i9 e;refine⟨ρ,f1,d1,rs,e1,λv H' s r=>?_⟩;cases d1<;>first|cases e2|skip
 rename_i i;exact⟨i,Rp.int_.mp r.sh,k _ H' s RpF.i_⟩
def Px(r r':FO)(Fa Fb Fc:FE):FE:=λρ=>(Fa ρ).bind λx=>(Fb ρ).bind λy=>(r x.2 y.2).bind λz=>(blD z.2).bind λk=>if k then(Fc ρ).bind λw=>r' y.2 w.2 else aa (.nw,.bl ab)
theorem ZV{r r':FO}{σ:St}{H:Hp}{Q:VK}(h:io X (Px r r' Fa Fb Fc) σ H Q):
  tO (λx y H Q=>∃dx dy f d,Rp X.K emp dx H x/\Rp X.K emp dy H y/\r dx dy=aa (f,d)/\∀v H',Same H H'->RpF X.ky H f d H' v->Q v H') (λx y H Q=>∃dx dy f d,Rp X.K emp dx H x/\Rp X.K emp dy H y/\r' dx dy=aa (f,d)/\∀v H',Same H H'->RpF X.ky H f d H' v->Q v H')
   (io X Fa) (io X Fb) (io X Fc) σ H Q:=by
 obtain⟨ρ,f,d,rs,e0,k⟩:=h;obtain⟨⟨fa,da⟩,ea,e1⟩:=i9 e0;obtain⟨⟨fb,db⟩,eb,e2⟩:=i9 e1;obtain⟨⟨fz,dz⟩,ez,e3⟩:=i9 e2;obtain⟨z,ek,e⟩:=i9 e3;clear e3 e2 e1 e0;refine⟨ρ,fa,da,rs,ea,λv H1 s1 r1=>⟨ρ,fb,db,rs.mono s1,eb,λu H2 s2 r2=>⟨da,db,fz,dz,Rp.mono _ s2 r1.sh,r2.sh,ez,λw H3 s3 r3=>?_⟩⟩⟩;cases dz<;>first|cases ek|skip
 refine⟨z,Rp.bl_.mp r3.sh,?_⟩;cases z with
 |true=>
  rw[ak rfl]at e|-;obtain⟨⟨fc,dc⟩,ec,e⟩:=i9 e;exact⟨ρ,fc,dc,rs.mono (s1.trans (s2.trans s3)),ec,λw' H4 s4 r4=>⟨db,dc,f,d,Rp.mono _ (s3.trans s4) r2.sh,r4.sh,e,λy H' s' r'=>k y H' (s1.trans (s2.trans (s3.trans (s4.trans s')))) (r'.early (s1.trans (s2.trans (s3.trans s4))))⟩⟩
 |false=>
  rw[ao vi]at e|-;cases e;exact k _ _ (s1.trans (s2.trans s3)) RpF.b_
theorem z4U{op op':CmpOp}{r r':FO}(ho:OpF X (bj op) r)(ho':OpF X (bj op') r')(ha:PF X a Fa)(hb:PF X b Fb)(hc:PF X c Fc)
 (hm:lastMarks [op,op'] [b,c]=ab:=by with_unfolding_all rfl):PF X (.Compare a [op,op'] [b,c] pos) (Px r r' Fa Fb Fc):=(z18 ho ho' ha hb hc hm).imp λσ H Q h=>ZV h
def isN:Dt->Bool
 |.non=>af
 |_=>ab
def NF:FO:=λx y=>match y with|.non=>aa (.nw,.bl (isN x))|_=>aj
def Du:FO:=λx y=>match y with|.non=>aa (.nw,.bl (!isN x))|_=>aj
theorem kb{H:Hp}{d:Dt}{v:V}(r:Rp X.K emp d H v):decide (v=V.non)=isN d:=by
 cases d with
 |non=>rw[Rp.non_.mp r];rfl
 |bl b=>rw[Rp.bl_.mp r];rfl
 |int i=>rw[Rp.int_.mp r];rfl
 |str x=>rw[Rp.str_.mp r];rfl
 |lst ds=>obtain⟨a,_,rfl,_⟩:=Rp.lst_.mp r;rfl
 |tup ds=>obtain⟨a,_,rfl,_⟩:=Rp.tup_.mp r;rfl
 |scr ds=>obtain⟨a,rfl,_⟩:=Rp.scr_.mp r;rfl
 |dic=>obtain⟨a,rfl,_⟩:=Rp.dic_.mp r;rfl
 |obj _ _ _ _=>obtain⟨a,_,_,_,_,_,rfl,_⟩:=Rp.obj_.mp r;rfl
theorem o_isN:OpF X (bj .Is) NF:=by
 rintro π s σ H x y v u Q I r1 r2 ⟨d1,d2,f,d,q1,q2,e,k⟩;unfold NF at e;split at e
 .cases e;refine op_isN π s σ H x y v u Q I r1 r2 ⟨Rp.non_.mp q2,?_⟩;rw[kb q1];exact k _ H (Same.refl H) RpF.b_
 .cases e
theorem z1q:OpF X (bj .IsNot) Du:=by
 rintro π s σ H x y v u Q I r1 r2 ⟨d1,d2,f,d,q1,q2,e,k⟩;unfold Du at e;split at e
 .cases e;refine z4E π s σ H x y v u Q I r1 r2 ⟨Rp.non_.mp q2,?_⟩;rw[kb q1];exact k _ H (Same.refl H) RpF.b_
 .cases e
theorem Cq{K:aD}{B H:Hp}{ds:fK}{vs:fL}{i:Int}{d:Dt}(h:Rps K B ds H vs)(e:gJ ds i=aa d):∃v,gJ vs i=aa v/\Rp K B d H v:=by
 unfold gJ at e|-;rw[h.length];cases q:iD ds.length i with
 |none=>rw[q]at e;cases e
 |some j=>
  rw[q]at e;exact h.get e
def Fl.item:Fl->Fl
 |.tn=>.sh
 |f=>f
def opAt(x:Dv)(y:Dv):Option Dv:=match x.2,y.2 with
 |.lst ds,.int i=>(gJ ds i).map (nrm x.1.item)
 |.tup ds,.int i=>(gJ ds i).map (nrm x.1.item)
 |.scr ns,.int i=>(gJ ns i).map λn=>(.nw,.int n)
 |_,_=>aj
def fAt(Fa Fb:FE):FE:=λρ=>(Fa ρ).bind λx=>(Fb ρ).bind λy=>opAt x y
theorem RpF.item{X:Ky}{H H':Hp}{f:Fl}{ds:fK}{v:V}{i:Int}{d:Dt}(h:RpF X H f (.lst ds) H' v)(e:gJ ds i=aa d):∃a vs w,v=.ref a/\SqL X.K H' a vs/\gJ vs i=aa w/\RpF X H f.item d H' w:=by
 cases f with
 |sh=>obtain⟨a,vs,rfl,_,h1,h2⟩:=Rp.items h;obtain⟨w,e1,e2⟩:=Cq h2 e;exact⟨a,vs,w,rfl,SqL.of h1,e1,e2⟩
 |tn=>obtain⟨a,vs,rfl,_,h1,h2⟩:=Rp.items h.1;obtain⟨w,e1,e2⟩:=Cq h2 e;exact⟨a,vs,w,rfl,SqL.of h1,e1,e2⟩
 |fr=>obtain⟨a,vs,rfl,_,h1,h2⟩:=Rp.items h;obtain⟨w,e1,e2⟩:=Cq h2 e;exact⟨a,vs,w,rfl,SqL.of h1,e1,e2⟩
 |nw=>obtain⟨a,vs,rfl,_,h1,h2⟩:=Rp.items h;obtain⟨w,e1,e2⟩:=Cq h2 e;exact⟨a,vs,w,rfl,SqL.of h1,e1,e2⟩
theorem RpF.itemT{X:Ky}{H H':Hp}{f:Fl}{ds:fK}{v:V}{i:Int}{d:Dt}(h:RpF X H f (.tup ds) H' v)(e:gJ ds i=aa d):∃a vs w,v=.ref a/\SqT X.K H' a vs/\gJ vs i=aa w/\RpF X H f.item d H' w:=by
 cases f with
 |sh=>obtain⟨a,vs,rfl,h1,h2⟩:=Rp.tup_.mp h;obtain⟨w,e1,e2⟩:=Cq h2 e;exact⟨a,vs,w,rfl,h1,e1,e2⟩
 |tn=>obtain⟨⟨_,h2⟩,_⟩:=h.2;cases h2
 |fr=>obtain⟨a,vs,rfl,h1,h2⟩:=Rp.tup_.mp h;obtain⟨w,e1,e2⟩:=Cq h2 e;exact⟨a,vs,w,rfl,h1,e1,e2⟩
 |nw=>obtain⟨a,vs,rfl,h1,h2⟩:=Rp.tup_.mp h;obtain⟨w,e1,e2⟩:=Cq h2 e;exact⟨a,vs,w,rfl,h1,e1,e2⟩
theorem z4V{α β:Type}{g:α->β}{xs:List α}{i:Int}{x:α}(h:gJ xs i=aa x):gJ (xs.map g) i=aa (g x):=by
 unfold gJ at h|-;rw[wn];cases q:iD xs.length i with
 |none=>rw[q]at h;cases h
 |some j=>rw[q]at h;have h:xs[j]?=aa x:=h;show(xs.map g)[j]?=_;rw[wv,h];rfl
theorem qk(ha:PF X a Fa)(hb:PF X b Fb)(hs:Pr b):PF X (.Subscript a b pos) (fAt Fa Fb):=
 (nK ix_seq ha hb hs).imp fun σ H Q hZ=>hZ.elim fun ρ hZ=>hZ.elim fun f hZ=>hZ.elim fun d hZ=>hZ.elim fun rs hZ=>hZ.elim fun e0 k=>by
  obtain⟨⟨fa,da⟩,ea,e1⟩:=i9 e0;obtain⟨⟨fb,db⟩,eb,e⟩:=i9 e1;clear e1 e0;refine⟨ρ,fa,da,rs,ea,λv H1 s1 r1=>⟨ρ,fb,db,rs.mono s1,eb,λu H2 s2 r2=>?_⟩⟩;have r1:=r1.mono s2;unfold opAt at e;split at e
  .rename_i ds i ed ei;cases ed;cases ei;cases q:gJ ds i with
   |none=>rw[q]at e;cases e
   |some d0=>
    rw[q]at e;obtain⟨p,vs,w,rfl,h1,h2,h3⟩:=r1.item q;have e:nrm fa.item d0=(f,d):=aO e;have h4:=h3.nrm;have e1:d0=d:=bv eV e;subst e1;rw[e]at h4;exact .inl ⟨p,vs,i,w,rfl,Rp.int_.mp r2.sh,h1,h2,k _ _ (s1.trans s2) h4⟩
  .rename_i ds i ed ei;cases ed;cases ei;cases q:gJ ds i with
   |none=>rw[q]at e;cases e
   |some d0=>
    rw[q]at e;obtain⟨p,vs,w,rfl,h1,h2,h3⟩:=r1.itemT q;have e:nrm fa.item d0=(f,d):=aO e;have h4:=h3.nrm;have e1:d0=d:=bv eV e;subst e1;rw[e]at h4;exact .inr (.inl ⟨p,vs,i,w,rfl,Rp.int_.mp r2.sh,h1,h2,k _ _ (s1.trans s2) h4⟩)
  .rename_i ns i ed ei;cases ed;cases ei;cases q:gJ ns i with
   |none=>rw[q]at e;cases e
   |some n=>
    rw[q]at e;cases e;obtain⟨p,rfl,_,h1⟩:=Rp.scr_.mp r1.sh;exact .inl ⟨p,_,i,_,rfl,Rp.int_.mp r2.sh,h1.sq,z4V q,k _ _ (s1.trans s2) RpF.i_⟩
  .cases e
end
end L2
end
section
local macro_rules|`(tactic|rfl')=>`(tactic|first|lia|omega +splitDisjunctions)
namespace L2
mutual
def Dt.py:Dt->PyData
 |.non=>.none
 |.bl b=>.bool b
 |.int i=>.int i
 |.str x=>.str x
 |.lst ds=>.list (pys ds)
 |.tup ds=>.tuple (pys ds)
 |.scr ns=>.list (ns.map .int)
 |.dic=>.dict []
 |.obj _ _ _ _=>.none
def pys:fK->List PyData
 |[]=>[]
 |d::ds=>d.py::pys ds
end
mutual
def Dt.okN:Nat->Dt->Bool
 |_,.str x=>PyData.strOk x
 |0,.lst _=>ab
 |0,.tup _=>ab
 |n+1,.lst ds=>oksN n ds
 |n+1,.tup ds=>oksN n ds
 |0,.scr _=>ab
 |_,.dic=>ab
 |_,.obj _ _ _ _=>ab
 |_,_=>af
def oksN:Nat->fK->Bool
 |_,[]=>af
 |n,d::ds=>d.okN n&&oksN n ds
end
theorem Py:∀ns:aH,dB (ns.map dM)=af/\cY (ns.map dM)=0
 |[]=>⟨rfl,rfl⟩
 |n::ns=>⟨by rw[wx,dB,(Py ns).1];rfl,by rw[wx,cY,(Py ns).2];rfl⟩
mutual
theorem YD:∀(n:Nat)(d:Dt),d.okN n=af->d.py.canLay0=af/\d.py.depth<=n
 |n,.non,_=>⟨rfl,by rw[Dt.py,cP];exact vh _⟩
 |n,.bl b,_=>⟨rfl,by rw[Dt.py,cP];exact vh _⟩
 |n,.int i,_=>⟨rfl,by rw[Dt.py,cP];exact vh _⟩
 |n,.str x,h=>by
  have h:PyData.strOk x=af:=by cases n<;>simpa[Dt.okN]using h
  exact⟨by rw[Dt.py,eF];exact h,by rw[Dt.py,cP];exact vh _⟩
 |0,.lst ds,h=>by rw[Dt.okN]at h;cases h
 |0,.tup ds,h=>by rw[Dt.okN]at h;cases h
 |0,.scr ds,h=>by rw[Dt.okN]at h;cases h
 |n,.dic,h=>by cases n<;>(unfold Dt.okN at h;cases h)
 |n,.obj _ _ _ _,h=>by cases n<;>(unfold Dt.okN at h;cases h)
 |n+1,.lst ds,h=>by
  rw[Dt.okN]at h;obtain⟨h1,h2⟩:=KQ n ds h;exact⟨by rw[Dt.py,eF];exact h1,by rw[Dt.py,cP];rfl'⟩
 |n+1,.tup ds,h=>by
  rw[Dt.okN]at h;obtain⟨h1,h2⟩:=KQ n ds h;exact⟨by rw[Dt.py,eF];exact h1,by rw[Dt.py,cP];rfl'⟩
 |n+1,.scr ns,h=>by
  obtain⟨h1,h2⟩:=Py ns;exact⟨by rw[Dt.py,eF];exact h1,by rw[Dt.py,cP];rfl'⟩
theorem KQ:∀(n:Nat)(ds:fK),oksN n ds=af->dB (pys ds)=af/\cY (pys ds)<=n
 |n,[],_=>⟨rfl,by rw[pys,cY];exact vh _⟩
 |n,d::ds,h=>by
  rw[oksN,wS]at h;obtain⟨h1,h2⟩:=YD n d h.1;obtain⟨h3,h4⟩:=KQ n ds h.2;refine⟨by rw[pys,dB,h1,h3];rfl,?_⟩;rw[pys,cY];exact Nat.max_le.mpr ⟨h2,h4⟩
end
theorem Ex{d:Dt}{n:Nat}(h:d.okN n=af)(hn:n<=64):SeqAt.shaped d.py=af:=by
 obtain⟨h1,h2⟩:=YD n d h;unfold SeqAt.shaped;rw[h1,Bool.true_and];exact aL (wO h2 hn)
section
variable {X:Cx}{π:aB}{σ:St}{H:Hp}{s:Shared}
theorem KR{h:aR}:∀{ns:aH}{us:aF},Vals (ns.map V.int) us->∃as,ReadsAll h us (ns.map dM) as
 |[],us,r=>by cases r;exact⟨_,.nil⟩
 | n::ns,us,r=>by
  rw[wx]at r;cases r with
  |cons r1 r2=>
   obtain⟨t,rfl⟩:=r1;obtain⟨as,q⟩:=KR r2;exact⟨_,.cons (.int n t) q⟩
mutual
theorem Dw(I:Inv X π σ H s):∀(n:Nat)(d:Dt){v:V}{u:Value},d.okN n=af->Rp X.K emp d H v->RelV v u->∃as,Reads s.heap u d.py as
 |n,.non,v,u,_,h,r=>by rw[Rp.non_]at h;subst h;cases r;exact⟨_,.none⟩
 |n,.bl b,v,u,_,h,r=>by rw[Rp.bl_]at h;subst h;cases r;exact⟨_,.bool b⟩
 |n,.int i,v,u,_,h,r=>by rw[Rp.int_]at h;subst h;obtain⟨t,rfl⟩:=r;exact⟨_,.int i t⟩
 |n,.str x,v,u,_,h,r=>by rw[Rp.str_]at h;subst h;obtain⟨t,rfl⟩:=r;exact⟨_,.str x t⟩
 |n,.dic,v,u,o,h,r=>by cases n<;>(unfold Dt.okN at o;cases o)
 |n,.obj _ _ _ _,v,u,o,h,r=>by cases n<;>(unfold Dt.okN at o;cases o)
 |0,.lst ds,v,u,o,h,r=>by rw[Dt.okN]at o;cases o
 |0,.tup ds,v,u,o,h,r=>by rw[Dt.okN]at o;cases o
 |n+1,.lst ds,v,u,o,h,r=>by
  rw[Dt.okN]at o;obtain⟨a,vs,rfl,_,h1,h2⟩:=Rp.lst_.mp h;cases r;obtain⟨its,rv,⟨o,n,e,c,dd,dt⟩,_⟩:=I.list (SqL.of (K:=X.K) h1);obtain⟨as,q⟩:=Dx I _ ds (by assumption) (Rps.mono ds A9 h2) rv;exact⟨_,by rw[Dt.py];exact .list e c dt q⟩
 |n+1,.tup ds,v,u,o,h,r=>by
  rw[Dt.okN]at o;obtain⟨a,vs,rfl,h1,h2⟩:=Rp.tup_.mp h;cases r;obtain⟨its,rv,⟨o,e,c,n,dt⟩,_⟩:=I.tuple h1;obtain⟨as,q⟩:=Dx I _ ds (by assumption) h2 rv;exact⟨_,by rw[Dt.py];exact .tuple e c dt q⟩
 |n,.scr ns,v,u,_,h,r=>by
  obtain⟨a,rfl,_,h1⟩:=Rp.scr_.mp h;cases r;obtain⟨its,rv,⟨o,n,e,c,dd,dt⟩,_⟩:=I.list h1.sq;obtain⟨as,q⟩:=KR (h:=s.heap) rv;exact⟨_,by rw[Dt.py];exact .list e c dt q⟩
theorem Dx(I:Inv X π σ H s):∀(n:Nat)(ds:fK){vs:fL}{us:aF},oksN n ds=af->Rps X.K emp ds H vs->Vals vs us->∃as,ReadsAll s.heap us (pys ds) as
 |n,[],vs,us,_,h,r=>by rw[Rps.nil_]at h;subst h;cases r;exact⟨_,by rw[pys];exact .nil⟩
 | n,d::ds,vs,us,o,h,r=>by
  rw[oksN,wS]at o;obtain⟨v,ws,rfl,h1,h2⟩:=Rps.cons_.mp h;cases r with
  |cons r1 r2=>
   obtain⟨as,q1⟩:=Dw I n d o.1 h1 r1;obtain⟨bs,q2⟩:=Dx I n ds o.2 h2 r2;exact⟨_,by rw[pys];exact .cons q1 q2⟩
end
end
def mD(x y:Dt):Bool:=dq x.py y.py
section
variable {X:Cx}{a b c e:az}{Fa Fb Fc:FE}{pos:Pos}
def opEq:FO:=λx y=>if x.okN 8&&y.okN 8 then aa (.nw,.bl (mD x y)) else aj
def opNe:FO:=λx y=>if x.okN 8&&y.okN 8 then aa (.nw,.bl (!mD x y)) else aj
theorem gX(hu:X.A.units+64<cLine):OpF X (bj .Eq) opEq:=by
 rintro π s σ H x y v u Q I r1 r2 ⟨d1,d2,f,d,q1,q2,e,k⟩;unfold opEq at e;split at e
 .rename_i h;rw[wS]at h;cases e;obtain⟨as,ra⟩:=Dw I _ d1 h.1 q1 r1;obtain⟨bs,rb⟩:=Dw I _ d2 h.2 q2 r2;exact eq_dataH ra rb (Ex h.1 (by decide)) (Ex h.2 (by decide)) hu ⟨.bl _,H,I,rfl,k _ H (Same.refl H) RpF.b_⟩
 .cases e
theorem gU(hu:X.A.units+64<cLine):OpF X (bj .NotEq) opNe:=by
 rintro π s σ H x y v u Q I r1 r2 ⟨d1,d2,f,d,q1,q2,e,k⟩;unfold opNe at e;split at e
 .rename_i h;rw[wS]at h;cases e;obtain⟨as,ra⟩:=Dw I _ d1 h.1 q1 r1;obtain⟨bs,rb⟩:=Dw I _ d2 h.2 q2 r2;exact ne_dataH ra rb (Ex h.1 (by decide)) (Ex h.2 (by decide)) hu ⟨.bl _,H,I,rfl,k _ H (Same.refl H) RpF.b_⟩
 .cases e
end
def RpFs(X:Ky)(H:Hp):fM->Hp->fL->Prop
 |[],_,vs=>vs=[]
 |x::xs,H',vs=>∃v r,vs=v::r/\RpF X H x.1 x.2 H' v/\RpFs X H xs H' r
def jb(X:Cx)(F:FA):TA:=λσ H Q=>∃ρ xs,RepS X.ky H ρ σ/\F ρ=aa xs/\∀vs H',Same H H'->RpFs X.ky H xs H' vs->Q vs H'
def iZ(X:Cx)(es:fw)(F:FA):Prop:=PA X es (jb X F)
def sndL:fM->fK
 |[]=>[]
 |x::xs=>x.2::sndL xs
def GO:fM->Bool
 |[]=>af
 |x::xs=>x.1.isNw&&GO xs
def AO:fM->Bool
 |[]=>af
 |x::xs=>x.1.isFr&&AO xs
section
variable {X:Ky}{H H' H1:Hp}
theorem RpFs.sh:∀{xs:fM}{vs:fL},RpFs X H xs H' vs->Rps X.K emp (sndL xs) H' vs
 |[],vs,h=>Rps.nil_.mpr h
 |x::xs,vs,⟨v,r,e,h1,h2⟩=>Rps.cons_.mpr ⟨v,r,e,h1.sh,RpFs.sh h2⟩
theorem RpFs.nw:∀{xs:fM}{vs:fL},GO xs=af->RpFs X H xs H' vs->Rps X.K H (sndL xs) H' vs
 |[],vs,_,h=>Rps.nil_.mpr h
 |⟨f,d⟩::xs,vs,q,⟨v,r,e,h1,h2⟩=>by
  unfold GO at q;rw[wS]at q;cases f<;>first|(exact aM q.1 vi)|exact Rps.cons_.mpr ⟨v,r,e,h1,RpFs.nw q.2 h2⟩
theorem RpFs.fr(h0:Same X.H₀ H):∀{xs:fM}{vs:fL},AO xs=af->RpFs X H xs H' vs->Rps X.K X.H₀ (sndL xs) H' vs
 |[],vs,_,h=>Rps.nil_.mpr h
 |⟨f,d⟩::xs,vs,q,⟨v,r,e,h1,h2⟩=>by
  unfold AO at q;rw[wS]at q;exact Rps.cons_.mpr ⟨v,r,e,h1.fr h0 q.1,RpFs.fr h0 q.2 h2⟩
theorem RpFs.mono:∀{xs:fM}{vs:fL},RpFs X H xs H' vs->Same H' H1->RpFs X H xs H1 vs
 |[],vs,h,_=>h
 |x::xs,vs,⟨v,r,e,h1,h2⟩,s=>⟨v,r,e,h1.mono s,RpFs.mono h2 s⟩
theorem RpFs.early(s:Same H H1):∀{xs:fM}{vs:fL},RpFs X H1 xs H' vs->RpFs X H xs H' vs
 |[],vs,h=>h
 |x::xs,vs,⟨v,r,e,h1,h2⟩=>⟨v,r,e,h1.early s,RpFs.early s h2⟩
end
section
variable {X:Cx}{a b c e:az}{es:fw}{Fa Fb Fe:FE}{Fs:FA}{pos:Pos}
def fNil:FA:=λ_=>aa []
def b7(Fa:FE)(Fs:FA):FA:=λρ=>(Fa ρ).bind λx=>(Fs ρ).bind λxs=>aa (x::xs)
theorem i7:iZ X [] fNil:=Ih.imp (by rintro σ H Q ⟨ρ,xs,rs,e,k⟩;cases e;exact k [] H (Same.refl H) rfl)
theorem i8(ha:PF X e Fe)(hr:iZ X es Fs)(hs:au (e::es) X.env=(ab,eval e X.env)::au es X.env:=by rfl):iZ X (e::es) (b7 Fe Fs):=
 (X5 ha hr hs).imp fun σ H Q hZ=>hZ.elim fun ρ hZ=>hZ.elim fun xs hZ=>hZ.elim fun rs hZ=>hZ.elim fun e0 k=>by
  obtain⟨⟨f,d⟩,e1,e2⟩:=i9 e0;obtain⟨ys,e3,e4⟩:=i9 e2;cases e4;exact⟨ρ,f,d,rs,e1,λv H1 s1 r1=>⟨ρ,ys,rs.mono s1,e3,λvs H2 s2 r2=>k _ _ (s1.trans s2) ⟨v,vs,rfl,r1.mono s2,r2.early s1⟩⟩⟩
theorem RpFs.length{X:Ky}{H H':Hp}:∀{xs:fM}{vs:fL},RpFs X H xs H' vs->vs.length=xs.length
 |[],vs,h=>by rw[show vs=[]from h];rfl
 |x::xs,vs,⟨v,r,e,_,h2⟩=>by rw[e,wu,wu,RpFs.length h2]
def fLst(Fs:FA):FE:=λρ=>(Fs ρ).bind λxs=>if xs.length<=1000 then aa (if GO xs then .nw else .tn,.lst (sndL xs)) else aj
def fTup(Fs:FA):FE:=λρ=>(Fs ρ).bind λxs=>if xs.length<=1000 then aa (if GO xs then .nw else if AO xs then .fr else .sh,.tup (sndL xs)) else aj
theorem Fp(h:iZ X es Fs):PF X (.List es pos) (fLst Fs):=(kW h).imp λσ H Q⟨ρ,f,d,rs,e0,k⟩=>by
 obtain⟨xs,e1,e2⟩:=i9 e0;split at e2
 .rename_i hl;cases e2;refine⟨ρ,xs,rs,e1,λvs H1 s1 r1=>⟨wO (by rw[r1.length];exact hl) (by decide),λp hp=>k _ _ (s1.trans (J0 hp)) ?_⟩⟩;have hp0:H p=aj:=s1.free hp;by_cases q:GO xs=af
  .rw[ak q];exact Rp.new (K:=X.K) (B:=H) hp hp0 (r1.nw q)
  .rw[ao q];exact⟨Rp.new hp rfl r1.sh,⟨_,rfl⟩,λa e=>by cases e;exact hp0⟩
 .cases e2
theorem AQ{x1}(h:iZ X es Fs):PF X (.Tuple es x1 pos) (fTup Fs):=(kR h).imp λσ H Q⟨ρ,f,d,rs,e0,k⟩=>by
 obtain⟨xs,e1,e2⟩:=i9 e0;split at e2
 .rename_i hl;cases e2;refine⟨ρ,xs,rs,e1,λvs H1 s1 r1=>⟨wO (by rw[r1.length];exact hl) (by decide),λp hp=>k _ _ (s1.trans (J0 hp)) ?_⟩⟩;have r2:=r1.mono (J0 (o:=.tup vs) hp);by_cases q:GO xs=af
  .rw[ak q];exact(Rp.tup_ (K:=X.K) (B:=H)).mpr ⟨p,vs,rfl,SqT.of B3,r2.nw q⟩
  .rw[ao q];by_cases q2:AO xs=af
   .rw[ak q2];exact(Rp.tup_ (K:=X.K) (B:=X.H₀)).mpr ⟨p,vs,rfl,SqT.of B3,r2.fr rs.base q2⟩
   .rw[ao q2];exact(Rp.tup_ (K:=X.K) (B:=emp)).mpr ⟨p,vs,rfl,SqT.of B3,r2.sh⟩
 .cases e2
abbrev FC:=fK->Option Dt
def iT(K:aD)(fr:Bool)(c:FC):Sp:=λvs H Q _=>∃ds d,Rps K emp ds H vs/\c ds=aa d/\∀v H',Same H H'->Rp K (if fr then H else emp) d H' v->Q v H'
def i0(fr:Bool)(c:FC)(Fs:FA):FE:=λρ=>(Fs ρ).bind λxs=>(c (sndL xs)).map (nrm (if fr then .nw else .sh))
theorem z1r{X:Ky}{fr:Bool}{H H1 H':Hp}{d:Dt}{v:V}(s:Same H H1)(r:Rp X.K (if fr then H1 else emp) d H' v):RpF X H (nrm (if fr then .nw else .sh) d).1 d H' v:=by
 cases fr with
 |true=>exact RpF.nrm (f:=.nw) (RpF.early s (show RpF X H1 .nw d H' v from r))
 |false=>exact RpF.nrm (f:=.sh) r
theorem kZ{fr:Bool}{k:Nat}{f:Addr}{fd:aq}{ps:fq}{ct:FC}{x:Str}{p:Pos}(F:FnOk X.prog X.w X.K X.mg X.base CX0 k f fd ps (iT X.K fr ct))(hr:Room k X.A)(hg:Gl X x)(hm:X.mg x=aa (.ref f))(hk:bI X.K (.ref f)=af)(hb:Binds X.K fd ps [])
  (ha:iZ X (e::es) Fs) (hdb:(x==("__debug__":Str))=ab:=by decide) (hst:au (e::es) X.env=(ab,eval e X.env)::au es X.env:=by rfl) (hpl:(bO pos (au es X.env)).any (·.1)=ab:=by rfl):PF X (.Call (.Name x p) (e::es) [] pos) (i0 fr ct Fs):=
 (z4I (E:=E0) (dvs:=[]) F hr hg hm hk hb .nil nM ha hdb hst hpl).imp fun σ H Q hZ=>hZ.elim fun ρ hZ=>hZ.elim fun f hZ=>hZ.elim fun d hZ=>hZ.elim fun rs hZ=>hZ.elim fun e0 k=>by
  obtain⟨xs,e1,e2⟩:=i9 e0;cases q:ct (sndL xs) with
  |none=>rw[q]at e2;cases e2
  |some d0=>
   rw[q]at e2;have e2:nrm (if fr then .nw else .sh) d0=(f,d):=aO e2;have e3:d0=d:=bv eV e2;subst e3;refine⟨ρ,xs,rs,e1,λvs H1 s1 r1=>?_⟩;dsimp only;rw[w02];refine⟨_,d0,r1.sh,q,λv H' s' r'=>k v H' (s1.trans s') ?_⟩;have:=z1r (X:=X.ky) s1 r';rw[e2]at this;exact this
abbrev FB:=fK->Option Dv
def Dk(X:Cx)(f:Value)(r:FB):Prop:=GH X f (λxs H Q=>∃ds f d,Rps X.K emp ds H xs/\r ds=aa (f,d)/\∀v H',Same H H'->RpF X.ky H f d H' v->Q v H')
def fBlt(r:FB)(Fs:FA):FE:=λρ=>(Fs ρ).bind λxs=>r (sndL xs)
theorem YE{r:FB}{σ:St}{H:Hp}{Q:VK}(h:io X (fBlt r Fs) σ H Q):jb X Fs σ H λvs H1=>∃ds f d,Rps X.K emp ds H1 vs/\r ds=aa (f,d)/\∀v H',Same H1 H'->RpF X.ky H1 f d H' v->Q v H':=by
 obtain⟨ρ,f,d,rs,e0,k⟩:=h;obtain⟨xs,e1,e2⟩:=i9 e0;exact⟨ρ,xs,rs,e1,λvs H1 s1 r1=>⟨_,f,d,r1.sh,e2,λv H' s' r'=>k v H' (s1.trans s') (r'.early s1)⟩⟩
theorem z4W{id:String}{r:FB}{x:Str}{p:Pos}(hc:Dk X (.builtin id) r)(hg:Gl X x)(hm:X.mg x=aj)(hv:bq x=aa (.builtin id))(ha:iZ X (e::es) Fs)(hn:x ≠ "__name__":=by decide)(hdb:(x==("__debug__":Str))=ab:=by decide)(hst:au (e::es) X.env=(ab,eval e X.env)::au es X.env:=by rfl)(hpl:(bO pos (au es X.env)).any (·.1)=ab:=by rfl):
 PF X (.Call (.Name x p) (e::es) [] pos) (fBlt r Fs):=(QS hc hg hm hv ha hn hdb hst hpl).imp λσ H Q h=>YE h
theorem z1s{T:String}{r:FB}{x:Str}{p:Pos}(hc:Dk X (.type T) r)(hg:Gl X x)(hm:X.mg x=aj)(hv:bq x=aa (.type T))(ha:iZ X (e::es) Fs)(hn:x ≠ "__name__":=by decide)(hdb:(x==("__debug__":Str))=ab:=by decide)(hst:au (e::es) X.env=(ab,eval e X.env)::au es X.env:=by rfl)(hpl:(bO pos (au es X.env)).any (·.1)=ab:=by rfl):
 PF X (.Call (.Name x p) (e::es) [] pos) (fBlt r Fs):=(ZS hc hg hm hv ha hn hdb hst hpl).imp λσ H Q h=>YE h
end
section
variable {X:Cx}
theorem Rps.one'{K:aD}{B H:Hp}{d:Dt}{vs:fL}(h:Rps K B [d] H vs):∃v,vs=[v]/\Rp K B d H v:=by
 obtain⟨v,r,rfl,h1,h2⟩:=Rps.cons_.mp h;rw[Rps.nil_.mp h2];exact⟨v,rfl,h1⟩
def bLen:FB
 |[.lst xs]=>aa (.nw,.int xs.length)
 |[.tup xs]=>aa (.nw,.int xs.length)
 |[.scr xs]=>aa (.nw,.int xs.length)
 |_=>aj
theorem J8:Dk X (.builtin "len") bLen:=by
 rintro π s σ H xs us Q I r ⟨ds,f,d,rs,e,k⟩;unfold bLen at e;split at e
 .cases e;obtain⟨v,rfl,h⟩:=rs.one';obtain⟨p,vs,rfl,_,q1,q2⟩:=h.items;exact Cn π s σ H _ us Q I r ⟨p,vs,rfl,.inl (SqL.of q1),by rw[q2.length];exact k _ H (Same.refl H) RpF.i_⟩
 .cases e;obtain⟨v,rfl,h⟩:=rs.one';obtain⟨p,vs,rfl,q1,q2⟩:=Rp.tup_.mp h;exact Cn π s σ H _ us Q I r ⟨p,vs,rfl,.inr q1,by rw[q2.length];exact k _ H (Same.refl H) RpF.i_⟩
 .cases e;obtain⟨v,rfl,h⟩:=rs.one';obtain⟨p,rfl,_,q1⟩:=Rp.scr_.mp h;exact Cn π s σ H _ us Q I r ⟨p,_,rfl,.inl q1.sq,by rw[wn];exact k _ H (Same.refl H) RpF.i_⟩
 .cases e
def bTup:FB
 |[.lst xs]=>aa (if L8 xs then .nw else .sh,.tup xs)
 |[.tup xs]=>aa (if L8 xs then .nw else .sh,.tup xs)
 |_=>aj
theorem YF{X:Ky}{H H':Hp}{xs:fK}{v:V}(h:Rp X.K emp (.tup xs) H' v):RpF X H (if L8 xs then .nw else .sh) (.tup xs) H' v:=by
 by_cases q:L8 xs=af
 .rw[ak q];exact RpF.scal (by rw[Dt.flat];exact q) h
 .rw[ao q];exact h
theorem z1t:Dk X (.type "tuple") bTup:=by
 rintro π s σ H xs us Q I r ⟨ds,f,d,rs,e,k⟩;unfold bTup at e;split at e
 .cases e;obtain⟨v,rfl,h⟩:=rs.one';obtain⟨p,vs,rfl,_,q1,q2⟩:=h.items;exact Fn π s σ H _ us Q I r ⟨p,vs,rfl,.inl ⟨SqL.of q1,λl hl=>k _ _ (J0 hl) (YF (Rp.tup_.mpr ⟨l,vs,rfl,SqT.of B3,Rps.mono _ (J0 hl) q2⟩))⟩⟩
 .cases e;obtain⟨v,rfl,h⟩:=rs.one';obtain⟨p,vs,rfl,q1,q2⟩:=Rp.tup_.mp h;exact Fn π s σ H _ us Q I r ⟨p,vs,rfl,.inr ⟨q1,k _ H (Same.refl H) (YF h)⟩⟩
 .cases e
def bLst:FB
 |[.lst xs]=>aa (gM xs)
 |[.tup xs]=>aa (gM xs)
 |_=>aj
theorem BB:Dk X (.type "list") bLst:=by
 rintro π s σ H xs us Q I r ⟨ds,f,d,rs,e,k⟩;unfold bLst at e;split at e
 .cases e;obtain⟨v,rfl,h⟩:=rs.one';obtain⟨p,vs,rfl,_,q1,q2⟩:=h.items;exact GI π s σ H _ us Q I r ⟨p,vs,rfl,.inl (SqL.of q1),λl hl=>k _ _ (J0 hl) (GM hl q2)⟩
 .cases e;obtain⟨v,rfl,h⟩:=rs.one';obtain⟨p,vs,rfl,q1,q2⟩:=Rp.tup_.mp h;exact GI π s σ H _ us Q I r ⟨p,vs,rfl,.inr q1,λl hl=>k _ _ (J0 hl) (GM hl q2)⟩
 .cases e
def bAbs:FB
 |[.int i]=>aa (.nw,.int (if i<0 then -i else i))
 |_=>aj
theorem z1u:Dk X (.builtin "abs") bAbs:=by
 rintro π s σ H xs us Q I r ⟨ds,f,d,rs,e,k⟩;unfold bAbs at e;split at e
 .rename_i i;cases e;obtain⟨v,rfl,h⟩:=rs.one';rw[Rp.int_]at h;subst h;exact z1a π s σ H _ us Q I r ⟨i,rfl,k _ H (Same.refl H) RpF.i_⟩
 .cases e
def bInt:FB
 |[.int i]=>aa (.nw,.int i)
 |[.bl b]=>aa (.nw,.int (if b then 1 else 0))
 |_=>aj
theorem z1v:Dk X (.type "int") bInt:=by
 rintro π s σ H xs us Q I r ⟨ds,f,d,rs,e,k⟩;unfold bInt at e;split at e
 .rename_i i;cases e;obtain⟨v,rfl,h⟩:=rs.one';rw[Rp.int_]at h;subst h;exact Nw π s σ H _ us Q I r (.inl ⟨i,rfl,k _ H (Same.refl H) RpF.i_⟩)
 .rename_i b;cases e;obtain⟨v,rfl,h⟩:=rs.one';rw[Rp.bl_]at h;subst h;exact Nw π s σ H _ us Q I r (.inr ⟨b,rfl,k _ H (Same.refl H) RpF.i_⟩)
 .cases e
def Fq:fK->Option (List Bool)
 |[]=>aa []
 |.bl b::ds=>(Fq ds).map (b::·)
 |_=>aj
def Cr:fK->Option (aH)
 |[]=>aa []
 |.int i::ds=>(Cr ds).map (i::·)
 |_=>aj
theorem Ii{K:aD}{B H:Hp}:∀{ds:fK}{bs:List Bool}{vs:fL},Fq ds=aa bs->Rps K B ds H vs->vs=bs.map V.bl
 |[],bs,vs,e,r=>by cases e;exact Rps.nil_.mp r
 |.bl b::ds,bs,vs,e,r=>by
  obtain⟨v,ws,rfl,h1,h2⟩:=Rps.cons_.mp r;unfold Fq at e;cases q:Fq ds with
  |none=>rw[q]at e;cases e
  |some cs=>rw[q]at e;cases e;rw[Rp.bl_.mp h1,Ii q h2];rfl
 |.non::ds,bs,vs,e,r=>by cases e
 |.int _::ds,bs,vs,e,r=>by cases e
 |.str _::ds,bs,vs,e,r=>by cases e
 |.lst _::ds,bs,vs,e,r=>by cases e
 |.tup _::ds,bs,vs,e,r=>by cases e
 |.scr _::ds,bs,vs,e,r=>by cases e
 |.dic::ds,bs,vs,e,r=>by cases e
 |.obj _ _ _ _::ds,bs,vs,e,r=>by cases e
theorem KS{K:aD}{B H:Hp}:∀{ds:fK}{bs:aH}{vs:fL},Cr ds=aa bs->Rps K B ds H vs->vs=bs.map V.int
 |[],bs,vs,e,r=>by cases e;exact Rps.nil_.mp r
 |.int b::ds,bs,vs,e,r=>by
  obtain⟨v,ws,rfl,h1,h2⟩:=Rps.cons_.mp r;unfold Cr at e;cases q:Cr ds with
  |none=>rw[q]at e;cases e
  |some cs=>rw[q]at e;cases e;rw[Rp.int_.mp h1,KS q h2];rfl
 |.non::ds,bs,vs,e,r=>by cases e
 |.bl _::ds,bs,vs,e,r=>by cases e
 |.str _::ds,bs,vs,e,r=>by cases e
 |.lst _::ds,bs,vs,e,r=>by cases e
 |.tup _::ds,bs,vs,e,r=>by cases e
 |.scr _::ds,bs,vs,e,r=>by cases e
 |.dic::ds,bs,vs,e,r=>by cases e
 |.obj _ _ _ _::ds,bs,vs,e,r=>by cases e
def bAll:FB
 |[.lst xs]=>(Fq xs).map λbs=>(.nw,.bl (bs.all id))
 |_=>aj
def bAny:FB
 |[.lst xs]=>(Fq xs).map λbs=>(.nw,.bl (bs.any id))
 |_=>aj
def bSum:FB
 |[.lst xs]=>(Cr xs).map λns=>(.nw,.int ns.sum)
 |_=>aj
theorem ZW(bs:List Bool):(ah bs.length).all (λi=>bs.getD i ab)=bs.all id:=by
 rw[w12,uU,uU];constructor
 .intro h b hb;obtain⟨i,hi,e⟩:=wI hb;have:=h i (wJ.mpr hi);simp[am,wa hi,e]at this;exact this
 .intro h i hi;have hi:=wJ.mp hi;have:=h _ (vx hi);simpa[am,wa hi]using this
theorem ZX(bs:List Bool):(ah bs.length).any (λi=>bs.getD i ab)=bs.any id:=by
 rw[w12,w1x,w1x];constructor
 .rintro⟨i,hi,h⟩;have hi:=wJ.mp hi;exact⟨_,vx hi,by simpa[am,wa hi]using h⟩
 .rintro⟨b,hb,h⟩;obtain⟨i,hi,e⟩:=wI hb;exact⟨i,wJ.mpr hi,by simp[am,wa hi,e];exact h⟩
theorem Jx(ns:aH):∀k,k<=ns.length->preSum (λi=>ns.getD i 0) k=(ns.take k).sum
 |0,_=>by simp[preSum]
 |k+1,h=>by
  have hk:k<ns.length:=h;rw[preSum,Jx ns k (),List.take_succ,wa hk,List.sum_append];simp[am,wa hk]
theorem YG{bs:List Bool}{us:aF}(r:Vals (bs.map V.bl) us){prog:aN}{w:aI}{A:bu}:TruthOf prog w A (λi v=>us.toArray[i]?=aa v) (λi=>bs.getD i ab):=by
 intro i v s Q E hP hQ;have e:us[i]?=aa v:=by simpa using hP
 cases q:bs[i]? with
 |none=>
  have:=r.none_of (i:=i) (by rw[wv,q];rfl);rw[this]at e;cases e
 |some b=>
  obtain⟨u,h1,h2⟩:=r.get (i:=i) (x:=V.bl b) (by rw[wv,q];rfl);rw[e]at h1;cases h1;cases h2;have hQ':Q b s:=by simpa[am,q]using hQ
  exact cn hQ'
theorem kh(hc:X.calm=af):Dk X (.builtin "all") bAll:=by
 rintro π s σ H xs us Q I r ⟨ds,f,d,rs,e,k⟩;unfold bAll at e;split at e
 .rename_i ys;cases q:Fq ys with
  |none=>rw[q]at e;cases e
  |some bs=>
   rw[q]at e;cases e;obtain⟨v,rfl,h⟩:=rs.one';obtain⟨p,vs,rfl,_,q1,q2⟩:=h.items;obtain⟨u,rfl,ru⟩:=r.one;cases ru;have ev:=Ii q q2;subst ev;obtain⟨its,rv,pl,hz⟩:=I.list (SqL.of (K:=X.K) q1);have hlen:its.toArray.size=bs.length:=by rw[wL,<-rv.length,wn]
   refine call_all_walk (cq pl.isList ?_);have hne:p≠s.heap.objs.size:=vt (by obtain⟨o,e,_⟩:=pl.isList;exact wD e);refine⟨_,_,_,_,_,_,λi=>bs.getD i ab,rfl,Walks.list (A:=X.A.in1) (I.ok.hd hc) s.heap.objs.size p hne its.toArray,⟨⟨_,wH _ rfl,rfl,rfl⟩,pl.isList.at λo e=>wm _ e⟩,YG rv,λh' tk hk=>?_⟩;rw[hlen,ZW];exact⟨.bl _,H,I.kept λb o e=>hk b o (by simp;exact vt (wD e)) (wm _ e),rfl,k _ H (Same.refl H) RpF.b_⟩
 .cases e
theorem oM(hc:X.calm=af):Dk X (.builtin "any") bAny:=by
 rintro π s σ H xs us Q I r ⟨ds,f,d,rs,e,k⟩;unfold bAny at e;split at e
 .rename_i ys;cases q:Fq ys with
  |none=>rw[q]at e;cases e
  |some bs=>
   rw[q]at e;cases e;obtain⟨v,rfl,h⟩:=rs.one';obtain⟨p,vs,rfl,_,q1,q2⟩:=h.items;obtain⟨u,rfl,ru⟩:=r.one;cases ru;have ev:=Ii q q2;subst ev;obtain⟨its,rv,pl,hz⟩:=I.list (SqL.of (K:=X.K) q1);have hlen:its.toArray.size=bs.length:=by rw[wL,<-rv.length,wn]
   refine call_any_walk (cq pl.isList ?_);have hne:p≠s.heap.objs.size:=vt (by obtain⟨o,e,_⟩:=pl.isList;exact wD e);refine⟨_,_,_,_,_,_,λi=>bs.getD i ab,rfl,Walks.list (A:=X.A.in1) (I.ok.hd hc) s.heap.objs.size p hne its.toArray,⟨⟨_,wH _ rfl,rfl,rfl⟩,pl.isList.at λo e=>wm _ e⟩,YG rv,λh' tk hk=>?_⟩;rw[hlen,ZX];exact⟨.bl _,H,I.kept λb o e=>hk b o (by simp;exact vt (wD e)) (wm _ e),rfl,k _ H (Same.refl H) RpF.b_⟩
 .cases e
theorem oK(hc:X.calm=true):Dk X (.builtin "sum") bSum:=by
 rintro π s σ H xs us Q I r ⟨ds,f,d,rs,e,k⟩;unfold bSum at e;split at e
 .rename_i ys;cases q:Cr ys with
  |none=>rw[q]at e;cases e
  |some ns=>
   rw[q]at e;cases e;obtain⟨v,rfl,h⟩:=rs.one';obtain⟨p,vs,rfl,_,q1,q2⟩:=h.items;obtain⟨u,rfl,ru⟩:=r.one;cases ru;have ev:=KS q q2;subst ev;obtain⟨its,rv,pl,hz⟩:=I.list (SqL.of (K:=X.K) q1);have hlen:its.toArray.size=ns.length:=by rw[wL,<-rv.length,wn]
   refine call_sum_walkG (cq pl.isList ?_);have hlt:p<s.heap.objs.size:=by obtain⟨o,e,_⟩:=pl.isList;exact wD e
   have hne:p≠s.heap.objs.size:=vt hlt;refine⟨_,_,_,_,_,_,λi=>ns.getD i 0,rfl,Walks.list (A:=X.A.in1) (I.ok.hd hc) s.heap.objs.size p hne its.toArray,⟨⟨_,wH _ rfl,rfl,rfl⟩,pl.isList.at λo e=>wm _ e⟩,λb hb=>?_,λi v hP=>?_,λh' tk t' hk=>?_⟩
   .show b<(s.heap.push _).objs.size;rw[uc];rcases wB.mp hb with e|hb
    .rw[e];exact vU _
    .rw[ve.mp hb];exact w1o hlt
   .have e:its[i]?=aa v:=by simpa using hP
    cases q:ns[i]? with
    | none =>
      have:=rv.none_of (i:=i) (by rw[wv,q];rfl);rw[this]at e;cases e
    | some n =>
      obtain⟨u,h1,h2⟩:=rv.get (i:=i) (x:=V.int n) (by rw[wv,q];rfl);rw[e]at h1;cases h1;obtain⟨t,rfl⟩:=h2;exact⟨t,by simp[am,q]⟩
   .rw[hlen,Jx ns ns.length (wt _),w0N];exact⟨.int _,H,I.kept λb o e=>hk b o (by simp;exact vt (wD e)) (wm _ e),⟨t',rfl⟩,k _ H (Same.refl H) RpF.i_⟩
 .cases e
def tyN:Dt->String
 |.non=>"NoneType"
 |.bl _=>"bool"
 |.int _=>"int"
 |.str _=>"str"
 |.lst _=>"list"
 |.scr _=>"list"
 |.tup _=>"tuple"
 |.dic=>"dict"
 |.obj _ _ _ _=>"Book"
def QY(t T:String):Bool:=t==T||(t=="bool"&&T=="int")
def okT(T:String):Bool:=T=="int"||T=="bool"||T=="str"||T=="list"||T=="tuple"||T=="dict"
theorem Ij{T:String}(h:okT T=af):T ="int" \/ T ="bool" \/ T ="str" \/ T ="list" \/ T ="tuple" \/ T ="dict":=by
 unfold okT at h;simp only[w0q,beq_iff_eq]at h;rcases h with((((h|h)|h)|h)|h)|h
 .exact .inl h
 .exact .inr (.inl h)
 .exact .inr (.inr (.inl h))
 .exact .inr (.inr (.inr (.inl h)))
 .exact .inr (.inr (.inr (.inr (.inl h))))
 .exact .inr (.inr (.inr (.inr (.inr h))))
def Dt.isO:Dt->Bool
 |.obj _ _ _ _=>af
 |_=>ab
theorem oz{K:aD}{d:Dt}{T:String}(h:okT T=af)(ho:d.isO=ab):eQ K (.type (tyN d)) (.type T)=aa (QY (tyN d) T):=by
 rcases Ij h with rfl|rfl|rfl|rfl|rfl|rfl<;>cases d<;>first|rfl|cases ho
def fIsi(T:String)(F:FE):FE:=λρ=>(F ρ).map λx=>(.nw,.bl (QY (tyN x.2) T))
theorem z4X{T:String}(hT:okT T=af):GH X (.builtin "isinstance") (λxs H Q=>∃d v,xs=[v,.ty T]/\Rp X.K emp d H v/\Q (.bl (QY (tyN d) T)) H):=by
 intro π s σ H xs us Q I r ⟨d,v,ex,h1,fin⟩;subst ex;obtain⟨u,u',rfl,r1,r2⟩:=mH r;cases r2;have e:d.isO=ab->_:=λho=>oz (K:=X.K) (d:=d) hT ho;cases d with
 |obj C k b es=>
  obtain⟨a,dx,vk,vb,l,vs,rfl,_,q,_,_,_,bk,_⟩:=Rp.obj_.mp h1;cases r1;have sub:QY (tyN (.obj C k b es)) T=ab:=by rcases Ij hT with rfl|rfl|rfl|rfl|rfl|rfl<;>rfl
  have mem:T∈["int","bool","str","list","tuple","dict"]:=by rcases Ij hT with rfl|rfl|rfl|rfl|rfl|rfl<;>decide
  refine Bx (x:=.ref a) I rfl (.ins q bk.cls bk.ha bk.hn bk.tk bk.hm) (bk.is T mem) λtk=>⟨.bl _,H,I.tok tk,rfl,?_⟩;rw[sub]at fin;exact fin
 |non=>rw[Rp.non_.mp h1]at r1;exact Bx I r1 .non (e rfl) λtk=>⟨.bl _,H,I.tok tk,rfl,fin⟩
 |bl b=>rw[Rp.bl_.mp h1]at r1;exact Bx I r1 (.bl b) (e rfl) λtk=>⟨.bl _,H,I.tok tk,rfl,fin⟩
 |int i=>rw[Rp.int_.mp h1]at r1;exact Bx I r1 (.int i) (e rfl) λtk=>⟨.bl _,H,I.tok tk,rfl,fin⟩
 |str x=>rw[Rp.str_.mp h1]at r1;exact Bx I r1 (.str x) (e rfl) λtk=>⟨.bl _,H,I.tok tk,rfl,fin⟩
 |dic=>
  obtain⟨a,rfl,q⟩:=Rp.dic_.mp h1;cases r1;exact aW eE I.kIn ⟨_,(I.hok a _ q).1,rfl⟩ (e rfl) (λz=>nomatch z) λtk=>⟨.bl _,H,I.tok tk,rfl,fin⟩
 |lst ys=>
  obtain⟨p,vs,rfl,_,q1,q2⟩:=h1.items;cases r1;obtain⟨its,_,pl,_⟩:=I.list (SqL.of (K:=X.K) q1);obtain⟨o,ho,hc,_⟩:=pl.isList;exact aW cZ I.kIn ⟨o,ho,hc⟩ (e rfl) (λz=>nomatch z) λtk=>⟨.bl _,H,I.tok tk,rfl,fin⟩
 |scr ys=>
  obtain⟨p,rfl,_,q1⟩:=Rp.scr_.mp h1;cases r1;obtain⟨its,_,pl,_⟩:=I.list q1.sq;obtain⟨o,ho,hc,_⟩:=pl.isList;exact aW cZ I.kIn ⟨o,ho,hc⟩ (e rfl) (λz=>nomatch z) λtk=>⟨.bl _,H,I.tok tk,rfl,fin⟩
 |tup ys=>
  obtain⟨p,vs,rfl,q1,q2⟩:=Rp.tup_.mp h1;cases r1;obtain⟨its,_,pl,_⟩:=I.tuple q1;obtain⟨o,ho,hc,_⟩:=pl;exact aW PySem.W.kitx_tuple I.kIn ⟨o,ho,hc⟩ (e rfl) (λz=>nomatch z) λtk=>⟨.bl _,H,I.tok tk,rfl,fin⟩
theorem Ft{a:az}{Fa:FE}{x:Str}{T:String}{p q pos:Pos}(hT:okT T=af)(hg:Gl X "isinstance")(hm:X.mg "isinstance"=aj)(hgT:Gl X x)(hmT:X.mg x=aj)(hvT:bq x=aa (.type T))(ha:PF X a Fa)
  (hn:x ≠ "__name__":=by decide) (hd:(x==("__debug__":Str))=ab:=by decide) (hs1:au [.Name x q] X.env=[(ab,eval (.Name x q) X.env)]:=by rfl)
  (hs:au [a,.Name x q] X.env=(ab,eval a X.env)::au [.Name x q] X.env:=by rfl):PF X (.Call (.Name "isinstance" p) [a,.Name x q] [] pos) (fIsi T Fa):=
 (QS (z4X hT) hg hm boot_isinstance (X5 ha (X5 (nI hgT hmT hvT hn hd) Ih hs1) hs) (by decide) (by decide) hs (by rw[hs1];rfl)).imp fun σ H Q hZ=>hZ.elim fun ρ hZ=>hZ.elim fun f hZ=>hZ.elim fun d hZ=>hZ.elim fun rs hZ=>hZ.elim fun e0 k=>by
  unfold fIsi at e0;cases h:Fa ρ with
  |none=>rw[h]at e0;cases e0
  |some z=>
   rw[h]at e0;cases e0;exact⟨ρ,z.1,z.2,rs,h,λv H1 s1 r1=>⟨z.2,v,rfl,r1.sh,k _ H1 s1 RpF.b_⟩⟩
abbrev FP:=gI->Option (fH)
def upP(X:Cx)(F:FP):TO:=λσ H Q=>∃ρ o,RepS X.ky H ρ σ/\F ρ=aa o/\∀H',Same H H'->Q o H'
def oY(X:Cx)(e:Option az)(F:FP):Prop:=PO X e (upP X F)
def A4:FP:=λ_=>aa aj
def intD:Dt->fH
 |.int i=>aa i
 |_=>aj
def G6(F:FE):FP:=λρ=>(F ρ).bind λx=>(intD x.2).map aa
theorem PO.imp{e:Option az}{t t':TO}(h:PO X e t)(q:∀σ H Q,t' σ H Q->t σ H Q):PO X e t':=λπ s σ H Q I z=>h π s σ H Q I (q σ H Q z)
theorem T8:oY X aj A4:=z4K.imp (by rintro σ H Q ⟨ρ,o,rs,e,k⟩;cases e;exact k H (Same.refl H))
theorem T9{e:az}{F:FE}(h:PF X e F):oY X (aa e) (G6 F):=(z4L h).imp λσ H Q⟨ρ,o,rs,e,k⟩=>by
 obtain⟨⟨f,d⟩,e1,e2⟩:=i9 e;refine⟨ρ,f,d,rs,e1,λv H1 s1 r1=>?_⟩;cases d<;>first|cases e2|skip
 rename_i i;exact⟨i,Rp.int_.mp r1.sh,k H1 s1⟩
def iA{α:Type}(xs:List α)(lo hi:fH):List α:=(xs.drop (HT.sIx xs.length 0 lo)).take (HT.sIx xs.length xs.length hi-HT.sIx xs.length 0 lo)
def ic(F:FE)(L U:FP):FE:=λρ=>(F ρ).bind λx=>(L ρ).bind λlo=>(U ρ).bind λhi=>match x.2 with|.lst ds=>aa (gM (iA ds lo hi))|_=>aj
theorem N2{e:az}{F:FE}{lo hi:Option az}{L U:FP}{pos p2:Pos}(he:PF X e F)(hl:oY X lo L)(hu:oY X hi U):PF X (.Subscript e (.Slice lo hi aj p2) pos) (ic F L U):=
 (z1d z4N he hl hu).imp fun σ H Q hZ=>hZ.elim fun ρ hZ=>hZ.elim fun f hZ=>hZ.elim fun d hZ=>hZ.elim fun rs hZ=>hZ.elim fun e0 k=>by
  obtain⟨⟨fx,dx⟩,e1,e2⟩:=i9 e0;obtain⟨l,e3,e4⟩:=i9 e2;obtain⟨u,e5,e6⟩:=i9 e4;clear e0 e2 e4;refine⟨ρ,fx,dx,rs,e1,λv H1 s1 r1=>⟨ρ,l,rs.mono s1,e3,λH2 s2=>⟨ρ,u,rs.mono (s1.trans s2),e5,λH3 s3=>?_⟩⟩⟩;have ex:∃ds,dx=.lst ds/\gM (iA ds l u)=(f,d):=by
   cases dx<;>first|(rename_i ds;exact⟨ds,rfl,aO e6⟩)|cases e6
  obtain⟨ds,rfl,e7⟩:=ex;cases e7;obtain⟨p,vs,rfl,_,q1,q2⟩:=(Rp.mono _ (s2.trans s3) r1.sh).items;refine⟨p,vs,rfl,SqL.of q1,λa ha=>k _ _ ((s1.trans (s2.trans s3)).trans (J0 ha)) ?_⟩;have h1:Rps X.K emp (iA ds l u) H3 (jf vs l u):=by
   unfold iA jf;rw[q2.length];exact Rps.take _ (Rps.drop _ q2)
  exact(GM ha h1).early (s1.trans (s2.trans s3))
end
end L2
end
section
local macro_rules|`(tactic|rfl')=>`(tactic|first|lia|omega +splitDisjunctions)
namespace L2
def iP(K:aD)(J:It)(items:fK)(H1:Hp):Prop:=∀(A:ft)(H:Hp),Same H1 (fU A H)->(∀a∈A,∃o,H a=aa o) ->
 (∀(i:Nat)(d:Dt),items[i]?=aa d->J.go i H/\∀x H',J.yld i H x H'->Same (fU A H) (fU A H')/\(∀a∈A,H' a=H a)/\Rp K emp d (fU A H') x)/\∀i,items.length<=i->J.stop i H
abbrev FI:=gI->Option (fK)
def qc(Y:Ky)(F:FI):TI:=λσ H R=>∃ρ items,RepS Y H ρ σ/\F ρ=aa items/\∀J H',Same H H'->items.length<=sizeLine->iP Y.K J items H'->R J H'
abbrev mB(X:Cx)(F:FI):TI:=qc X.ky F
def jh(X:Cx)(tg e:az)(F:FI):Prop:=PI X tg e (mB X F)
theorem PI.imp{X:Cx}{tg e:az}{t t':TI}(h:PI X tg e t)(q:∀σ H Q,t' σ H Q->t σ H Q):PI X tg e t':=λπ s σ H Q I z=>h π s σ H Q I (q σ H Q z)
section
variable {X:Cx}{tg a b e:az}{Fa Fb Fe:FE}{pos:Pos}
theorem ZY{K:aD}{p:Addr}{ds:fK}{vs:fL}{H1:Hp}(h1:SqL K H1 p vs)(h2:Rps K emp ds H1 vs):iP K (mE K p) ds H1:=by
 intro A H sm hA;have s2:Same H1 H:=sm.trans A9;refine⟨λi d e=>?_,λi hi=>⟨vs,s2.seq h1,by rw[h2.length];exact hi⟩⟩;obtain⟨v,e1,e2⟩:=h2.get e;refine⟨⟨vs,v,s2.seq h1,e1⟩,?_⟩;rintro x H' ⟨z,y⟩;subst z;have hx:=y vs (s2.seq h1);rw[e1]at hx;cases hx;exact⟨Same.refl _,λ_ _=>rfl,Rp.mono _ sm e2⟩
theorem z1w{K:aD}{p:Addr}{ds:fK}{vs:fL}{H1:Hp}(h1:SqT K H1 p vs)(h2:Rps K emp ds H1 vs):iP K (xb K p) ds H1:=by
 intro A H sm hA;have s2:Same H1 H:=sm.trans A9;refine⟨λi d e=>?_,λi hi=>⟨vs,s2.seqT h1,by rw[h2.length];exact hi⟩⟩;obtain⟨v,e1,e2⟩:=h2.get e;refine⟨⟨vs,v,s2.seqT h1,e1⟩,?_⟩;rintro x H' ⟨z,y⟩;subst z;have hx:=y vs (s2.seqT h1);rw[e1]at hx;cases hx;exact⟨Same.refl _,λ_ _=>rfl,Rp.mono _ sm e2⟩
def L9(lo:Int)(n:Nat):fK:=(ah n).map λ(k:Nat)=>.int (lo+(k:Int))
theorem Ct{K:aD}{lo:Int}{n:Nat}{H1:Hp}:iP K (oQ lo n) (L9 lo n) H1:=by
 intro A H sm hA;refine⟨λi d e=>?_,λi hi=>by unfold L9 at hi;rw[wn,vJ]at hi;exact hi⟩;unfold L9 at e;rw[wv]at e;have hi:i<n:=by
  by_cases hi:i<n
  .exact hi
  .rw[wW (by simp;rfl')]at e;cases e
 rw[vC hi]at e;cases e;refine⟨hi,λx H'⟨z,y⟩=>?_⟩;subst z;subst y;exact⟨Same.refl _,λ_ _=>rfl,Rp.int_.mpr rfl⟩
def seqD:Dt->Option (fK)
 |.lst ds=>aa ds
 |.tup ds=>aa ds
 |_=>aj
def iSeq(F:FE):FI:=λρ=>(F ρ).bind λx=>seqD x.2
theorem C7(ha:PF X a Fa):jh X tg a (iSeq Fa):=by
 intro π s σ H R I ⟨ρ,items,rs,e0,k⟩;obtain⟨⟨f,d⟩,e1,e2⟩:=i9 e0;refine gF (ha π s σ H (λx H1=>Same H H1/\Rp X.K emp d H1 x) I ⟨ρ,f,d,rs,e1,λv H1 s1 r1=>⟨s1,r1.sh⟩⟩) λv s1⟨x,H1,I1,r1,sm,rd⟩=>?_;cases d<;>first|cases e2|skip
 .rename_i ds;obtain⟨p,vs,rfl,_,h1,h2⟩:=rd.items;cases r1;obtain⟨its,rv,pl,hz⟩:=I1.list (SqL.of (K:=X.K) h1);refine cq pl.isList ?_;refine⟨s1.heap.objs.size,[s1.heap.objs.size],_,_,H1,rfl,I1.kept (t':=s1.toks) λb o e=>wm _ e,Nr p _,⟨_,wH _ rfl,rfl,rfl⟩,λb hb=>?_,k _ H1 sm (by rw[<-h2.length];exact hz) (ZY (SqL.of h1) h2)⟩;have e:b=s1.heap.objs.size:=by simpa using hb
  subst e;exact I1.fpOk (wt _) (I1.hok.fresh (wt _))
 .rename_i ds;obtain⟨p,vs,rfl,h1,h2⟩:=Rp.tup_.mp rd;cases r1;obtain⟨its,rv,pl,hz⟩:=I1.tuple h1;refine wpAny_pyIter_tuple (show s1.heap.IsTuple p its.toArray from pl) ?_;refine⟨s1.heap.objs.size,[s1.heap.objs.size],_,_,H1,rfl,I1.kept (t':=s1.toks) λb o e=>wm _ e,Tq p _,⟨_,wH _ rfl,rfl,rfl⟩,λb hb=>?_,k _ H1 sm (by rw[<-h2.length];exact hz) (z1w h1 h2)⟩;have e:b=s1.heap.objs.size:=by simpa using hb
  subst e;exact I1.fpOk (wt _) (I1.hok.fresh (wt _))
def Ah(i:Int):Bool:=decide (-1000000<=i)&&decide (i<=1000000)
theorem Ik{i:Int}(h:Ah i=af): -1000000<=i/\i<=1000000:=by
 unfold Ah at h;rw[wS]at h;exact⟨aX h.1,aX h.2⟩
def j9(F:FE):FI:=λρ=>(F ρ).bind λx=>(intD x.2).bind λj=>if Ah j then aa (L9 0 j.toNat) else aj
theorem Cu{lo:Int}{n:Nat}:(L9 lo n).length=n:=by unfold L9;simp
theorem AR{d:Dt}{i:Int}(h:intD d=aa i):d=.int i:=by
 cases d<;>first|cases h|skip
 rfl
theorem x9{p:Pos}(hg:Gl X "range")(hm:X.mg "range"=aj)(ha:PF X a Fa)(hs:au [a] X.env=[(ab,eval a X.env)]:=by rfl):jh X tg (.Call (.Name "range" p) [a] [] pos) (j9 Fa):=
 (Nt hg hm (X5 ha Ih hs) hs).imp fun σ H R hZ=>hZ.elim fun ρ hZ=>hZ.elim fun items hZ=>hZ.elim fun rs hZ=>hZ.elim fun e0 k=>by
  obtain⟨⟨f,d⟩,e1,e2⟩:=i9 e0;obtain⟨j,e3,e4⟩:=i9 e2;clear e0 e2;have ed:=AR e3;cases (show d=.int j from ed);split at e4
  .rename_i hr;cases e4;obtain⟨h1,h2⟩:=Ik hr;refine⟨ρ,f,_,rs,e1,λv H1 s1 r1=>⟨j,by rw[Rp.int_.mp r1.sh],(),(),k _ H1 s1 ?_ Ct⟩⟩;rw[Cu];have:sizeLine=16777216:=rfl;rfl'
  .cases e4
def Cv(F G:FE):FI:=λρ=>(F ρ).bind λx=>(G ρ).bind λy=>(intD x.2).bind λi=>(intD y.2).bind λj=>if Ah i&&Ah j then aa (L9 i (j-i).toNat) else aj
theorem z1x{p:Pos}(hg:Gl X "range")(hm:X.mg "range"=aj)(ha:PF X a Fa)(hb:PF X b Fb)(hs:au [a,b] X.env=[(ab,eval a X.env),(ab,eval b X.env)]:=by rfl)
  (hs1:au [b] X.env=[(ab,eval b X.env)]:=by rfl):jh X tg (.Call (.Name "range" p) [a,b] [] pos) (Cv Fa Fb):=
 (Nu hg hm (X5 ha (X5 hb Ih hs1) (by rw[hs,hs1])) hs hs1).imp fun σ H R hZ=>hZ.elim fun ρ hZ=>hZ.elim fun items hZ=>hZ.elim fun rs hZ=>hZ.elim fun e0 k=>by
  obtain⟨⟨f,d⟩,e1,e2⟩:=i9 e0;obtain⟨⟨f',d'⟩,e1',e2'⟩:=i9 e2;obtain⟨i,e3,e4⟩:=i9 e2';obtain⟨j,e5,e6⟩:=i9 e4;clear e0 e2 e2' e4;have ed:=AR e3;have ed':=AR e5;cases (show d=.int i from ed);cases (show d'=.int j from ed');split at e6
  .rename_i hr;rw[wS]at hr;cases e6;obtain⟨h1,h2⟩:=Ik hr.1;obtain⟨h3,h4⟩:=Ik hr.2;refine⟨ρ,f,_,rs,e1,λv H1 s1 r1=>⟨ρ,f',_,rs.mono s1,e1',λv' H2 s2 r2=>⟨i,j,by rw[Rp.int_.mp r1.sh,Rp.int_.mp r2.sh],⟨(),(),(),()⟩,k _ H2 (s1.trans s2) ?_ Ct⟩⟩⟩;rw[Cu];have:sizeLine=16777216:=rfl;rfl'
  .cases e6
end
inductive Tg where
 |one (i:Nat)|many (is:fu)
def R8:fu->ki
 |[]=>gNil
 |i::is=>ke (Ad i) (R8 is)
def Tg.low(K:aD):Tg->TG
 |.one i=>Ad i
 |.many is=>oE K is.length (R8 is)
def Ai:gI->fu->fK->gI
 |ρ,i::is,d::ds=>Ai (ρ.set i (.sh ab d)) is ds
 |ρ,_,_=>ρ
def Tg.put:Tg->Dt->gI->Option gI
 |.one i,d,ρ=>aa (ρ.set i (.sh ab d))
 |.many is,.tup ds,ρ=>if ds.length=is.length then aa (Ai ρ is ds) else aj
 |.many _,_,_=>aj
def Tg.below(nt:Nat):Tg->Prop
 |.one i=>i<nt
 |.many is=>∀i∈is,i<nt
def KeepS(nt:Nat)(σ σ':St):Prop:=σ'.length=σ.length/\∀i,nt<=i->σ'[i]?=σ[i]?
theorem KeepS.refl{nt:Nat}{σ:St}:KeepS nt σ σ:=⟨rfl,λ_ _=>rfl⟩
theorem KeepS.set{nt i:Nat}{σ:St}{v:V}(h:i<nt):KeepS nt σ (σ.set i (aa v)):=⟨vS,λj hj=>vM ()⟩
theorem KeepS.trans{nt:Nat}{a b c:St}(h:KeepS nt a b)(k:KeepS nt b c):KeepS nt a c:=⟨k.1.trans h.1,λi hi=>(k.2 i hi).trans (h.2 i hi)⟩
theorem Jy:∀{is:fu}{vs:fL}{σ:St}{H:Hp}{Q Q':St->Hp->Prop},R8 is vs σ H Q->(∀σ H,Q σ H->Q' σ H)->R8 is vs σ H Q':=by
 intro is
 induction is with
 |nil=>intro vs σ H Q Q' ⟨e,q⟩ k;exact⟨e,k _ _ q⟩
 |cons j js ih=>intro vs σ H Q Q' ⟨v,r,e,q⟩ k;exact⟨v,r,e,ih q k⟩
theorem NG{nt:Nat}:∀{is:fu}{vs:fL}{σ:St}{H:Hp}{Q:St->Hp->Prop},(∀i∈is,i<nt)->R8 is vs σ H Q->R8 is vs σ H λσ2 H2=>KeepS nt σ σ2/\Q σ2 H2
 |[],vs,σ,H,Q,_,⟨e,q⟩=>⟨e,KeepS.refl,q⟩
 |i::is,vs,σ,H,Q,hi,⟨v,r,e,q⟩=>by
  refine⟨v,r,e,?_⟩;have q:R8 is r (σ.set i (aa v)) H Q:=q;have z:=NG (nt:=nt) (λj hj=>hi j (wc _ hj)) q;show R8 is r (σ.set i (aa v)) H _;exact Jy z λσ2 H2⟨k1,k2⟩=>⟨(KeepS.set (hi i wf)).trans k1,k2⟩
theorem Tg.ok{K:aD}{nt:Nat}{g:Tg}(h:g.below nt):jw nt (g.low K):=by
 intro x σ H Q q;cases g with
 |one i=>exact⟨KeepS.set h,q⟩
 |many is=>
  obtain⟨a,xs,e,hq,hl,q⟩:=q;exact⟨a,xs,e,hq,hl,NG h q⟩
theorem Tg.low_mono{K:aD}{g:Tg}{v:V}{σ:St}{H:Hp}{Q Q':St->Hp->Prop}(h:g.low K v σ H Q)(k:∀σ H,Q σ H->Q' σ H):g.low K v σ H Q':=by
 cases g with
 |one i=>exact k _ _ h
 |many is=>
  obtain⟨a,xs,e,hq,hl,q⟩:=h;exact⟨a,xs,e,hq,hl,Jy q k⟩
section
variable {Y:Ky}{H H':Hp}{ρ:gI}{σ:St}
theorem RepS.set(h:RepS Y H ρ σ){i:Nat}{f:Bool}{d:Dt}{v:V}(r:Rp Y.K (gN Y f) d H v):RepS Y H (ρ.set i (.sh f d)) (σ.set i (aa v)):=by
 refine⟨by rw[vS,vS];exact h.len,h.base,λj c q=>?_⟩;by_cases e:i=j
 .subst e;rw[vK]at q|-;rw[ak rfl]at q|-;split at q
  .rename_i hl;cases q;rw[ak (by rw[<-h.len];exact hl)];exact⟨_,rfl,v,rfl,r⟩
  .cases q
 .rw[vM e]at q|-;exact h.at_ j c q
theorem KT{Hh:Hp}{ρ':gI}:∀{is:fu}{ds:fK}{vs:fL}{ρ:gI}{σ:St},RepS Y Hh ρ σ->Rps Y.K emp ds Hh vs->ds.length=is.length->Ai ρ is ds=ρ' ->
  R8 is vs σ H λσ' H'=>H'=H/\RepS Y Hh ρ' σ'
 |[],[],vs,ρ,σ,rs,r,hl,q=>⟨Rps.nil_.mp r,rfl,by rw[<-q];exact rs⟩
 |[],d::ds,vs,ρ,σ,rs,r,hl,q=>by cases hl
 |i::is,[],vs,ρ,σ,rs,r,hl,q=>by cases hl
 |i::is,d::ds,vs,ρ,σ,rs,r,hl,q=>by
  obtain⟨v,r',rfl,h1,h2⟩:=Rps.cons_.mp r;exact⟨v,r',rfl,KT (rs.set (f:=ab) h1) h2 (by simpa using hl) q⟩
theorem Tg.sim{Hh:Hp}{g:Tg}{d:Dt}{v:V}{ρ':gI}(sm:Same Hh H)(rs:RepS Y Hh ρ σ)(r:Rp Y.K emp d Hh v)(h:g.put d ρ=aa ρ'):
  g.low Y.K v σ H λσ' H'=>H'=H/\RepS Y Hh ρ' σ':=by
 cases g with
 |one i=>cases h;exact⟨rfl,rs.set (f:=ab) r⟩
 |many is=>
  cases d<;>first|cases h|skip
  rename_i ds;replace h:(if ds.length=is.length then aa (Ai ρ is ds) else aj)=aa ρ':=h;split at h
  .rename_i hl;obtain⟨a,vs,rfl,h1,h2⟩:=Rp.tup_.mp r;exact⟨a,vs,rfl,sm.seqT h1,by rw[h2.length];exact hl,KT rs h2 hl (aO h)⟩
  .cases h
end
section
variable {X:Cx}{pos:Pos}
theorem G7{i:Nat}{x:Str}(hN:X.N.Nodup)(hi:X.N[i]?=aa x)(hx:mj X.env.scope x)(hf:X.fn x=af\/X.env.scope.names.lookup x=aa .local):PG X (.Name x pos) ((Tg.one i).low X.K):=v9 hN hi hx hf
theorem P3:kj X [] (R8 []):=z4B
theorem A3{e:az}{es:fw}{i:Nat}{is:fu}(h1:PG X e (Ad i))(h2:kj X es (R8 is))(hs:(bU (e::es) X.env).map (·.2)=assign e X.env::(bU es X.env).map (·.2):=by rfl):kj X (e::es) (R8 (i::is)):=z13 h1 h2 hs
theorem P4{es:fw}{k:Nat}{is:fu}(hc:X.calm=af)(h:kj X es (R8 is))(hn:(bU es X.env).length=is.length:=by rfl)(hst:(bU es X.env).findIdx? (·.1)=aj:=by rfl):PG X (.Tuple es k pos) ((Tg.many is).low X.K):=kQ hc h hn hst
end
def Dy(g:Tg)(Fc:FT)(Fe:FE)(ρ0:gI):fK->Option (fM)
 |[]=>aa []
 |x::xs=>(g.put x ρ0).bind λρ1=>(Fc ρ1).bind λb=>if b then(Fe ρ1).bind λv=>(Dy g Fc Fe ρ0 xs).bind λr=>aa (v::r) else Dy g Fc Fe ρ0 xs
def Jz:Cell->Cell
 |.no=>.no
 |.ex=>.no
 |.sh _ d=>.sh ab d
 |.ow _ ds=>.sh ab (.lst ds)
def sigD(nt:Nat)(js:fu)(ρ:gI):gI:=aP nt Cell.no++js.map λj=>match ρ[j]? with|some c=>Jz c|none=>.no
def j8(nt:Nat)(js:fu)(Fi:FI)(g:Tg)(Fc:FT)(Fe:FE):FE:=λρ=>(Fi ρ).bind λitems=>(Dy g Fc Fe (sigD nt js ρ) items).bind λvs=>aa (if AO vs then .nw else .tn,.lst (sndL vs))
theorem Il{g:Tg}{Fc:FT}{Fe:FE}{ρ0:gI}:∀{xs:fK}{vs:fM},Dy g Fc Fe ρ0 xs=aa vs->vs.length<=xs.length
 |[],vs,h=>by cases h;exact wt _
 |x::xs,vs,h=>by
  unfold Dy at h;obtain⟨ρ1,_,h⟩:=i9 h;obtain⟨b,_,h⟩:=i9 h;split at h
  .obtain⟨v,_,h⟩:=i9 h;obtain⟨r,h1,h⟩:=i9 h;cases h;have:=Il h1;rw[wu,wu];rfl'
  .have:=Il h;rw[wu];rfl'
def jx(X:Cx)(ifs:fw)(F:FT):Prop:=PTs X ifs (mI X F)
def fYes:FT:=λ_=>aa af
theorem P5{X:Cx}:jx X [] fYes:=λπ s σ H Q I⟨ρ,b,rs,e,k⟩=>by cases e;exact z4P π s σ H Q I (k H (Same.refl H))
theorem FQ{X:Cx}{c:az}{F:FT}(h:iY X c F):jx X [c] F:=z4Q h
theorem RpC.shS{Y:Ky}{H H1:Hp}{c:Cell}{o:Option V}(h:RpC Y H c o):RpC ⟨Y.K,H1⟩ H (Jz c) o:=by
 cases c with
 |no=>trivial
 |ex=>trivial
 |sh f d=>obtain⟨v,q,r⟩:=h;exact⟨v,q,Rp.anti Same.emp d r⟩
 |ow f ds=>obtain⟨v,q,r⟩:=h;exact⟨v,q,Rp.anti Same.emp _ r⟩
theorem RepS.sigs{Y:Ky}{H H1:Hp}{ρ:gI}{σ:St}{nt:Nat}{js:fu}(h:RepS Y H ρ σ)(hj:∀j∈js,j<σ.length)(h1:Same H1 H):RepS ⟨Y.K,H1⟩ H (sigD nt js ρ) (iV nt js σ):=by
 unfold sigD iV;refine⟨by simp,h1,λi c q=>?_⟩;by_cases hi:i<nt
 .rw[wV (by simpa using hi),vE,ak hi]at q;cases q;exact⟨aj,by rw[wV (by simpa using hi),vE,ak hi],trivial⟩
 .rw[vj (by simp;rfl'),vW,wv]at q;rw[vj (by simp;rfl'),vW,wv];cases ej:js[i-nt]? with
  |none=>rw[ej]at q;cases q
  |some j=>
   rw[ej]at q;have hlt:=hj j (vN ej);have hlt':j<ρ.length:=by rw[h.len];exact hlt
   rw[w1N,wa hlt']at q;cases q;obtain⟨o,e1,e2⟩:=h.at_ j _ (wa hlt');refine⟨o,?_,e2.shS⟩;rw[w1N,e1];rfl
def oF(t:Hp->TE)(H1:Hp):TE:=λσ H Q=>∃A:ft,(∀a∈A,(∃vs,H a=aa (.lst vs))/\H1 a=aj)/\t H1 σ (fU A H) λv H'=>(∀a∈A,H' a=aj)->Q v (E3 A H H')
def mC(t:Hp->TT)(H1:Hp):TT:=λσ H Q=>∃A:ft,(∀a∈A,(∃vs,H a=aa (.lst vs))/\H1 a=aj)/\t H1 σ (fU A H) λv H'=>(∀a∈A,H' a=aj)->Q v (E3 A H H')
theorem PTs.frame{Y:Cx}{ifs:fw}{t:Hp->TT}(h:PTs Y ifs (t Y.H₀)):PTs Y ifs (mC t Y.H₀):=by
 intro π s σ H Q I ⟨A,hA,z⟩;refine gF (h _ s σ _ _ (I.hide hA) z) ?_;rintro u s' ⟨H',J,q⟩;obtain⟨hn,J'⟩:=I.unhide hA J;exact⟨_,J',q hn⟩
theorem Ey{D:Addr}{H:Hp}{o:HO}:fU [D] (upd H D o)=fU [D] H:=funext λb=>by
 by_cases q:b=D
 .subst q;rw[V3 (by simp),V3 (by simp)]
 .rw[r9 (by simpa using q),r9 (by simpa using q),v8 q]
theorem QZ{D:Addr}{H:Hp}(h:H D=aj):fU [D] H=H:=funext λb=>by
 by_cases q:b=D
 .subst q;rw[V3 (by simp),h]
 .rw[r9 (by simpa using q)]
section
variable {X:Cx}{N:fq}{scope:Scope}{nt:Nat}{js:fu}{tg elt iter:az}{ifs:fw}{Fi:FI}{g:Tg}{Fc:FT}{Fe:FE}{pos:Pos}
def RpE(Y:Ky)(x:Dv)(H':Hp)(v:V):Prop:=if x.1.isFr then Rp Y.K Y.H₀ x.2 H' v else Rp Y.K emp x.2 H' v
def RpEs(Y:Ky):fM->Hp->fL->Prop
 |[],_,vs=>vs=[]
 |x::xs,H',vs=>∃v r,vs=v::r/\RpE Y x H' v/\RpEs Y xs H' r
theorem RpE.of{Y:Ky}{H H':Hp}{x:Dv}{v:V}(h0:Same Y.H₀ H)(h:RpF Y H x.1 x.2 H' v):RpE Y x H' v:=by
 unfold RpE;by_cases q:x.1.isFr=af
 .rw[ak q];exact h.fr h0 q
 .rw[ao q];exact h.sh
theorem RpE.mono{Y:Ky}{H H':Hp}{x:Dv}{v:V}(h:RpE Y x H v)(s:Same H H'):RpE Y x H' v:=by
 unfold RpE at h|-;by_cases q:x.1.isFr=af
 .rw[ak q]at h|-;exact Rp.mono _ s h
 .rw[ao q]at h|-;exact Rp.mono _ s h
theorem RpEs.mono{Y:Ky}{H H':Hp}(s:Same H H'):∀{xs:fM}{vs:fL},RpEs Y xs H vs->RpEs Y xs H' vs
 |[],vs,h=>h
 |x::xs,vs,⟨v,r,e,h1,h2⟩=>⟨v,r,e,h1.mono s,RpEs.mono s h2⟩
theorem RpEs.append{Y:Ky}{H':Hp}:∀{xs ys:fM}{vs ws:fL},RpEs Y xs H' vs->RpEs Y ys H' ws->RpEs Y (xs++ys) H' (vs++ws)
 |[],ys,vs,ws,h,h'=>by rw[show vs=[]from h];exact h'
 |x::xs,ys,vs,ws,⟨v,r,e,h1,h2⟩,h'=>⟨v,r++ws,by rw[e];rfl,h1,RpEs.append h2 h'⟩
theorem RpEs.length{Y:Ky}{H':Hp}:∀{xs:fM}{vs:fL},RpEs Y xs H' vs->vs.length=xs.length
 |[],vs,h=>by rw[show vs=[]from h];rfl
 |x::xs,vs,⟨v,r,e,_,h2⟩=>by rw[e,wu,wu,RpEs.length h2]
theorem RpEs.sh{Y:Ky}{H':Hp}:∀{xs:fM}{vs:fL},RpEs Y xs H' vs->Rps Y.K emp (sndL xs) H' vs
 |[],vs,h=>Rps.nil_.mpr h
 |x::xs,vs,⟨v,r,e,h1,h2⟩=>by
  refine Rps.cons_.mpr ⟨v,r,e,?_,RpEs.sh h2⟩;unfold RpE at h1;split at h1
  .exact Rp.anti Same.emp _ h1
  .exact h1
theorem RpEs.fr{Y:Ky}{H':Hp}:∀{xs:fM}{vs:fL},AO xs=af->RpEs Y xs H' vs->Rps Y.K Y.H₀ (sndL xs) H' vs
 |[],vs,_,h=>Rps.nil_.mpr h
 |x::xs,vs,q,⟨v,r,e,h1,h2⟩=>by
  unfold AO at q;rw[wS]at q;refine Rps.cons_.mpr ⟨v,r,e,?_,RpEs.fr q.2 h2⟩;unfold RpE at h1;rw[ak q.1]at h1;exact h1
theorem YH{σ:St}{H:Hp}{Q:VK}(hj:∀j∈js,j<σ.length)(h:io X (j8 nt js Fi g Fc Fe) σ H Q):
   Jv nt js (mB X Fi) (g.low X.K) (mC λH1=>iH ⟨X.K,H1⟩ Fc) (oF λH1=>my ⟨X.K,H1⟩ Fe) σ H Q:=by
 obtain⟨ρ,f,d,rs,e0,k⟩:=h;obtain⟨items,ei,e1⟩:=i9 e0;obtain⟨vs0,ec,e2⟩:=i9 e1;cases e2;clear e0 e1;refine⟨ρ,items,rs,ei,λJ H1 sm hsz wk D hD=>?_⟩;have nD:H D=aj:=sm.free hD;refine⟨λi m ys H2=>m=items.length-i/\H2 D=aa (.lst ys)/\Same H1 (fU [D] H2)/\∃ds rest,RpEs ⟨X.K,H1⟩ ds (fU [D] H2) ys/\Dy g Fc Fe (sigD nt js ρ) (items.drop i)=aa rest/\ds++rest=vs0,⟨_,rfl,B3,?_,[],vs0,rfl,ec,rfl⟩,?_⟩
 .rw[Ey,QZ hD];exact Same.refl _
 rintro i m ys H2 ⟨rfl,e2,s2,ds,rest,r2,c2,es⟩;obtain⟨w1,w2⟩:=wk [D] H2 s2 (λa ha=>by rw[ve.mp ha];exact⟨_,e2⟩);by_cases hlt:i<items.length
 .obtain⟨x,hx⟩:∃x,items[i]?=aa x:=⟨_,wa hlt⟩;have hdrop:items.drop i=x::items.drop (i+1):=by
    rw[uY hlt];rw[wa hlt]at hx;cases hx;rfl
  rw[hdrop]at c2;unfold Dy at c2;obtain⟨ρ1,p1,c3⟩:=i9 c2;obtain⟨b,p2,c4⟩:=i9 c3;obtain⟨go,yl⟩:=w1 i x hx;refine .inr ⟨go,λxv H3 y3=>?_⟩;obtain⟨s3,k3,r3⟩:=yl xv H3 y3;have e3:H3 D=aa (.lst ys):=by rw[k3 D (by simp)];exact e2
  have s13:Same H1 (fU [D] H3):=s2.trans s3;refine Tg.low_mono (Tg.sim (Y:=⟨X.K,H1⟩) (Hh:=fU [D] H3) A9 ((rs.mono (sm.trans s13)).sigs hj s13) r3 p1) ?_;rintro σ4 H4 ⟨eH,rs4⟩;subst eH;have own:∀{H':Hp},H' D=aa (.lst ys)->∀a∈[D],(∃vs,H' a=aa (.lst vs))/\H1 a=aj:=λ{H'}z a ha=>by
    rw[ve.mp ha];exact⟨⟨ys,z⟩,hD⟩
  refine⟨[D],own e3,ρ1,b,rs4,p2,λH5 s5 n5=>?_⟩;have h5:fU [D] (E3 [D] H4 H5)=H5:=R7 n5;have e5:E3 [D] H4 H5 D=aa (.lst ys):=by rw[AM (by simp)];exact e3
  have m5:items.length-(i+1)<items.length-i:=()
  dsimp only;cases b with
  | true =>
    rw[ak rfl]at c4|-;obtain⟨⟨fv,dv⟩,p3,c5⟩:=i9 c4;obtain⟨rest',p4,c6⟩:=i9 c5;cases c6;have rs5:RepS ⟨X.K,H1⟩ H5 ρ1 σ4:=rs4.mono s5;refine⟨[D],own e5,ρ1,fv,dv,by rw[h5];exact rs5,p3,λv H6 s6 r6 n6=>?_⟩;rw[h5]at s6 r6;have h6:fU [D] (E3 [D] (E3 [D] H4 H5) H6)=H6:=R7 n6;have r2':RpEs ⟨X.K,H1⟩ ds H6 ys:=r2.mono (s3.trans (s5.trans s6));have hlen:ys.length<sizeLine:=by
      have a1:=Il ec;have a2:=r2.length;rw[<-es,wF,wu]at a1;rfl'
    refine⟨by rw[AM (by simp)];exact e5,hlen,_,m5,rfl,B3,?_,ds++[(fv,dv)],rest',?_,p4,by rw[ut];exact es⟩
    .rw[Ey,h6];exact s13.trans (s5.trans s6)
    .rw[Ey,h6];exact r2'.append ⟨v,[],rfl,RpE.of rs5.base r6,rfl⟩
  | false =>
    rw[ao vi]at c4|-;refine⟨_,m5,rfl,e5,?_,ds,rest,?_,c4,es⟩
    .rw[h5];exact s13.trans s5
    .rw[h5];exact r2.mono (s3.trans s5)
 .have hd:items.drop i=[]:=vV ();rw[hd]at c2;cases c2;rw[w02]at es;subst es;refine .inl ⟨w2 i (),k _ H2 (sm.trans (s2.trans A9)) ?_⟩;by_cases q:AO ds=af
  .rw[ak q];exact(Rp.lst_ (K:=X.K) (B:=H)).mpr ⟨D,ys,rfl,nD,e2,Rps.anti (show Same H H1 from sm) _ (r2.fr q)⟩
  .rw[ao q];exact⟨Rp.lst_.mpr ⟨D,ys,rfl,rfl,e2,r2.sh⟩,⟨_,rfl⟩,λa e=>by cases e;exact nD⟩
theorem K3(S:CompScope X N scope nt js)(hc:X.calm=af)(hi:jh X tg iter Fi)(hg:∀cl C fp s H,PG (C2 X N scope cl C fp s H) tg (g.low X.K))(hb:g.below nt)
  (hcs:∀cl C fp s H,jx (C2 X N scope cl C fp s H) ifs Fc) (he:∀cl C fp s H,PF (C2 X N scope cl C fp s H) elt Fe) (hj:∀j∈js,j<X.N.length)
  (hs:∀x,bp iter X.env x=pure x:=by intro _;rfl):PF X (.ListComp elt [⟨tg,iter,ifs,0⟩] scope pos) (j8 nt js Fi g Fc Fe):=by
 intro π s σ H Q I h;exact z4R S hc hi hg (Tg.ok hb) (λcl C fp s H=>PTs.frame (t:=λH1=>iH ⟨X.K,H1⟩ Fc) (hcs cl C fp s H)) (λcl C fp s H=>PE.frame (he cl C fp s H)) hs π s σ H Q I (YH (λj z=>by rw[I.len];exact hj j z) h)
end
end L2
end
section
namespace L2
open PySem.W
section
variable {M:Model}{A:bu}{E:aC}{s:Shared}{base:aR}{env:Env}{outer l:fA}{L e:Addr}{cls a0:Value}{Q:Unit->Shared->Prop}
end
end L2
end
section
namespace L2
open PySem.W
def Fly(h0:aR)(H:Hp)(e C:Addr)(c:Value)(h:aR):Prop:=
 h0.get? e=aj/\H e=aj/\∃oe vs T oT ts a0,h.get? e=aa oe/\oe.cls=.ref C/\vs[0]?=aa a0/\oe.data=.fields vs/\vs[1]?=aa (.ref T)/\h0.get? T=aj/\H T=aj/\T≠e/\h.get? T=aa oT/\oT.data=.fields ts/\ts[3]?=aa .none/\vs[2]?=aa c
def ctxO:Value->fJ
 |.none=>aj
 |_=>aa 0
section
variable {P:aN}{w:aI}{fs ex:ft}{H0 H:Hp}{h0 h h':aR}{l:fA}{bas:aR}{e C:Addr}{c:Value}
end
def CX1(P:aN)(w:aI):ja:=λouter H s E e s'=>
 ∃ea C H' c,e=.ref ea/\s'.os=s.os/\dX s'.gens/\Un (iL outer) [] H H' s.heap s'.heap/\HOk P w H' s'.heap/\Fly s.heap H' ea C c s'.heap/\E (.ref C) (ctxO c) H'
section
variable {P:aN}{w:aI}{K:aD}{mg:aE}{base:aR}{N:fq}{qual:Str}{scope:Scope}{f:Addr}{cd:Value}{A:bu}{outer:fA}{s₀:Shared}{H₀:Hp}{E:XK}
end
def exN:Nat->Str
 |0=>"HallError"
 |1=>"NoHall"
 |2=>"NoBasket"
 |3=>"NoPlace"
 |4=>"NoText"
 |5=>"Unlike"
 |6=>"TooMany"
 |8=>"NoText"
 |_=>"NotWithin"
def wk(n:Nat):Bool:=n==8
def qJ(h0:aR)(H:Hp)(e C L:Addr)(c:Value)(h:aR):Prop:=
 h0.get? e=aj/\H e=aj/\∃oe vs T oT ts a0,h.get? e=aa oe/\oe.cls=.ref C/\vs[0]?=aa a0/\oe.data=.fields vs/\vs[1]?=aa (.ref T)/\h0.get? T=aj/\H T=aj/\T≠e/\h.get? T=aa oT/\oT.data=.fields ts/\ts[3]?=aa (ee L)/\vs[2]?=aa c
def mq(X:Cx)(E:XK):Prop:=∀(π:aB)(σ:St)(H:Hp)(s:Shared)(ea C L:Addr)(c:Value),X.env.frame=aa L->Inv X π σ H s->qJ X.s₀.heap H ea C L c s.heap->E (.ref C) (ctxO c) H->X.xe (.ref ea) s
def XOk(X:Cx)(H₀:Hp)(wk:Bool)(C:Addr):Prop:=∃E:XK,(∀H o,Same H₀ H->(o=aj\/wk=af)->E (.ref C) o H)/\Pp (CX1 X.prog X.w) X E /\
 (∀(π:aB)(σ:St)(H:Hp)(s s':Shared)(ea:Addr)(args:aF),Inv X π σ H s->s.heap.MadeExcOf s'.heap ea (.ref C) args->s'.os=s.os->s'.gens=s.gens->E (.ref C) aj H->X.xe (.ref ea) s')/\mq X E
theorem XOk.base{X:Cx}{H₀ H1:Hp}{wk:Bool}{C:Addr}(h:XOk X H₀ wk C)(s:Same H₀ H1):XOk X H1 wk C:=by
 obtain⟨E,a,b,c⟩:=h;exact⟨E,λH o z=>a H o (s.trans z),b,c⟩
end L2
end
section
local macro_rules|`(tactic|rfl')=>`(tactic|first|lia|omega +splitDisjunctions)
namespace L2
abbrev Own:=List (Nat×Addr)
abbrev Own.adr(O:Own):ft:=O.map (·.2)
def kn(X:Cx)(H:Hp)(O:Own)(i:Nat):Cell->Option V->Prop
 |.no,_=>True
 |.ex,o=>∃a φ,o=aa (.ref a)/\fU O.adr H a=aa (.ext φ)/\∀h,φ h->km X.K a h
 |.sh f d,o=>∃v,o=aa v/\Rp X.K (gN X.ky f) d (fU O.adr H) v
 |.ow f ds,o=>∃a vs,(i,a)∈O/\o=aa (.ref a)/\H a=aa (.lst vs)/\Rps X.K (gN X.ky f) ds (fU O.adr H) vs
structure RepO(X:Cx)(H₀ H:Hp)(O:Own)(ρ:gI)(σ:St):Prop where
 ndA:O.adr.Nodup
 ndI:(O.map (·.1)).Nodup
 own:iQ X O.adr H
 len:ρ.length=σ.length
 b0:Same X.H₀ H₀
 same:Same H₀ (fU O.adr H)
 at_:∀(i:Nat)(c:Cell),ρ[i]?=aa c->∃o,σ[i]?=aa o/\kn X H O i c o
def iC(X:Cx)(H₀ H:Hp)(ρ:gI)(σ:St):Prop:=∃O,RepO X H₀ H O ρ σ
def GP:Cell->Cell
 |.ow _ _=>.no
 |c=>c
def V7:gI->gI
 |[]=>[]
 |c::ρ=>GP c::V7 ρ
theorem NH:∀ρ:gI,V7 ρ=ρ.map GP
 |[]=>rfl
 |c::ρ=>by rw[V7,NH ρ,wx]
section
variable {X:Cx}{H₀ H H':Hp}{O:Own}{ρ:gI}{σ:St}
theorem RepO.mono(h:RepO X H₀ H O ρ σ)(sm:Same H H'):RepO X H₀ H' O ρ σ:=by
 refine⟨h.ndA,h.ndI,λa ha=>?_,h.len,h.b0,h.same.trans (E9 sm),λi c e=>?_⟩
 .obtain⟨⟨vs,q⟩,z⟩:=h.own a ha;exact⟨⟨vs,sm _ _ q⟩,z⟩
 .obtain⟨o,e1,e2⟩:=h.at_ i c e;refine⟨o,e1,?_⟩;cases c with
  |no=>trivial
  |ex=>obtain⟨a,φ,q,r,z⟩:=e2;exact⟨a,φ,q,E9 sm _ _ r,z⟩
  |sh f d=>obtain⟨v,q,r⟩:=e2;exact⟨v,q,Rp.mono _ (E9 sm) r⟩
  |ow f ds=>obtain⟨a,vs,q1,q2,q3,r⟩:=e2;exact⟨a,vs,q1,q2,sm _ _ q3,Rps.mono _ (E9 sm) r⟩
theorem RepO.base(h:RepO X H₀ H O ρ σ){H1:Hp}(sm:Same H1 H₀)(b:Same X.H₀ H1):RepO X H1 H O ρ σ:=⟨h.ndA,h.ndI,h.own,h.len,b,sm.trans h.same,h.at_⟩
theorem RepO.below(h:RepO X H₀ H O ρ σ):Same X.H₀ H:=h.b0.trans (h.same.trans A9)
theorem RepO.bsFree(h:RepO X H₀ H O ρ σ){a:Addr}(ha:a∈O.adr)(f:Bool):gN X.ky f a=aj:=by
 cases f with
 |false=>rfl
 |true=>exact(h.own a ha).2
theorem Cw{i:Nat}{a:Addr}(h:(i,a)∈O):a∈O.adr:=wj.mpr ⟨_,h,rfl⟩
theorem RepO.all(h:RepO X H₀ H O ρ σ):RepS X.ky H ρ σ:=by
 refine⟨h.len,h.below,λi c e=>?_⟩;obtain⟨o,e1,e2⟩:=h.at_ i c e;refine⟨o,e1,?_⟩;cases c with
 |no=>trivial
 |ex=>obtain⟨a,φ,q,r,z⟩:=e2;exact⟨a,φ,q,A9 _ _ r,z⟩
 |sh f d=>obtain⟨v,q,r⟩:=e2;exact⟨v,q,Rp.mono _ A9 r⟩
 |ow f ds=>
  obtain⟨a,vs,q1,q2,q3,r⟩:=e2;exact⟨_,q2,Rp.lst_.mpr ⟨a,vs,rfl,h.bsFree (Cw q1) f,q3,Rps.mono _ (BA λb hb=>by rw[ve.mp hb];exact Cw q1) r⟩⟩
theorem RepO.rest(h:RepO X H₀ H O ρ σ):RepS X.ky (fU O.adr H) (V7 ρ) σ:=by
 rw[NH];refine⟨by rw[wn];exact h.len,h.b0.trans h.same,λi c e=>?_⟩;rw[wv]at e;cases q:ρ[i]? with
 |none=>rw[q]at e;cases e
 |some c'=>
  rw[q]at e;obtain⟨o,e1,e2⟩:=h.at_ i c' q;refine⟨o,e1,?_⟩;cases c' with
  |no=>cases e;trivial
  |ex=>cases e;exact e2
  |sh f d=>cases e;obtain⟨v,q,r⟩:=e2;exact⟨v,q,r⟩
  |ow f ds=>cases e;trivial
def BD(O:Own)(i:Nat):Own:=O.filter λp=>p.1 != i
theorem U0{p:Nat×Addr}{i:Nat}:p∈BD O i↔p∈O/\p.1≠i:=by
 unfold BD;rw[wQ];simp
theorem N3{i:Nat}:∀a∈(BD O i).adr,a∈O.adr:=λa ha=>by
 obtain⟨p,hp,e⟩:=wj.mp ha;exact wj.mpr ⟨p,(U0.mp hp).1,e⟩
theorem RepO.set(h:RepO X H₀ H O ρ σ){i:Nat}{f:Bool}{d:Dt}{v:V}(r:Rp X.K (gN X.ky f) d (fU O.adr H) v):RepO X H₀ H (BD O i) (ρ.set i (.sh f d)) (σ.set i (aa v)):=by
 have sm:Same (fU O.adr H) (fU (BD O i).adr H):=BA N3;refine⟨h.ndA.sublist (ck _ (vD)),h.ndI.sublist (ck _ (vD)),λa ha=>h.own a (N3 a ha),by rw[vS,vS];exact h.len,h.b0,h.same.trans sm,λj c q=>?_⟩;by_cases e:i=j
 .subst e;rw[vK,ak rfl]at q;rw[vK,ak rfl];split at q
  .rename_i hl;cases q;rw[ak (by rw[<-h.len];exact hl)];exact⟨_,rfl,v,rfl,Rp.mono _ sm r⟩
  .cases q
 .rw[vM e]at q|-;obtain⟨o,e1,e2⟩:=h.at_ j c q;refine⟨o,e1,?_⟩;cases c with
  |no=>trivial
  |ex=>obtain⟨a,φ,q,r,z⟩:=e2;exact⟨a,φ,q,sm _ _ r,z⟩
  |sh f d=>obtain⟨v,q,r⟩:=e2;exact⟨v,q,Rp.mono _ sm r⟩
  |ow f ds=>obtain⟨a,vs,q1,q2,q3,r⟩:=e2;exact⟨a,vs,U0.mpr ⟨q1,λz=>e z.symm⟩,q2,q3,Rps.mono _ sm r⟩
theorem KU{D:Addr}{A:ft}{H:Hp}:fU A (fU [D] H)=fU (D::A) H:=funext λb=>by
 unfold fU;by_cases q1:b=D
 .subst q1;simp
 .by_cases q2:b∈A
  .simp[q1,q2]
  .simp[q1,q2]
theorem RepO.setNew(h:RepO X H₀ H' O ρ σ){i:Nat}{D:Addr}{f:Bool}{ds:fK}{vs:fL}(hi:i<ρ.length)(sm0:Same H' H)(hN:H' D=aj)(hD:H D=aa (.lst vs))(hn:D∉O.adr)(hX:X.H₀ D=aj)
   (r:Rps X.K (gN X.ky f) ds (fU (D::O.adr) H) vs):RepO X H₀ H ((i,D)::BD O i) (ρ.set i (.ow f ds)) (σ.set i (aa (.ref D))):=by
 have sub:∀a∈(Own.adr ((i,D)::BD O i)),a∈D::O.adr:=λa ha=>by
   rcases wB.mp ha with z|z
   .rw[z];exact wf
   .exact wc _ (N3 a z)
 have sm:Same (fU (D::O.adr) H) (fU (Own.adr ((i,D)::BD O i)) H):=BA sub;have sm1:Same H' (fU [D] H):=λb o e=>by
   rw[r9 (by rw[ve];rintro rfl;rw[hN]at e;cases e)];exact sm0 _ _ e
 have sm2:Same (fU O.adr H') (fU (D::O.adr) H):=by rw[<-KU];exact E9 sm1
 have nD:D∉(BD O i).adr:=λz=>hn (N3 D z);refine⟨vQ.mpr ⟨nD,h.ndA.sublist (ck _ (vD))⟩,vQ.mpr ⟨λz=>?_,h.ndI.sublist (ck _ (vD))⟩,λa ha=>?_,by rw[vS,vS];exact h.len,h.b0,h.same.trans (sm2.trans sm),λj c q=>?_⟩
 .obtain⟨p,hp,e⟩:=wj.mp z;exact(U0.mp hp).2 e
 .rcases wB.mp ha with z|z
  .rw[z];exact⟨⟨vs,hD⟩,hX⟩
  .obtain⟨⟨ws,q⟩,z2⟩:=h.own a (N3 a z);exact⟨⟨ws,sm0 _ _ q⟩,z2⟩
 .by_cases e:i=j
  .subst e;rw[vK,ak rfl,ak hi]at q;rw[vK,ak rfl,ak (by rw[<-h.len];exact hi)];cases q;exact⟨_,rfl,D,vs,wf,rfl,hD,Rps.mono _ sm r⟩
  .rw[vM e]at q|-;obtain⟨o,e1,e2⟩:=h.at_ j c q;refine⟨o,e1,?_⟩;cases c with
   |no=>trivial
   |ex=>obtain⟨a,φ,q,r,z⟩:=e2;exact⟨a,φ,q,(sm2.trans sm) _ _ r,z⟩
   |sh f d=>obtain⟨v,q,r⟩:=e2;exact⟨v,q,Rp.mono _ (sm2.trans sm) r⟩
   |ow f ds'=>
    obtain⟨a,vs',q1,q2,q3,r⟩:=e2;exact⟨a,vs',wc _ (U0.mpr ⟨q1,λz=>e z.symm⟩),q2,sm0 _ _ q3,Rps.mono _ (sm2.trans sm) r⟩
theorem YI{O:Own}(nd:O.adr.Nodup):∀{p q:Nat×Addr},p∈O->q∈O->p.2=q.2->p=q:=by
 induction O with
 |nil=>intro p q hp;cases hp
 |cons o O ih=>
  intro p q hp hq e;have nd:(o.2::O.map (·.2)).Nodup:=nd;obtain⟨n1,n2⟩:=vQ.mp nd;rcases wB.mp hp with hp|hp<;>rcases wB.mp hq with hq|hq
  .rw[hp,hq]
  .exact aM (wj.mpr ⟨q,hq,by rw[<-e,hp]⟩) n1
  .exact aM (wj.mpr ⟨p,hp,by rw[e,hq]⟩) n1
  .exact ih n2 hp hq e
theorem z4Y{O:Own}(nd:(O.map (·.1)).Nodup):∀{p q:Nat×Addr},p∈O->q∈O->p.1=q.1->p=q:=by
 induction O with
 |nil=>intro p q hp;cases hp
 |cons o O ih=>
  intro p q hp hq e;have nd:(o.1::O.map (·.1)).Nodup:=nd;obtain⟨n1,n2⟩:=vQ.mp nd;rcases wB.mp hp with hp|hp<;>rcases wB.mp hq with hq|hq
  .rw[hp,hq]
  .exact aM (wj.mpr ⟨q,hq,by rw[<-e,hp]⟩) n1
  .exact aM (wj.mpr ⟨p,hp,by rw[e,hq]⟩) n1
  .exact ih n2 hp hq e
theorem TC{A:ft}{a:Addr}{o:HO}{H:Hp}(h:a∈A):fU A (upd H a o)=fU A H:=funext λb=>by
 by_cases q:b∈A
 .rw[V3 q,V3 q]
 .rw[r9 q,r9 q,v8 λz=>q (by rw[z];exact h)]
theorem RepO.upd(h:RepO X H₀ H O ρ σ){i:Nat}{a:Addr}{f g:Bool}{ds ds0:fK}{vs:fL}(hc:ρ[i]?=aa (.ow g ds0))(hi:(i,a)∈O)(r:Rps X.K (gN X.ky f) ds (fU O.adr H) vs):
   RepO X H₀ (upd H a (.lst vs)) O (ρ.set i (.ow f ds)) σ:=by
 have ha:a∈O.adr:=Cw hi;have hh:fU O.adr (L2.upd H a (.lst vs))=fU O.adr H:=TC ha;have hlt:i<ρ.length:=by
   by_cases hlt:i<ρ.length
   .exact hlt
   .rw[wW ()]at hc;cases hc
 refine⟨h.ndA,h.ndI,λb hb=>?_,by rw[vS];exact h.len,h.b0,by rw[hh];exact h.same,λj c q=>?_⟩
 .by_cases e:b=a
  .subst e;exact⟨⟨vs,B3⟩,(h.own b hb).2⟩
  .rw[v8 e];exact h.own b hb
 .by_cases e:i=j
  .subst e;rw[vK,ak rfl,ak hlt]at q;cases q;obtain⟨o,e1,a',vs',q1,q2,q3,r'⟩:=h.at_ i _ hc;have e2:(i,a')=(i,a):=z4Y h.ndI q1 hi rfl;cases e2;exact⟨o,e1,a,vs,hi,q2,B3,by rw[hh];exact r⟩
  .rw[vM e]at q;obtain⟨o,e1,e2⟩:=h.at_ j c q;refine⟨o,e1,?_⟩;cases c with
   |no=>trivial
   |ex=>obtain⟨b,φ,q,r,z⟩:=e2;exact⟨b,φ,q,by rw[hh];exact r,z⟩
   |sh f d=>obtain⟨v,q,r⟩:=e2;exact⟨v,q,by rw[hh];exact r⟩
   | ow f ds' =>
    obtain⟨b,vs',q1,q2,q3,r'⟩:=e2;have hne:b≠a:=λz=>by
     have:=YI h.ndA q1 hi z;exact e (bv Prod.fst this).symm
    exact⟨b,vs',q1,q2,by rw[v8 hne];exact q3,by rw[hh];exact r'⟩
def relC:Cell->Cell
 |.ow f ds=>.sh f (.lst ds)
 |c=>c
def Ra(ρ:gI)(i:Nat):gI:=match ρ[i]? with|some c=>ρ.set i (relC c)|none=>ρ
def relS:fu->gI->gI
 |[],ρ=>ρ
 |i::is,ρ=>relS is (Ra ρ i)
theorem RepO.rel(h:RepO X H₀ H O ρ σ)(i:Nat):RepO X H₀ H (BD O i) (Ra ρ i) σ:=by
 have sm:Same (fU O.adr H) (fU (BD O i).adr H):=BA N3;have hl:(Ra ρ i).length=ρ.length:=by
  unfold Ra;split
  .exact vS
  .rfl
 refine⟨h.ndA.sublist (ck _ (vD)),h.ndI.sublist (ck _ (vD)),λa ha=>h.own a (N3 a ha),hl.trans h.len,h.b0,h.same.trans sm,λj c q=>?_⟩;have other:∀{c:Cell},ρ[j]?=aa c->(∀f ds,c=.ow f ds->j≠i)->∃o,σ[j]?=aa o/\kn X H (BD O i) j c o:=λ{c}q hne=>by
  obtain⟨o,e1,e2⟩:=h.at_ j c q;refine⟨o,e1,?_⟩;cases c with
  |no=>trivial
  |ex=>obtain⟨a,φ,q,r,z⟩:=e2;exact⟨a,φ,q,sm _ _ r,z⟩
  |sh f d=>obtain⟨v,q,r⟩:=e2;exact⟨v,q,Rp.mono _ sm r⟩
  |ow f ds=>obtain⟨a,vs,q1,q2,q3,r⟩:=e2;exact⟨a,vs,U0.mpr ⟨q1,hne f ds rfl⟩,q2,q3,Rps.mono _ sm r⟩
 unfold Ra at q;cases e:ρ[i]? with
 |none=>
  rw[e]at q;exact other q λf ds _ z=>by rw[z,e]at q;cases q
 |some c'=>
  rw[e]at q;dsimp only at q;by_cases hij:i=j
  .subst hij;have hlt:i<ρ.length:=by
    by_cases hlt:i<ρ.length
    .exact hlt
    .rw[wW ()]at e;cases e
   rw[vK,ak rfl,ak hlt]at q;cases q;cases c' with
   |no=>obtain⟨o,e1,e2⟩:=h.at_ i _ e;exact⟨o,e1,trivial⟩
   |ex=>exact other e λf ds z=>by cases z
   |sh f d=>exact other e λf ds z=>by cases z
   |ow f ds=>
    obtain⟨o,e1,a,vs,q1,q2,q3,r⟩:=h.at_ i _ e;have hna:a∉(BD O i).adr:=λz=>by
      obtain⟨p,hp,ep⟩:=wj.mp z;have:=YI h.ndA (U0.mp hp).1 q1 ep;exact(U0.mp hp).2 (by rw[this])
    refine⟨o,e1,.ref a,q2,Rp.lst_.mpr ⟨a,vs,rfl,h.bsFree (Cw q1) f,by rw[r9 hna];exact q3,Rps.mono _ ?_ r⟩⟩;rw[GJ,KU];refine BA λb hb=>?_;rcases wB.mp hb with z|z
    .rw[z];exact Cw q1
    .exact N3 b z
  .rw[vM hij]at q;exact other q λf ds _ z=>hij z.symm
theorem RepO.rels(h:RepO X H₀ H O ρ σ):∀is:fu,∃O',RepO X H₀ H O' (relS is ρ) σ:=λis=>by
 induction is generalizing O ρ with
 |nil=>exact⟨O,h⟩
 |cons i is ih=>exact ih (h.rel i)
end
inductive Oc where
 |nx (ρ:gI)|rt (f:Fl) (d:Dt)|bk (ρ:gI)|ct (ρ:gI)|ex (n:Nat)
def mi(X:Cx)(H₀:Hp)(D:Ends):Oc->Prop
 |.nx ρ=>∀σ H,iC X H₀ H ρ σ->D.nx σ H
 |.rt f d=>∀v H,Same H₀ H->Rp X.K (gN X.ky f.isFr) d H v->D.rt v H
 |.bk ρ=>∀σ H,iC X H₀ H ρ σ->D.bk σ H
 |.ct ρ=>∀σ H,iC X H₀ H ρ σ->D.ct σ H
 |.ex n=>∀C,X.mg (exN n)=aa (.ref C)->XOk X H₀ (wk n) C
abbrev FS:=gI->Option Oc
def tS(X:Cx)(F:FS):TS:=λD σ H=>∃H₀ ρ oc,iC X H₀ H ρ σ/\F ρ=aa oc/\mi X H₀ D oc
def iS(X:Cx)(st:aJ)(F:FS):Prop:=PS X st (tS X F)
def ij(X:Cx)(sts:fy)(F:FS):Prop:=PSs X sts (tS X F)
theorem PS.imp{X:Cx}{st:aJ}{t t':TS}(h:PS X st t)(q:∀D σ H,t' D σ H->t D σ H):PS X st t':=λπ s σ H D I z=>h π s σ H D I (q D σ H z)
theorem PSs.imp{X:Cx}{st:fy}{t t':TS}(h:PSs X st t)(q:∀D σ H,t' D σ H->t D σ H):PSs X st t':=λπ s σ H D I z=>h π s σ H D I (q D σ H z)
section
variable {X:Cx}{st:aJ}{rest:fy}{F G:FS}{e:az}{Fe:FE}{pos:Pos}
def w8:FS:=λρ=>aa (.nx ρ)
def seqO(G:FS):Oc->Option Oc
 |.nx ρ=>G ρ
 |o=>aa o
noncomputable def sSeq(F G:FS):FS:=λρ=>(F ρ).bind (seqO G)
theorem z9:ij X [] w8:=z4A.imp (by rintro D σ H ⟨H₀,ρ,oc,rb,e,k⟩;cases e;exact k σ H rb)
theorem j6(h:iS X st F):ij X [st] F:=Cl h
theorem i6(h1:iS X st F)(h2:ij X rest G):ij X (st::rest) (sSeq F G):=(Ac h1 h2).imp λD σ H⟨H₀,ρ,oc,rb,e,k⟩=>by
 obtain⟨o1,e1,e2⟩:=i9 e;refine⟨H₀,ρ,o1,rb,e1,?_⟩;cases o1 with
 |nx ρ'=>exact λσ' H' rb'=>⟨H₀,ρ',oc,rb',e2,k⟩
 |rt f d=>cases e2;exact k
 |ex C=>cases e2;exact k
 |bk ρ'=>cases e2;exact k
 |ct ρ'=>cases e2;exact k
def KW:FS:=λ_=>aj
theorem Kj:iS X st KW:=λπ s σ H D I⟨H₀,ρ,oc,rb,e,k⟩=>by cases e
noncomputable def sRet(F:FE):FS:=λρ=>(F ρ).map λx=>.rt x.1 x.2
theorem k9(he:PF X e Fe):iS X (.Return (aa e) pos) (sRet Fe):=(tQ he).imp λD σ H⟨H₀,ρ,oc,⟨O,rb⟩,e0,k⟩=>by
 unfold sRet at e0;cases h:Fe ρ with
 |none=>rw[h]at e0;cases e0
 |some x=>
  rw[h]at e0;cases e0;refine⟨ρ,x.1,x.2,rb.all,h,λv H' sm r=>k v H' (rb.same.trans (A9.trans sm)) ?_⟩;by_cases q:x.1.isFr=af
  .rw[q];exact r.fr rb.below q
  .rw[show x.1.isFr=ab by simpa using q];exact r.sh
noncomputable def sIf(c:FT)(F G:FS):FS:=λρ=>(c ρ).bind λb=>if b then F ρ else G ρ
theorem gA{c:az}{a b:fy}{Fc:FT}(hc:iY X c Fc)(ha:ij X a F)(hb:ij X b G):iS X (.If c a b pos) (sIf Fc F G):=(pZ hc ha hb).imp λD σ H⟨H₀,ρ,oc,⟨O,rb⟩,e0,k⟩=>by
 obtain⟨z,e1,e2⟩:=i9 e0;refine⟨ρ,z,rb.all,e1,λH' sm=>?_⟩;dsimp only;cases z with
 |true=>rw[ak rfl]at e2|-;exact⟨H₀,ρ,oc,⟨O,rb.mono sm⟩,e2,k⟩
 |false=>rw[ao vi]at e2|-;exact⟨H₀,ρ,oc,⟨O,rb.mono sm⟩,e2,k⟩
def Fw(F:FE):FS:=λρ=>(F ρ).map λ_=>.nx ρ
theorem KY(he:PF X e Fe)(hs:cD e aj pos.line X.env=pure ab:=by rfl):iS X (.Expr e pos) (Fw Fe):=(Pn he hs).imp λD σ H⟨H₀,ρ,oc,⟨O,rb⟩,e0,k⟩=>by
 unfold Fw at e0;cases h:Fe ρ with
 |none=>rw[h]at e0;cases e0
 |some x=>
  rw[h]at e0;cases e0;exact⟨ρ,x.1,x.2,rb.all,h,λv H' sm r=>k σ H' ⟨O,rb.mono sm⟩⟩
def jg(X:Cx)(st:aJ)(i:Nat)(F:FE):Prop:=PS X st (ie (io X F) (Ad i))
theorem o7{i:Nat}{x:Str}{pos':Pos}(he:PF X e Fe)(hN:X.N.Nodup)(hi:X.N[i]?=aa x)(hx:mj X.env.scope x)(hs:cD e (aa (.Name x pos')) pos.line X.env=pure ab)(hf:X.fn x=af\/X.env.scope.names.lookup x=aa .local):
 jg X (.Assign [.Name x pos'] e pos) i Fe:=Po hN hi hx he hs hf
theorem Rb{N:fq}{scope:Scope}{nt:Nat}{js:fu}{tg elt iter:az}{ifs:fw}{Fi:FI}{g:Tg}{Fc:FT}{i:Nat}{x:Str}{pos' spos:Pos}(hN:X.N.Nodup)(hix:X.N[i]?=aa x)(hx:X.env.scope.names.lookup x=aa .local)
  (hsw:cD (.ListComp elt [⟨tg,iter,ifs,0⟩] scope pos) (aa (.Name x pos')) spos.line X.env=pure af)
  (S:CompScope X N scope nt js) (hc:X.calm=af) (hi:jh X tg iter Fi) (hg:∀cl C fp s H,PG (C2 X N scope cl C fp s H) tg (g.low X.K)) (hb:g.below nt)
  (hcs:∀cl C fp s H,jx (C2 X N scope cl C fp s H) ifs Fc) (he:∀cl C fp s H,PF (C2 X N scope cl C fp s H) elt Fe) (hj:∀j∈js,j<X.N.length)
  (hs:∀x,bp iter X.env x=pure x:=by intro _;rfl):jg X (.Assign [.Name x pos'] (.ListComp elt [⟨tg,iter,ifs,0⟩] scope pos) spos) i (j8 nt js Fi g Fc Fe):=by
 intro π s σ H D I h;exact YA hN hix hx S hc hi hg (Tg.ok hb) (λcl C fp s H=>PTs.frame (t:=λH1=>iH ⟨X.K,H1⟩ Fc) (hcs cl C fp s H)) (λcl C fp s H=>PE.frame (he cl C fp s H)) hsw hs π s σ H D I
  (YH (λj z=>by rw[I.len];exact hj j z) h)
def sSet(rels:fu)(i:Nat)(F:FE):FS:=λρ=>(F (V7 (relS rels ρ))).map λx=>.nx ((relS rels ρ).set i (.sh x.1.isFr x.2))
theorem C8{rels:fu}{i:Nat}(ha:jg X st i Fe):iS X st (sSet rels i Fe):=(PS.frame ha).imp λD σ H⟨H₀,ρ,oc,⟨O,rb⟩,e0,k⟩=>by
 unfold sSet at e0;cases h:Fe (V7 (relS rels ρ)) with
 |none=>rw[h]at e0;cases e0
 |some x=>
  rw[h]at e0;cases e0;obtain⟨O',rb'⟩:=rb.rels rels;refine⟨O'.adr,rb'.own,V7 (relS rels ρ),x.1,x.2,rb'.rest,h,λv H' sm r hn=>?_⟩;have hg:fU O'.adr (E3 O'.adr H H')=H':=R7 hn;have rb2:RepO X H₀ (E3 O'.adr H H') O' (relS rels ρ) σ:=rb'.mono (Same.glue sm hn);refine k _ _ ⟨_,rb2.set (f:=x.1.isFr) ?_⟩;rw[hg];by_cases q:x.1.isFr=af
  .rw[q];exact r.fr (rb'.b0.trans rb'.same) q
  .rw[show x.1.isFr=ab by simpa using q];exact r.sh
def V8(i:Nat)(F:FE):FS:=λρ=>(F ρ).bind λx=>if x.1.isNw then aa (.nx (ρ.set i (.sh af x.2))) else aj
theorem tj{H H':Hp}{O:Own}{f:Fl}{d:Dt}{v:V}(ho:iQ X O.adr H)(sm:Same H H')(q:f.isNw=af)(r:RpF X.ky H f d H' v):Rp X.K H d (fU O.adr H') v:=by
 cases f<;>first|cases q|skip
 refine Rp.hid (λb hb=>?_) d (λb hb o e=>?_) r
 .obtain⟨⟨vs,z⟩,_⟩:=ho b hb;rw[z];exact λw=>nomatch w
 .obtain⟨⟨vs,z⟩,_⟩:=ho b hb;rw[sm _ _ z]at e;cases e;exact⟨vs,rfl⟩
theorem KZ{i:Nat}(ha:jg X st i Fe):iS X st (V8 i Fe):=PS.imp ha λD σ H⟨H₀,ρ,oc,⟨O,rb⟩,e0,k⟩=>by
 obtain⟨x,e1,e2⟩:=i9 e0;split at e2
 .rename_i q;cases e2;refine⟨ρ,x.1,x.2,rb.all,e1,λv H' sm r=>k _ _ ⟨_,(rb.mono sm).set (f:=af) ?_⟩⟩;exact Rp.anti rb.below _ (tj rb.own sm q r)
 .cases e2
def sOwn(i:Nat)(F:FE):FS:=λρ=>(F (V7 ρ)).bind λx=>match x with
 |(.nw,.lst ds)=>if i<ρ.length then aa (.nx (ρ.set i (.ow af ds))) else aj
 |(.tn,.lst ds)=>if i<ρ.length then aa (.nx (ρ.set i (.ow ab ds))) else aj
 |_=>aj
theorem Rc{i:Nat}(ha:jg X st i Fe):iS X st (sOwn i Fe):=(PS.frame ha).imp λD σ H⟨H₀,ρ,oc,⟨O,rb⟩,e0,k⟩=>by
 obtain⟨x,e1,e2⟩:=i9 e0;refine⟨O.adr,rb.own,V7 ρ,x.1,x.2,rb.rest,e1,λv H' sm r hn=>?_⟩;have hg:fU O.adr (E3 O.adr H H')=H':=R7 hn;have sg:Same H (E3 O.adr H H'):=Same.glue sm hn;have new:∀{f:Bool}{ds:fK}{D:Addr}{vs:fL},fU O.adr H D=aj->H' D=aa (.lst vs)->Rps X.K (gN X.ky f) ds (fU [D] H') vs->i<ρ.length->iC X H₀ (E3 O.adr H H') (ρ.set i (.ow f ds)) (σ.set i (aa (.ref D))):=by
   intro f ds D vs hD hv hr hi;have nO:D∉O.adr:=λz=>by rw[hn D z]at hv;cases hv
   have hH:H D=aj:=by rw[r9 nO]at hD;exact hD
   refine⟨_,rb.setNew hi sg hH (by rw[F7 nO];exact hv) nO (rb.below.free hH) ?_⟩;rw[<-KU,GJ,hg];exact hr
 split at e2
 .rename_i ds;split at e2
  .rename_i hi;cases e2;obtain⟨D,vs,rfl,h0,h1,h2⟩:=(Rp.lst_ (K:=X.K)).mp (show Rp X.K (fU O.adr H) (.lst ds) H' v from r);exact k _ _ (new (f:=af) h0 h1 (Rps.anti (rb.b0.trans rb.same) _ h2) hi)
  .cases e2
 .rename_i ds;split at e2
  .rename_i hi;cases e2;obtain⟨D,vs,rfl,h0,h1,h2⟩:=Rp.lst_.mp r.1;exact k _ _ (new (f:=ab) (r.2.2 D rfl) h1 h2 hi)
  .cases e2
 .cases e2
def E8(c:FT)(F:FS):Nat->FS
 |0,_=>aj
 |n+1,ρ=>(c ρ).bind λb=>if b then(F ρ).bind λoc=>match oc with|.nx ρ'=>E8 c F n ρ'|.ct ρ'=>E8 c F n ρ'|.bk ρ'=>aa (.nx ρ')|.rt f d=>aa (.rt f d)|.ex C=>aa (.ex C) else aa (.nx ρ)
open Classical in
noncomputable def Bm(c:FT)(F:FS):FS:=λρ=>if h:∃n o,E8 c F n ρ=aa o then aa (choose (choose_spec h)) else aj
theorem AS{c:FT}{F:FS}:∀{n m:Nat}{ρ:gI}{o:Oc},n<=m->E8 c F n ρ=aa o->E8 c F m ρ=aa o
 |0,m,ρ,o,_,h=>by cases h
 |n+1,0,ρ,o,hl,h=>()
 | n+1,m+1,ρ,o,hl,h=>by
  unfold E8 at h|-;obtain⟨b,e1,e2⟩:=i9 h;rw[e1];show(if b=af then _ else _)=_;cases b with
  |false=>exact e2
  |true=>
   rw[ak rfl]at e2|-;obtain⟨oc,e3,e4⟩:=i9 e2;rw[e3];cases oc with
   |nx ρ'=>exact AS () e4
   |ct ρ'=>exact AS () e4
   |bk ρ'=>exact e4
   |rt f d=>exact e4
   |ex C=>exact e4
theorem Ez{c:FT}{F:FS}{n:Nat}{ρ:gI}{o:Oc}(h:E8 c F n ρ=aa o):Bm c F ρ=aa o:=by
 have hx:∃n o,E8 c F n ρ=aa o:=⟨n,o,h⟩;unfold Bm;rw[dif_pos hx];have z:=wE (wE hx);have a:=AS (Nat.le_max_left n (vd hx)) h;have b:=AS (Nat.le_max_right n (vd hx)) z;rw[a]at b;exact b.symm
theorem z00{c:FT}{F:FS}{ρ:gI}{o:Oc}(h:Bm c F ρ=aa o):∃n,E8 c F n ρ=aa o:=by
 unfold Bm at h;split at h
 .rename_i hx;cases h;exact⟨_,wE (wE hx)⟩
 .cases h
theorem Pz{c:az}{body:fy}{Fc:FT}(hp:fg (model X.prog X.w) X.A X.env X.xe)(hc:iY X c Fc)(hb:ij X body F):iS X (.While c body [] pos) (Bm Fc F):=(z14 hp hc hb).imp λD σ H⟨H₀,ρ,oc,rb,e0,k⟩=>by
 obtain⟨n0,e1⟩:=z00 e0;refine⟨λm σ' H'=>∃ρ',iC X H₀ H' ρ' σ'/\E8 Fc F m ρ'=aa oc,⟨n0,ρ,rb,e1⟩,?_⟩;rintro m σ' H' ⟨ρ',⟨O,rb'⟩,w'⟩;cases m with
 |zero=>cases w'
 | succ n =>
  unfold E8 at w';obtain⟨z,p1,p2⟩:=i9 w';refine⟨ρ',z,rb'.all,p1,λH2 sm=>?_⟩;dsimp only;cases z with
  |false=>
   rw[ao vi]at p2|-;cases p2;exact k _ _ ⟨O,rb'.mono sm⟩
  |true=>
   rw[ak rfl]at p2|-;obtain⟨oc',p3,p4⟩:=i9 p2;refine⟨λσ' H'=>∃ρ'',iC X H₀ H' ρ'' σ'/\E8 Fc F n ρ''=aa oc,λσ3 H3⟨ρ3,rb3,w3⟩=>⟨n,vU n,ρ3,rb3,w3⟩,H₀,ρ',oc',⟨O,rb'.mono sm⟩,p3,?_⟩;cases oc' with
   |nx ρ3=>exact λσ3 H3 rb3=>⟨ρ3,rb3,p4⟩
   |ct ρ3=>exact λσ3 H3 rb3=>⟨ρ3,rb3,p4⟩
   |bk ρ3=>cases p4;exact k
   |rt f d=>cases p4;exact k
   |ex C=>cases p4;exact k
def gk(g:Tg)(F:FS):fK->FS
 |[],ρ=>aa (.nx ρ)
 |x::xs,ρ=>(g.put x ρ).bind λρ2=>(F ρ2).bind λoc=>match oc with|.nx ρ'=>gk g F xs ρ'|.ct ρ'=>gk g F xs ρ'|.bk ρ'=>aa (.nx ρ')|.rt f d=>aa (.rt f d)|.ex C=>aa (.ex C)
def sFor(rels:fu)(Fi:FI)(g:Tg)(F:FS):FS:=λρ=>(Fi (V7 (relS rels ρ))).bind λitems=>gk g F items (relS rels ρ)
end
section
variable {X:Cx}{H₀ H H':Hp}{O:Own}{ρ ρ':gI}{σ:St}
theorem JA:∀{is:fu}{ds:fK}{vs:fL}{O:Own}{ρ:gI}{σ:St},RepO X H₀ H O ρ σ->Rps X.K emp ds (fU O.adr H) vs->ds.length=is.length->Ai ρ is ds=ρ' ->
  R8 is vs σ H λσ' H'=>H'=H/\∃O',RepO X H₀ H O' ρ' σ'
 |[],[],vs,O,ρ,σ,rs,r,hl,q=>⟨Rps.nil_.mp r,rfl,O,by rw[<-q];exact rs⟩
 |[],d::ds,vs,O,ρ,σ,rs,r,hl,q=>by cases hl
 |i::is,[],vs,O,ρ,σ,rs,r,hl,q=>by cases hl
 |i::is,d::ds,vs,O,ρ,σ,rs,r,hl,q=>by
  obtain⟨v,r',rfl,h1,h2⟩:=Rps.cons_.mp r;exact⟨v,r',rfl,JA (rs.set (f:=ab) h1) (Rps.mono _ (BA N3) h2) (by simpa using hl) q⟩
theorem Tg.simO{g:Tg}{d:Dt}{v:V}(rs:RepO X H₀ H O ρ σ)(r:Rp X.K emp d (fU O.adr H) v)(h:g.put d ρ=aa ρ'):
  g.low X.K v σ H λσ' H'=>H'=H/\∃O',RepO X H₀ H O' ρ' σ':=by
 cases g with
 |one i=>cases h;exact⟨rfl,_,rs.set (f:=ab) r⟩
 |many is=>
  cases d<;>first|cases h|skip
  rename_i ds;replace h:(if ds.length=is.length then aa (Ai ρ is ds) else aj)=aa ρ':=h;split at h
  .rename_i hl;obtain⟨a,vs,rfl,h1,h2⟩:=Rp.tup_.mp r;exact⟨a,vs,rfl,A9.seqT h1,by rw[h2.length];exact hl,JA rs h2 hl (aO h)⟩
  .cases h
end
section
variable {X:Cx}{tg iter:az}{body:fy}{Fi:FI}{g:Tg}{F:FS}{pos:Pos}
theorem R9{rels:fu}(hp:fg (model X.prog X.w) X.A X.env X.xe)(hc:X.calm=af)(hi:jh X tg iter Fi)(hg:PG X tg (g.low X.K))(hb:ij X body F)
   (hs:∀x,bp iter X.env x=pure x:=by intro _;rfl):iS X (.For tg iter body [] pos) (sFor rels Fi g F):=(Ts hp hc (PI.frame hi) hg hb hs).imp λD σ H⟨H₀,ρ,oc,⟨O,rb⟩,e0,k⟩=>by
 obtain⟨items,e1,e2⟩:=i9 e0;obtain⟨O',rb'⟩:=rb.rels rels;refine⟨O'.adr,rb'.own,V7 (relS rels ρ),items,rb'.rest,e1,λJ H1 sm hsz wk hn=>?_⟩;have hg1:fU O'.adr (E3 O'.adr H H1)=H1:=R7 hn;have s01:Same H₀ H1:=rb'.same.trans sm;have start:RepO X H1 (E3 O'.adr H H1) O' (relS rels ρ) σ:=by
   have z:=rb'.mono (Same.glue sm hn);exact⟨z.ndA,z.ndI,z.own,z.len,rb'.b0.trans s01,by rw[hg1];exact Same.refl _,z.at_⟩
 have back:∀{oc:Oc},mi X H₀ D oc->mi X H1 D oc:=λ{oc}z=>by
   cases oc with
   |nx ρ5=>exact λσ5 H5⟨O5,r5⟩=>z σ5 H5 ⟨O5,r5.base s01 rb'.b0⟩
   |bk ρ5=>exact λσ5 H5⟨O5,r5⟩=>z σ5 H5 ⟨O5,r5.base s01 rb'.b0⟩
   |ct ρ5=>exact λσ5 H5⟨O5,r5⟩=>z σ5 H5 ⟨O5,r5.base s01 rb'.b0⟩
   |rt f d=>exact λv H5 s5 r5=>z v H5 (s01.trans s5) r5
   |ex n=>exact λC q=>(z C q).base s01
 refine⟨λi m σ' H'=>m=items.length-i/\∃ρ',iC X H1 H' ρ' σ'/\gk g F (items.drop i) ρ'=aa oc,⟨_,rfl,_,⟨O',start⟩,e2⟩,?_⟩;rintro i m σ' H' ⟨rfl,ρ',⟨O2,r2⟩,f2⟩;obtain⟨w1,w2⟩:=wk O2.adr H' r2.same λa ha=>by obtain⟨⟨vs,q⟩,_⟩:=r2.own a ha;exact⟨_,q⟩
 by_cases hlt:i<items.length
 .obtain⟨x,hx⟩:∃x,items[i]?=aa x:=⟨_,wa hlt⟩;have hdrop:items.drop i=x::items.drop (i+1):=by
   rw[uY hlt];rw[wa hlt]at hx;cases hx;rfl
  rw[hdrop]at f2;unfold gk at f2;obtain⟨ρ2,p1,f3⟩:=i9 f2;obtain⟨oc',p2,f4⟩:=i9 f3;obtain⟨go,yl⟩:=w1 i x hx;refine .inr ⟨go,λσ3 H3=>∃ρ3,iC X H1 H3 ρ3 σ3/\gk g F (items.drop (i+1)) ρ3=aa oc,λσ3 H3⟨ρ3,r3,f3⟩=>⟨items.length-(i+1),(),rfl,ρ3,r3,f3⟩,λxv H3 y3=>?_⟩;obtain⟨s3,k3,r3⟩:=yl xv H3 y3;have sm3:Same H' H3:=λb o e=>by
   by_cases hb:b∈O2.adr
   .rw[k3 b hb];exact e
   .exact(R6 (s3 b o (by rw[r9 hb];exact e))).2
  refine Tg.low_mono (Tg.simO (r2.mono sm3) r3 p1) ?_;rintro σ4 H4 ⟨eH,O4,r4⟩;subst eH;refine⟨H1,ρ2,oc',⟨O4,r4⟩,p2,?_⟩;cases oc' with
  |nx ρ5=>exact λσ5 H5 r5=>⟨ρ5,r5,f4⟩
  |ct ρ5=>exact λσ5 H5 r5=>⟨ρ5,r5,f4⟩
  |bk ρ5=>cases f4;exact back k
  |rt f d=>cases f4;exact back k
  |ex C=>cases f4;exact back k
 .have hd:items.drop i=[]:=vV ();rw[hd]at f2;cases f2;exact .inl ⟨w2 i (),back k σ' H' ⟨O2,r2⟩⟩
end
section
variable {P:aN}{w:aI}{K:aD}{mg:aE}{base:aR}
def rho0(n:Nat)(ds:fK):gI:=ds.map (Cell.sh ab)++aP (n-ds.length) Cell.no
theorem TF{X:Cx}{H:Hp}{ds:fK}{vs:fL}{N:fq}(h0:X.H₀=H)(h:Rps X.K emp ds H vs):RepO X H H [] (rho0 N.length ds) (start N vs):=by
 have hl:=h.length;refine⟨w18,w18,λa ha=>(nomatch ha),by unfold rho0 start;simp[hl],by rw[h0];exact Same.refl H,by show Same H (fU [] H);rw[QV];exact Same.refl H,λi c e=>?_⟩;unfold rho0 at e;unfold start;by_cases hi:i<ds.length
 .rw[wV (by simpa using hi),wv]at e;cases q:ds[i]? with
  |none=>rw[q]at e;cases e
  | some d =>
    rw[q]at e;cases e;obtain⟨v,e1,e2⟩:=h.get q;refine⟨aa v,?_,v,rfl,by show Rp X.K emp d (fU [] H) v;rw[QV];exact e2⟩;rw[wV (by simp;rfl'),wv,e1];rfl
 .rw[vj (by simp;rfl'),vE]at e;split at e
  .cases e;rename_i hlt;simp at hlt;refine⟨aj,?_,trivial⟩;rw[vj (by simp;rfl'),vE,ak (by simp;rfl')]
  .cases e
noncomputable def fQ(np n:Nat)(fr:Bool)(F:FS):FC:=λds=>if ds.length=np then
 (F (rho0 n ds)).bind λoc=>match oc with|.rt f d=>if fr&&!(f.isFr||d.flat) then aj else aa d|.nx _=>aa .non|_=>aj
 else aj
theorem Fun.data{x qual:Str}{st:Stmt}{f:Addr}{fd:FuncData}{N ps:List Str}{k:Nat}{fr:Bool}{F:FS}(Fu:Fun K x qual st f fd)(S:FnScope N ps (f9 st))
    (body:∀(cdv:Value)(A:bu)(outer:fA)(s:Shared)(H:Hp)(E:XK),Room k (A.deeper (dH qual (f9 st) s.heap.objs.size f cdv)) ->
      ij (iM CX0 P w K mg base N qual (f9 st) f cdv A outer s H E).nox (G9 st) F):FnOk P w K mg base CX0 (k+1) f fd ps (iT K fr (fQ ps.length N.length fr F)):=by
  refine Fu.ok S (λvs H Q E h=>?_) (λcdv A outer s H vs Q E hr h=>?_)
  .obtain⟨ds,d,r,e,q⟩:=h;unfold fQ at e;split at e
   .rename_i hl;rw[r.length];exact hl
   .cases e
  .obtain⟨ ds,d,r,e,q⟩:=h
   unfold fQ at e;split at e
   .rename_i hl;obtain⟨oc,e1,e2⟩:=i9 e;refine⟨_,body cdv A outer s H E hr,H,rho0 N.length ds,oc,⟨[],TF rfl r⟩,e1,?_⟩;cases oc with
    |nx ρ=>cases e2;exact λσ H'⟨O,rb⟩=>q _ H' (rb.same.trans A9) (Rp.non_.mpr rfl)
    |bk ρ=>cases e2
    |ct ρ=>cases e2
    |ex C=>cases e2
    | rt f d' =>
      have e2:(if(fr&&!(f.isFr||d'.flat))=af then aj else aa d')=aa d:=e2;split at e2
      .cases e2
      .rename_i hf;cases e2;refine λv H' sm r'=>q v H' sm ?_;cases fr with
       |false=>exact Rp.anti Same.emp _ r'
       | true =>
         have hf:f.isFr=af\/d.flat=af:=by
           cases h1:f.isFr<;>cases h2:d.flat<;>simp[h1,h2]at hf|-
         rcases hf with hf|hf
         .rw[hf]at r';exact r'
         .exact Rp.flat d hf r'
   .cases e
theorem z01{l:du}{q:aN}{loose:fq}{XP:(aE)->aR->Prop}{YP:aI->aR->Prop}{d:DefRec}{K:aV->aD}{x:Str}{k:Nat}{fr:Bool}{c:FC}(hn:l.most=aa 63)(hdf:d.params.defaults=[])
  (hY:∀(w:aI)(h:aR),YP w h->(K w.params).In h)
  (F:∀(w:World) (mg:Str→Option Value) (fa:Addr) (h:Heap),(K w.params).In h→h.Ns mainGlobals mg→mg d.name=some (.ref fa) →
   ∃fd:aq,(∀(s:Shared)(u:Value),eS s fd ⟨[u],[]⟩ [(x,u)])/\∀base:aR,(K w.params).In base->base.Ns aw mg->FnOk l.prog w (K w.params) mg base CX0 k fa fd [x] (iT (K w.params) fr c))
  (hc:∀ns:aH,ns.length<=63->c [.scr ns]=aa (.bl af))
  (hr:Room k eG):PySem.W.WalkO q loose XP YP l.row.toRowW d [] (λf vs=>PySem.call f vs):=
 L2.z4O (n:=63) (k:=k) (x:=x) (CX:=λ_=>CX0) (sp:=λw=>iT (K w.params) fr c) hn (by decide) hdf hr hY F
  (λw H a ns hl hO hS=>⟨[.scr ns],_,Rps.one (Rp.scr_.mpr ⟨a,rfl,rfl,SqF.of hS hO⟩),hc ns hl,λv H' _ r=>by cases fr<;>exact Rp.bl_.mp r⟩) λ_ _ _ _ _ z=>z
end
def La(XN:fq)(xs:List (Str×bt))(scope:Scope)(N:fq)(nt:Nat)(js:fu):Bool:=
 decide ((scope.names.map (·.1)).Nodup)&&(N.length==nt+js.length)&&((ah js.length).all λk=>match js[k]? with
  |some j=>(match N[nt+k]?,XN[j]? with|some x,aa y=>x==y&&scope.names.lookup x==aa .free|_,_=>ab)
  |none=>ab)&&scope.names.all λp=>p.2 !=.free||xs.lookup p.1==aa .cell||xs.lookup p.1==aa .free
theorem u8{X:Cx}{N:fq}{scope:Scope}{nt:Nat}{js:fu}(XN:fq)(xs:List (Str×bt))(h1:X.N=XN)(h2:X.env.scope.names=xs)(hk:scope.kind=.function)(c:La XN xs scope N nt js=af):CompScope X N scope nt js:=by
 unfold La at c;rw[wS,wS,wS]at c;obtain⟨⟨⟨c1,c2⟩,c3⟩,c4⟩:=c;have nd:=aX c1;refine⟨hk,nd,λx hx e=>by rw[W8 nd hx,e],beq_iff_eq.mp c2,λk j e=>?_,λx hx e=>?_⟩
 .have hk:k<js.length:=by
    by_cases hk:k<js.length
    .exact hk
    .rw[wW ()]at e;cases e
  have z:=uU.mp c3 k (wJ.mpr hk);rw[e]at z;dsimp only at z;rw[h1];cases q1:N[nt+k]? with
  |none=>rw[q1]at z;cases z
  | some x =>
    cases q2:XN[j]? with
    |none=>rw[q1,q2]at z;cases z
    | some y =>
      rw[q1,q2]at z;dsimp only at z;rw[wS]at z;have exy:x=y:=beq_iff_eq.mp z.1;subst exy;exact⟨x,rfl,rfl,beq_iff_eq.mp z.2⟩
 .have z:=uU.mp c4 x hx;rw[e]at z;have z:(xs.lookup x.1==aa .cell||xs.lookup x.1==aa .free)=af:=by simpa using z
  show X.env.scope.names.lookup x.1=_\/X.env.scope.names.lookup x.1=_;rw[h2];rcases w0q _ _ |>.mp z with z|z
  .exact .inl (beq_iff_eq.mp z)
  .exact .inr (beq_iff_eq.mp z)
structure Df(K:aD)(mg:aE)(name:Str)(st:aJ)(ps:fq)(f:Addr)(fd:aq):Prop where
 fn:Fun K name name st f fd
 mg:mg name=aa (.ref f)
 bd:Binds K fd ps []
theorem oH{K:aD}{h:aR}{mg:aE}(X:K.In h)(G:h.Ns aw mg){x:Str}{st:aJ}{f:Addr}{oc:Value}{od an:fJ}{osl:Array (fI)}{kV doc pm cdv ct:Value}{ps:fq}
  (e:aU K aw x=aa (aa (.ref f))) (l:K.lookup f=aa ⟨oc,od,.func (bz x x (O8 st) (G9 st) (f9 st) .none kV doc pm an cdv ct),osl⟩) (c:cb K cdv x=af) (k:bI K (.ref f)=af)
  (hb:∀(kV doc pm:Value)(an:fJ)(cdv ct:Value)(us:aF),us.length=ps.length->eO (bz x x (O8 st) (G9 st) (f9 st) .none kV doc pm an cdv ct) ⟨us,[]⟩=pure (ps.zip us)) :
  Df K mg x st ps f (bz x x (O8 st) (G9 st) (f9 st) .none kV doc pm an cdv ct):=
 ⟨tx l c k,fe X G e,(tx (st:=st) l c k).binds hb⟩
end L2
end
section
namespace ZL
def ItAt(h:aR)(tu:Bool)(it l:Addr)(k:Nat):Prop:=if tu then h.IsTupleIter it l k else h.IsListIter it l k
def SqAt(h:aR)(tu:Bool)(l:Addr)(xs:fE):Prop:=if tu then h.IsTuple l xs else h.IsList l xs
section
variable {h h':aR}{tu:Bool}{it l c:Addr}{k:Nat}{xs:fE}
theorem ItAt.at(x:ItAt h tu it l k)(q:∀o,h.get? it=aa o->h'.get? it=aa o):ItAt h' tu it l k:=by
 unfold ItAt at x|-;cases tu with
 |true=>obtain⟨o,e,r⟩:=x;exact⟨o,q o e,r⟩
 |false=>obtain⟨o,e,r⟩:=x;exact⟨o,q o e,r⟩
theorem SqAt.at(x:SqAt h tu l xs)(q:∀o,h.get? l=aa o->h'.get? l=aa o):SqAt h' tu l xs:=by
 unfold SqAt at x|-;cases tu with
 |true=>obtain⟨o,e,r⟩:=x;exact⟨o,q o e,r⟩
 |false=>obtain⟨o,e,r⟩:=x;exact⟨o,q o e,r⟩
theorem ItAt.lt(x:ItAt h tu it l k):it<h.objs.size:=by
 unfold ItAt at x;cases tu with
 |true=>obtain⟨o,e,_⟩:=x;exact wD e
 |false=>obtain⟨o,e,_⟩:=x;exact wD e
theorem SqAt.lt(x:SqAt h tu l xs):l<h.objs.size:=by
 unfold SqAt at x;cases tu with
 |true=>obtain⟨o,e,_⟩:=x;exact wD e
 |false=>obtain⟨o,e,_⟩:=x;exact wD e
end
section
variable {prog:aN}{w:aI}{A:bu}{E:aC}{s:Shared}
theorem TH{it t:Addr}{i:Nat}{items:fE}{x:Value}{Q:aC}(a:s.heap.IsTupleIter it t i)(b:s.heap.IsTuple t items)(c:items[i]?=aa x)
  (q:∀h',h'.IsTupleIter it t (i+1)->dO it s.heap h'->Q x { s with heap:=h' }):av (model prog w) A (cG (.ref it)) Q E s:=by
 obtain⟨o,e1,e2,e3⟩:=id a;obtain⟨p,f1,_,n,f2⟩:=b;unfold cG;refine ai (cM (name:=bo "__next__") a.typeIs cB (cQ cB a.typeIs F.entry_tuple_iterator_next ?_ (F.args_tuple_iterator_next_1 _)));show av _ _ (field (.ref it) 0 >>= λz=>_) _ _ s;refine ai (bJ e1 e3 (x:=bE t) rfl ?_);show av _ _ (if(bE t==cL)=af then _ else _) _ _ s;rw[ao (by exact vi)];show av _ _ (field (.ref it) 1 >>= λz=>_) _ _ s;refine ai (bJ e1 e3 (x:=dG i 0) rfl ?_);show av _ _ (seqItems? (.ref t) >>= λz=>_) _ _ s;refine ai (cu f1 f2 ?_);simp only[w0D,c];refine ai (wpAny_setField e1 e3 (by simp) (ax ⟨x,rfl,ax (q _ ⟨_,w14 _ e1 (Obj.isFreed_of_fields (Obj.data_mapFields e3 _)),(Obj.cls_mapFields ..).trans e2,?_⟩ (df ..))⟩));rw[Obj.data_mapFields e3];simp[ee]
theorem z02{it t:Addr}{i:Nat}{items:fE}{Q:aC}(hn:A.handled=aj)(a:s.heap.IsTupleIter it t i)(b:s.heap.IsTuple t items)(c:items[i]?=aj)
  (q:∀h' e,Heap.ExtBut it s.heap h'->(∃o,h'.get? e=aa o/\o.cls=.type "StopIteration")->E (.ref e) { s with heap:=h' }):av (model prog w) A (cG (.ref it)) Q E s:=by
 obtain⟨o,e1,e2,e3⟩:=id a;obtain⟨p,f1,_,n,f2⟩:=b;unfold cG;refine ai (cM (name:=bo "__next__") a.typeIs cB (cQ cB a.typeIs F.entry_tuple_iterator_next ?_ (F.args_tuple_iterator_next_1 _)));show av _ _ (field (.ref it) 0 >>= λz=>_) _ _ s;refine ai (bJ e1 e3 (x:=bE t) rfl ?_);show av _ _ (if(bE t==cL)=af then _ else _) _ _ s;rw[ao (by exact vi)];show av _ _ (field (.ref it) 1 >>= λz=>_) _ _ s;refine ai (bJ e1 e3 (x:=dG i 0) rfl ?_);show av _ _ (seqItems? (.ref t) >>= λz=>_) _ _ s;refine ai (cu f1 f2 ?_);simp only[w0D,c];refine ai (dI (ai (wpAny_setField e1 e3 (by simp) ?_)));show av _ _ (newExc (.type "StopIteration") [] >>= λz=>_) _ _ _;refine ai ?_;simp only[newExc,newTuple];refine ai (cN ?_ (by size_fits));refine ai (m:=en _ _) (wpAny_of_eq (a:=cL) (by first|(simp only[en];rfl)|rfl) ?_);refine cN ?_ (by size_fits);simp only[raiseNew];refine ai (wpAny_handled ?_)
 first|rw[hn]|rw[show A.in1.handled=aj from hn]
 refine ai (ax (wpAny_throw ?_));exact q _ _ (((df ..).extBut.push _).push _) ⟨_,wH _ rfl,rfl⟩
theorem NI{tu:Bool}{it l:Addr}{i:Nat}{items:fE}{x:Value}{Q:fI->Shared->Prop}(a:ItAt s.heap tu it l i)(b:SqAt s.heap tu l items)(c:items[i]?=aa x)
  (q:∀h',ItAt h' tu it l (i+1)->dO it s.heap h'->Q (aa x) { s with heap:=h' }):av (model prog w) A (aY (.ref it)) Q E s:=by
 unfold aY;cases tu with
 |true=>exact ai (cJ (TH a b c λh' p1 p2=>ax (q h' p1 p2)))
 |false=>exact ai (cJ (wpAny_nextOf_list_item a b c λh' p1 p2=>ax (q h' p1 p2)))
theorem Rf{tu:Bool}{it l:Addr}{i:Nat}{items:fE}{Q:fI->Shared->Prop}(hn:A.handled=aj)(a:ItAt s.heap tu it l i)(b:SqAt s.heap tu l items)(c:items[i]?=aj)
  (q:∀h',Heap.ExtBut it s.heap h'->Q aj { s with heap:=h' }):av (model prog w) A (aY (.ref it)) Q E s:=by
 unfold aY;cases tu with
 |true=>exact ai (cJ (z02 hn a b c λh' e p1⟨o,p2,p3⟩=>ai (eZ (T :="StopIteration") (b:=af) ⟨o,p2,p3⟩ isSubtype_stop (ax (q h' p1)))))
 |false=>exact ai (cJ (wpAny_nextOf_list_end hn a b c λh' e p1⟨o,p2,p3⟩=>ai (eZ (T :="StopIteration") (b:=af) ⟨o,p2,p3⟩ isSubtype_stop (ax (q h' p1)))))
def V9(h:aR)(z ti to:Addr)(f:Value):Prop:=h.get? z=aa { cls:=.type "zip",dict:=aj,data:=.fields #[f,.bool ab,.bool af,.ref ti,.ref to],slots:=#[] }
structure Apart(z ti to i j a b:Addr):Prop where
 p1:ti≠z
 p2:to≠z
 p3:i≠z
 p4:j≠z
 p5:ti≠to
 p6:ti≠i
 p7:ti≠j
 p8:to≠i
 p9:to≠j
 p10:i≠j
 a1:a≠z
 a2:a≠to
 a3:a≠i
 a4:a≠j
 b1:b≠z
 b2:b≠to
 b3:b≠i
 b4:b≠j
def mF(l:aF)(n:Nat):Sem PySem.Fin:=do
 if n > 0 then
  rule "zip.__next__.shorter";raiseError "ValueError" s!"zip() argument {n + 1} is shorter than {if n == 1 then "argument 1" else s!"arguments 1-{n}"}"
 for (e,m) in (l.drop 1).zipIdx 1 do
  if(<-aY e).isSome then
   rule "zip.__next__.longer";raiseError "ValueError" s!"zip() argument {m + 1} is longer than {if m == 1 then "argument 1" else s!"arguments 1-{m}"}"
 rule "zip.__next__.all-ended";eR
theorem z1z{z ti to i j a b:Addr}{ta tb:Bool}{k:Nat}{xs ys:fE}{x y u v:Value}{Q:aC}(D:Apart z ti to i j a b)
  (hz:V9 s.heap z ti to .none) (hI:cA s.heap ti (.ref i) (.ref j)) (hO:cA s.heap to u v) (hi:ItAt s.heap ta i a k) (hj:ItAt s.heap tb j b k) (ha:SqAt s.heap ta a xs) (hb:SqAt s.heap tb b ys) (hx:xs[k]?=aa x) (hy:ys[k]?=aa y)
  (hQ:∀ h',V9 h' z ti to (rawInt s.heap.objs.size)→IsPair h' to x y→ItAt h' ta i a (k+1)→ItAt h' tb j b (k+1)→IsPair h' s.heap.objs.size x y→h'.objs.size=s.heap.objs.size+1 →
   (∀c o,c≠z->c≠to->c≠i->c≠j->s.heap.get? c=aa o->h'.get? c=aa o)->Q (.ref s.heap.objs.size) { s with heap:=h' }) :
  av (model prog w) A (Builtin.«zip.__next__» ⟨[.ref z],[]⟩) (λfin s'=>∃v,fin=.done (.ret v)/\Q v s') E s:=by
 show av _ _ (field (.ref z) 2 >>= λt=>_) _ _ _;refine ai (bJ hz rfl (x:=eM af) rfl ?_);show av _ _ (field (.ref z) 3 >>= λt=>_) _ _ _;refine ai (bJ hz rfl (x:=bE ti) rfl ?_);refine ai (cu hI rfl ?_);show av _ _ (bK (.ref z) >>= λt=>_) _ _ _;refine ai ?_;unfold bK;refine ai (bJ hz rfl (x:=cL) rfl (ax ?_));simp only[if_true];refine ai (dI ?_);refine ai (bJ hz rfl (x:=bE to) rfl ?_);refine ai (bT hz (by simp) λg1 z1 m1=>?_);replace z1:V9 g1 z ti to .ellipsis:=z1;refine ai ?_;simp only[w1y,w0p,w1O,w09];refine ai (ai (wpAny_onRaise ?_));show av _ _ (aY (.ref i)) _ _ _;refine NI (hi.at λo e=>m1.extBut _ _ D.p3 e) (ha.at λo e=>m1.extBut _ _ D.a1 e) hx λg2 i2 m2=>?_;have o2:cA g2 to u v:=m2.extBut _ _ D.p8 (m1.extBut _ _ D.p2 hO);refine ai (cu o2 rfl ?_);refine ai (wpAny_updateSeq_pair o2 λg3 o3 m3=>?_);replace o3:cA g3 to x v:=o3;refine ai (wpAny_letGo (ax ?_));refine ai (ai (wpAny_onRaise ?_));show av _ _ (aY (.ref j)) _ _ _;refine NI (hj.at λo e=>m3.extBut _ _ D.p9.symm (m2.extBut _ _ D.p10.symm (m1.extBut _ _ D.p4 e))) (hb.at λo e=>m3.extBut _ _ D.b2 (m2.extBut _ _ D.b3 (m1.extBut _ _ D.b1 e))) hy λg4 j4 m4=>?_;have o4:cA g4 to x v:=m4.extBut _ _ D.p9 o3;refine ai (cu o4 rfl ?_);refine ai (wpAny_updateSeq_pair o4 λg5 o5 m5=>?_);replace o5:cA g5 to x y:=o5;refine ai (wpAny_letGo (ax (ax ?_)));refine ai (cu o5 rfl ?_);refine ai (wpAny_newTuple ?_);have sz:g5.objs.size=s.heap.objs.size:=by rw[m5.1,m4.1,m3.1,m2.1,m1.1]
 have z5:V9 g5 z ti to .ellipsis:=m5.extBut _ _ D.p2.symm (m4.extBut _ _ D.p4.symm (m3.extBut _ _ D.p2.symm (m2.extBut _ _ D.p3.symm z1)));have k5:∀c o,c≠z->c≠to->c≠i->c≠j->s.heap.get? c=aa o->g5.get? c=aa o:=λc o c1 c2 c3 c4 e=>m5.extBut _ _ c2 (m4.extBut _ _ c4 (m3.extBut _ _ c2 (m2.extBut _ _ c3 (m1.extBut _ _ c1 e))));have i5:ItAt g5 ta i a (k+1):=i2.at λo e=>m5.extBut _ _ D.p8.symm (m4.extBut _ _ D.p10 (m3.extBut _ _ D.p8.symm e));have j5:ItAt g5 tb j b (k+1):=j4.at λo e=>m5.extBut _ _ D.p9.symm e;have zl:z<g5.objs.size:=wD z5;show av _ _ (eI (.ref z) (.ref g5.objs.size) >>= λt=>_) _ _ _;refine ai ?_;unfold eI;have z6:V9 (g5.push { cls:=.type "tuple",data:=.seq #[x,y] }) z ti to .ellipsis:=wm _ z5;refine ai (bT z6 (by simp) λg7 z7 m7=>?_);replace z7:V9 g7 z ti to (ee g5.objs.size):=z7;refine bT z7 (by simp) λg8 z8 m8=>?_;replace z8:V9 g8 z ti to (ee g5.objs.size):=z8;have up:∀c o,c≠z->g5.get? c=aa o->g8.get? c=aa o:=λc o c1 e=>m8.extBut _ _ c1 (m7.extBut _ _ c1 (wm _ e));have t8:cA g8 g5.objs.size x y:=m8.extBut _ _ (w07 zl) (m7.extBut _ _ (w07 zl) (wH _ rfl));have s8:g8.objs.size=g5.objs.size+1:=by rw[m8.1,m7.1,uc]
 rw[sz]at z8 t8 s8;refine ax ⟨_,rfl,?_⟩;show Q (.ref g5.objs.size) _;rw[sz];exact hQ g8 z8 (up _ _ D.p2 o5) (i5.at λo e=>up _ o D.p3 e) (j5.at λo e=>up _ o D.p4 e) t8 s8 λc o c1 c2 c3 c4 e=>up c o c1 (k5 c o c1 c2 c3 c4 e)
theorem z4Z{z ti to i j a b:Addr}{ta tb:Bool}{k:Nat}{xs ys:fE}{u v:Value}{Q:Fin->Shared->Prop}(hn:A.handled=aj)(D:Apart z ti to i j a b)
  (hz:V9 s.heap z ti to .none) (hI:cA s.heap ti (.ref i) (.ref j)) (hO:cA s.heap to u v) (hi:ItAt s.heap ta i a k) (hj:ItAt s.heap tb j b k) (ha:SqAt s.heap ta a xs) (hb:SqAt s.heap tb b ys) (hx:xs[k]?=aj) (hy:ys[k]?=aj)
  (hE:∀h' e,(∀c o,c≠z->c≠to->c≠i->c≠j->s.heap.get? c=aa o->h'.get? c=aa o)->(∃o,h'.get? e=aa o/\o.cls=.type "StopIteration")->E (.ref e) { s with heap:=h' }) :
  av (model prog w) A (Builtin.«zip.__next__» ⟨[.ref z],[]⟩) Q E s:=by
 show av _ _ (field (.ref z) 2 >>= λt=>_) _ _ _;refine ai (bJ hz rfl (x:=eM af) rfl ?_);show av _ _ (field (.ref z) 3 >>= λt=>_) _ _ _;refine ai (bJ hz rfl (x:=bE ti) rfl ?_);refine ai (cu hI rfl ?_);show av _ _ (bK (.ref z) >>= λt=>_) _ _ _;refine ai ?_;unfold bK;refine ai (bJ hz rfl (x:=cL) rfl (ax ?_));simp only[if_true];refine ai (dI ?_);refine ai (bJ hz rfl (x:=bE to) rfl ?_);refine ai (bT hz (by simp) λg1 z1 m1=>?_);replace z1:V9 g1 z ti to .ellipsis:=z1;refine ai ?_;simp only[w1y,w0p,w1O,w09];refine ai (ai (wpAny_onRaise ?_));show av _ _ (aY (.ref i)) _ _ _;refine Rf hn (hi.at λo e=>m1.extBut _ _ D.p3 e) (ha.at λo e=>m1.extBut _ _ D.a1 e) hx λg2 m2=>?_;have z2:V9 g2 z ti to .ellipsis:=m2 _ _ D.p3.symm z1;refine ai (bT z2 (by simp) λg3 z3 m3=>?_);refine ai ?_;show av _ _ (mF [.ref i,.ref j] 0) _ _ _;unfold mF;rw[ao (vG 0)];show av _ _ (forIn [(bE j,1)] PUnit.unit _ >>= λt=>_) _ _ _;simp only[w0p,w09];refine ai (ai (ai (Rf hn (hj.at λo e=>m3.extBut _ _ D.p4 (m2 _ _ D.p10.symm (m1.extBut _ _ D.p4 e))) (hb.at λo e=>m3.extBut _ _ D.b1 (m2 _ _ D.b3 (m1.extBut _ _ D.b1 e))) hy λg4 m4=>?_)));simp only[Option.isSome_none,w0x,if_false];refine ax (ax (ai (dI ?_)));unfold eR;refine ai ?_;simp only[newExc,newTuple];refine ai (cN ?_ (by size_fits));refine ai (m:=en _ _) (wpAny_of_eq (a:=cL) (by first|(simp only[en];rfl)|rfl) ?_);refine cN ?_ (by size_fits);simp only[raiseNew];refine ai (wpAny_handled ?_)
 first|rw[hn]|rw[show A.in1.handled=aj from hn]
 refine ai (ax (wpAny_throw ?_));refine hE _ _ (λc o c1 c2 c3 c4 e=>?_) ⟨_,wH _ rfl,rfl⟩;exact wm _ (wm _ (m4 _ _ c4 (m3.extBut _ _ c1 (m2 _ _ c3 (m1.extBut _ _ c1 e)))))
theorem z03{z ti to i j a b:Addr}{ta tb:Bool}{k:Nat}{xs ys:fE}{x y u v:Value}{Q:fI->Shared->Prop}(D:Apart z ti to i j a b)
  (hz:V9 s.heap z ti to .none) (hI:cA s.heap ti (.ref i) (.ref j)) (hO:cA s.heap to u v) (hi:ItAt s.heap ta i a k) (hj:ItAt s.heap tb j b k) (ha:SqAt s.heap ta a xs) (hb:SqAt s.heap tb b ys) (hx:xs[k]?=aa x) (hy:ys[k]?=aa y)
  (hQ:∀ h',V9 h' z ti to (rawInt s.heap.objs.size)→IsPair h' to x y→ItAt h' ta i a (k+1)→ItAt h' tb j b (k+1)→IsPair h' s.heap.objs.size x y→h'.objs.size=s.heap.objs.size+1 →
   (∀c o,c≠z->c≠to->c≠i->c≠j->s.heap.get? c=aa o->h'.get? c=aa o)->Q (aa (.ref s.heap.objs.size)) { s with heap:=h' }):av (model prog w) A (pyNext (.ref z)) Q E s:=by
 have t:s.TypeIs (.ref z) "zip" := ⟨_,hz,rfl⟩;unfold pyNext;exact ai (cJ (cM (name:=bo "__next__") t dR (cQ dR t F.entry_zip_next
  (z1z D hz hI hO hi hj ha hb hx hy λh' q1 q2 q3 q4 q5 q6 q7=>ax (hQ h' q1 q2 q3 q4 q5 q6 q7)) (F.args_zip_next_1 _))))
theorem z1A{z ti to i j a b:Addr}{ta tb:Bool}{k:Nat}{xs ys:fE}{u v:Value}{Q:fI->Shared->Prop}(hn:A.handled=aj)(D:Apart z ti to i j a b)
  (hz:V9 s.heap z ti to .none) (hI:cA s.heap ti (.ref i) (.ref j)) (hO:cA s.heap to u v) (hi:ItAt s.heap ta i a k) (hj:ItAt s.heap tb j b k) (ha:SqAt s.heap ta a xs) (hb:SqAt s.heap tb b ys) (hx:xs[k]?=aj) (hy:ys[k]?=aj)
  (hQ:∀h',(∀c o,c≠z->c≠to->c≠i->c≠j->s.heap.get? c=aa o->h'.get? c=aa o)->Q aj { s with heap:=h' }):av (model prog w) A (pyNext (.ref z)) Q E s:=by
 have t:s.TypeIs (.ref z) "zip" := ⟨_,hz,rfl⟩;unfold pyNext;refine ai (cJ (cM (name:=bo "__next__") t dR (cQ dR t F.entry_zip_next
  (z4Z hn D hz hI hO hi hj ha hb hx hy λh' e q1⟨o,q2,q3⟩=>?_) (F.args_zip_next_1 _))))
 exact ai (eZ (T :="StopIteration") (b:=af) ⟨o,q2,q3⟩ isSubtype_stop (ax (hQ _ q1)))
theorem lJ{elts:fw}{n:Nat}{pos:Pos}{z ti to t:Addr}{Q:Unit->Shared->Prop}(hz:V9 s.heap z ti to (ee t))
  (hQ:∀h',V9 h' z ti to .none->dO z s.heap h'->Q .unit { s with heap:=h' }):av (model prog w) A (cK (.Tuple elts n pos) (.ref z) (.ref t)) Q E s:=by
 unfold cK;refine ai (wpAny_load hz ?_);show av _ _ (if(["enumerate","zip","dict_itemiterator","dict_reverseitemiterator","odict_iterator","itertools.zip_longest","itertools.pairwise"].contains "zip"&&(#[ee t,.bool ab,.bool af,.ref ti,.ref to]:fE)[0]?==aa (ee t))=af then _ else _) Q E s;rw[ak (by simp)];refine ai (dI ?_);show av _ _ (setField (.ref z) 0 .none) Q E s;exact bT hz (by simp) λh' q1 q2=>hQ h' q1 q2
theorem Rg{z ti to:Addr}{f:Value}{Q:aC}(hz:V9 s.heap z ti to f)(h:Q (.ref z) s):av (model prog w) A (pyIter (.ref z)) Q E s:=by
 have t:s.TypeIs (.ref z) "zip" := ⟨_,hz,rfl⟩;refine wpAny_pyIter_slot t F.slot_zip_iter (cQ F.slot_zip_iter t F.entry_zip_iter ?_ (F.args_zip_iter_1 _));show av _ _ (ret (.ref z)) _ _ s;exact ax ⟨_,rfl,"zip",_,t,F.slot_zip_next.lookup,h⟩
def Rh(tu:Bool)(l:Addr):Obj:={ cls:=.type (if tu then "tuple_iterator" else "list_iterator"),data:=.fields #[.ref l,.int 0 0] }
theorem Ri{tu:Bool}{l:Addr}{xs:fE}{Q:aC}(h:SqAt s.heap tu l xs)(q:Q (.ref s.heap.objs.size) { s with heap:=s.heap.push (Rh tu l) }):av (model prog w) A (pyIter (.ref l)) Q E s:=by
 cases tu with
 |true=>exact wpAny_pyIter_tuple h q
 |false=>exact cq h q
theorem Rj{h:aR}{tu:Bool}{l p:Addr}(e:h.get? p=aa (Rh tu l)):ItAt h tu p l 0:=by
 unfold ItAt;cases tu with
 |true=>exact⟨_,e,rfl,rfl⟩
 |false=>exact⟨_,e,rfl,rfl⟩
abbrev h1(h:aR)(ta:Bool)(a:Addr):aR:=h.push (Rh ta a)
abbrev h2(h:aR)(ta tb:Bool)(a b:Addr):aR:=(h1 h ta a).push (Rh tb b)
abbrev h3(h:aR)(ta tb:Bool)(a b:Addr):aR:=(h2 h ta tb a b).push { cls:=.type "tuple",data:=.seq #[.ref h.objs.size,.ref (h1 h ta a).objs.size] }
abbrev h4(h:aR)(ta tb:Bool)(a b:Addr):aR:=(h3 h ta tb a b).push { cls:=.type "tuple",data:=.seq #[.none,.none] }
abbrev h5(h:aR)(ta tb:Bool)(a b:Addr):aR:=(h4 h ta tb a b).push { cls:=.type "zip",data:=.fields #[.none,.bool ab,.bool af,.ref (h2 h ta tb a b).objs.size,.ref (h3 h ta tb a b).objs.size] }
theorem z04(a b:Addr)(ta tb:Bool)(xs ys:fE):Meets (Builtin.«zip.__new__» ⟨[.type "zip",.ref a,.ref b],[(bo "strict",.bool af)]⟩)
  (λ_ R s=>SqAt s.heap ta a xs/\SqAt s.heap tb b ys/\R (.ok (.ret (.ref (h4 s.heap ta tb a b).objs.size))) { s with heap:=h5 s.heap ta tb a b }):=
 .of_wp λprog w A R s⟨qa,qb,q⟩=>by
  obtain⟨hp,g,d,tk,os⟩:=s;have f1:=sub_zip;have e1:SqAt (Shared.heap ⟨hp,g,d,tk,os⟩) ta a xs:=qa;have e2:SqAt (Shared.heap ⟨hp.push (Rh ta a),g,d,tk,os⟩) tb b ys:=qb.at λo e=>wm _ e
  wp_walk using Ri e1,Ri e2
  exact⟨_,rfl,q⟩
end
end ZL
end
section
set_option maxHeartbeats 4000000
namespace ZL
theorem okT(a b v:Value):checkTypeCall "zip" ⟨[a,b],[(bo "strict",v)]⟩=pure .unit:=by kernel_rfl
theorem okN(a b v:Value):checkBuiltinCall "zip.__new__" ⟨[.type "zip",a,b],[(bo "strict",v)]⟩=pure .unit:=by kernel_rfl
theorem okI(a b c v:Value):argsOk "object.__init__" ⟨[a,b,c],[(bo "strict",v)]⟩:=by
 unfold argsOk;rw[signature?_of (id :="object.__init__") (n :="__init__".toList.reverse) (o :="object".toList.reverse) (by kernel_rfl) F.owner_object];kernel_rfl
section
variable {prog:aN}{w:aI}{A:bu}{E:aC}{s:Shared}
theorem TJ(self a b v:Value):Meets (Builtin.«object.__init__» ⟨[self,a,b],[(bo "strict",v)]⟩) (λ_ R s=>s.TypeIs self "zip" /\ R (.ok (.ret .none)) s):=by
 refine Meets.of_wp ?_;rintro prog w A R s ⟨t,q⟩;have hl:=F.called_zip.init.lookup;have hm:=F.called_zip.made;have hne:(aa "zip.__new__" != aa "object.__new__")=af:=by decide
 repeat (any_goals first|assumption|wp_step)
 exact⟨_,rfl,q⟩
theorem z1B{a b:Addr}{ta tb:Bool}{xs ys:fE}{Q:aC}(qa:SqAt s.heap ta a xs)(qb:SqAt s.heap tb b ys)
   (q:Q (.ref (h4 s.heap ta tb a b).objs.size) { s with heap:=h5 s.heap ta tb a b }):av (model prog w) A (call (.type "zip") [.ref a,.ref b] [(bo "strict",.bool af)]) Q E s:=by
 obtain⟨c,tl,hmro⟩:=F.called_zip.mro;have m1:=F.called_zip.made;have m2:=F.called_zip.sub;have m3:=okT (.ref a) (.ref b) (.bool af);refine wpAny_call (codeAny_of_tree ?_);show av _ _ (callAny (.type "zip") _) _ _ _;refine ax ⟨Code.quiet_builtin _ (by decide +kernel),codeAny_builtin F.entry_type_call ?_⟩;rw[Around.under_plain (weight_type_call_type "zip" _ _) (units_type_call_type "zip" _ _)];have m4:=F.called_zip.notType;have m5:=F.called_zip.canCreate
 repeat (any_goals first|assumption|wp_step)
 refine dm (codeAny_call_builtin F.called_zip.plain F.entry_zip_new (wpAny_of_eq (okN _ _ _) (z04 a b ta tb xs ys prog w A.in1 (wants (λo s1=>s1.TypeIs o "zip" /\ Q o s1) E) s ⟨qa,qb,?_⟩))) λr s1 hr=>?_
 .exact⟨⟨_,wH _ rfl,rfl⟩,q⟩
 cases r with
 |error e=>exact hr
 | ok fl =>
   cases fl with
   | ret o =>
    obtain⟨ty,hq⟩:=hr;have n1:=F.called_zip.init.lookup;have n2:=F.called_zip.init.bind o
    repeat (any_goals first|assumption|wp_step)
    refine dm (codeAny_call_builtin F.called_zip.init.plain F.entry_object_init (F.called_zip.init.check _ _ _ _ _ _ _ _ ty (okI o _ _ _) (TJ o _ _ _ prog w A.in1 (wants (λr s2=>r=.none/\Q o s2) E) s1 ⟨ty,rfl,hq⟩))) λr2 s2 hr2=>?_;cases r2 with
    |error e=>exact hr2
    | ok f2 =>
     cases f2 with
     |ret r=>
      obtain⟨rfl,hq⟩:=hr2
      repeat (any_goals first|assumption|wp_step)
     |_=>exact hr2.elim
   |_=>exact hr.elim
end
end ZL
end
section
local macro_rules|`(tactic|rfl')=>`(tactic|first|lia|omega +splitDisjunctions)
set_option maxHeartbeats 1000000
namespace L2
open PySem PySem.Spec PyProof.Rows ZL
section
variable {X:Cx}{π:aB}{σ:St}{H:Hp}{s:Shared}{h':aR}
theorem Inv.turnedL{t':Nat}{ch:ft}(I:Inv X π σ H s)(k:∀b o,b∉ch->s.heap.get? b=aa o->h'.get? b=aa o)(hc:∀b∈ch,gY X π H b):Inv X π σ H { s with heap:=h',toks:=t' }:=by
 have nit:∀b u,H b=aa u->b∉ch:=λb u e z=>by rw[(hc b z).1]at e;cases e
 refine I.step (g':=s.gens) (d':=s.drawn) (ch:=ch) (λb hb=>?_) (λb o _ _ hn e _=>k b o hn e) (λb o _ _ hn e _=>⟨o.slots,k b o hn e⟩) (λ_ _ _ _ n=>n)
   (λb o hn e=>⟨o,k b o hn e⟩) (λ_ _ e=>e) (λ_ _ _ e=>e) (λb ps e=>⟨#[],by rw[e];simp⟩) (λm hm=>?_) (λb u e=>?_) I.bare
 .obtain⟨f0,f1,f2,f3,f4,f5⟩:=hc b hb;exact⟨f3,f1,f4,f5⟩
 .obtain⟨o,es,ep,ho,r⟩:=hm;exact⟨o,es,ep,k _ o (λz=>(hc _ z).2.1 rfl) ho,r⟩
 .refine(I.hok b u e).stay (λc v hcc q=>k c v ?_ q) (λ_ q=>q) λ_ _ q=>q;rcases hcc with z|z
  .rw[z];exact nit b u e
  .exact nit c _ z
theorem Inv.pair{t':Nat}{ch:ft}{x y:V}{u v:Value}(I:Inv X π σ H s)(rx:RelV x u)(ry:RelV y v)(hp:h'.get? s.heap.objs.size=aa { cls:=.type "tuple",data:=.seq #[u,v] })
   (k:∀b o,b∉ch->s.heap.get? b=aa o->h'.get? b=aa o) (hc:∀b∈ch,gY X π H b) (hl:∀b∈ch,b<s.heap.objs.size) :
   H s.heap.objs.size=aj/\Inv X π σ (upd H s.heap.objs.size (.tup [x,y])) { s with heap:=h',toks:=t' }:=by
 have hn:H s.heap.objs.size=aj:=I.hok.fresh (wt _);have I1:Inv X π σ (upd H s.heap.objs.size (.tup [x,y])) { s with heap:=s.heap.push { cls:=.type "tuple",data:=.seq #[u,v] },toks:=t' }:=
   I.laid (λb o e=>wm _ e) (wt _) ⟨by show 2<=sizeLine;decide,[u,v],.cons rx (.cons ry .nil),⟨_,wH _ rfl,rfl,_,rfl⟩⟩
 refine⟨hn,Inv.turnedL (s:={ s with heap:=s.heap.push { cls:=.type "tuple",data:=.seq #[u,v] },toks:=t' }) (h':=h') (t':=t') (ch:=ch) I1 (λb o hb e=>?_) λb hb=>?_⟩
 .by_cases q:b=s.heap.objs.size
  .subst q;have e2:(s.heap.push { cls:=.type "tuple",data:=.seq #[u,v] }).get? s.heap.objs.size=aa _:=wH _ rfl;have e:(s.heap.push { cls:=.type "tuple",data:=.seq #[u,v] }).get? s.heap.objs.size=aa o:=e;rw[e2]at e;rw[hp];exact e
  .refine k b o hb ?_;have e:(s.heap.push { cls:=.type "tuple",data:=.seq #[u,v] }).get? b=aa o:=e;rw[w1p _ _ _ q]at e;exact e
 .obtain⟨f0,f⟩:=hc b hb;exact⟨by rw[v8 (vt (hl b hb))];exact f0,f⟩
end
def SqV(K:aD)(tu:Bool)(H:Hp)(a:Addr)(xs:fL):Prop:=if tu then SqT K H a xs else SqL K H a xs
theorem SqV.mono{K:aD}{tu:Bool}{H H':Hp}{a:Addr}{xs:fL}(e:Same H H')(h:SqV K tu H a xs):SqV K tu H' a xs:=by
 unfold SqV at h|-;cases tu with
 |true=>exact e.seqT h
 |false=>exact e.seq h
theorem Inv.sq{X:Cx}{π:aB}{σ:St}{H:Hp}{s:Shared}{tu:Bool}{a:Addr}{xs:fL}(I:Inv X π σ H s)(h:SqV X.K tu H a xs):∃its:aF,Vals xs its/\SqAt s.heap tu a its.toArray/\xs.length<=sizeLine:=by
 unfold SqV at h;unfold SqAt;cases tu with
 |true=>obtain⟨its,r,p,z⟩:=I.tuple h;exact⟨its,r,p,z⟩
 |false=>obtain⟨its,r,p,z⟩:=I.list h;exact⟨its,r,p.isList,z⟩
theorem Inv.sq_inj{X:Cx}{π:aB}{σ:St}{H:Hp}{s:Shared}{tu:Bool}{a:Addr}{xs ys:fL}(I:Inv X π σ H s)(h:SqV X.K tu H a xs)(h':SqV X.K tu H a ys):xs=ys:=by
 unfold SqV at h h';cases tu with
 |true=>exact I.tuple_inj h h'
 |false=>exact I.list_inj h h'
def v5(K:aD)(ta tb:Bool)(a b:Addr):It where
 go:=λi H=>∃xs ys x y,SqV K ta H a xs/\SqV K tb H b ys/\xs[i]?=aa x/\ys[i]?=aa y
 yld:=λi H v H'=>∃p x y,(∀xs,SqV K ta H a xs->xs[i]?=aa x)/\(∀ys,SqV K tb H b ys->ys[i]?=aa y)/\H p=aj/\v=.ref p/\H'=upd H p (.tup [x,y])
 stop:=λi H=>∃xs ys,SqV K ta H a xs/\SqV K tb H b ys/\xs.length<=i/\ys.length<=i
theorem ou{z ti to i j c:Addr}(h:c ∉ [z,ti,to,i,j]):c≠z/\c≠ti/\c≠to/\c≠i/\c≠j:=by simpa using h
theorem z1C{P:aN}{w:aI}{K:aD}{elts:fw}{n:Nat}{pos:Pos}{ta tb:Bool}{z ti to i j a b:Addr}(D:Apart z ti to i j a b):
  Turn P w K (.Tuple elts n pos) (v5 K ta tb a b) [z,ti,to,i,j] z (λk h=>V9 h z ti to .none/\cA h ti (.ref i) (.ref j)/\(∃u v,cA h to u v)/\ItAt h ta i a k/\ItAt h tb j b k) where
 mem:=by simp
 obj:=λk h⟨q1,q2,⟨u,v,q3⟩,q4,q5⟩c hc=>by
  have it:∀{tu:Bool}{it l:Addr}{k:Nat},ItAt h tu it l k->∃o,h.get? it=aa o/\∀v,o.data ≠ .cell v:=λ{tu it l k}q=>by
    unfold ItAt at q;cases tu with
    |true=>obtain⟨o,e,_,d⟩:=q;exact⟨o,e,λv z=>by rw[d]at z;cases z⟩
    |false=>obtain⟨o,e,_,d⟩:=q;exact⟨o,e,λv z=>by rw[d]at z;cases z⟩
  simp only[wB,uK,or_false]at hc;rcases hc with rfl|rfl|rfl|rfl|rfl
  .exact⟨_,q1,λv z=>by have z':fk _=fh v:=z;cases z'⟩
  .exact⟨_,q2,λv z=>by have z':Data.seq _ _=fh v:=z;cases z'⟩
  .exact⟨_,q3,λv z=>by have z':Data.seq _ _=fh v:=z;cases z'⟩
  .exact it q4
  .exact it q5
 keep:=λk h h'⟨q1,q2,⟨u,v,q3⟩,q4,q5⟩kk=>⟨kk z (by simp) _ q1,kk ti (by simp) _ q2,⟨u,v,kk to (by simp) _ q3⟩,q4.at λo e=>kk i (by simp) o e,q5.at λo e=>kk j (by simp) o e⟩
 item:=by
  intro X hP hw hK hc k π s σ H E I hf ⟨q1,q2,⟨u,v,q3⟩,q4,q5⟩ hg;subst hP hw hK;obtain⟨xs,ys,x,y,hx,hy,ex,ey⟩:=hg;obtain⟨its,rx,px,_⟩:=I.sq hx;obtain⟨jts,ry,py,_⟩:=I.sq hy;obtain⟨ux,hux,rux⟩:=rx.get ex;obtain⟨uy,huy,ruy⟩:=ry.get ey;have lt:∀b∈[z,ti,to,i,j],b<s.heap.objs.size:=λb hb=>by
    simp only[wB,uK,or_false]at hb;rcases hb with rfl|rfl|rfl|rfl|rfl
    .exact wD q1
    .exact wD q2
    .exact wD q3
    .exact q4.lt
    .exact q5.lt
  refine z03 D q1 q2 q3 q4 q5 px py (x:=ux) (y:=uy) (by simpa using hux) (by simpa using huy) λh' a1 a2 a3 a4 a5 a6 a7=>⟨_,rfl,lJ a1 λh'' b1 b2=>?_⟩;have hzp:s.heap.objs.size≠z:=w07 (lt z (by simp));have kk:∀b o,b ∉ [z,ti,to,i,j]->s.heap.get? b=aa o->h''.get? b=aa o:=λb o hb e=>by
    obtain⟨c1,c2,c3,c4,c5⟩:=ou hb;exact b2.extBut _ _ c1 (a7 b o c1 c3 c4 c5 e)
  obtain⟨hn,I1⟩:=I.pair (t':=s.toks) (h':=h'') rux ruy (b2.extBut _ _ hzp a5) kk hf lt;refine⟨.ref s.heap.objs.size,_,I1,rfl,⟨_,x,y,λzs hz=>by rw[I.sq_inj hz hx];exact ex,λzs hz=>by rw[I.sq_inj hz hy];exact ey,hn,rfl,rfl⟩,?_,λb hb=>by rw[v8 (vt (lt b hb))];exact(hf b hb).1⟩;exact⟨b1,b2.extBut _ _ D.p1 (a7 _ _ D.p1 D.p5 D.p6 D.p7 q2),⟨_,_,b2.extBut _ _ D.p2 a2⟩,a3.at λo e=>b2.extBut _ _ D.p3 e,a4.at λo e=>b2.extBut _ _ D.p4 e⟩
 done:=by
  intro X hP hw hK hc k π s σ H E I hf ⟨q1,q2,⟨u,v,q3⟩,q4,q5⟩ hg;subst hP hw hK;obtain⟨xs,ys,hx,hy,ex,ey⟩:=hg;obtain⟨its,rx,px,_⟩:=I.sq hx;obtain⟨jts,ry,py,_⟩:=I.sq hy;have l1:=rx.length;have l2:=ry.length;refine z1A (I.ok.hd hc) D q1 q2 q3 q4 q5 px py (by simp;rfl') (by simp;rfl') λh' a7=>⟨rfl,I.turnedL (t':=s.toks) (ch:=[z,ti,to,i,j]) (λb o hb e=>?_) hf⟩;obtain⟨c1,c2,c3,c4,c5⟩:=ou hb;exact a7 b o c1 c3 c4 c5 e
 self:=λ_ _ _ _ _ q h=>Rg q.1 h
def xc(K:aD)(a:Addr):It where
 go:=λi H=>∃xs x,SqL K H a xs/\xs[i]?=aa x
 yld:=λi H v H'=>∃p x,(∀xs,SqL K H a xs->xs[i]?=aa x)/\H p=aj/\v=.ref p/\H'=upd H p (.tup [.int i,x])
 stop:=λi H=>∃xs,SqL K H a xs/\xs.length<=i
theorem z05{P:aN}{w:aI}{K:aD}{elts:fw}{n:Nat}{pos:Pos}{e it a:Addr}(hne:e≠it):
  Turn P w K (.Tuple elts n pos) (xc K a) [e,it] e (λk h=>(∃old,IsEnum h e it k old)/\h.IsListIter it a k) where
 mem:=by simp
 obj:=λk h⟨⟨old,q1⟩,q2⟩c hc=>by
  simp only[wB,uK,or_false]at hc;rcases hc with rfl|rfl
  .exact⟨_,q1,λv z=>by have z':fk _=fh v:=z;cases z'⟩
  .obtain⟨o,e,_,d⟩:=q2;exact⟨o,e,λv z=>by rw[d]at z;cases z⟩
 keep:=λk h h'⟨⟨old,q1⟩,q2⟩kk=>⟨⟨old,kk e (by simp) _ q1⟩,q2.at λo q=>kk it (by simp) o q⟩
 item:=by
  intro X hP hw hK hc k π s σ H E I hf ⟨⟨old,q1⟩,q2⟩ hg;subst hP hw hK;obtain⟨xs,x,hx,ex⟩:=hg;obtain⟨its,rx,px,_⟩:=I.list hx;obtain⟨ux,hux,rux⟩:=rx.get ex;have lt:∀b∈[e,it],b<s.heap.objs.size:=λb hb=>by
    simp only[wB,uK,or_false]at hb;rcases hb with rfl|rfl
    .exact wD q1
    .obtain⟨o,z,_⟩:=q2;exact wD z
  refine wpAny_pyNext_enum_item q1 q2 px.isList (x:=ux) (by simpa using hux) hne λh' a1 a2 a3 a4 a5=>⟨_,rfl,wpAny_letOwnedTupleGo_enum a1 λh'' b1 b2=>?_⟩;have hzp:s.heap.objs.size≠e:=w07 (lt e (by simp));have kk:∀b o,b ∉ [e,it]->s.heap.get? b=aa o->h''.get? b=aa o:=λb o hb q=>by
    have c:b≠e/\b≠it:=by simpa using hb
    exact b2.extBut _ _ c.1 (a5 b o c.1 c.2 q)
  obtain⟨hn,I1⟩:=I.pair (x:=.int k) (t':=s.toks+1) (h':=h'') ⟨s.toks,rfl⟩ rux (b2.extBut _ _ hzp a3) kk hf lt;refine⟨.ref s.heap.objs.size,_,I1,rfl,⟨_,x,λzs hz=>by rw[I.list_inj hz hx];exact ex,hn,rfl,rfl⟩,⟨⟨_,b1⟩,a2.at λo q=>b2.extBut _ _ (bR hne) q⟩,λb hb=>by rw[v8 (vt (lt b hb))];exact(hf b hb).1⟩
 done:=by
  intro X hP hw hK hc k π s σ H E I hf ⟨⟨old,q1⟩,q2⟩ hg;subst hP hw hK;obtain⟨xs,hx,ex⟩:=hg;obtain⟨its,rx,px,_⟩:=I.list hx;have l1:=rx.length;refine wpAny_pyNext_enum_end (I.ok.hd hc) q1 q2 px.isList (by simp;rfl') λh' a5=>⟨rfl,I.turnedL (t':=s.toks) (ch:=[e,it]) (λb o hb q=>?_) hf⟩;have c:b≠e/\b≠it:=by simpa using hb
  exact a5 b o c.2 q
 self:=λ_ _ _ _ _ q h=>by obtain⟨⟨old,q1⟩,_⟩:=q;exact wpAny_pyIter_enum q1 h
def xa(K:aD)(a:Addr)(n:Nat):It where
 go:=λi H=>i<n/\∃xs,SqL K H a xs/\xs.length=n
 yld:=λi H v H'=>H'=H/\∀xs,SqL K H a xs->xs[n-1-i]?=aa v
 stop:=λi H=>n<=i
theorem z1D{P:aN}{w:aI}{K:aD}{tg:az}{it a:Addr}{n:Nat}:Turn P w K tg (xa K a n) [it] it (λk h=>k<=n/\h.IsRevIter it a ((n:Int)-1-(k:Int))) where
 mem:=by simp
 obj:=λk h⟨_,q⟩c hc=>by
  have e:c=it:=by simpa using hc
  subst e;obtain⟨o,e,_,d⟩:=q;exact⟨o,e,λv z=>by rw[d]at z;cases z⟩
 keep:=λk h h'⟨q0,q⟩kk=>⟨q0,q.at λo z=>kk it (by simp) o z⟩
 item:=by
  intro X hP hw hK hc k π s σ H E I hf ⟨q0,q⟩ hg;subst hP hw hK;obtain⟨hk,xs,hx,hn⟩:=hg;obtain⟨its,rx,px,_⟩:=I.list hx;have hlt:n-1-k<xs.length:=()
  obtain⟨ux,hux,rux⟩:=rx.get (wa hlt);obtain⟨f0,f1,f2,f3,f4,f5⟩:=hf it (by simp);have e1:(n:Int)-1-(k:Int)=((n-1-k:Nat):Int):=()
  rw[e1]at q;refine wpAny_pyNext_rev_item q px.isList (x:=ux) (by simpa using hux) λh' b1 b2=>?_;have I1:Inv X π σ H { s with heap:=h' }:=I.turned (t':=s.toks) (λb o hb e=>(b2.2 b hb).trans e) f0 f1 f3 f4 f5;have e2:((n-1-k:Nat):Int)-1=(n:Int)-1-((k+1:Nat):Int):=()
  rw[e2]at b1;obtain⟨o,e,c,d⟩:=id b1;exact⟨ux,rfl,Yv (s:={ s with heap:=h' }) e c d (by decide) ⟨_,H,I1,rux,⟨rfl,λys hy=>by rw[I.list_inj hy hx];exact wa hlt⟩,⟨(),b1⟩,λb hb=>(hf b hb).1⟩⟩
 done:=by
  intro X hP hw hK hc k π s σ H E I hf ⟨q0,q⟩ hg;subst hP hw hK;have hg:n<=k:=hg;obtain rfl:k=n:=()
  obtain⟨f0,f1,f2,f3,f4,f5⟩:=hf it (by simp);have e1:(k:Int)-1-(k:Int) = -1:=()
  rw[e1]at q;exact wpAny_pyNext_rev_end (I.ok.hd hc) q λh' eb=>⟨rfl,I.turned (t':=s.toks) (λb o hb e=>eb b o hb e) f0 f1 f3 f4 f5⟩
 self:=λ_ _ _ _ _ st h=>wpAny_pyIter_revIter st.2 h
section
variable {K:aD}{H1:Hp}
theorem z50{A:ft}{H:Hp}{p:Addr}{o:HO}(hp:H p=aj)(hA:∀a∈A,∃o,H a=aa o):fU A (upd H p o)=upd (fU A H) p o:=funext λb=>by
 have np:p∉A:=λz=>by obtain⟨u,e⟩:=hA p z;rw[hp]at e;cases e
 by_cases q:b=p
 .subst q;rw[r9 np,B3,B3]
 .rw[v8 q];by_cases z:b∈A
  .rw[V3 z,V3 z]
  .rw[r9 z,r9 z,v8 q]
theorem Rk{A:ft}{H:Hp}{p:Addr}{d d':Dt}{x y:V}(hp:H p=aj)(hA:∀a∈A,∃o,H a=aa o)(rx:Rp K emp d (fU A H) x)(ry:Rp K emp d' (fU A H) y):
  Same (fU A H) (fU A (upd H p (.tup [x,y])))/\(∀a∈A,upd H p (.tup [x,y]) a=H a)/\Rp K emp (.tup [d,d']) (fU A (upd H p (.tup [x,y]))) (.ref p):=by
 have np:p∉A:=λz=>by obtain⟨u,e⟩:=hA p z;rw[hp]at e;cases e
 have hq:fU A H p=aj:=by rw[r9 np];exact hp
 rw[z50 hp hA];refine⟨J0 hq,λa ha=>v8 λz=>np (z ▸ ha),Rp.tup_.mpr ⟨p,_,rfl,SqT.of B3,?_⟩⟩;exact Rps.cons_.mpr ⟨x,[y],rfl,Rp.mono _ (J0 hq) rx,Rps.one (Rp.mono _ (J0 hq) ry)⟩
def zipD:fK->fK->fK
 |x::xs,y::ys=>.tup [x,y]::zipD xs ys
 |_,_=>[]
theorem Rl:∀{xs ys:fK}{i:Nat}{d:Dt},(zipD xs ys)[i]?=aa d->∃x y,xs[i]?=aa x/\ys[i]?=aa y/\d=.tup [x,y]
 |[],ys,i,d,h=>by simp[zipD]at h
 |x::xs,[],i,d,h=>by simp[zipD]at h
 |x::xs,y::ys,0,d,h=>by simp[zipD]at h;exact⟨x,y,rfl,rfl,h.symm⟩
 |x::xs,y::ys,i+1,d,h=>by
  have h:(zipD xs ys)[i]?=aa d:=by simpa[zipD]using h
  obtain⟨a,b,q1,q2,q3⟩:=Rl h;exact⟨a,b,by simpa using q1,by simpa using q2,q3⟩
theorem GQ:∀{xs ys:fK},(zipD xs ys).length=min xs.length ys.length
 |[],ys=>by simp[zipD]
 |x::xs,[]=>by simp[zipD]
 |x::xs,y::ys=>by rw[zipD,wu,GQ,wu,wu];rfl'
theorem z1E{ta tb:Bool}{a b:Addr}{ds es:fK}{vs ws:fL}(h1:SqV K ta H1 a vs)(h2:SqV K tb H1 b ws)(r1:Rps K emp ds H1 vs)(r2:Rps K emp es H1 ws)(hl:ds.length=es.length):iP K (v5 K ta tb a b) (zipD ds es) H1:=by
 intro A H sm hA;have s2:Same H1 H:=sm.trans A9;refine⟨λi d e=>?_,λi hi=>⟨vs,ws,h1.mono s2,h2.mono s2,?_,?_⟩⟩
 .obtain⟨x,y,ex,ey,rfl⟩:=Rl e;obtain⟨v,e1,p1⟩:=r1.get ex;obtain⟨u,e2,p2⟩:=r2.get ey;refine⟨⟨vs,ws,v,u,h1.mono s2,h2.mono s2,e1,e2⟩,?_⟩;rintro z H' ⟨p,v',u',f1,f2,hp,ez,eH⟩;have g1:=f1 vs (h1.mono s2);have g2:=f2 ws (h2.mono s2);rw[e1]at g1;rw[e2]at g2;cases g1;cases g2;subst ez;subst eH;exact Rk hp hA (Rp.mono _ sm p1) (Rp.mono _ sm p2)
 .rw[GQ]at hi;rw[r1.length];rfl'
 .rw[GQ]at hi;rw[r2.length];rfl'
def Aj:Nat->fK->fK
 |_,[]=>[]
 |n,x::xs=>.tup [.int n,x]::Aj (n+1) xs
theorem NJ:∀{xs:fK}{n i:Nat}{d:Dt},(Aj n xs)[i]?=aa d->∃x,xs[i]?=aa x/\d=.tup [.int ((n+i:Nat):Int),x]
 |[],n,i,d,h=>by simp[Aj]at h
 |x::xs,n,0,d,h=>by simp[Aj]at h;exact⟨x,rfl,h.symm⟩
 |x::xs,n,i+1,d,h=>by
  have h:(Aj (n+1) xs)[i]?=aa d:=by simpa[Aj]using h
  obtain⟨a,q1,q3⟩:=NJ h;exact⟨a,by simpa using q1,by rw[q3,show n+1+i=n+(i+1) by rfl']⟩
theorem Im:∀{xs:fK}{n:Nat},(Aj n xs).length=xs.length
 |[],n=>rfl
 |x::xs,n=>by rw[Aj,wu,wu,Im]
theorem z06{a:Addr}{ds:fK}{vs:fL}(h1:SqL K H1 a vs)(r1:Rps K emp ds H1 vs):iP K (xc K a) (Aj 0 ds) H1:=by
 intro A H sm hA;have s2:Same H1 H:=sm.trans A9;refine⟨λi d e=>?_,λi hi=>⟨vs,s2.seq h1,?_⟩⟩
 .obtain⟨x,ex,rfl⟩:=NJ e;rw[uu];obtain⟨v,e1,p1⟩:=r1.get ex;refine⟨⟨vs,v,s2.seq h1,e1⟩,?_⟩;rintro z H' ⟨p,v',f1,hp,ez,eH⟩;have g1:=f1 vs (s2.seq h1);rw[e1]at g1;cases g1;subst ez;subst eH;exact Rk hp hA (Rp.int_.mpr rfl) (Rp.mono _ sm p1)
 .rw[Im]at hi;rw[r1.length];rfl'
theorem z1F{a:Addr}{ds:fK}{vs:fL}(h1:SqL K H1 a vs)(r1:Rps K emp ds H1 vs):iP K (xa K a vs.length) ds.reverse H1:=by
 intro A H sm hA;have s2:Same H1 H:=sm.trans A9;have hl:=r1.length;refine⟨λi d e=>?_,λi hi=>?_⟩
 .have hi:i<ds.length:=by
   by_cases hi:i<ds.length
   .exact hi
   .rw[wW (by simp;rfl')]at e;cases e
  rw[List.getElem?_reverse hi]at e;obtain⟨v,e1,p1⟩:=r1.get e;refine⟨⟨(),vs,s2.seq h1,rfl⟩,?_⟩;rintro z H' ⟨eH,f1⟩;subst eH;have g1:=f1 vs (s2.seq h1);rw[hl,e1]at g1;cases g1;exact⟨Same.refl _,λ_ _=>rfl,Rp.mono _ sm p1⟩
 .show vs.length<=i;rw[w1f]at hi;rfl'
end
section
variable {X:Cx}{a b e:az}{Fa Fb:FE}{elts:fw}{n:Nat}{tpos pos:Pos}
theorem z07{M:Model}{A:bu}{E:aC}{s:Shared}{env:Env}{T:String}{es:fw}{kws:List dN}{Q:aC}
  (h:av M A (spliced (bO pos (au (e::es) env))) (λvs s1=>av M A (evalAll ((cO pos (bN kws env)).map (·.2))) (λks s2=>av M A (call (.type T) vs (((cO pos (bN kws env)).filterMap (·.1)).zip ks)) Q E s2) E s1) E s)
  (h1:bO pos (au (e::es) env)=(ab,eval e env)::bO pos (au es env)) (h2:(bO pos (au (e::es) env)).any (·.1)=ab) (h3:(cO pos (bN kws env)).all (·.1.isSome)=af) (h4:(cO pos (bN kws env)).any (·.1.isNone)=ab) :
  av M A (callWith pos (.type T) [] (bO pos (au (e::es) env)) (cO pos (bN kws env))) Q E s:=by
 unfold callWith;have g:av M A (evalArgs (.type T) af (bO pos (au (e::es) env)) (cO pos (bN kws env))) (λz s1=>av M A (call (.type T) ([]++z.pos) z.kw) Q E s1) E s:=by
  rw[h1]at h|-;exact evalArgs_kwB h3 h
 refine ai (cI (bw g (λz s1 g1=>ai (dD ?_)) λ_ _ x=>x));simp only[h2,h4,Bool.or_false];refine ai (ax ?_);exact ai (bw g1 (λr s2 hr=>ai (cI (wpAny_point (ax hr)))) λ_ _ x=>x)
theorem tN{H:Hp}{d:Dt}{ds:fK}{v:V}(e:seqD d=aa ds)(r:Rp X.K emp d H v):∃tu p vs,v=.ref p/\SqV X.K tu H p vs/\Rps X.K emp ds H vs:=by
 cases d<;>first|cases e|skip
 .obtain⟨p,vs,rfl,_,h1,h2⟩:=r.items;exact⟨ab,p,vs,rfl,SqL.of h1,h2⟩
 .obtain⟨p,vs,rfl,h1,h2⟩:=Rp.tup_.mp r;exact⟨af,p,vs,rfl,h1,h2⟩
def iZip(F G:FE):FI:=λρ=>(F ρ).bind λx=>(G ρ).bind λy=>(seqD x.2).bind λxs=>(seqD y.2).bind λys=>if xs.length=ys.length then aa (zipD xs ys) else aj
theorem Rm{p kp kpos:Pos}{jc:Nat}(hg:Gl X "zip")(hm:X.mg "zip"=aj)(ha:PF X a Fa)(hb:PF X b Fb)(hs:au [a,b] X.env=[(ab,eval a X.env),(ab,eval b X.env)]:=by rfl)(hs1:au [b] X.env=[(ab,eval b X.env)]:=by rfl):
   jh X (.Tuple elts n tpos) (.Call (.Name "zip" p) [a,b] [⟨aa "strict",.Constant (.bool af) jc kp,kpos⟩] pos) (iZip Fa Fb):=by
 intro π s σ H R I ⟨ρ,items,rs,e0,k⟩;obtain⟨⟨fa,da⟩,ea,e1⟩:=i9 e0;obtain⟨⟨fb,db⟩,eb,e2⟩:=i9 e1;obtain⟨xs,ex,e3⟩:=i9 e2;obtain⟨ys,ey,e4⟩:=i9 e3;clear e0 e1 e2 e3;split at e4
 .rename_i hl;cases e4;have hA:PA X [a,b] (jb X (b7 Fa (b7 Fb fNil))):=i8 ha (i8 hb i7 hs1) (by rw[hs,hs1]);refine bL (Ck I hg hm (by decide +kernel:bq "zip"=aa (.type "zip")) ?_);refine z07 (T :="zip") (gF (hA pos π s σ H (λvs H1=>Same H H1/\∃va vb,vs=[va,vb]/\Rp X.K emp da H1 va/\Rp X.K emp db H1 vb) I ⟨ρ,[(fa,da),(fb,db)],rs,by simp[b7,fNil,ea,eb],λvs H1 s1⟨va,r1,ee1,q1,vb,r2,ee2,q2,q3⟩=>⟨s1,va,vb,by rw[ee1,ee2,show r2=[]from q3],q1.sh,q2.sh⟩⟩) λus s1⟨vs,H1,I1,rv,s1H,va,vb,ev,ra,rb⟩=>?_) (by rw[hs,hs1];rfl) (by rw[hs];rfl) rfl rfl;subst ev;obtain⟨ua,ub,rfl,rua,rub⟩:=rv.two;obtain⟨ta,pa,vsa,rfl,qa1,qa2⟩:=tN ex ra;obtain⟨tb,pb,vsb,rfl,qb1,qb2⟩:=tN ey rb;cases rua;cases rub;have hk:=Yx (X:=X) (nm:=aa "strict") (kpos:=kpos) (pe_bl (X:=X) (b:=af) (j:=jc) (pos:=kp)) z1c;refine gF (hk pos π s1 σ H1 (λzs H2=>zs=[.bl af]/\H2=H1) I1 ⟨rfl,rfl⟩) ?_;rintro ks s2 ⟨zs,H2,I2,rz,ez,eH⟩;subst ez;subst eH;obtain⟨uk,rfl,ruk⟩:=rz.one;cases ruk;obtain⟨ita,rva,sa,hza⟩:=I2.sq qa1;obtain⟨itb,rvb,sb,hzb⟩:=I2.sq qb1;refine z1B sa sb ?_;have z1:(h1 s2.heap ta pa).objs.size=s2.heap.objs.size+1:=uc ..;have z2:(h2 s2.heap ta tb pa pb).objs.size=s2.heap.objs.size+2:=by rw[uc,z1]
  have z3:(h3 s2.heap ta tb pa pb).objs.size=s2.heap.objs.size+3:=by rw[uc,z2]
  have z4:(h4 s2.heap ta tb pa pb).objs.size=s2.heap.objs.size+4:=by rw[uc,z3]
  have g5:(h5 s2.heap ta tb pa pb).get? (h4 s2.heap ta tb pa pb).objs.size=aa _:=wH _ rfl;have g4:(h5 s2.heap ta tb pa pb).get? (h3 s2.heap ta tb pa pb).objs.size=aa _:=wm _ (wH _ rfl);have g3:(h5 s2.heap ta tb pa pb).get? (h2 s2.heap ta tb pa pb).objs.size=aa _:=wm _ (wm _ (wH _ rfl));have g2:(h5 s2.heap ta tb pa pb).get? (h1 s2.heap ta pa).objs.size=aa _:=wm _ (wm _ (wm _ (wH _ rfl)));have g1:(h5 s2.heap ta tb pa pb).get? s2.heap.objs.size=aa _:=wm _ (wm _ (wm _ (wm _ (wH _ rfl))));have up:∀c o,s2.heap.get? c=aa o->(h5 s2.heap ta tb pa pb).get? c=aa o:=λc o x=>wm _ (wm _ (wm _ (wm _ (wm _ x))));refine Rg (z:=(h4 s2.heap ta tb pa pb).objs.size) (ti:=(h2 s2.heap ta tb pa pb).objs.size) (to:=(h3 s2.heap ta tb pa pb).objs.size) (f:=.none) g5 ?_;have la:=sa.lt;have lb:=sb.lt;have D:Apart (h4 s2.heap ta tb pa pb).objs.size (h2 s2.heap ta tb pa pb).objs.size (h3 s2.heap ta tb pa pb).objs.size s2.heap.objs.size (h1 s2.heap ta pa).objs.size pa pb:=by
    rw[z1,z2,z3,z4];constructor<;>exact λz=>by simp only[Addr]at *;rfl'
  refine⟨_,[(h4 s2.heap ta tb pa pb).objs.size,(h2 s2.heap ta tb pa pb).objs.size,(h3 s2.heap ta tb pa pb).objs.size,s2.heap.objs.size,(h1 s2.heap ta pa).objs.size],_,_,H2,rfl,I2.kept (t':=s2.toks) up,z1C (ta:=ta) (tb:=tb) D,⟨g5,g3,⟨_,_,g4⟩,Rj g1,Rj g2⟩,λc hc=>?_,k _ H2 s1H ?_ (z1E qa1 qb1 qa2 qb2 hl)⟩
  .have hge:s2.heap.objs.size<=c:=by
    rw[z1,z2,z3,z4]at hc;simp only[wB,uK,or_false]at hc;rcases hc with rfl|rfl|rfl|rfl|rfl<;>rfl'
   exact I2.fpOk hge (I2.hok.fresh hge)
  .rw[GQ,<-qa2.length];rfl'
 .cases e4
def lstD:Dt->Option (fK)
 |.lst ds=>aa ds
 |_=>aj
def Ak(F:FE):FI:=λρ=>(F ρ).bind λx=>(lstD x.2).map (Aj 0)
theorem tM{H:Hp}{d:Dt}{ds:fK}{v:V}(e:lstD d=aa ds)(r:Rp X.K emp d H v):∃p vs,v=.ref p/\SqL X.K H p vs/\Rps X.K emp ds H vs:=by
 cases d<;>first|cases e|skip
 obtain⟨p,vs,rfl,_,h1,h2⟩:=r.items;exact⟨p,vs,rfl,SqL.of h1,h2⟩
theorem Lb{p:Pos}(hg:Gl X "enumerate")(hm:X.mg "enumerate"=aj)(ha:PF X a Fa)(hs:au [a] X.env=[(ab,eval a X.env)]:=by rfl):jh X (.Tuple elts n tpos) (.Call (.Name "enumerate" p) [a] [] pos) (Ak Fa):=by
 intro π s σ H R I ⟨ρ,items,rs,e0,k⟩;obtain⟨⟨fa,da⟩,ea,e1⟩:=i9 e0;cases ex:lstD da with
 |none=>rw[ex]at e1;cases e1
 |some xs=>
  rw[ex]at e1;cases e1;have hA:PA X [a] (jb X (b7 Fa fNil)):=i8 ha i7 hs;refine bL (Ck I hg hm (by decide +kernel:bq "enumerate"=aa (.type "enumerate")) ?_);refine bG (gF (hA pos π s σ H (λvs H1=>Same H H1/\∃va,vs=[va]/\Rp X.K emp da H1 va) I ⟨ρ,[(fa,da)],rs,by simp[b7,fNil,ea],λvs H1 s1⟨va,r1,ee1,q1,q3⟩=>⟨s1,va,by rw[ee1,show r1=[]from q3],q1.sh⟩⟩) λus s1⟨vs,H1,I1,rv,s1H,va,ev,ra⟩=>?_) hs rfl;subst ev;obtain⟨ua,rfl,rua⟩:=rv.one;obtain⟨pa,vsa,rfl,qa1,qa2⟩:=tM ex ra;cases rua;obtain⟨ita,rva,pl,hza⟩:=I1.list qa1;refine call_enumerate_list pl.isList λh' b1 b2 b3 b4=>wpAny_pyIter_enum b1 ?_;refine⟨_,[s1.heap.objs.size+1,s1.heap.objs.size],_,_,H1,rfl,I1.kept (t':=s1.toks) b4,z05 (Nat.succ_ne_self _),⟨⟨_,b1⟩,b2⟩,λc hc=>?_,k _ H1 s1H ?_ (z06 qa1 qa2)⟩
  .have hge:s1.heap.objs.size<=c:=by
    simp only[wB,uK,or_false]at hc;rcases hc with rfl|rfl
    .exact Nat.le_succ _
    .exact wt _
   exact I1.fpOk hge (I1.hok.fresh hge)
  .rw[Im,<-qa2.length];exact hza
def iRev(F:FE):FI:=λρ=>(F ρ).bind λx=>(lstD x.2).map List.reverse
theorem oA{tg:az}{p:Pos}(hg:Gl X "reversed")(hm:X.mg "reversed"=aj)(ha:PF X a Fa)(hs:au [a] X.env=[(ab,eval a X.env)]:=by rfl):jh X tg (.Call (.Name "reversed" p) [a] [] pos) (iRev Fa):=by
 intro π s σ H R I ⟨ρ,items,rs,e0,k⟩;obtain⟨⟨fa,da⟩,ea,e1⟩:=i9 e0;cases ex:lstD da with
 |none=>rw[ex]at e1;cases e1
 |some xs=>
  rw[ex]at e1;cases e1;have hA:PA X [a] (jb X (b7 Fa fNil)):=i8 ha i7 hs;refine bL (Ck I hg hm (by decide +kernel:bq "reversed"=aa (.type "reversed")) ?_);refine bG (gF (hA pos π s σ H (λvs H1=>Same H H1/\∃va,vs=[va]/\Rp X.K emp da H1 va) I ⟨ρ,[(fa,da)],rs,by simp[b7,fNil,ea],λvs H1 s1⟨va,r1,ee1,q1,q3⟩=>⟨s1,va,by rw[ee1,show r1=[]from q3],q1.sh⟩⟩) λus s1⟨vs,H1,I1,rv,s1H,va,ev,ra⟩=>?_) hs rfl;subst ev;obtain⟨ua,rfl,rua⟩:=rv.one;obtain⟨pa,vsa,rfl,qa1,qa2⟩:=tM ex ra;cases rua;obtain⟨ita,rva,pl,hza⟩:=I1.list qa1;have hn:ita.toArray.size=vsa.length:=by rw[wL,<-rva.length]
  refine call_reversed_list pl.isList ?_;rw[hn];have g1:(s1.heap.push (revObj pa ((vsa.length:Int)-1))).get? s1.heap.objs.size=aa _:=wH _ rfl;have it1:(s1.heap.push (revObj pa ((vsa.length:Int)-1))).IsRevIter s1.heap.objs.size pa ((vsa.length:Int)-1-((0:Nat):Int)):=⟨_,g1,rfl,by show fk _=_;simp⟩;refine wpAny_pyIter_revIter it1 ?_;refine⟨_,[s1.heap.objs.size],_,_,H1,rfl,I1.kept (t':=s1.toks) (λc o x=>wm _ x),z1D (n:=vsa.length),⟨vh _,it1⟩,λc hc=>?_,k _ H1 s1H ?_ (z1F qa1 qa2)⟩
  .rw[ve.mp hc];exact I1.fpOk (wt _) (I1.hok.fresh (wt _))
  .rw[w1f,<-qa2.length];exact hza
end
end L2
end
section
set_option maxHeartbeats 1000000
namespace L2
section
variable {X:Cx}
def z1I:V->fL->Hp->VK->Prop:=λx vs H Q=>∃l xs y,x=.ref l/\vs=[.int 0,y]/\H l=aa (.lst xs)/\xs.length<sizeLine/\Q .non (upd H l (.lst (y::xs)))
theorem TK:oP X "list.insert" z1I:=by
 intro π s σ H x vs v us Q I rx rv h;obtain⟨l,xs,y,rfl,rfl,hH,hz,q⟩:=h;cases rx;obtain⟨u0,u,rfl,ru0,ru⟩:=rv.two;obtain⟨t0,rfl⟩:=ru0;obtain⟨z,its,n,r,hl,e⟩:=I.lstM hH;refine call_meets F.slot_list_insert ⟨_,e,rfl⟩ F.entry_list_insert (F.args_list_insert_3 _ _ _) (AutoSeq1.list_insert_list_int_val_1 l its.toArray n 0 t0 u (by decide) (by rw[wL];rfl')) ⟨e,?_⟩;refine⟨.non,_,I.lset (its':=u::its) hH e ?_ (.cons ru r) ?_,rfl,q⟩
 .simp
 .rw[wu];rfl'
theorem YJ{Y:Ky}{f g:Bool}:Same (gN Y (f&&g)) (gN Y f):=by
 cases f<;>cases g<;>first|exact Same.refl _|exact Same.emp
theorem YK{Y:Ky}{f g:Bool}:Same (gN Y (f&&g)) (gN Y g):=by
 cases f<;>cases g<;>first|exact Same.refl _|exact Same.emp
section
variable {H₀ H H':Hp}{O:Own}{ρ:gI}{σ:St}{i:Nat}{f:Bool}{ds:fK}
theorem RepO.get(h:RepO X H₀ H O ρ σ)(e:ρ[i]?=aa (.ow f ds)):∃a vs,(i,a)∈O/\σ[i]?=aa (aa (.ref a))/\H a=aa (.lst vs)/\Rps X.K (gN X.ky f) ds (fU O.adr H) vs:=by
 obtain⟨o,e1,a,vs,q1,q2,q3,q4⟩:=h.at_ i _ e;subst q2;exact⟨a,vs,q1,e1,q3,q4⟩
theorem Rn{x:Dv}{v:V}(rb:RepO X H₀ H O ρ σ)(r:RpF X.ky (fU O.adr H) x.1 x.2 H' v):Rp X.K (gN X.ky x.1.isFr) x.2 H' v:=by
 by_cases q:x.1.isFr=af
 .rw[q];exact r.fr (rb.b0.trans rb.same) q
 .rw[show x.1.isFr=ab by simpa using q];exact r.sh
theorem z51{x:Dv}{v:V}(rb:RepO X H₀ H O ρ σ)(sm:Same H H')(q:x.1.isNw=af)(r:RpF X.ky H x.1 x.2 H' v):Rp X.K (gN X.ky af) x.2 (fU O.adr H') v:=
 Rp.anti rb.below _ (tj rb.own sm q r)
end
abbrev FW:=fK->Dt->Option (fK)
def NK(ρ:gI)(i:Nat):Option (Bool×fK):=match ρ[i]? with|some (.ow f ds)=>aa (f,ds)|_=>aj
theorem Io{ρ:gI}{i:Nat}{f:Bool}{ds:fK}(h:NK ρ i=aa (f,ds)):ρ[i]?=aa (.ow f ds):=by
 unfold NK at h;split at h
 .rename_i e;cases h;exact e
 .cases h
def sWr(w:FW)(i:Nat)(F:FE):FS:=λρ=>(NK ρ i).bind λo=>(F (V7 ρ)).bind λx=>(w o.2 x.2).map λds=>.nx (ρ.set i (.ow (o.1&&x.1.isFr) ds))
def sWrA(w:FW)(i:Nat)(F:FE):FS:=λρ=>(NK ρ i).bind λo=>(F ρ).bind λx=>if x.1.isNw then(w o.2 x.2).map λds=>.nx (ρ.set i (.ow o.1 ds)) else aj
def wApp:FW:=λds d=>if ds.length<1000000 then aa (ds++[d]) else aj
def Lc:FW:=λds d=>if ds.length<1000000 then aa (d::ds) else aj
def qH(X:Cx)(id:String)(pre:fL)(w:FW):Prop:=∀(H:Hp)(B:Hp)(Hh:Hp)(l:Addr)(vs:fL)(y:V)(ds:fK)(d:Dt)(ds':fK)(Q:VK),H l=aa (.lst vs)->Same Hh H->Rps X.K B ds Hh vs->Rp X.K B d Hh y->w ds d=aa ds' ->
 (∀vs',Rps X.K B ds' Hh vs'->Q .non (upd H l (.lst vs')))->∃r,oP X id r/\r (.ref l) (pre++[y]) H Q
theorem z1J:qH X "list.append" [] wApp:=λH B Hh l vs y ds d ds' Q hl sm rs r e k=>by
 unfold wApp at e;split at e
 .rename_i h;cases e;exact⟨_,NC,l,vs,y,rfl,rfl,hl,by rw[rs.length];exact uF h (by decide),k _ (rs.append (Rps.one r))⟩
 .cases e
theorem z52:qH X "list.insert" [.int 0] Lc:=λH B Hh l vs y ds d ds' Q hl sm rs r e k=>by
 unfold Lc at e;split at e
 .rename_i h;cases e;exact⟨_,TK,l,vs,y,rfl,rfl,hl,by rw[rs.length];exact uF h (by decide),k _ (Rps.cons_.mpr ⟨y,vs,rfl,r,rs⟩)⟩
 .cases e
section
variable {id:String}{w:FW}{x:Str}{name:Str}{e:az}{Fe:FE}{i:Nat}{px apos cpos pos:Pos}{pre:fL}
theorem jA(hw:qH X id [] w)(slot:Slot "list" name id)(hty:typeOf (.builtin id)=pure (.type "method_descriptor"))(hN:X.N[i]?=aa x)(hv:me X.env.scope x)(he:PF X e Fe)(hd:(x==("__debug__":Str))=ab:=by decide)(hcd:(x==("__classdict__":Str))=ab:=by decide)
  (hbase:attributeBase (.Name x px) name X.env (eval (.Name x px) X.env)=eval (.Name x px) X.env:=by rfl)
  (hfew:((bO cpos (au [e] X.env)).all (λx=>!x.1)&&(cO cpos (bN [] X.env)).all (λx=>x.1.isSome)&&decide ([e].length+([]:List dN).length+(if([]:List dN).isEmpty then 0 else 1)<30))=af:=by rfl)
  (hline:(apos.endLine==cpos.line)=af:=by rfl) (hs:au [e] X.env=[(ab,eval e X.env)]:=by rfl) (hsw:cD (.Call (.Attribute (.Name x px) name apos) [e] [] cpos) aj pos.line X.env=pure ab:=by rfl) :
  iS X (.Expr (.Call (.Attribute (.Name x px) name apos) [e] [] cpos) pos) (sWr w i Fe):=by
 intro π s σ H D I ⟨H₀,ρ,oc,⟨O,rb⟩,e0,k⟩;obtain⟨⟨f,ds⟩,e1,e2⟩:=i9 e0;obtain⟨z,e3,e4⟩:=i9 e2;cases hw':w ds z.2 with
 |none=>rw[hw']at e4;cases e4
 | some ds' =>
  rw[hw']at e4;cases e4;obtain⟨a,vs,q1,q2,q3,q4⟩:=rb.get (Io e1);have hm:oP X id (λo us H' Q=>∃y,o=.ref a/\us=[y]/\Same (fU O.adr H) (fU O.adr H')/\H' a=aa (.lst vs)/\Rp X.K (gN X.ky z.1.isFr) z.2 (fU O.adr H') y/\∀vs',Rps X.K (gN X.ky (f&&z.1.isFr)) ds' (fU O.adr H') vs'->Q .non (upd H' a (.lst vs'))):=by
   intro π s σ H' o us v vs2 Q I ro ru ⟨y,eo,eu,sm,ha,ry,kk⟩;subst eo;subst eu;obtain⟨r,hr,hq⟩:=hw H' (gN X.ky (f&&z.1.isFr)) (fU O.adr H') a vs y ds z.2 ds' Q ha A9 (Rps.anti YJ _ (Rps.mono _ sm q4)) (Rp.anti YK _ ry) hw' kk;exact hr π s σ H' _ _ v vs2 Q I ro ru hq
  refine Pn (jC F.plainAttrs_list slot hty hm (Bj hN hv hd hcd) (PA.frame (i8 he i7 hs)) hbase hfew hline hs rfl) hsw π s σ H D I ⟨.ref a,q2,.inl ⟨rfl,vs,SqL.of q3⟩,O.adr,rb.own,V7 ρ,[z],rb.rest,by simp[b7,fNil,e3],?_⟩;rintro us H' sm ⟨y,r,eu,ry,er⟩ hn;have er:r=[]:=er;subst er;subst eu;have hg:fU O.adr (E3 O.adr H H')=H':=R7 hn;refine⟨y,rfl,rfl,by rw[hg];exact sm,by rw[AM (Cw q1)];exact q3,by rw[hg];exact Rn rb ry,λvs' rs'=>k _ _ ⟨O,?_⟩⟩;exact(rb.mono (Same.glue sm hn)).upd (Io e1) q1 rs'
theorem kI{j0:Nat}{p0:Pos}(hN:X.N[i]?=aa x)(hv:me X.env.scope x)(he:PF X e Fe)(hd:(x==("__debug__":Str))=ab:=by decide)(hcd:(x==("__classdict__":Str))=ab:=by decide)
   (hbase:attributeBase (.Name x px) "insert" X.env (eval (.Name x px) X.env)=eval (.Name x px) X.env:=by rfl)
   (hfew:((bO cpos (au [.Constant (.int 0) j0 p0,e] X.env)).all (λx=>!x.1)&&(cO cpos (bN [] X.env)).all (λx=>x.1.isSome)&&decide ([Expr.Constant (.int 0) j0 p0,e].length+([]:List dN).length+(if([]:List dN).isEmpty then 0 else 1)<30))=af:=by rfl)
   (hline:(apos.endLine==cpos.line)=af:=by rfl) (hs:au [e] X.env=[(ab,eval e X.env)]:=by rfl) (hs2:au [.Constant (.int 0) j0 p0,e] X.env=(ab,eval (.Constant (.int 0) j0 p0) X.env)::au [e] X.env:=by rfl)
   (hsw:cD (.Call (.Attribute (.Name x px) "insert" apos) [.Constant (.int 0) j0 p0,e] [] cpos) aj pos.line X.env=pure ab:=by rfl) :
   iS X (.Expr (.Call (.Attribute (.Name x px) "insert" apos) [.Constant (.int 0) j0 p0,e] [] cpos) pos) (sWrA Lc i Fe):=by
 intro π s σ H D I ⟨H₀,ρ,oc,⟨O,rb⟩,e0,k⟩;obtain⟨⟨f,ds⟩,e1,e2⟩:=i9 e0;obtain⟨z,e3,e5⟩:=i9 e2;split at e5
 .rename_i qn;cases hw':Lc ds z.2 with
  |none=>rw[hw']at e5;cases e5
  | some ds' =>
   rw[hw']at e5;cases e5;obtain⟨a,vs,q1,q2,q3,q4⟩:=rb.get (Io e1);have hm:oP X "list.insert" (λo us H' Q=>∃y,o=.ref a/\us=[.int 0,y]/\Same H H'/\RpF X.ky H z.1 z.2 H' y/\∀vs',Rps X.K (gN X.ky f) ds' (fU O.adr H') vs'->Q .non (upd H' a (.lst vs'))):=by
    intro π s σ H' o us v vs2 Q I ro ru ⟨y,eo,eu,sm,ry,kk⟩;subst eo;subst eu;have r1:=z51 rb sm qn ry;obtain⟨r,hr,hq⟩:=z52 (X:=X) H' (gN X.ky f) (fU O.adr H') a vs y ds z.2 ds' Q (sm _ _ q3) A9 (Rps.mono _ (E9 sm) q4) (Rp.anti (by cases f<;>first|exact Same.refl _|exact Same.emp) _ r1) hw' kk;exact hr π s σ H' _ _ v vs2 Q I ro ru hq
   refine Pn (jC F.plainAttrs_list F.slot_list_insert F.type_list_insert hm (Bj hN hv hd hcd) (i8 (j3 (X:=X)) (i8 he i7 hs) hs2) hbase hfew hline hs2 (by rw[hs];rfl)) hsw π s σ H D I ⟨.ref a,q2,.inl ⟨rfl,vs,SqL.of q3⟩,ρ,[(.nw,.int 0),z],rb.all,by simp[b7,fNil,fC,e3],?_⟩;rintro us H' sm ⟨y0,r0,eu0,ry0,y,r,eu,ry,er⟩;have er:r=[]:=er;subst er;subst eu;subst eu0;have e00:y0=.int 0:=Rp.int_.mp ry0.sh;subst e00;exact⟨y,rfl,rfl,sm,ry,λvs' rs'=>k _ _ ⟨O,(rb.mono sm).upd (Io e1) q1 rs'⟩⟩
 .cases e5
end
def setD(ds:fK)(j:Int)(d:Dt):Option (fK):=(iD ds.length j).map λk=>ds.set k d
def sPut(i:Nat)(Fj Fe:FE):FS:=λρ=>(NK ρ i).bind λo=>(Fe (V7 ρ)).bind λx=>(Fj ρ).bind λj=>(intD j.2).bind λn=>(setD o.2 n x.2).map λds=>.nx (ρ.set i (.ow (o.1&&x.1.isFr) ds))
section
variable {x:Str}{e j:az}{Fe Fj:FE}{i:Nat}{px spos pos:Pos}
theorem pY(hN:X.N[i]?=aa x)(hv:me X.env.scope x)(hj:PF X j Fj)(he:PF X e Fe)(hd:(x==("__debug__":Str))=ab:=by decide)(hcd:(x==("__classdict__":Str))=ab:=by decide)
  (ha:∀ v,assign (.Subscript (.Name x px) j spos) X.env v=(do
   let ov <-holding [v] (eval (.Name x px) X.env);let iv <-holding [v,ov] (eval j X.env)
   standAt spos
   holding [v,ov,iv] (setItem ov iv v)
   release [v,ov,iv] []):=by intro _;rfl)
  (hs:swapsWithSole [.Subscript (.Name x px) j spos] e pos.line X.env=pure ab:=by rfl) (hw:swappedStores [.Subscript (.Name x px) j spos] e X.env=pure aj:=by rfl)
  (h1:(bU [.Subscript (.Name x px) j spos] X.env).map (·.2)=[assign (.Subscript (.Name x px) j spos) X.env]:=by rfl) :
  iS X (.Assign [.Subscript (.Name x px) j spos] e pos) (sPut i Fj Fe):=by
 intro π s σ H D I ⟨H₀,ρ,oc,⟨O,rb⟩,e0,k⟩;obtain⟨⟨f,ds⟩,e1,e2⟩:=i9 e0;obtain⟨z,e3,e4⟩:=i9 e2;obtain⟨⟨fj,dj⟩,e5,e6⟩:=i9 e4;obtain⟨n,e7,e8⟩:=i9 e6;obtain⟨a,vs,q1,q2,q3,q4⟩:=rb.get (Io e1);unfold setD at e8;cases hx:iD ds.length n with
 |none=>rw[hx]at e8;cases e8
 |some m=>
  rw[hx]at e8;cases e8;refine KG (PE.frame he) (KE (Bj hN hv hd hcd) hj Dq ha) hs hw h1 π s σ H D I ⟨O.adr,rb.own,V7 ρ,z.1,z.2,rb.rest,e3,λv H' sm r hn=>?_⟩;have hg:fU O.adr (E3 O.adr H H')=H':=R7 hn;have rb2:=rb.mono (Same.glue sm hn);refine⟨.ref a,q2,ρ,fj,dj,rb2.all,e5,λv2 H2 s2 r2=>?_⟩;have ed:=AR e7;have ed:dj=.int n:=ed;subst ed;have rv:Rp X.K (gN X.ky z.1.isFr) z.2 (fU O.adr H2) v:=Rp.mono _ (by rw[<-hg];exact E9 s2) (Rn rb r);have ha2:H2 a=aa (.lst vs):=s2 _ _ (by rw[AM (Cw q1)];exact q3);refine⟨a,vs,n,m,rfl,Rp.int_.mp r2.sh,ha2,by rw[q4.length];exact hx,k _ _ ⟨O,(rb2.mono s2).upd (Io e1) q1 ?_⟩⟩;exact Rps.set m (Rps.anti YJ _ (Rps.mono _ (E9 ((Same.glue sm hn).trans s2)) q4)) (Rp.anti YK _ rv)
end
end
end L2
end
section
set_option maxHeartbeats 1000000
namespace L2
def upR(X:Cx)(F:FI):TI:=λσ H R=>∃ρ items,RepS X.ky H ρ σ/\F ρ=aa items/\∀J H',Same H H'->items.length<=sizeLine->(∀H2,iP X.K J items H2)->R J H'
def qG(X:Cx)(tg e:az)(F:FI):Prop:=PI X tg e (upR X F)
section
variable {X:Cx}{tg a b e:az}{Fa Fb Fe:FE}{pos:Pos}
theorem z08{p:Pos}(hg:Gl X "range")(hm:X.mg "range"=aj)(ha:PF X a Fa)(hs:au [a] X.env=[(ab,eval a X.env)]:=by rfl):qG X tg (.Call (.Name "range" p) [a] [] pos) (j9 Fa):=
 (Nt hg hm (X5 ha Ih hs) hs).imp fun σ H R hZ=>hZ.elim fun ρ hZ=>hZ.elim fun items hZ=>hZ.elim fun rs hZ=>hZ.elim fun e0 k=>by
  obtain⟨⟨f,d⟩,e1,e2⟩:=i9 e0;obtain⟨j,e3,e4⟩:=i9 e2;clear e0 e2;have ed:=AR e3;cases (show d=.int j from ed);split at e4
  .rename_i hr;cases e4;obtain⟨h1,h2⟩:=Ik hr;refine⟨ρ,f,_,rs,e1,λv H1 s1 r1=>⟨j,by rw[Rp.int_.mp r1.sh],(),(),k _ H1 s1 ?_ (λ_=>Ct)⟩⟩;rw[Cu];have:sizeLine=16777216:=rfl;rfl'
  .cases e4
theorem z09{p:Pos}(hg:Gl X "range")(hm:X.mg "range"=aj)(ha:PF X a Fa)(hb:PF X b Fb)(hs:au [a,b] X.env=[(ab,eval a X.env),(ab,eval b X.env)]:=by rfl)
  (hs1:au [b] X.env=[(ab,eval b X.env)]:=by rfl):qG X tg (.Call (.Name "range" p) [a,b] [] pos) (Cv Fa Fb):=
 (Nu hg hm (X5 ha (X5 hb Ih hs1) (by rw[hs,hs1])) hs hs1).imp fun σ H R hZ=>hZ.elim fun ρ hZ=>hZ.elim fun items hZ=>hZ.elim fun rs hZ=>hZ.elim fun e0 k=>by
  obtain⟨⟨f,d⟩,e1,e2⟩:=i9 e0;obtain⟨⟨f',d'⟩,e1',e2'⟩:=i9 e2;obtain⟨i,e3,e4⟩:=i9 e2';obtain⟨j,e5,e6⟩:=i9 e4;clear e0 e2 e2' e4;have ed:=AR e3;have ed':=AR e5;cases (show d=.int i from ed);cases (show d'=.int j from ed');split at e6
  .rename_i hr;rw[wS]at hr;cases e6;obtain⟨h1,h2⟩:=Ik hr.1;obtain⟨h3,h4⟩:=Ik hr.2;refine⟨ρ,f,_,rs,e1,λv H1 s1 r1=>⟨ρ,f',_,rs.mono s1,e1',λv' H2 s2 r2=>⟨i,j,by rw[Rp.int_.mp r1.sh,Rp.int_.mp r2.sh],⟨(),(),(),()⟩,k _ H2 (s1.trans s2) ?_ (λ_=>Ct)⟩⟩⟩;rw[Cu];have:sizeLine=16777216:=rfl;rfl'
  .cases e6
end
def JB(Fi:FI)(g:Tg)(F:FS):FS:=λρ=>(Fi ρ).bind λitems=>gk g F items ρ
section
variable {X:Cx}{tg iter:az}{body:fy}{Fi:FI}{g:Tg}{F:FS}{pos:Pos}
theorem tL(hp:fg (model X.prog X.w) X.A X.env X.xe)(hc:X.calm=af)(hi:qG X tg iter Fi)(hg:PG X tg (g.low X.K))(hb:ij X body F)
   (hs:∀x,bp iter X.env x=pure x:=by intro _;rfl):iS X (.For tg iter body [] pos) (JB Fi g F):=(Ts hp hc hi hg hb hs).imp λD σ H⟨H₀,ρ,oc,⟨O,rb⟩,e0,k⟩=>by
 obtain⟨items,e1,e2⟩:=i9 e0;refine⟨ρ,items,rb.all,e1,λJ H1 sm hsz wk=>?_⟩;refine⟨λi m σ' H'=>m=items.length-i/\∃ρ',iC X H₀ H' ρ' σ'/\gk g F (items.drop i) ρ'=aa oc,⟨_,rfl,_,⟨O,rb.mono sm⟩,e2⟩,?_⟩;rintro i m σ' H' ⟨rfl,ρ',⟨O2,r2⟩,f2⟩;obtain⟨w1,w2⟩:=wk (fU O2.adr H') O2.adr H' (Same.refl _) λa ha=>by obtain⟨⟨vs,q⟩,_⟩:=r2.own a ha;exact⟨_,q⟩
 by_cases hlt:i<items.length
 .obtain⟨x,hx⟩:∃x,items[i]?=aa x:=⟨_,wa hlt⟩;have hdrop:items.drop i=x::items.drop (i+1):=by
   rw[uY hlt];rw[wa hlt]at hx;cases hx;rfl
  rw[hdrop]at f2;unfold gk at f2;obtain⟨ρ2,p1,f3⟩:=i9 f2;obtain⟨oc',p2,f4⟩:=i9 f3;obtain⟨go,yl⟩:=w1 i x hx;refine .inr ⟨go,λσ3 H3=>∃ρ3,iC X H₀ H3 ρ3 σ3/\gk g F (items.drop (i+1)) ρ3=aa oc,λσ3 H3⟨ρ3,r3,f3⟩=>⟨items.length-(i+1),(),rfl,ρ3,r3,f3⟩,λxv H3 y3=>?_⟩;obtain⟨s3,k3,r3⟩:=yl xv H3 y3;have sm3:Same H' H3:=λb o e=>by
   by_cases hb:b∈O2.adr
   .rw[k3 b hb];exact e
   .exact(R6 (s3 b o (by rw[r9 hb];exact e))).2
  refine Tg.low_mono (Tg.simO (r2.mono sm3) r3 p1) ?_;rintro σ4 H4 ⟨eH,O4,r4⟩;subst eH;refine⟨H₀,ρ2,oc',⟨O4,r4⟩,p2,?_⟩;cases oc' with
  |nx ρ5=>exact λσ5 H5 r5=>⟨ρ5,r5,f4⟩
  |ct ρ5=>exact λσ5 H5 r5=>⟨ρ5,r5,f4⟩
  |bk ρ5=>cases f4;exact k
  |rt f d=>cases f4;exact k
  |ex C=>cases f4;exact k
 .have hd:items.drop i=[]:=vV ();rw[hd]at f2;cases f2;exact .inl ⟨w2 i (),k σ' H' ⟨O2,r2⟩⟩
end
section
variable {P:aN}{w:aI}{K:aD}{mg:aE}{base:aR}
theorem Fun.dat{x qual:Str}{st:aJ}{f:Addr}{fd:aq}{N ps:fq}{k np nn:Nat}{fr:Bool}{F:FS}(Fu:Fun K x qual st f fd)(S:FnScope N ps (f9 st))(hp:np=ps.length)(hn:nn=N.length)
  (body:∀(cdv:Value) (A:Around) (outer:List Env) (s:Shared) (H:Hp) (E:XK),Room k (A.deeper (envOfC qual (f9 st) s.heap.objs.size f cdv)) →
   ij (iM CX0 P w K mg base N qual (f9 st) f cdv A outer s H E).nox (G9 st) F):FnOk P w K mg base CX0 (k+1) f fd ps (iT K fr (fQ np nn fr F)):=by
 subst hp hn;exact Fun.data Fu S body
end
theorem nP{X:Cx}{e:az}{es:fw}{pos:Pos}{Fs:FA}{fr:Bool}{k k':Nat}{f:Addr}{fd:aq}{ps:fq}{ct:FC}{x:Str}{st:aJ}{p:Pos}(F:FnOk X.prog X.w X.K X.mg X.base CX0 k f fd ps (iT X.K fr ct))(D:Df X.K X.mg x st ps f fd)(hr:Room k' X.A)(hg:Gl X x)
  (ha:iZ X (e::es) Fs) (hle:k<=k':=by decide) (hdb:(x==("__debug__":Str))=ab:=by decide) (hst:au (e::es) X.env=(ab,eval e X.env)::au es X.env:=by rfl) (hpl:(bO pos (au es X.env)).any (·.1)=ab:=by rfl):PF X (.Call (.Name x p) (e::es) [] pos) (i0 fr ct Fs):=
 kZ F (hr.mono hle) hg D.mg D.fn.kp D.bd ha hdb hst hpl
def Dh(K:aD)(x:Str)(st:aJ)(f:Addr):Prop:=∃(oc kV doc pm cdv ct:Value)(od an:fJ)(osl:Array (fI)),aU K aw x=aa (aa (.ref f))/\K.lookup f=aa ⟨oc,od,.func (bz x x (O8 st) (G9 st) (f9 st) .none kV doc pm an cdv ct),osl⟩/\cb K cdv x=af/\bI K (.ref f)=af
theorem dh{K:aD}{x:Str}{st:aJ}{f:Addr}{oc kV doc pm cdv ct:Value}{od an:fJ}{osl:Array (fI)}(e:aU K aw x=aa (aa (.ref f)))(l:K.lookup f=aa ⟨oc,od,.func (bz x x (O8 st) (G9 st) (f9 st) .none kV doc pm an cdv ct),osl⟩)(c:cb K cdv x=af)(k:bI K (.ref f)=af):Dh K x st f:=⟨_,_,_,_,_,_,_,_,_,e,l,c,k⟩
theorem TL{M:Model}{A:bu}{Q:aC}{E:aC}{s:Shared}{a b:Bool}(h:Q (.bool (a != b)) s):av M A (bj .IsNot (.bool a) (.bool b)) Q E s:=by
 cases a<;>cases b<;>exact ax h
def Ld:FO:=λx y=>match x,y with|.bl a,.bl b=>aa (.nw,.bl (a != b))|_,_=>aj
theorem lg{X:Cx}:OpF X (bj .IsNot) Ld:=by
 rintro π s σ H x y v u Q I r1 r2 ⟨d1,d2,f,d,q1,q2,e,k⟩;unfold Ld at e;split at e
 .cases e;have h1:=Rp.bl_.mp q1;have h2:=Rp.bl_.mp q2;subst h1 h2;cases r1;cases r2;exact TL (Tt I (k _ H (Same.refl H) RpF.b_) rfl)
 .cases e
theorem hJ(l:fq)(h:l.Nodup:=by decide +kernel):l.Nodup:=h
theorem ia(l:fu)(m:Nat)(h:∀j∈l,j<m:=by decide):∀j∈l,j<m:=h
theorem csc{X:Cx}{N:fq}{scope:Scope}{nt:Nat}{js:fu}(XN:fq)(xs:List (Str×bt))(h1:X.N=XN:=by rfl)(h2:X.env.scope.names=xs:=by rfl)(hk:scope.kind=.function:=by rfl)(c:La XN xs scope N nt js=af:=by decide +kernel):CompScope X N scope nt js:=u8 XN xs h1 h2 hk c
theorem gC{N P:fq}{sc:Scope}(kind:sc.kind=.function:=by rfl)(co:sc.isCoroutine=ab:=by rfl)(gen:sc.isGenerator=ab:=by rfl)(nd:N.Nodup:=by decide +kernel)(pre:N.take P.length=P:=by rfl)(par:∀x∈P,sc.names.lookup x=aa .local\/sc.names.lookup x=aa .cell:=by decide +kernel)(nofree:∀y∈sc.names,y.2 ≠ .free:=by decide +kernel):FnScope N P sc:=⟨kind,co,gen,nd,pre,par,nofree⟩
theorem tK{Fi:FI}{g:Tg}{F:FS}{ρ:gI}:JB Fi g F ρ=(Fi ρ).bind λitems=>gk g F items ρ:=rfl
end L2
end
section
namespace L2
open PySem.W
section
variable {X:Cx}{C:Addr}{n:Nat}{e:az}{es:fw}{pos:Pos}{Fs:FA}{fr:Bool}{k k':Nat}{f:Addr}{fd:aq}{ps:fq}{x:Str}{st:aJ}{p:Pos}
abbrev FX:=fK->Option (Dt ⊕ Nat)
end
section
variable {P:aN}{w:aI}{K:aD}{mg:aE}{base:aR}
end
end L2
end
section
namespace L2
open PySem.W
section
variable {X:Cx}{π:aB}{σ:St}{H H1 H' H₀:Hp}{s s1:Shared}{ea C M:Addr}{cx:Value}{E:aC}
end
section
variable {X:Cx}{C:Addr}{n:Nat}{e:az}{es:fw}{pos pos' tpos hpos np:Pos}{Fs:FA}{fr:Bool}{k k':Nat}{f:Addr}{fd:aq}{ps:fq}{x y:Str}{st:aJ}{p:Pos}{ct:FX}
end
section
variable {X:Cx}{H₀ H:Hp}{O:Own}{ρ:gI}{σ:St}{π:aB}{s:Shared}{ea:Addr}
end
end L2
end
section
namespace L2
open PySem.W
section
variable {X:Cx}{C:Addr}{n:Nat}{e:az}{es:fw}{pos pos' tpos hpos np:Pos}{Fs:FA}{fr:Bool}{k k':Nat}{f:Addr}{fd:aq}{ps:fq}{x y z:Str}{st:aJ}{p:Pos}{ct:FX}
end
end L2
end
section
namespace L2
open PySem.W
abbrev FR:=gI->Option Nat
section
variable {X:Cx}{e a b:az}{es:fw}{pos pos' p:Pos}{Fs:FA}{R:FR}{fr:Bool}{k k':Nat}{f:Addr}{fd:aq}{ps:fq}{x:Str}{st:aJ}{ct:FX}
end
end L2
end
section
namespace L2
section
variable {X:Cx}{x y:Str}{j j2:az}{Fj Fk:FE}{i iy:Nat}{px px2 spos spos2 pos pos':Pos}
end
end L2
end
section
namespace L2
theorem gK{X:Cx}{e:az}{Fe:FE}{pos pos':Pos}{x:Str}(i:Nat)(he:PF X e Fe)(hN:X.N.Nodup)(hi:X.N[i]?=aa x:=by rfl)(hx:mj X.env.scope x:=by exact ar rfl)(hs:cD e (aa (.Name x pos')) pos.line X.env=pure ab:=by rfl)(hf:X.fn x=af\/X.env.scope.names.lookup x=aa .local:=by exact ar rfl):iS X (.Assign [.Name x pos'] e pos) (sSet [] i Fe):=C8 (rels:=[]) (o7 he hN hi hx hs hf)
section
variable {X:Cx}{e:az}{es:fw}{pos p:Pos}{Fs:FA}{r:FB}{x:Str}
theorem gG{id:String}(hc:Dk X (.builtin id) r)(hm:X.mg x=aj)(ha:iZ X (e::es) Fs)(hg:Gl X x:=by rfl)(hv:bq x=aa (.builtin id):=by decide +kernel)(hn:x ≠ "__name__":=by decide)(hdb:(x==("__debug__":Str))=ab:=by decide)(hst:au (e::es) X.env=(ab,eval e X.env)::au es X.env:=by rfl)(hpl:(bO pos (au es X.env)).any (·.1)=ab:=by rfl):
 PF X (.Call (.Name x p) (e::es) [] pos) (fBlt r Fs):=z4W hc hg hm hv ha hn hdb hst hpl
theorem gW{T:String}(hc:Dk X (.type T) r)(hm:X.mg x=aj)(ha:iZ X (e::es) Fs)(hg:Gl X x:=by rfl)(hv:bq x=aa (.type T):=by decide +kernel)(hn:x ≠ "__name__":=by decide)(hdb:(x==("__debug__":Str))=ab:=by decide)(hst:au (e::es) X.env=(ab,eval e X.env)::au es X.env:=by rfl)(hpl:(bO pos (au es X.env)).any (·.1)=ab:=by rfl):
 PF X (.Call (.Name x p) (e::es) [] pos) (fBlt r Fs):=z1s hc hg hm hv ha hn hdb hst hpl
theorem fR{fr:Bool}{k k':Nat}{f:Addr}{fd:aq}{ps:fq}{ct:FC}{st:aJ}(F:FnOk X.prog X.w X.K X.mg X.base CX0 k f fd ps (iT X.K fr ct))(D:Df X.K X.mg x st ps f fd)(hr:Room k' X.A)
  (ha:iZ X (e::es) Fs) (hg:Gl X x:=by rfl) (hle:k<=k':=by decide) (hdb:(x==("__debug__":Str))=ab:=by decide) (hst:au (e::es) X.env=(ab,eval e X.env)::au es X.env:=by rfl) (hpl:(bO pos (au es X.env)).any (·.1)=ab:=by rfl):PF X (.Call (.Name x p) (e::es) [] pos) (i0 fr ct Fs):=
 nP F D hr hg ha hle hdb hst hpl
end
section
variable {X:Cx}{a b:az}{Fa Fb:FE}{pos:Pos}{op:CmpOp}{r:FO}
theorem ip(ho:OpF X (bj op) r)(ha:PF X a Fa)(hb:PF X b Fb)(h:op ≠ .In:=by decide)(h2:op ≠ .NotIn:=by decide):PF X (.Compare a [op] [b] pos) (fOp r Fa Fb):=nN ho ha hb (tP _ h h2)
theorem gv(ho:OpF X (bj op) r)(ha:PF X a Fa)(hb:PF X b Fb)(h:op ≠ .In:=by decide)(h2:op ≠ .NotIn:=by decide):iY X (.Compare a [op] [b] pos) (n4 (fOp r Fa Fb)):=mJ ho ha hb (tP _ h h2)
end
section
variable {X:Cx}{scope:Scope}{x:Str}{tp pos:Pos}{elt iter:az}{Fi:FI}{Fe:FE}
theorem gO(N:fq)(nt:Nat)(js:fu)(XN:fq)(xs:List (Str×bt))(hi:jh X (.Name x tp) iter Fi)(he:∀cl C fp s H,PF (C2 X N scope cl C fp s H) elt Fe)
  (h1:X.N=XN:=by rfl) (h2:X.env.scope.names=xs:=by rfl) (hk:scope.kind=.function:=by rfl) (c:La XN xs scope N nt js=af:=by decide +kernel) (hc:X.calm=af:=by rfl) (nd:N.Nodup:=by decide +kernel) (h0:N[0]?=aa x:=by rfl) (hl:∀cl C fp s H,(C2 X N scope cl C fp s H).env.scope.names.lookup x=aa .local:=by intro _ _ _ _ _;rfl) (hb:0<nt:=by decide) (hj:∀j∈js,j<XN.length:=by decide)
  (hs:∀x,bp iter X.env x=pure x:=by intro _;rfl):PF X (.ListComp elt [⟨.Name x tp,iter,[],0⟩] scope pos) (j8 nt js Fi (Tg.one 0) fYes Fe):=
 K3 (u8 XN xs h1 h2 hk c) hc hi (λcl C fp s H=>G7 nd h0 (ar (hl cl C fp s H)) (aK (hl cl C fp s H))) hb (λ_ _ _ _ _=>P5) he (λj hj'=>by rw[h1];exact hj j hj') hs
theorem iB{y:Str}{pos' spos:Pos}(i:Nat)(hN:X.N.Nodup)(N:fq)(nt:Nat)(js:fu)(XN:fq)(xs:List (Str×bt))(hi:jh X (.Name x tp) iter Fi)(he:∀cl C fp s H,PF (C2 X N scope cl C fp s H) elt Fe)
  (hix:X.N[i]?=aa y:=by rfl) (hx:X.env.scope.names.lookup y=aa .local:=by rfl) (hsw:cD (.ListComp elt [⟨.Name x tp,iter,[],0⟩] scope pos) (aa (.Name y pos')) spos.line X.env=pure af:=by rfl)
  (h1:X.N=XN:=by rfl) (h2:X.env.scope.names=xs:=by rfl) (hk:scope.kind=.function:=by rfl) (c:La XN xs scope N nt js=af:=by decide +kernel) (hc:X.calm=af:=by rfl) (nd:N.Nodup:=by decide +kernel) (h0:N[0]?=aa x:=by rfl) (hl:∀cl C fp s H,(C2 X N scope cl C fp s H).env.scope.names.lookup x=aa .local:=by intro _ _ _ _ _;rfl) (hb:0<nt:=by decide) (hj:∀j∈js,j<XN.length:=by decide)
  (hs:∀x,bp iter X.env x=pure x:=by intro _;rfl):jg X (.Assign [.Name y pos'] (.ListComp elt [⟨.Name x tp,iter,[],0⟩] scope pos) spos) i (j8 nt js Fi (Tg.one 0) fYes Fe):=
 Rb hN hix hx hsw (u8 XN xs h1 h2 hk c) hc hi (λcl C fp s H=>G7 nd h0 (ar (hl cl C fp s H)) (aK (hl cl C fp s H))) hb (λ_ _ _ _ _=>P5) he (λj hj'=>by rw[h1];exact hj j hj') hs
end
theorem gi{X:Cx}{a b:az}{Fa Fb:FE}{pos:Pos}(ha:PF X a Fa)(hb:PF X b Fb)(hs:Pr b:=by exact λ_ _=>rfl):PF X (.Subscript a b pos) (fAt Fa Fb):=qk ha hb hs
theorem Df.d{P:aN}{w:aI}{K:aD}{mg:aE}{base:aR}{x:Str}{st:aJ}{f:Addr}{fd:aq}{N ps:fq}{np nn:Nat}{fr:Bool}(D:Df K mg x st ps f fd)(k:Nat)(F:FS)(S:FnScope N ps (f9 st))
 (body:∀{cdv:Value} {A:Around} {outer:List Env} {s:Shared} {H:Hp} {E:XK},Room k (A.deeper (envOfC x (f9 st) s.heap.objs.size f cdv))→(A.deeper (envOfC x (f9 st) s.heap.objs.size f cdv)).units+64<cLine →
  ij (iM CX0 P w K mg base N x (f9 st) f cdv A outer s H E).nox (G9 st) F) (hp:np=ps.length:=by rfl) (hn:nn=N.length:=by rfl):FnOk P w K mg base CX0 (k+1) f fd ps (iT K fr (fQ np nn fr F)):=Fun.dat D.fn S hp hn λcdv A outer s H E hr=>body hr hr.units
theorem fT{X:Cx}{x:Str}{pos:Pos}{es:fw}{Fs:FA}(i:Nat)(hr:iZ X es Fs)(hN:X.N[i]?=aa x:=by rfl)(hv:me X.env.scope x:=by first|exact ar rfl|exact aK (ar rfl)|exact aK (aK rfl))(hd:(x==("__debug__":Str))=ab:=by decide)(hcd:(x==("__classdict__":Str))=ab:=by decide)(hs:au (.Name x pos::es) X.env=(ab,eval (.Name x pos) X.env)::au es X.env:=by rfl):iZ X (.Name x pos::es) (b7 (fN i) Fs):=i8 (b9 i hN hv hd hcd) hr hs
end L2
end
section
namespace L2
end L2
end
section
local macro_rules|`(tactic|rfl')=>`(tactic|first|lia|omega +splitDisjunctions)
set_option maxHeartbeats 2000000
namespace L2
section
variable {α β:Type}
def iJ(p:Int×α):List (Int×α)->List (Int×α)
 |[]=>[p]
 |q::qs=>if p.1<=q.1 then p::q::qs else q::iJ p qs
def X4:List (Int×α)->List (Int×α)
 |[]=>[]
 |p::ps=>iJ p (X4 ps)
theorem Ip(p:Int×α):∀qs:List (Int×α),(iJ p qs).Perm (p::qs)
 |[]=>eX _
 |q::qs=>by
  unfold iJ;split
  .exact eX _
  .exact((Ip p qs).cons q).trans (List.Perm.swap p q qs)
theorem P6:∀ps:List (Int×α),(X4 ps).Perm ps
 |[]=>eX _
 |p::ps=>(Ip p _).trans ((P6 ps).cons p)
abbrev Le(p q:Int×α):Prop:=p.1<=q.1
theorem JC(p:Int×α):∀qs:List (Int×α),qs.Pairwise Le->(iJ p qs).Pairwise Le
 |[],_=>List.pairwise_singleton _ _
 |q::qs,h=>by
  obtain⟨h1,h2⟩:=vA.mp h;unfold iJ;split
  .rename_i hle;exact vA.mpr ⟨λx hx=>by
     rcases wB.mp hx with rfl|hx
     .exact hle
     .exact Int.le_trans hle (h1 x hx),h⟩
  .rename_i hle;refine vA.mpr ⟨λx hx=>?_,JC p qs h2⟩;rcases wB.mp ((Ip p qs).mem_iff.mp hx)with rfl|hx
   .show q.1<=x.1;rfl'
   .exact h1 x hx
theorem Cy:∀ps:List (Int×α),(X4 ps).Pairwise Le
 |[]=>di
 |p::ps=>JC p _ (Cy ps)
theorem Ro(g:α->β)(p:Int×α):∀qs:List (Int×α),iJ (p.1,g p.2) (qs.map λq=>(q.1,g q.2))=(iJ p qs).map λq=>(q.1,g q.2)
 |[]=>rfl
 |q::qs=>by
  rw[wx];unfold iJ;by_cases h:p.1<=q.1
  .rw[ak h,ak h];rfl
  .rw[ao h,ao h,wx,Ro g p qs]
theorem EA(g:α->β):∀ps:List (Int×α),X4 (ps.map λq=>(q.1,g q.2))=(X4 ps).map λq=>(q.1,g q.2)
 |[]=>rfl
 |p::ps=>by rw[wx,X4,X4,EA g ps,Ro g p]
theorem Lf:∀{xs ys:List (Int×α)},xs.Perm ys->xs.Pairwise Le->ys.Pairwise Le->(xs.map (·.1)).Nodup->xs=ys
 |[],ys,p,_,_,_=>(List.Perm.nil_eq p)
 |x::xs,[],p,_,_,_=>by have:=p.length_eq;simp at this
 | x::xs,y::ys,p,h1,h2,nd=>by
  obtain⟨a1,a2⟩:=vA.mp h1;obtain⟨b1,b2⟩:=vA.mp h2;have nd':(x.1::xs.map (·.1)).Nodup:=nd;obtain⟨n1,n2⟩:=vQ.mp nd';have hx:x∈y::ys:=p.mem_iff.mp wf;have hy:y∈x::xs:=p.mem_iff.mpr wf
  have exy:x=y:=by
   rcases wB.mp hx with e|hx
   .exact e
   .rcases wB.mp hy with e|hy
    .exact e.symm
    .have l1:x.1<=y.1:=a1 y hy;have l2:y.1<=x.1:=b1 x hx;have e:x.1=y.1:=()
     exact aM (wj.mpr ⟨y,hy,e.symm⟩) n1
  subst exy;rw[Lf (p.cons_inv) a2 b2 n2]
end
section
variable {X:Cx}{π:aB}{σ:St}{H:Hp}{s:Shared}
theorem Inv.track{D:Addr}{its:aF}{ys:fL}{n:Nat}(I:Inv X π σ H s)(hD:H D=aj)(f:gY X π H D)(hn:X.s₀.heap.objs.size<=D)(ho:s.heap.get? D=aa { cls:=.type "list",data:=.seq its.toArray n })(hv:Vals ys its)(hz:ys.length<=sizeLine):
   Inv X π σ (upd H D (.lst ys)) s:=by
 obtain⟨f0,f1,f2,f3,f4,f5⟩:=f;have ne:∀b o,X.s₀.heap.get? b=aa o->b≠D:=λb o e z=>by
   subst z;exact aM (wG (wD e) hn) (vG _)
 have nH:∀b o,H b=aa o->b≠D:=λb o e z=>by rw[z,hD]at e;cases e
 refine⟨I.ok,I.os,I.bare,⟨I.base.keep,I.base.slot,λb o e q hx=>?_,I.base.there,λb xs e=>?_,λb o u e=>?_,λb ps e=>?_⟩,I.loc,I.cell,?_,λx c e=>?_,λp hp=>?_,λa o e=>?_,I.len⟩
 .rw[v8 (ne b o e)];exact I.base.free b o e q hx
 .have:=I.base.tups b xs e;rw[v8 (nH b _ this)];exact this
 .have:=I.base.frzs b o u e;rw[v8 (nH b _ this)];exact this
 .obtain⟨more,this⟩:=I.base.tbls b ps e;exact⟨more,by rw[v8 (nH b _ this)];exact this⟩
 .rw[v8 (bR f1)];exact I.free
 .rw[v8 (f4 x c e)];exact I.freeC x c e
 .obtain⟨q1,q2,q3⟩:=I.pin p hp;exact⟨q1,by rw[v8 (f5 p hp)];exact q2,q3⟩
 .by_cases z:a=D
  .subst z;rw[B3]at e;cases e;exact⟨hz,its,n,hv,ho⟩
  .rw[v8 z]at e;refine(I.hok a o e).stay (λb u _ q=>q) (λb q=>?_) (λb xs q=>?_)
   .rw[v8 (nH b _ q)];exact q
   .rw[v8 (nH b _ q)];exact q
theorem lF{h:aR}{a:Addr}{m m':aE}(p:h.Ns a m)(q:h.Ns a m'):m=m':=by
 obtain⟨o,es,ep,e,d,_,f⟩:=p;obtain⟨o',es',ep',e',d',_,f'⟩:=q;rw[e]at e';cases e';rw[d]at d';cases d'
 funext x
 rw[<-f x,<-f' x]
def Lg(base:aR)(L a b:Addr)(h:aR):aB:=(ah h.objs.size).filterMap λc=>match h.get? c with
 |some o=>if base.get? c=aj/\c≠L/\c≠a/\c≠b then aa (c,o) else aj
 |none=>aj
theorem TM{base:aR}{L a b c:Addr}{h:aR}{o:Obj}(e:h.get? c=aa o)(h1:base.get? c=aj)(h2:c≠L)(h3:c≠a)(h4:c≠b):(c,o)∈Lg base L a b h:=
 uB.mpr ⟨c,wJ.mpr (wD e),by rw[e];simp[h1,h2,h3,h4]⟩
theorem Iq{base:aR}{L a b:Addr}{h:aR}{p:Addr×Obj}(hp:p∈Lg base L a b h):h.get? p.1=aa p.2/\base.get? p.1=aj/\p.1≠L/\p.1≠a/\p.1≠b:=by
 obtain⟨c,hc,e⟩:=uB.mp hp;cases q:h.get? c with
 |none=>rw[q]at e;cases e
 |some o=>
  rw[q]at e;dsimp only at e;split at e
  .rename_i hh;cases e;exact⟨q,hh⟩
  .cases e
theorem Inv.turnedN{h':aR}{t':Nat}{ch:ft}{m:aE}(I:Inv X π σ H s)(hm:s.heap.Ns X.env.locals m)(hm':h'.Ns X.env.locals m)(hl:∃o,h'.get? X.env.locals=aa o)(k:∀b o,b∉ch->b≠X.env.locals->s.heap.get? b=aa o->h'.get? b=aa o)(hc:∀b∈ch,gY X π H b):
   Inv X π σ H { s with heap:=h',toks:=t' }:=by
 have nit:∀b u,H b=aa u->b∉ch:=λb u e z=>by rw[(hc b z).1]at e;cases e
 have nL:∀b u,H b=aa u->b≠X.env.locals:=λb u e z=>by rw[z,I.free]at e;cases e
 refine I.step (g':=s.gens) (d':=s.drawn) (ch:=ch) (λb hb=>?_) (λb o nl _ hn e _=>k b o hn nl e) (λb o nl _ hn e _=>⟨o.slots,k b o hn nl e⟩) (λ_ _ _ _ n=>n)
   (λb o hn e=>?_) (λ_ _ e=>e) (λ_ _ _ e=>e) (λb ps e=>⟨#[],by rw[e];simp⟩) (λm' hm2=>by rw[<-lF hm hm2];exact hm') (λb u e=>?_) I.bare
 .obtain⟨f0,f1,f2,f3,f4,f5⟩:=hc b hb;exact⟨f3,f1,f4,f5⟩
 .by_cases z:b=X.env.locals
  .subst z;exact hl
  .exact⟨o,k b o hn z e⟩
 .refine(I.hok b u e).stay (λc v hcc q=>k c v ?_ ?_ q) (λ_ q=>q) λ_ _ q=>q
  .rcases hcc with z|z
   .rw[z];exact nit b u e
   .exact nit c _ z
  .rcases hcc with z|z
   .rw[z];exact nL b u e
   .exact nL c _ z
end
def X0(c:FC):fK->Option (aH)
 |[]=>aa []
 |d::ds=>(c [d]).bind λr=>(intD r).bind λi=>(X0 c ds).map (i::·)
theorem FU{c:FC}:∀{ds:fK}{ks:aH},X0 c ds=aa ks->ks.length=ds.length
 |[],ks,h=>by cases h;rfl
 |d::ds,ks,h=>by
  obtain⟨r,_,h⟩:=i9 h;obtain⟨i,_,h⟩:=i9 h;cases q:X0 c ds with
  |none=>rw[q]at h;cases h
  |some js=>rw[q]at h;cases h;rw[wu,wu,FU q]
theorem Lh{c:FC}:∀{ds:fK}{ks:aH}{j:Nat}{d:Dt}{k:Int},X0 c ds=aa ks->ds[j]?=aa d->ks[j]?=aa k->c [d]=aa (.int k)
 |[],ks,j,d,k,h,e,_=>by simp at e
 | a::ds,ks,j,d,k,h,e,e'=>by
  obtain⟨r,h1,h⟩:=i9 h;obtain⟨i,h2,h⟩:=i9 h;cases q:X0 c ds with
  |none=>rw[q]at h;cases h
  | some js =>
   rw[q]at h;cases h;cases j with
   |zero=>
    simp at e e';subst e;subst e';rw[h1,AR h2]
   |succ j=>exact Lh q (by simpa using e) (by simpa using e')
section
variable {X:Cx}{π:aB}{σ:St}{H:Hp}{s:Shared}{k:Nat}{f:Addr}{fd:aq}{p:Str}{fr:Bool}{ct:FC}{l:Addr}{vs:fL}{ds:fK}{ks:aH}{Q:VK}
theorem z53{H1:Hp}{s1:Shared}{d:Dt}{v:V}{u:Value}{n:Int}(F:FnOk X.prog X.w X.K X.mg X.base CX0 k f fd [p] (iT X.K fr ct))(hr:Room (k+2) X.A)(hb:Binds X.K fd [p] [])(I:Inv X π σ H1 s1)(r:RelV v u)(rd:Rp X.K emp d H1 v)(hc:ct [d]=aa (.int n))
  {P:aC} {E:aC} (q:∀t H2 s2,Inv X π σ H2 s2->Same H1 H2->(∀b o,s1.heap.get? b=aa o->H1 b=aj->b∉iL X.stack->s2.heap.get? b=aa o/\H2 b=aj)->P (.int n t) s2):av (model X.prog X.w) X.A.in1.in1 (call (.ref f) [u]) P E s1:=by
 have hr2:Room k X.A.in1.in1:=(show Room (k+1+1) X.A from hr).in1.in1;refine wpAny_call (dm (F.run X.A.in1.in1 X.stack s1 H1 ⟨[u],[]⟩ [u] [v] (λw H2=>w=.int n/\Same H1 H2) E0 hr2 I.env0.in1.in1 (hb s1 [u] I.kIn rfl) (.cons r .nil) ⟨[d],_,Rps.one rd,hc,λw H2 sm rw'=>⟨by cases fr<;>exact Rp.int_.mp rw',sm⟩⟩) λres s2 hres=>?_);cases res with
 |error e=>exact hres.elim
 | ok fl =>
  cases fl with
  |ret w=>
   obtain⟨x,H2,os,bare,un,hok,rw',ex,sm⟩:=hres;subst ex;obtain⟨t,rfl⟩:=rw';exact q t H2 s2 (I.call' (ch:=[]) os un hok bare λb hb=>aM hb (by simp)) sm λb o e hn hf=>⟨un.keep b o e hn hf (by simp),un.free b o e hn (by simp)⟩
  |next=>exact hres.elim
  |brk=>exact hres.elim
  |cont=>exact hres.elim
theorem tJ(I:Inv X π σ H s){b:Addr}(hb:b∈iL X.stack):b<s.heap.objs.size:=by
 obtain⟨_,o,e,_⟩:=I.stack.mem hb;exact wD e
theorem z0a{D kS:Addr}{e1:Nat}{its:List Value}{P:PySem.Fin→Shared→Prop}{E:Value→Shared→Prop}(F:FnOk X.prog X.w X.K X.mg X.base CX0 k f fd [p] (iT X.K fr ct))(hr:Room (k+2) X.A)(hb:Binds X.K fd [p] [])(I:Inv X π    σ H s)(rv:Vals vs its)(rs:Rps X.K emp ds H vs)(hk:X0 ct ds=some ks)(h64:ds.length<64)
  (hD:s.heap.get? D=aa (cH "list" #[] e1)) (hS:s.heap.get? kS=aa (cH "list" #[] 0)) (nDS:kS≠D) (fD:gY X π H D) (fS:gY X π H kS) (gD:D∉iL X.stack) (gS:kS∉iL X.stack) (sD:X.s₀.heap.objs.size<=D) (sS:X.s₀.heap.objs.size<=kS)
  (q:∀H2 s2(out:aF)c,Inv X π σ H2 s2->Same H H2->H2 D=aj->s2.heap.get? D=aa (cH "list" out.toArray c)->KskOut ab ks its out->P (.done (.ret .none)) s2) :
  av (model X.prog X.w) X.A.in1.in1 (ksk_rest D (.ref f) ab its.toArray e1 (.ref kS)) P E s:=by
 have hlen:=FU hk;have l1:=rs.length;have l2:=rv.length;unfold ksk_rest;refine ai (dI ?_);rw[List.forIn_toArray];refine ai (ksk_fold (λi s'=>∃H1 kA e,Inv X π σ H1 s'/\Same H H1/\H1 D=aj/\H1 kS=aj/\s'.heap.get? D=aa (cH "list" #[] e1)/\s'.heap.get? kS=aa (cH "list" kA e)/\IntsAre kA.toList (ks.take i)) its 0 s
  ⟨H,#[],0,I,Same.refl H,fD.1,fS.1,hD,hS,by simpa using IntsAre.nil⟩ ?step ?done)
 case step=>
  rintro j u s' hu ⟨H1,kA,e,I1,sm,d1,d2,o1,o2,hka⟩;simp only[uu]at hka|-;have hj:j<its.length:=(vv.mp hu).1;obtain⟨n,hn⟩:∃n,ks[j]?=aa n:=⟨_,wa ()⟩;obtain⟨d,hd⟩:∃d,ds[j]?=aa d:=⟨_,wa ()⟩;obtain⟨v,hv,rd⟩:=rs.get hd;obtain⟨u',hu',ru⟩:=rv.get hv;rw[hu]at hu';cases hu';have hz:kA.size<=its.length:=by
    have h1:=hka.length;rw[dP,vy]at h1;rfl'
  refine ai (cJ (z53 F hr hb I1 ru (Rp.mono _ sm rd) (Lh hk hd hn) λt H2 s2 I2 sm2 kk=>?_));obtain⟨p1,p2⟩:=kk D _ o1 d1 gD;obtain⟨p3,p4⟩:=kk kS _ o2 d2 gS
  try dsimp only
  have sb:=df s2.heap kS (cz (·.push (.int n t)));have g2:=get?_update_seq p3 (·.push (.int n t));have ek:ks.take (j+1)=ks.take j++[n]:=by rw[w1q,hn];simp
  have ea:(kA.push (dG n t)).toList=kA.toList++[dG n t]:=by simp
  refine ai (listUpdate_at p3 rfl ?_ (by rw[cw];rfl') (wO (Nat.le_of_eq (Array.size_push ..)) (by rw[cw];rfl')));have fS2:gY X π H2 kS:=⟨p4,fS.2⟩;refine ax ⟨rfl,H2,kA.push (.int n t),_,I2.turnedL (t':=s2.toks) (ch:=[kS]) (λb o hb e=>(sb.2 b (by simpa using hb)).trans e) (λb hb=>by rw[ve.mp hb];exact fS2),sm.trans sm2,p2,p4,(sb.2 D (bR nDS)).trans p1,g2,by rw[ea,ek];exact ksk_snoc hka⟩
 case done =>
  rintro s' ⟨H1,kA,e,I1,sm,d1,d2,o1,o2,hka⟩;have hk':IntsAre kA.toList ks:=by
    rw[uv ()]at hka;exact hka
  try dsimp only
  refine ai (listItems_at o2 rfl ?_);obtain⟨m,hfr⟩:=I1.fr;have fD1:gY X π H1 D:=⟨d1,fD.2⟩;have fS1:gY X π H1 kS:=⟨d2,fS.2⟩;have bD:X.base.get? D=aj:=w0l (wO I.ok.bsz sD);have bS:X.base.get? kS=aj:=w0l (wO I.ok.bsz sS);refine ksk_end_ (e:=e) (news:=Lg X.base X.env.locals kS D s'.heap) hfr (λz hz=>?_) nDS (λz hz=>(Iq hz).2.2.2.1) (λz hz=>(Iq hz).2.2.2.2) hk' () () λh' tk out c F' N' ko=>?_
  .rcases ww.mp hz with hz|hz
   .obtain⟨z1,z2,z3,_⟩:=Iq hz;exact⟨z1,z3,z2⟩
   .rcases wB.mp hz with rfl|hz
    .exact⟨o2,fS1.2.1,bS⟩
    .rw[ve.mp hz];exact⟨o1,fD1.2.1,bD⟩
  .have nd:=N' (D,cH "list" out c) wf;refine q H1 _ out.toList c (I1.turnedN (t':=tk) (ch:=[kS,D]) hfr.ns F'.ns (by obtain⟨o,_,_,e,_⟩:=F'.ns;exact⟨o,e⟩) (λb o hb hl eb=>?_) (λb hb=>?_)) sm d1 nd.1 ko
   .have hb2:b≠kS/\b≠D:=by simpa using hb
    cases z:X.base.get? b with
    | some o' =>
      have e2:=I1.bk b o' z;rw[eb]at e2;cases e2;exact F'.keep b _ z
    |none=>exact(N' _ (wc _ (TM eb z hl hb2.1 hb2.2))).1
   .rcases wB.mp hb with rfl|hb
    .exact fS1
    .rw[ve.mp hb];exact fD1
theorem z0b{D:Addr}{n0:Nat}{its:aF}{P:PySem.Fin->Shared->Prop}{E:aC}(F:FnOk X.prog X.w X.K X.mg X.base CX0 k f fd [p] (iT X.K fr ct))(hr:Room (k+2) X.A)(hb:Binds X.K fd [p] [])(I:Inv X π σ H s)(rv:Vals vs its)(rs:Rps X.K emp ds H vs)(hk:X0 ct ds=aa ks)(h64:ds.length<64)
  (hD:s.heap.get? D=aa (cH "list" its.toArray n0)) (fD:gY X π H D) (gD:D∉iL X.stack) (sD:X.s₀.heap.objs.size<=D)
  (q:∀H2 s2(out:aF)c,Inv X π σ H2 s2->Same H H2->H2 D=aj->s2.heap.get? D=aa (cH "list" out.toArray c)->KskOut ab ks its out->P (.done (.ret .none)) s2) :
  av (model X.prog X.w) X.A.in1.in1 (ksk_tree D (.ref f) ab) P E s:=by
 have l1:=rs.length;have l2:=rv.length;have hlt:D<s.heap.objs.size:=wD hD;unfold ksk_tree;refine ai (listItems_at hD rfl ?_);have sb:=df s.heap D (cz λ_=>(#[]:fE));have o1:=get?_update_seq hD λ_=>(#[]:fE);refine ai (listUpdate_at hD rfl ?_ (by rw[wL,cw];rfl') (vh _));have I1:Inv X π σ H { s with heap:=s.heap.update D (cz λ_=>(#[]:fE)) }:=I.turnedL (t':=s.toks) (ch:=[D]) (λb o hb e=>(sb.2 b (by simpa using hb)).trans e) (λb hb=>by rw[ve.mp hb];exact fD);refine ai (seqEpoch_at o1 rfl ?_);refine ai (wpAny_newTuple ?_ (by show its.length<=_;rw[cw];rfl'));refine ai (wpAny_newList ?_ (vh _));refine cI ?_;generalize hg:s.heap.update D (cz λ_=>(#[]:fE))=g at *;have zg:g.objs.size=s.heap.objs.size:=sb.1;have I2:Inv X π σ H { s with heap:=(g.push (cH "tuple" its.toArray 0)).push (cH "list" #[] 0) }:=I1.kept (t':=s.toks) λb o e=>wm _ (wm _ e);have zk:(g.push (cH "tuple" its.toArray 0)).objs.size=g.objs.size+1:=size_push' _ _;have ge:s.heap.objs.size<=(g.push (cH "tuple" its.toArray 0)).objs.size:=()
 refine z0a (s:={ s with heap:=(g.push (cH "tuple" its.toArray 0)).push (cH "list" #[] 0) }) (kS:=(g.push (cH "tuple" its.toArray 0)).objs.size) F hr hb I2 rv rs hk h64 (wm _ (wm _ o1)) (wH _ rfl) (w07 (wG hlt ge)) fD (I.fpOk ge (I.hok.fresh ge)) gD (λz=>?_) sD (wO I.sz ge) q;exact aM (wG (tJ I z) ge) (vG _)
theorem TN(F:FnOk X.prog X.w X.K X.mg X.base CX0 k f fd [p] (iT X.K fr ct))(hr:Room (k+2) X.A)(hb:Binds X.K fd [p] [])(I:Inv X π σ H s)(hl:H l=aa (.lst vs))(rs:Rps X.K emp ds H vs)(hk:X0 ct ds=aa ks)(h64:ds.length<64)(nd:ks.Nodup)
  (q:∀D H2 ys,Same H H2->H2 D=aj->Rps X.K emp ((X4 (ks.zip ds)).map (·.2)) H2 ys->Q (.ref D) (upd H2 D (.lst ys))) :
  av (model X.prog X.w) X.A (call (.builtin "sorted") [.ref l] [(bo "key",.ref f)]) (EP X π σ Q) X.xe s:=by
 obtain⟨its,rv,pl,hz⟩:=I.list (SqL.of (K:=X.K) hl);have l1:=rs.length;have l2:=rv.length;have l3:=FU hk;refine call_function_entry_kw kind_sorted plain_sorted entry_sorted (ksk_s1 _ _) ?_;unfold Builtin.«sorted»;refine ai (m:=checkCount "sorted" 1 1 _) (ax ?_);refine ai (collect_list pl.isList ?_ (by rw[cw];rfl'));refine ai (wpAny_newList ?_ (by rw[cw];rfl'));generalize hg:(s.heap.push (cH "list" #[] 0)).update s.heap.objs.size (cz (·++its.toArray))=g;have zg:g.objs.size=s.heap.objs.size+1:=by rw[<-hg,Heap.size_update,size_push']
 have kg:∀b o,s.heap.get? b=aa o->g.get? b=aa o:=λb o e=>by
  have hlt:=wD e;rw[<-hg,Heap.get?_update_ne _ _ _ _ (vt hlt),w1p _ _ _ (vt hlt)];exact e
 have I1:Inv X π σ H { s with heap:=g.push (cH "list" its.toArray 0) }:=I.kept (t':=s.toks) λb o e=>wm _ (kg b o e);have oD:(g.push (cH "list" its.toArray 0)).get? g.objs.size=aa (cH "list" its.toArray 0):=wH _ rfl;have ge:s.heap.objs.size<=g.objs.size:=()
 refine ai (cI (wpAny_call_entry_kw slot_list_sort ⟨_,oD,rfl⟩ entry_list_sort ?body (ksk_l1 _ _)))
 case body =>
  show av (model X.prog X.w) X.A.in1.in1 (Builtin.«list.sort» ⟨[.ref g.objs.size],[(bo "key",.ref f)]⟩) _ _ _;rw[ksk_t1];refine z0b (s:={ s with heap:=g.push (cH "list" its.toArray 0) }) F hr hb I1 rv rs hk h64 oD (I.fpOk ge (I.hok.fresh ge)) (λz=>aM (wG (tJ I z) ge) (vG _)) (wO I.sz ge) λH2 s2 out c I2 sm d2 o2⟨ps,pp,eo,so⟩=>⟨_,rfl,?_⟩;refine ax ⟨_,rfl,?_⟩;have key:∃ts:List (Int×(Dt×(V×Value))),(ts.map λt=>(t.1,t.2.2.2))=ps/\(ts.map λt=>(t.1,t.2.1))=X4 (ks.zip ds)/\∀t∈ts,Rp X.K emp t.2.1 H t.2.2.1/\RelV t.2.2.1 t.2.2.2:=by
   refine⟨X4 (ks.zip (ds.zip (vs.zip its))),?_,?_,λt ht=>?_⟩
   .have e1:ks.zip its=(ks.zip (ds.zip (vs.zip its))).map λt=>(t.1,t.2.2.2):=by
     apply vz
     .simp;rfl'
     .intro i h1 h2;simp
    rw[<-EA (λz:Dt×(V×Value)=>z.2.2),<-e1];refine Lf ((P6 _).trans pp.symm) (Cy _) (so.imp λh=>by simpa using h) ?_;have:((X4 (ks.zip its)).map (·.1)).Perm ks:=((P6 (ks.zip its)).map _).trans (by rw[List.map_fst_zip ()]);exact this.nodup_iff.mpr nd
   .have e1:ks.zip ds=(ks.zip (ds.zip (vs.zip its))).map λt=>(t.1,t.2.1):=by
     apply vz
     .simp;rfl'
     .intro i h1 h2;simp
    rw[<-EA (λz:Dt×(V×Value)=>z.1),<-e1]
   .have ht:=(P6 _).mem_iff.mp ht;obtain⟨i,hi,e⟩:=wI ht;simp at hi;subst e;simp only[List.getElem_zip];obtain⟨v,e1,r1⟩:=rs.get (i:=i) (wa ());obtain⟨u,e2,r2⟩:=rv.get e1;rw[wa ()]at e1 e2;cases e1;cases e2;exact⟨r1,r2⟩
  obtain⟨ts,k1,k2,k3⟩:=key;have ev:Vals (ts.map λt=>t.2.2.1) out:=by
   rw[eo,<-k1,wM];clear k1 k2 eo
   induction ts with
   |nil=>exact .nil
   |cons t ts ih=>exact .cons (k3 t wf).2 (ih λz hz=>k3 z (wc _ hz))
  have er:Rps X.K emp ((X4 (ks.zip ds)).map (·.2)) H (ts.map λt=>t.2.2.1):=by
   rw[<-k2,wM];clear k1 k2 eo ev
   induction ts with
   |nil=>exact Rps.nil_.mpr rfl
   |cons t ts ih=>exact Rps.cons_.mpr ⟨_,_,rfl,(k3 t wf).1,ih λz hz=>k3 z (wc _ hz)⟩
  have lt:(ts.map λt=>t.2.2.1).length<=sizeLine:=by
   rw[wn,<-wn (f:=λt:Int×(Dt×(V×Value))=>(t.1,t.2.1)),k2,(P6 _).length_eq,List.length_zip,cw];rfl'
  exact⟨.ref g.objs.size,_,I2.track d2 ⟨d2,(I.fpOk ge (I.hok.fresh (H:=H) ge)).2⟩ (wO I.sz ge) (by simpa using o2) ev lt,rfl,q _ _ _ sm d2 (Rps.mono _ sm er)⟩
end
section
variable {X:Cx}{a:az}{Fa:FE}{k:Nat}{f:Addr}{fd:aq}{prm:Str}{fr:Bool}{ct:FC}{x:Str}{p pos kp kpos:Pos}
def FV(c:FC)(F:FE):FE:=λρ=>(F ρ).bind λx=>(lstD x.2).bind λds=>(X0 c ds).bind λks=>if ds.length<64/\ks.Nodup then aa (gM ((X4 (ks.zip ds)).map (·.2))) else aj
theorem z54(F:FnOk X.prog X.w X.K X.mg X.base CX0 k f fd [prm] (iT X.K fr ct))(hr:Room (k+2) X.A)(hg:Gl X "sorted")(hm:X.mg "sorted"=aj)(hf:X.mg x=aa (.ref f))(hgf:Gl X x)(hb:Binds X.K fd [prm] [])(ha:PF X a Fa)(hd:(x==("__debug__":Str))=ab:=by decide)(hs:au [a] X.env=[(ab,eval a X.env)]:=by rfl):
   PF X (.Call (.Name "sorted" p) [a] [⟨aa "key",.Name x kp,kpos⟩] pos) (FV ct Fa):=by
 intro π s σ H Q I ⟨ρ,fz,dz,rs,e0,kk⟩;obtain⟨⟨fa,da⟩,ea,e1⟩:=i9 e0;obtain⟨ds,ed,e2⟩:=i9 e1;obtain⟨ks,ek,e3⟩:=i9 e2;split at e3
 .rename_i hh;cases e3;have hA:PA X [a] (jb X (b7 Fa fNil)):=i8 ha i7 hs;refine bL (Ck I hg hm (by decide +kernel:bq "sorted"=aa (.builtin "sorted")) ?_);refine PyProof.Rows.callWith_kw (gF (hA pos π s σ H (λvs H1=>Same H H1/\∃va,vs=[va]/\Rp X.K emp da H1 va) I ⟨ρ,[(fa,da)],rs,by simp[b7,fNil,ea],λvs H1 s1⟨va,r1,ee1,q1,q3⟩=>⟨s1,va,by rw[ee1,show r1=[]from q3],q1.sh⟩⟩) λus s1⟨vs,H1,I1,rv,s1H,va,ev,ra⟩=>?_) (by rw[hs];rfl) (by rw[hs];rfl) rfl rfl;subst ev;obtain⟨ua,rfl,rua⟩:=rv.one;have hkw:=Yx (X:=X) (nm:=aa "key") (kpos:=kpos) (Yu (v:=V.ref f) (pos:=kp) hgf hf rfl hd) z1c;refine gF (hkw pos π s1 σ H1 (λzs H2=>zs=[.ref f]/\H2=H1) I1 ⟨rfl,rfl⟩) ?_;rintro kvs s2 ⟨zs,H2,I2,rz,ez,eH⟩;subst ez;subst eH;obtain⟨uk,rfl,ruk⟩:=rz.one;cases ruk;have ex:∃l vs,va=.ref l/\H2 l=aa (.lst vs)/\Rps X.K emp ds H2 vs:=by
   cases da<;>first|cases ed|skip
   obtain⟨l,vs,e,_,h1,h2⟩:=ra.items;exact⟨l,vs,e,h1,h2⟩
  obtain⟨l,vs,rfl,h1,h2⟩:=ex;cases rua;refine TN F hr hb I2 h1 h2 ek hh.1 hh.2 λD H3 ys sm d3 r3=>kk _ _ (s1H.trans (sm.trans (J0 d3))) ?_;exact(GM d3 r3).early (s1H.trans sm)
 .cases e3
end
end L2
end
section
namespace L2
abbrev L(ns:aH):Dt:=.lst (ns.map .int)
abbrev T(ns:aH):Dt:=.tup (ns.map .int)
theorem v4{α β:Type}{a:α}{f:α->Option β}:(aa a).bind f=f a:=rfl
theorem YL{α:Type}{xs:List α}{i:Int}(h0:0<=i):gJ xs i=xs[i.toNat]?:=by
 unfold gJ iD;rw[ak h0];by_cases h:i<xs.length
 .rw[ak h];rfl
 .rw[ao h,wW ()];rfl
theorem atI_c0{α:Type}{x:α}{xs:List α}:gJ (x::xs) 0=aa x:=X6 (j:=0) rfl
theorem atI_c1{α:Type}{x y:α}{xs:List α}:gJ (x::y::xs) 1=aa y:=X6 (j:=1) rfl
theorem atI_c2{α:Type}{x y z:α}{xs:List α}:gJ (x::y::z::xs) 2=aa z:=X6 (j:=2) rfl
theorem Al:∀ns:aH,L8 (ns.map Dt.int)=af
 |[]=>rfl
 |n::ns=>by rw[wx,L8,Al ns];rfl
theorem Y7:∀(k:Nat)(ns:aH),oksN k (ns.map Dt.int)=af
 |k,[]=>by cases k<;>rfl
 |k,n::ns=>by rw[wx,oksN,Y7 k ns];cases k<;>rfl
theorem BE:∀ns:aH,pys (ns.map Dt.int)=ns.map dM
 |[]=>rfl
 |n::ns=>by rw[wx,pys,BE ns];rfl
theorem AU:∀ns ms:aH,dE (ns.map dM) (ms.map dM)=decide (ns=ms)
 |[],[]=>by simp[dE]
 |[],m::ms=>by simp[dE]
 |n::ns,[]=>by simp[dE]
 |n::ns,m::ms=>by
  rw[wx,wx,dE,AU ns ms,dq,w12];simp
theorem Ir(ns ms:aH):opEq (L ns) (L ms)=aa (.nw,.bl (decide (ns=ms))):=by
 unfold opEq L;rw[Dt.okN,Dt.okN,Y7,Y7];unfold mD;rw[Dt.py,Dt.py,BE,BE,dq,AU];rfl
theorem Iu(ns ms:aH):opNe (L ns) (L ms)=aa (.nw,.bl (!decide (ns=ms))):=by
 unfold opNe L;rw[Dt.okN,Dt.okN,Y7,Y7];unfold mD;rw[Dt.py,Dt.py,BE,BE,dq,AU];rfl
theorem z55(ns:aH):(Dt.scr ns).okN 8=af:=by simp[Dt.okN]
theorem Rq(ns ms:aH):opEq (.scr ns) (L ms)=aa (.nw,.bl (decide (ns=ms))):=by
 unfold opEq;rw[z55];unfold L;rw[Dt.okN,Y7];unfold mD;rw[Dt.py,Dt.py,BE,dq,AU];rfl
theorem v6(i j:Int):opEq (.int i) (.int j)=aa (.nw,.bl (decide (i=j))):=by
 unfold opEq mD;rw[Dt.py,Dt.py,dq,w15];rfl
theorem A7(i j:Int):opNe (.int i) (.int j)=aa (.nw,.bl (!decide (i=j))):=by
 unfold opNe mD;rw[Dt.py,Dt.py,dq,w15];rfl
theorem JD{i j:Int}(h:j.natAbs<2^64):E4 i j=af:=by unfold E4;rw[aL h];simp
theorem S4{i j:Int}(h:i.natAbs<2^64):E4 i j=af:=by unfold E4;rw[aL h];simp
section
variable (i j:Int)
end
def u9(ns:aH)(k:Int):Int:=if k<ns.length then ns.getD k.toNat 0 else if ns=[] then 0 else ns.getD (k.fmod ns.length).toNat 0*31+k
end L2
end
section
namespace L2
section
variable {α β γ:Type}{g:Tg}{Fc:FT}{Fe:FE}{ρ0:gI}
theorem Iv(e:α->Dt)(h:α->Dv):∀(xs:List α),(∀x∈xs,(g.put (e x) ρ0).bind Fe=aa (h x))->Dy g fYes Fe ρ0 (xs.map e)=aa (xs.map h)
 |[],_=>rfl
 | x::xs,q=>by
  have q1:=q x wf;have ih:=Iv e h xs λy hy=>q y (wc _ hy);rw[wx,Dy];cases p:g.put (e x) ρ0 with
  |none=>rw[p]at q1;cases q1
  |some ρ1=>
   rw[p]at q1;have q1:Fe ρ1=aa (h x):=q1;simp[fYes,q1,ih]
theorem Cz(e:α->Dt)(h:α->Dv)(p:α->Bool):∀(xs:List α),(∀x∈xs,(g.put (e x) ρ0).bind Fc=aa (p x))->(∀x∈xs,p x=af->(g.put (e x) ρ0).bind Fe=aa (h x))->Dy g Fc Fe ρ0 (xs.map e)=aa ((xs.filter p).map h)
 |[],_,_=>rfl
 | x::xs,q,q'=>by
  have q1:=q x wf;have q2:=q' x wf;have ih:=Cz e h p xs (λy hy=>q y (wc _ hy)) (λy hy=>q' y (wc _ hy));rw[wx,Dy];cases z:g.put (e x) ρ0 with
  |none=>rw[z]at q1;cases q1
  | some ρ1 =>
   rw[z]at q1 q2;have q1:Fc ρ1=aa (p x):=q1;cases w:p x with
   |true=>
    have q2:Fe ρ1=aa (h x):=q2 w;simp[q1,w,q2,ih]
   |false=>simp[q1,w,ih]
theorem Dz(h:α->Dv):∀xs:List α,sndL (xs.map h)=xs.map λx=>(h x).2
 |[]=>rfl
 |x::xs=>by rw[wx,sndL,Dz h xs];rfl
theorem Iw{h:α->Dv}:∀{xs:List α},(∀x∈xs,(h x).1.isFr=af)->AO (xs.map h)=af
 |[],_=>rfl
 |x::xs,q=>by rw[wx,AO,q x wf,Iw λy hy=>q y (wc _ hy)];rfl
theorem k7{nt:Nat}{js:fu}{Fi:FI}{ρ:gI}{e:α->Dt}{h:α->Dt}{xs:List α}(hi:Fi ρ=aa (xs.map e))(q:∀x∈xs,(g.put (e x) (sigD nt js ρ)).bind Fe=aa (.nw,h x)):j8 nt js Fi g fYes Fe ρ=aa (.nw,.lst (xs.map h)):=by
 unfold j8;rw[hi,v4,Iv e (λx=>(.nw,h x)) xs q,v4,Iw (λx _=>rfl),Dz];rfl
theorem S5{nt:Nat}{js:fu}{Fi:FI}{ρ:gI}{e:α->Dt}{h:α->Dt}{p:α->Bool}{xs:List α}(hi:Fi ρ=aa (xs.map e))(q:∀x∈xs,(g.put (e x) (sigD nt js ρ)).bind Fc=aa (p x))(q':∀x∈xs,p x=af->(g.put (e x) (sigD nt js ρ)).bind Fe=aa (.nw,h x)):
  j8 nt js Fi g Fc Fe ρ=aa (.nw,.lst ((xs.filter p).map h)):=by
 unfold j8;rw[hi,v4,Cz e (λx=>(.nw,h x)) p xs q q',v4,Iw (λx _=>rfl),Dz];rfl
theorem Li{nt:Nat}{js:fu}{Fi:FI}{ρ:gI}{e:α->Dt}{h:α->Dv}{xs:List α}(hi:Fi ρ=aa (xs.map e))(q:∀x∈xs,(g.put (e x) (sigD nt js ρ)).bind Fe=aa (h x)):j8 nt js Fi g fYes Fe ρ=aa (if AO (xs.map h) then .nw else .tn,.lst (xs.map λx=>(h x).2)):=by
 unfold j8;rw[hi,v4,Iv e h xs q,v4,Dz]
variable {F:FS}
def ot(G:FS):Oc->Option Oc
 |.nx ρ=>G ρ
 |.ct ρ=>G ρ
 |.bk ρ=>aa (.nx ρ)
 |.rt f d=>aa (.rt f d)
 |.ex C=>aa (.ex C)
theorem z1O{ρ:gI}:gk g F [] ρ=aa (.nx ρ):=rfl
theorem F0{x:Dt}{xs:fK}{ρ:gI}:gk g F (x::xs) ρ=((g.put x ρ).bind F).bind (ot (gk g F xs)):=by
 rw[gk];cases g.put x ρ with
 |none=>rfl
 |some ρ1=>
  show(F ρ1).bind _=(F ρ1).bind _;congr 1
  first|done|(funext oc;cases oc<;>rfl)
theorem BG(e:α->Dt)(R:β->γ->gI)(step:β->α->β):∀(xs:List α)(b:β)(j:γ),(∀b x j,x∈xs->∃j',(g.put (e x) (R b j)).bind F=aa (.nx (R (step b x) j')))->∃j',gk g F (xs.map e) (R b j)=aa (.nx (R (xs.foldl step b) j'))
 |[],b,j,_=>⟨j,rfl⟩
 |x::xs,b,j,h=>by
  obtain⟨j1,h1⟩:=h b x j wf;obtain⟨j2,h2⟩:=BG e R step xs (step b x) j1 λb y j hy=>h b y j (wc _ hy);refine⟨j2,?_⟩;rw[wx,F0,h1];exact h2
theorem FY(e:α->Dt)(R:β->γ->gI)(step:β->α->β)(P:β->Prop):∀(xs:List α)(b:β)(j:γ),P b->(∀b x j,x∈xs->P b->P (step b x)/\∃j',(g.put (e x) (R b j)).bind F=aa (.nx (R (step b x) j')))->P (xs.foldl step b)/\∃j',gk g F (xs.map e) (R b j)=aa (.nx (R (xs.foldl step b) j'))
 |[],b,j,p,_=>⟨p,j,rfl⟩
 |x::xs,b,j,p,h=>by
  obtain⟨p1,j1,h1⟩:=h b x j wf p;obtain⟨p2,j2,h2⟩:=FY e R step P xs (step b x) j1 p1 λb y j hy=>h b y j (wc _ hy);refine⟨p2,j2,?_⟩;rw[wx,F0,h1];exact h2
end
abbrev LL(rows:aA):Dt:=.lst (rows.map L)
abbrev oX(rows:aA):Dt:=.tup (rows.map T)
abbrev k6(k:Int)(bills:aA):Dt:=.tup [.int k,oX bills]
theorem tI(ns:aH):(T ns).flat=af:=by show L8 _=af;exact Al ns
theorem NL:∀rows:aA,L8 (rows.map T)=af
 |[]=>rfl
 |r::rows=>by rw[wx,L8,tI,NL rows];rfl
theorem oq(f:Fl)(ns:aH):nrm f (T ns)=(.nw,T ns):=by unfold nrm;rw[tI];rfl
theorem z1Q(ns:aH):ji (ns.map .int)=.nw:=by unfold ji;rw[Al];rfl
theorem Q1(ns:aH):gM (ns.map .int)=(.nw,L ns):=by unfold gM;rw[z1Q]
theorem EB{α:Type}(h:α->Bool):∀xs:List α,Fq (xs.map λx=>.bl (h x))=aa (xs.map h)
 |[]=>rfl
 |x::xs=>by rw[wx,Fq,EB h xs];rfl
theorem JE:∀xs:aH,Cr (xs.map .int)=aa xs
 |[]=>rfl
 |x::xs=>by rw[wx,Cr,JE xs];rfl
theorem Am{α β:Type}(e:α->Dt)(f:β->Dt):∀(xs:List α)(ys:List β),zipD (xs.map e) (ys.map f)=(xs.zip ys).map λp=>.tup [e p.1,f p.2]
 |[],ys=>by simp[zipD]
 |x::xs,[]=>by simp[zipD]
 |x::xs,y::ys=>by rw[wx,wx,zipD,Am e f xs ys];rfl
theorem o9(lo:Int)(n:Nat):L9 lo n=(ah n).map λ(k:Nat)=>.int (lo+(k:Int)):=rfl
theorem B4(c:Int){m:Int}(h:0<m):0<=c.fmod m/\c.fmod m<m:=⟨ud c h,uC c h⟩
def Fx(c m:Int):Int:=
 if m=2 then(if((c.fdiv (10^30)).fmod 2)=1 then -(c.fmod (10^30)) else c.fmod (10^30))
 else
  let wide:Int:=if m=0 then 9 else 61
  let n:=c.fmod wide
  if wide.fdiv 2<n then n-wide else n
theorem JF(c m:Int)(h:m=0):(Fx c m).natAbs<=4:=by
 subst h;unfold Fx;have b1:=ud c (show(0:Int)<9 by decide);have b2:=uC c (show(0:Int)<9 by decide);simp;split<;>rfl'
theorem z0c(c m:Int)(h:m=1):(Fx c m).natAbs<=30:=by
 subst h;unfold Fx;have b1:=ud c (show(0:Int)<61 by decide);have b2:=uC c (show(0:Int)<61 by decide);simp;split<;>rfl'
def A8(ns:aH)(at_:Int)(n:Nat)(m:Int):aH:=(ah n).map λ(k:Nat)=>Fx (u9 ns (at_+(k:Int))) m
theorem Y8(ns:aH)(a:Int)(n:Nat)(m:Int):(A8 ns a n m).length=n:=by unfold A8;simp
end L2
end
section
local macro_rules|`(tactic|rfl')=>`(tactic|first|lia|omega +splitDisjunctions)
namespace L2
def gy(a b:aH):aH:=bQ (·+·) a b
def gq(a b:aH):aH:=bQ (· - ·) a b
def gh(k:Int)(a:aH):aH:=a.map (k*·)
def l9(n:Nat):aH:=aP n 0
def gB(n:Nat)(rows:aA)(cs:aH):aH:=(rows.zip cs).foldl (λt p=>gy t (gh p.2 p.1)) (l9 n)
def isWh:Dt->Bool
 |.int _=>af
 |_=>ab
theorem S6{a b:aH}(h:a.length=b.length):(gy a b).length=a.length:=by unfold gy;rw[uf];rfl'
theorem BH{a b:aH}(h:a.length=b.length):(gq a b).length=a.length:=by unfold gq;rw[uf];rfl'
theorem A0{k:Int}{a:aH}:(gh k a).length=a.length:=by unfold gh;simp
theorem C4{n:Nat}:(l9 n).length=n:=by unfold l9;simp
theorem K4{i j:Int}{p q:Nat}(h1:i.natAbs<2^p)(h2:j.natAbs<2^q)(h:p+q<=134217728):E4 i j=af:=by
 unfold E4;have a:=Pu h1;have b:=Pu h2;rw[aL (show bB i+bB j<=134217728 by rfl')];rfl
theorem qy{i:Int}(h:i.natAbs<10^30):i.natAbs<2^100:=wG h (by decide)
theorem z1R(a b:aH):(a.zip b).map (λp=>Dt.int (p.1+p.2))=(gy a b).map .int:=by
 unfold gy;rw[List.zip,]
 induction a generalizing b with
 |nil=>rfl
 |cons x a ih=>cases b with
  |nil=>rfl
  |cons y b=>have:=ih b;simp[bQ]
theorem z0d(a b:aH):(a.zip b).map (λp=>Dt.int (p.1-p.2))=(gq a b).map .int:=by
 unfold gq;rw[List.zip,]
 induction a generalizing b with
 |nil=>rfl
 |cons x a ih=>cases b with
  |nil=>rfl
  |cons y b=>have:=ih b;simp[bQ]
theorem An{α β:Type}(g:α->β)(xs:List α)(i:Int):gJ (xs.map g) i=(gJ xs i).map g:=by
 unfold gJ;rw[wn];cases iD xs.length i with
 |none=>rfl
 |some j=>show(xs.map g)[j]?=_;rw[wv];rfl
theorem tH{α:Type}{xs:List α}{i:Nat}(h:i<xs.length):gJ xs (i:Int)=aa xs[i]:=X6 (wa h)
def Wide(n:Nat)(rows:aA):Prop:=∀r∈rows,r.length=n
theorem Rr{n:Nat}:∀(ps:List (aH×Int))(t:aH),t.length=n->(∀p∈ps,p.1.length=n)->(ps.foldl (λt p=>gy t (gh p.2 p.1)) t).length=n
 |[],t,h,_=>h
 |p::ps,t,h,q=>Rr ps _ (by rw[S6 (by rw[h,A0,q p wf])];exact h) λp hp=>q p (wc _ hp)
theorem BJ{n:Nat}{rows:aA}{cs:aH}(h:Wide n rows):(gB n rows cs).length=n:=
 Rr _ _ C4 λp hp=>h _ (vR hp).1
theorem z0e(a b:aH)(h:a.length=b.length)(f:Int->Int->Int):(ah a.length).map (λk=>f (a.getD k 0) (b.getD k 0))=bQ f a b:=by
 apply vz
 .simp;rfl'
 .intro i h1 h2;simp at h1;simp[am,wa h1,wa (show i<b.length by rfl')]
theorem tG(d:Dt):nrm .nw d=(.nw,d):=by unfold nrm;split<;>rfl
theorem run{F G:FS}{ρ ρ':gI}{r:Option Oc}(h:F ρ=aa (.nx ρ'))(k:G ρ'=r):sSeq F G ρ=r:=by
 unfold sSeq;rw[h];exact k
theorem I0{np n:Nat}{fr:Bool}{F:FS}{ds:fK}{f:Fl}{d:Dt}(hl:ds.length=np)(h:F (rho0 n ds)=aa (.rt f d))(hf:(f.isFr||d.flat)=af):fQ np n fr F ds=aa d:=by
 unfold fQ;rw[ak hl,h];show(if(fr&&!(f.isFr||d.flat))=af then aj else aa d)=aa d;rw[hf];cases fr<;>rfl
theorem CA{n:Nat}(h:n<=1000000):Ah (n:Int)=af:=by
 unfold Ah;rw[aL (show -1000000<=(n:Int) by rfl'),aL (show(n:Int)<=1000000 by rfl')];rfl
theorem z0f(rows:aA)(cs:aH)(h:rows.length=cs.length):(ah rows.length).map (λj=>(rows.getD j [],cs.getD j 0))=rows.zip cs:=by
 apply vz
 .simp;rfl'
 .intro i h1 h2;simp at h1;simp[am,wa h1,wa (show i<cs.length by rfl')]
theorem TQ(n:Nat)(rows:aA)(cs:aH)(h:rows.length=cs.length):(ah rows.length).foldl (λt j=>gy t (gh (cs.getD j 0) (rows.getD j []))) (l9 n)=gB n rows cs:=by
 unfold gB;rw[<-z0f rows cs h,w1Y]
theorem tE(a b:aH)(k:Int)(h:a.length=b.length):(ah a.length).map (λi=>a.getD i 0+k*b.getD i 0)=gy a (gh k b):=by
 unfold gy gh;rw[w0W];exact z0e a b h λx y=>x+k*y
theorem pX(f:Nat->Int)(n:Nat):(ah n).map (λk=>Dt.int (f k))=((ah n).map f).map .int:=by rw[wM];rfl
theorem GR{α:Type}{xs:List α}{i:Nat}(d:α)(h:i<xs.length):xs.getD i d∈xs:=by
 simp[am,wa h]
theorem M0{α:Type}{xs:List α}{i:Nat}(d:α)(h:i<xs.length):gJ xs (i:Int)=aa (xs.getD i d):=by
 rw[tH h];simp[am,wa h]
end L2
end
section
namespace L2
@[simp] def x0:=@rho0.eq_1
@[simp] def x1:=@sSeq.eq_1
@[simp] def x2:=@seqO.eq_1
@[simp] def x3:=@seqO.eq_2
@[simp] def x4:=@sIf.eq_1
@[simp] def x5:=@n4.eq_1
@[simp] def x6:=@fOp.eq_1
@[simp] def x7:=@fN.eq_1
@[simp] def x8:=@YB.eq_1
@[simp] def x10:=@Cell.val.eq_3
@[simp] def x11:=@Cell.val.eq_4
@[simp] def x12:=@flOf.eq_1
@[simp] def x13:=@fBlt.eq_1
@[simp] def x14:=@b7.eq_1
@[simp] def x15:=@fNil.eq_1
@[simp] def x16:=@sndL.eq_1
@[simp] def x17:=@sndL.eq_2
@[simp] def x18:=@bLen.eq_1
@[simp] def x19:=@bLen.eq_2
@[simp] def x20:=@bLen.eq_3
@[simp] def x22:=@blD.eq_1
@[simp] def x25:=@truD.eq_2
@[simp] def x30:=@sRet.eq_1
@[simp] def x31:=@w8.eq_1
@[simp] def x32:=@fAt.eq_1
@[simp] def x33:=@opAt.eq_1
@[simp] def x34:=@fLst.eq_1
@[simp] def x35:=@fTup.eq_1
@[simp] def x37:=@Fl.item.eq_2
@[simp] def x38:=@fC.eq_1
@[simp] def x39:=@fTru.eq_1
@[simp] def x40:=@fNot.eq_1
@[simp] def x41:=@fAnd.eq_1
@[simp] def x42:=@fOr.eq_1
@[simp] def x43:=@vAnd.eq_1
@[simp] def x45:=@vNot.eq_1
@[simp] def x46:=@fNeg.eq_1
@[simp] def x47:=@fIf.eq_1
@[simp] def x48:=@fIsi.eq_1
@[simp] def x49:=@QY.eq_1
@[simp] def x50:=@tyN.eq_1
@[simp] def x51:=@tyN.eq_2
@[simp] def x52:=@tyN.eq_3
@[simp] def x53:=@tyN.eq_4
@[simp] def x54:=@tyN.eq_5
@[simp] def x55:=@tyN.eq_6
@[simp] def x56:=@tyN.eq_7
@[simp] def x57:=@sSet.eq_1
@[simp] def x58:=@relS.eq_1
@[simp] def x60:=@V7.eq_1
@[simp] def x61:=@V7.eq_2
@[simp] def x62:=@GP.eq_1
@[simp] def x63:=@GP.eq_2
@[simp] def x64:=@i0.eq_1
@[simp] def x65:=@Fl.isFr.eq_1
@[simp] def x66:=@Fl.isFr.eq_2
@[simp] def x68:=@Fl.isNw.eq_1
@[simp] def x69:=@Fl.isNw.eq_2
@[simp] def x70:=@GO.eq_1
@[simp] def x71:=@GO.eq_2
@[simp] def x72:=@AO.eq_1
@[simp] def x73:=@AO.eq_2
@[simp] def x74:=@Fw.eq_1
@[simp] def x75:=@sFor.eq_1
@[simp] def x76:=@iSeq.eq_1
@[simp] def x77:=@seqD.eq_1
@[simp] def x78:=@seqD.eq_2
@[simp] def x80:=@V8.eq_1
@[simp] def x81:=@sOwn.eq_1
@[simp] def x83:=@sWr.eq_1
@[simp] def x84:=@sWrA.eq_1
@[simp] def x85:=@sPut.eq_1
@[simp] def x86:=@NK.eq_1
@[simp] def x87:=@Ak.eq_1
@[simp] def x88:=@iRev.eq_1
@[simp] def x89:=@lstD.eq_1
@[simp] def x91:=@iZip.eq_1
@[simp] def x92:=@j9.eq_1
@[simp] def x93:=@intD.eq_1
@[simp] def x95:=@wApp.eq_1
@[simp] def x96:=@Lc.eq_1
@[simp] def x97:=@setD.eq_1
@[simp] def x98:=@bLst.eq_1
@[simp] def x99:=@bLst.eq_2
@[simp] def x101:=@bTup.eq_1
@[simp] def x104:=@Tg.put.eq_1
@[simp] def x105:=@Tg.put.eq_2
@[simp] def x107:=@Ai.eq_1
@[simp] def x108:=@Ai.eq_2
@[simp] def x110:=@Jz.eq_3
@[simp] def x112:=@sigD.eq_1
@[simp] def x114:=@FV.eq_1
@[simp] theorem x115:∀(i j:Int),opLt (Dt.int i) (Dt.int j)=aa (Fl.nw,Dt.bl (decide (i<j))):=by intros;rfl
@[simp] theorem x116:∀(i j:Int),opLe (Dt.int i) (Dt.int j)=aa (Fl.nw,Dt.bl (decide (i<=j))):=by intros;rfl
@[simp] theorem x117:∀(i j:Int),opGt (Dt.int i) (Dt.int j)=aa (Fl.nw,Dt.bl (decide (j<i))):=by intros;rfl
@[simp] theorem x118:∀(i j:Int),opGe (Dt.int i) (Dt.int j)=aa (Fl.nw,Dt.bl (decide (j<=i))):=by intros;rfl
@[simp] theorem x119:∀(i j:Int),Ae (Dt.int i) (Dt.int j)=aa (Fl.nw,Dt.int (i-j)):=by intros;rfl
@[simp] theorem x120:∀(i j:Int),F8 (Dt.int i) (Dt.int j)=if X3 i j=af then aa (Fl.nw,Dt.int (Int.fmod i j)) else aj:=by intros;rfl
@[simp] theorem x121:∀(i j:Int),D9 (Dt.int i) (Dt.int j)=if E4 i j=af then aa (Fl.nw,Dt.int (i*j)) else aj:=by intros;rfl
@[simp] theorem x122:∀(i j:Int),Af (Dt.int i) (Dt.int j)=if K9 i j=af then aa (Fl.nw,Dt.int (Int.fdiv i j)) else aj:=by intros;rfl
@[simp] theorem x123:∀(i j:Int),Jw (Dt.int i) (Dt.int j)=if GL i j=af then aa (Fl.nw,Dt.int (i^Int.toNat j)) else aj:=by intros;rfl
@[simp] theorem x124:∀(i j:Int),o6 (Dt.int i) (Dt.int j)=aa (Fl.nw,Dt.int (i+j)):=by intros;rfl
@[simp] theorem x125:∀(f:Fl)(i:Int),nrm f (Dt.int i)=(Fl.nw,Dt.int i):=by intros;rfl
@[simp] theorem x126:∀(f:Fl)(i:Bool),nrm f (Dt.bl i)=(Fl.nw,Dt.bl i):=by intros;rfl
@[simp] theorem x127:∀(f:Fl),nrm f Dt.non=(Fl.nw,Dt.non):=by intros;rfl
@[simp] theorem x128:∀(f:Fl)(ns:aH),nrm f (Dt.scr ns)=(f,Dt.scr ns):=by intros;rfl
@[simp] theorem x129:∀(f:Fl)(ns:aH),nrm f (L ns)=(f,L ns):=by intros;rfl
@[simp] theorem x130:∀(f:Fl)(ns:aA),nrm f (LL ns)=(f,LL ns):=by intros;rfl
@[simp] theorem x134:∀{α β:Type}{a:α}{f:α->Option β},Option.bind (aa a) f=f a:=by intros;rfl
@[simp] theorem x135:∀{α β:Type}{f:α->Option β},Option.bind aj f=aj:=by intros;rfl
@[simp] def x136:=@atI_c0
@[simp] def x137:=@atI_c1
@[simp] def x138:=@atI_c2
@[simp] theorem y1(ns:aH):gM (ce Dt.int ns)=(Fl.nw,Dt.lst (ce Dt.int ns)):=Q1 ns
@[simp] theorem y2:gM []=(Fl.nw,Dt.lst []):=rfl
@[simp] theorem y3(ns:aH):L8 (ce Dt.int ns)=af:=Al ns
@[simp] theorem y4(d:Dt):nrm Fl.nw d=(Fl.nw,d):=tG d
@[simp] theorem y5(i:Int):Dt.flat (Dt.int i)=af:=rfl
@[simp] theorem y6(i:Bool):Dt.flat (Dt.bl i)=af:=rfl
@[simp] theorem y7(f:Fl)(ds:fK):nrm f (Dt.lst ds)=(f,Dt.lst ds):=rfl
@[simp] theorem y8:L8 []=af:=rfl
@[simp] theorem y9(d:Dt)(ds:fK):L8 (d::ds)=(d.flat&&L8 ds):=by rw[L8]
@[simp] theorem kq(ds:fK):Dt.flat (Dt.lst ds)=ab:=by rw[Dt.flat]
@[simp] theorem y11(ds:fK):Dt.flat (Dt.tup ds)=L8 ds:=by rw[Dt.flat]
@[simp] theorem y12(f:Fl)(ds:fK):nrm f (Dt.tup ds)=(if L8 ds=af then Fl.nw else f,Dt.tup ds):=rfl
@[simp] theorem xd1:tyN Dt.dic ="dict":=rfl
end L2
end
section
local macro_rules|`(tactic|rfl')=>`(tactic|first|lia|omega +splitDisjunctions)
namespace L2
theorem DA{γ:Type}{g:Tg}{F:FS}(R:Nat->γ->gI):∀(n k:Nat)(j:γ),(∀i j,k<=i->i<k+n->∃j',(g.put (.int (i:Int)) (R i j)).bind F=aa (.nx (R (i+1) j')))->∃j',gk g F ((ah n).map λ(i:Nat)=>.int (((k+i:Nat):Int))) (R k j)=aa (.nx (R (k+n) j'))
 |0,k,j,_=>⟨j,rfl⟩
 |n+1,k,j,h=>by
  obtain⟨j1,h1⟩:=h k j (wt _) ();obtain⟨j2,h2⟩:=DA R n (k+1) j1 λi j hi hl=>h i j () ();refine⟨j2,?_⟩;rw[w0a,wx,F0,Nat.add_zero,h1,wM];rw[show k+(n+1)=k+1+n by rfl',<-h2];show gk g F _ (R (k+1) j1)=gk g F _ (R (k+1) j1);congr 1;apply vI;intro i _;show Dt.int ((k+(i+1):Nat):Int)=_;rw[show k+(i+1)=k+1+i by rfl']
theorem FZ{γ:Type}{g:Tg}{F:FS}(R:Nat->γ->gI)(n:Nat)(j:γ)(h:∀i j,i<n->∃j',(g.put (.int (i:Int)) (R i j)).bind F=aa (.nx (R (i+1) j'))):∃j',gk g F (L9 0 n) (R 0 j)=aa (.nx (R n j')):=by
 obtain⟨j',e⟩:=DA R n 0 j λi j _ hi=>h i j ();refine⟨j',?_⟩;rw[uu]at e;rw[<-e,o9];congr 1
@[simp] theorem iN(n:Nat)(h:n<=1000000):Ah (n:Int)=af:=CA h
theorem lR(S:aA){k:Nat}(h:k<S.length):gJ (S.map L) (k:Int)=aa (L (S.getD k [])):=by rw[An,M0 [] h];rfl
theorem W0{α:Type}(xs:List α)(n:Nat):iA xs (aa (n:Int)) aj=xs.drop n:=by
 unfold iA;rw[HT.sIx_none,HT.sIx_nat];by_cases h:n<=xs.length
 .rw[w1P h,uv (by rw[wR];rfl')]
 .rw[w1z (),w0b (),w0b ()];simp
theorem Lj{α:Type}(xs:List α)(n:Nat):iA xs aj (aa (n:Int))=xs.take n:=by
 unfold iA;rw[HT.sIx_none,HT.sIx_nat,w0c,Nat.sub_zero];by_cases h:n<=xs.length
 .rw[w1P h]
 .rw[w1z (),uv (),uv ()]
@[simp] theorem y14(F:FE)(A B:FP)(ρ:gI):ic F A B ρ=(F ρ).bind λx=>(A ρ).bind λlo=>(B ρ).bind λhi=>match x.2 with|.lst ds=>aa (gM (iA ds lo hi))|_=>aj:=rfl
@[simp] theorem y15(F:FE)(ρ:gI):G6 F ρ=(F ρ).bind λx=>(intD x.2).map aa:=rfl
@[simp] theorem y16(ρ:gI):A4 ρ=aa aj:=rfl
theorem E5(xs:aH)(n:Nat):gM ((xs.map Dt.int).drop n)=(.nw,L (xs.drop n)):=by rw[<-w0K];exact Q1 _
theorem Ao(xs:aH)(n:Nat):gM ((xs.map Dt.int).take n)=(.nw,L (xs.take n)):=by rw[<-w0L];exact Q1 _
theorem GS(a b:aH)(h:a.length+b.length<=1000000):o6 (.lst (a.map Dt.int)) (.lst (b.map Dt.int))=aa (.nw,L (a++b)):=by
 have:o6 (.lst (a.map Dt.int)) (.lst (b.map Dt.int))=Ds (.lst (a.map Dt.int)) (.lst (b.map Dt.int)):=rfl;rw[this,Ds,ak (by simpa using h),<-vn,Q1]
end L2
end
section
local macro_rules|`(tactic|rfl')=>`(tactic|first|lia|omega +splitDisjunctions)
namespace Lat
abbrev Vec:=Nat->Int
def Span:List Vec->Vec->Prop
 |[],v=>∀k,v k=0
 |r::rs,v=>∃c:Int,Span rs (λk=>v k-c*r k)
theorem Span.congr{rs:List Vec}{v w:Vec}(h:∀k,v k=w k)(s:Span rs v):Span rs w:=by
 have:v=w:=funext h;rw[<-this];exact s
theorem Span.zero:∀{rs:List Vec},Span rs (λ_=>0)
 |[]=>λ_=>rfl
 |r::rs=>⟨0,Span.congr (λk=>by simp) (Span.zero (rs:=rs))⟩
theorem Span.add:∀{rs:List Vec}{v w:Vec},Span rs v->Span rs w->Span rs (λk=>v k+w k)
 |[],v,w,h1,h2=>λk=>by show v k+w k=0;rw[h1 k,h2 k];rfl
 |r::rs,v,w,⟨c,h1⟩,⟨d,h2⟩=>⟨c+d,Span.congr (λk=>by show _=(v k+w k)-(c+d)*r k;rw[w1H];rfl') (h1.add h2)⟩
theorem Span.smul:∀{rs:List Vec}{v:Vec}(a:Int),Span rs v->Span rs (λk=>a*v k)
 |[],v,a,h=>λk=>by show a*v k=0;rw[h k,uw]
 |r::rs,v,a,⟨c,h⟩=>⟨a*c,Span.congr (λk=>by rw[vO,vH]) (h.smul a)⟩
theorem Span.neg{rs:List Vec}{v:Vec}(h:Span rs v):Span rs (λk=>-v k):=Span.congr (λk=>()) (h.smul (-1))
theorem Span.sub{rs:List Vec}{v w:Vec}(h1:Span rs v)(h2:Span rs w):Span rs (λk=>v k-w k):=Span.congr (λk=>()) (h1.add h2.neg)
theorem Span.head{r:Vec}{rs:List Vec}:Span (r::rs) r:=⟨1,Span.congr (λk=>()) Span.zero⟩
theorem Span.cons{r:Vec}{rs:List Vec}{v:Vec}(h:Span rs v):Span (r::rs) v:=⟨0,Span.congr (λk=>()) h⟩
theorem Span.mem:∀{rs:List Vec}{r:Vec},r∈rs->Span rs r
 |_::_,_,.head _=>Span.head
 |_::_,_,.tail _ h=>(Span.mem h).cons
theorem Span.least{P:Vec->Prop}(z:P (λ_=>0))(a:∀v w,P v->P w->P (λk=>v k+w k))(m:∀(c:Int)v,P v->P (λk=>c*v k)):
  ∀{rs:List Vec}{v:Vec},(∀r∈rs,P r)->Span rs v->P v
 |[],v,_,h=>by have:v=λ_=>0:=funext h;rw[this];exact z
 |r::rs,v,hr,⟨c,h⟩=>by
  have h1:=Span.least z a m (λx hx=>hr x (wc _ hx)) h;have h2:=a _ _ h1 (m c r (hr r wf));have:v=λk=>(v k-c*r k)+c*r k:=funext λk=>()
  rw[this];exact h2
theorem Span.trans{rs ss:List Vec}{v:Vec}(h:∀r∈rs,Span ss r)(s:Span rs v):Span ss v:=
 Span.least (P:=Span ss) Span.zero (λ_ _=>Span.add) (λc _=>Span.smul c) h s
def SameSpan(rs ss:List Vec):Prop:=(∀r∈rs,Span ss r)/\∀s∈ss,Span rs s
theorem SameSpan.iff{rs ss:List Vec}(h:SameSpan rs ss){v:Vec}:Span rs v↔Span ss v:=⟨Span.trans h.1,Span.trans h.2⟩
theorem SameSpan.refl{rs:List Vec}:SameSpan rs rs:=⟨λ_=>Span.mem,λ_=>Span.mem⟩
theorem SameSpan.symm{rs ss:List Vec}(h:SameSpan rs ss):SameSpan ss rs:=⟨h.2,h.1⟩
theorem SameSpan.trans{rs ss ts:List Vec}(h:SameSpan rs ss)(g:SameSpan ss ts):SameSpan rs ts:=⟨λr hr=>(h.1 r hr).trans g.1,λt ht=>(g.2 t ht).trans h.2⟩
def Form:Nat->List (Nat×Vec)->Prop
 |_,[]=>True
 |f,(h,r)::rs=>f<=h/\(∀k,k<h->r k=0)/\0<r h/\(∀p∈rs,0<=r p.1/\r p.1<p.2 p.1)/\Form (h+1) rs
abbrev E6(S:List (Nat×Vec)):List Vec:=S.map (·.2)
theorem Form.low:∀{f:Nat}{S:List (Nat×Vec)}{v:Vec},Form f S->Span (E6 S) v->∀k,k<f->v k=0
 |_,[],v,_,s,k,_=>s k
 |f,(h,r)::S,v,⟨h1,h2,h3,h4,h5⟩,⟨c,s⟩,k,hk=>by
  have:=Form.low h5 s k ();have e:r k=0:=h2 k ();have this:v k-c*r k=0:=this;rw[e]at this;simpa using this
theorem Form.coef{f h:Nat}{r v:Vec}{S:List (Nat×Vec)}{c:Int}(F:Form f ((h,r)::S))(s:Span (E6 S) (λk=>v k-c*r k)):v h=c*r h:=by
 have:v h-c*r h=0:=F.2.2.2.2.low s h ();rfl'
theorem Bn{c r v:Int}(e:v=c*r)(hr:0<r)(h1 : -r<v)(h2:v<r):c=0:=by
 rcases w0d c 0 with h|h|h
 .exfalso;have:c*r <= -1*r:=ui () ();rfl'
 .exact h
 .exfalso;have:1*r<=c*r:=ui () ();rfl'
theorem Form.small:∀{f:Nat}{S:List (Nat×Vec)}{v:Vec},Form f S->Span (E6 S) v->(∀p∈S,-(p.2 p.1)<v p.1/\v p.1<p.2 p.1)->∀k,v k=0
 |_,[],v,_,s,_=>s
 |f,(h,r)::S,v,F,⟨c,s⟩,hs=>by
  have e:=F.coef s;have hp:=hs (h,r) wf;have c0:c=0:=Bn e F.2.2.1 hp.1 hp.2;subst c0;refine F.2.2.2.2.small (Span.congr (λk=>()) s) (λp hp=>hs p (wc _ hp))
theorem Form.tail{f h:Nat}{r v:Vec}{S:List (Nat×Vec)}(F:Form f ((h,r)::S))(s:Span (E6 ((h,r)::S)) v)(z:v h=0):Span (E6 S) v:=by
 obtain⟨c,s⟩:=s;have e:=F.coef s;have hr:=F.2.2.1;rw[z]at e;have c0:c=0:=by
  rcases vT.mp e.symm with h|h
  .exact h
  .rfl'
 subst c0;exact Span.congr (λk=>()) s
theorem Form.head_le{f g h h':Nat}{r r':Vec}{S S':List (Nat×Vec)}(F:Form f ((h,r)::S))(G:Form g ((h',r')::S'))(s:Span (E6 ((h',r')::S')) r):h'<=h:=by
 apply ug;intro hlt;have G':Form h' ((h',r')::S'):=⟨wt _,G.2⟩;have:=G'.low s h hlt;have:=F.2.2.1;rfl'
theorem Form.unique:∀{S T:List (Nat×Vec)}{f g:Nat},Form f S->Form g T->SameSpan (E6 S) (E6 T)->S=T
 |[],[],_,_,_,_,_=>rfl
 |[],(h,r)::T,_,_,_,G,s=>by
  have:=s.2 r wf h;have:=G.2.2.1;rfl'
 |(h,r)::S,[],_,_,F,_,s=>by
  have:=s.1 r wf h;have:=F.2.2.1;rfl'
 | (h,r)::S,(h',r')::T,f,g,F,G,s=>by
  have s1:Span (E6 ((h',r')::T)) r:=s.1 r wf;have s2:Span (E6 ((h,r)::S)) r':=s.2 r' wf;have eh:h=h':=w1Q (G.head_le F s2) (F.head_le G s1);subst eh;have evh:r h=r' h:=by
   obtain⟨c,q⟩:=s1;obtain⟨d,q'⟩:=s2;have e1:=G.coef q;have e2:=F.coef q';have p1:=F.2.2.1;have p2:=G.2.2.1;have c1:1<=c:=by
     apply Int.not_lt.mp;intro hc;have:c*r' h<=0:=w03 () ();rfl'
   have d1:1<=d:=by
     apply Int.not_lt.mp;intro hd;have:d*r h<=0:=w03 () ();rfl'
   have a1:1*r' h<=c*r' h:=ui c1 ();have a2:1*r h<=d*r h:=ui d1 ();rfl'
  have tails:SameSpan (E6 S) (E6 T):=by
   constructor
   .intro x hx;have hs:Span (E6 S) x:=Span.mem hx;have z:=F.2.2.2.2.low hs h ();exact G.tail (s.iff.mp hs.cons) z
   .intro x hx;have hs:Span (E6 T) x:=Span.mem hx;have z:=G.2.2.2.2.low hs h ();exact F.tail (s.iff.mpr hs.cons) z
  have eST:=Form.unique F.2.2.2.2 G.2.2.2.2 tails;subst eST;have d0:Span (E6 S) (λk=>r k-r' k):=F.tail (Span.sub Span.head s2) ();have er:r=r':=funext λk=>by
   have:=F.2.2.2.2.small d0 (λp hp=>by
     have q1:=F.2.2.2.1 p hp;have q2:=G.2.2.2.1 p hp;rfl') k
   rfl'
  rw[er]
end Lat
end
section
namespace Lat
theorem Bo{α β:Type}[DecidableEq β]:∀{l:List α}{m:List β}(f:α->β),l.Nodup->(∀x∈l,∀y∈l,f x=f y->x=y)->(∀x∈l,f x∈m)->l.length<=m.length
 |[],m,f,_,_,_=>vh _
 | x::l,m,f,hn,hi,hm=>by
  have hx:=hm x wf;have hn':=vQ.mp hn;have h1:l.length<=(m.erase (f x)).length:=by
   refine Bo f hn'.2 (λa ha b hb=>hi a (wc _ ha) b (wc _ hb)) (λa ha=>?_);have hne:f a≠f x:=λe=>by
    have:=hi a (wc _ ha) x wf e;subst this;exact hn'.1 ha
   exact(List.mem_erase_of_ne hne).mpr (hm a (wc _ ha))
  have h2:(m.erase (f x)).length=m.length-1:=List.length_erase_of_mem hx;have h3:0<m.length:=List.length_pos_of_mem hx;simp only[wu];rfl'
def box:fu->aA
 |[]=>[[]]
 |n::ns=>(ah n).flatMap λ(i:Nat)=>(box ns).map λt=>(i:Int)::t
def prod:fu->Nat
 |[]=>1
 |n::ns=>n*prod ns
theorem Rs{α:Type}(g:Nat->List α)(k:Nat):∀(l:fu),(∀i∈l,(g i).length=k)->(l.flatMap g).length=l.length*k
 |[],_=>by simp
 |i::l,h=>by
  rw[w1r,wF,Rs g k l (λj hj=>h j (wc _ hj)),h i wf,wu,uV,Nat.add_comm]
theorem Gc:∀ns:fu,(box ns).length=prod ns
 |[]=>rfl
 |n::ns=>by
  show((ah n).flatMap λ(i:Nat)=>(box ns).map λt=>(i:Int)::t).length=n*prod ns;rw[Rs _ (prod ns) _ (λi _=>by rw[wn,Gc ns]),vJ]
def L0:fu->aH->Prop
 |[],[]=>True
 |n::ns,x::xs=>0<=x/\x<n/\L0 ns xs
 |_,_=>False
theorem EC:∀{ns:fu}{t:aH},t∈box ns↔L0 ns t
 |[],[]=>by simp[box,L0]
 |[],x::t=>by simp[box,L0]
 |n::ns,[]=>by simp[box,L0]
 |n::ns,x::t=>by
  simp only[box,L0,w1A,wJ,wj,List.cons.injEq];constructor
  .rintro⟨i,hi,u,hu,rfl,rfl⟩;exact⟨(),(),EC.mp hu⟩
  .rintro⟨h0,h1,h2⟩;exact⟨x.toNat,(),t,EC.mpr h2,(),rfl⟩
theorem NM:∀ns:fu,(box ns).Nodup
 |[]=>by simp[box]
 | n::ns=>by
  have ih:=NM ns;have key:∀m,((ah m).flatMap λ(i:Nat)=>(box ns).map λt=>(i:Int)::t).Nodup:=by
   intro m
   induction m with
   |zero=>simp
   |succ m hm=>
    rw[uO,List.flatMap_append,w0F];refine⟨hm,?_,?_⟩
    .rw[w1r,List.flatMap_nil,w02];refine List.Pairwise.map _ (λa b hab e=>hab ?_) ih;exact(dS e).2
    .intro a ha b hb e;subst e;simp only[w1A,wJ,wj,ve]at ha hb;obtain⟨i,hi,u,hu,rfl⟩:=ha;obtain⟨j,hj,w,hw,e⟩:=hb;have:=(dS e).1;rfl'
  exact key n
theorem PB{ns ms:fu}(f:aH->aH)(hi:∀s t,L0 ns s->L0 ns t->f s=f t->s=t)(hm:∀s,L0 ns s->L0 ms (f s)):prod ns<=prod ms:=by
 rw[<-Gc ns,<-Gc ms];exact Bo f (NM ns) (λx hx y hy=>hi x y (EC.mp hx) (EC.mp hy)) (λx hx=>EC.mpr (hm x (EC.mp hx)))
end Lat
end
section
local macro_rules|`(tactic|rfl')=>`(tactic|first|lia|omega +splitDisjunctions)
namespace Br
structure BI(a b u0 u1 u2 l0 l1 l2:Int):Prop where
 up:a*u1+b*u2=u0
 lo:a*l1+b*l2=l0
 gcd:uQ u0 l0=uQ a b
 p1:u0.natAbs*l1.natAbs+l0.natAbs*u1.natAbs<=a.natAbs+2*b.natAbs
 p2:u0.natAbs*l2.natAbs+l0.natAbs*u2.natAbs<=a.natAbs+2*b.natAbs
 ph:(u0=a/\u1=1/\u2=0/\l0=b/\l1=0/\l2=1)\/(0<=u0*l0/\u0≠0)
 b1:u1.natAbs<=a.natAbs+2*b.natAbs+1
 b2:u2.natAbs<=a.natAbs+2*b.natAbs+1
 b3:l1.natAbs<=a.natAbs+2*b.natAbs+1
 b4:l2.natAbs<=a.natAbs+2*b.natAbs+1
 c1:u0.natAbs<=a.natAbs+b.natAbs
 c2:l0.natAbs<=b.natAbs
theorem BI.start(a b:Int):BI a b a 1 0 b 0 1 where
 up:=by simp
 lo:=by simp
 gcd:=rfl
 p1:=by simp;rfl'
 p2:=by simp
 ph:=.inl ⟨rfl,rfl,rfl,rfl,rfl,rfl⟩
 b1:=by simp
 b2:=by simp
 b3:=by simp
 b4:=by simp
 c1:=()
 c2:=()
theorem tX(L A R Qa u1 l1 f1 E:Nat)(hA:Qa*L+R<=A+E)(hf:f1<=u1+Qa*l1):L*f1+R*l1<=A*l1+L*u1+E*l1:=by
 have h1:L*f1<=L*(u1+Qa*l1):=vw L hf;have h2:L*(u1+Qa*l1)=L*u1+Qa*L*l1:=by
  rw[w0G,<-vY,uG L Qa]
 have h3:(Qa*L+R)*l1<=(A+E)*l1:=wN l1 hA;rw[w1I,w1I]at h3;rfl'
theorem Rt(u l:Int)(h:0<l):(u-u.fdiv l*l).natAbs<l.natAbs/\0<=l*(u-u.fdiv l*l)/\(0<=u*l->(u.fdiv l).natAbs*l.natAbs+(u-u.fdiv l*l).natAbs=u.natAbs) /\
  (u.fdiv l).natAbs*l.natAbs<=u.natAbs+(u-u.fdiv l*l).natAbs:=by
 have hs:u.fdiv l*l=u-u.fmod l:=Int.fdiv_mul_self u l;have hq:(u.fdiv l).natAbs*l.natAbs=(u.fdiv l*l).natAbs:=(vq _ _).symm;have e:u-u.fdiv l*l=u.fmod l:=()
 rw[e,hq,hs];have h1:0<=u.fmod l:=ud u h;have h2:u.fmod l<l:=uC u h;refine⟨(),w19 () h1,λhu=>?_,()⟩;have hu0:0<=u:=by
  by_cases hu':0<=u
  .exact hu'
  .have:=Int.mul_neg_of_neg_of_pos (show u<0 by rfl') h;rfl'
 have:u.fmod l<=u:=by
  have q1:0<=u.fdiv l:=Int.fdiv_nonneg hu0 ();have q2:0<=u.fdiv l*l:=w19 q1 ();rfl'
 rfl'
theorem YM(u l:Int)(hl:l≠0):(u-u.fdiv l*l).natAbs<l.natAbs/\0<=l*(u-u.fdiv l*l)/\(0<=u*l->(u.fdiv l).natAbs*l.natAbs+(u-u.fdiv l*l).natAbs=u.natAbs) /\
   (u.fdiv l).natAbs*l.natAbs<=u.natAbs+(u-u.fdiv l*l).natAbs:=by
 rcases Int.lt_or_gt_of_ne hl with h|h
 .have q:=Rt (-u) (-l) ();rw[Int.neg_fdiv_neg]at q;have e : -u-u.fdiv l * -l = -(u-u.fdiv l*l):=by rw[w0m];rfl'
  rw[e,w0e,w0e,w0e,w1R,w1R]at q;exact q
 .exact Rt u l h
theorem Lk{a b c:Nat}(h:a*b<=c)(ha:a≠0):b<=c:=wO (Nat.le_mul_of_pos_left b (Nat.pos_of_ne_zero ha)) h
theorem YN(u q l:Int):(u-q*l).natAbs<=u.natAbs+q.natAbs*l.natAbs:=by
 have:=vq q l;rfl'
theorem BI.turn{a b u0 u1 u2 l0 l1 l2:Int}(h:BI a b u0 u1 u2 l0 l1 l2)(hl:l0≠0):
   BI a b l0 l1 l2 (u0-u0.fdiv l0*l0) (u1-u0.fdiv l0*l1) (u2-u0.fdiv l0*l2):=by
 obtain⟨r1,r2,r3,r4⟩:=YM u0 l0 hl;have hL:l0.natAbs≠0:=λe=>hl (w0w.mp e);have hup:=h.up;have hlo:=h.lo;generalize eq:u0.fdiv l0=q at *;have lin:∀(x y:Int),a*(x-q*l1)+b*(y-q*l2)=(a*x+b*y)-q*(a*l1+b*l2):=λx y=>by
   rw[vO,vO,uH,vL a q l1,vL b q l2];rfl'
 have f1:(u1-q*l1).natAbs<=u1.natAbs+q.natAbs*l1.natAbs:=YN u1 q l1;have f2:(u2-q*l2).natAbs<=u2.natAbs+q.natAbs*l2.natAbs:=YN u2 q l2;have key:∀(x y f:Nat),f<=x+q.natAbs*y->u0.natAbs*y+l0.natAbs*x<=a.natAbs+2*b.natAbs->((0<=u0*l0)\/(y=0)\/(y=1/\x=0/\u0=a/\l0=b)) ->
     l0.natAbs*f+(u0-q*l0).natAbs*y<=a.natAbs+2*b.natAbs:=λx y f hf hp hc=>by
   rcases hc with hc|hc|⟨hc,hx,ha,hb⟩
   .have:=tX l0.natAbs u0.natAbs (u0-q*l0).natAbs q.natAbs x y f 0 (by have:=r3 hc;rfl') hf;rfl'
   .subst hc;have:l0.natAbs*f<=l0.natAbs*x:=vw _ ();rfl'
   .subst hc;subst hx;have:=tX l0.natAbs u0.natAbs (u0-q*l0).natAbs q.natAbs 0 1 f (2*(u0-q*l0).natAbs) () hf;have hab:u0.natAbs=a.natAbs:=by rw[ha]
    have hbb:l0.natAbs=b.natAbs:=by rw[hb]
    generalize (u0-q*l0).natAbs=R at *;generalize l0.natAbs*f=Z at *;rfl'
 have ph1:0<=u0*l0\/l1.natAbs=0\/(l1.natAbs=1/\u1.natAbs=0/\u0=a/\l0=b):=by
   rcases h.ph with⟨_,_,_,_,e,_⟩|⟨e,_⟩
   .exact .inr (.inl (by rw[e];rfl))
   .exact .inl e
 have ph2:0<=u0*l0\/l2.natAbs=0\/(l2.natAbs=1/\u2.natAbs=0/\u0=a/\l0=b):=by
   rcases h.ph with⟨e1,_,e2,e3,_,e4⟩|⟨e,_⟩
   .exact .inr (.inr ⟨by rw[e4];rfl,by rw[e2];rfl,e1,e3⟩)
   .exact .inl e
 have k1:=key _ _ _ f1 h.p1 ph1;have k2:=key _ _ _ f2 h.p2 ph2;have c2:=h.c2;refine⟨hlo,?_,?_,k1' k1,k1' k2,.inr ⟨r2,hl⟩,h.b3,h.b4,?_,?_,(),()⟩
 .rw[lin,hup,hlo]
 .rw[Int.gcd_sub_mul_right_right,Int.gcd_comm,h.gcd]
 .exact w0E (Lk (wO (w1B _ _) k1) hL)
 .exact w0E (Lk (wO (w1B _ _) k2) hL)
where k1' {x y:Nat} (h:x<=y):x<=y:=h
theorem BI.fin{a b u0 u1 u2 l1 l2:Int}(h:BI a b u0 u1 u2 0 l1 l2):(u0.natAbs:Int)=uQ a b:=by
 have:=h.gcd;rw[Int.gcd_zero_right]at this;rw[this]
end Br
end
section
namespace St
abbrev gn:=aH
def at0(r:gn)(k:Nat):Int:=r.getD k 0
def b8:gn->Nat
 |[]=>0
 |x::r=>if x=0 then b8 r+1 else 0
theorem Ix:∀r:gn,b8 r<=r.length
 |[]=>wt _
 |x::r=>by
  unfold b8;split
  .exact w1C (Ix r)
  .exact vh _
theorem u5:∀(r:gn)(k:Nat),k<b8 r->at0 r k=0
 |[],k,h=>by simp[b8]at h
 |x::r,k,h=>by
  unfold b8 at h;split at h
  .rename_i hx;cases k with
   |zero=>simp[at0,hx]
   |succ k=>exact u5 r k ()
  .rfl'
theorem DB:∀(r:gn),b8 r<r.length->at0 r (b8 r)≠0
 |[],h=>by simp[b8]at h
 |x::r,h=>by
  unfold b8 at h|-;split at h
  .rename_i hx;rw[ak hx];exact DB r (by simpa using h)
  .rename_i hx;rw[ao hx];exact hx
theorem L3:∀(r:gn)(h:Nat),(∀k,k<h->at0 r k=0)->at0 r h≠0->b8 r=h
 |[],h,_,q=>by simp[at0]at q
 |x::r,0,_,q=>by
  unfold b8;rw[ao (by simpa[at0]using q)]
 |x::r,h+1,z,q=>by
  have hx:x=0:=by simpa[at0]using z 0 ()
  unfold b8;rw[ak hx,L3 r h (λk hk=>by simpa[at0]using z (k+1) ()) (by simpa[at0]using q)]
theorem z0g(r:gn)(h:Nat)(z:∀k,k<h->at0 r k=0)(hl:h<=r.length):h<=b8 r:=by
 apply ug;intro hlt;exact DB r () (z _ hlt)
theorem u7{r:gn}{k:Nat}(h:r.length<=k):at0 r k=0:=by simp[at0,am,wW h]
theorem ext0{a b:gn}(h:a.length=b.length)(q:∀k,at0 a k=at0 b k):a=b:=by
 apply vz h;intro i h1 h2;have:=q i;simpa[at0,am,wa h1,wa h2]using this
def sub(a:gn)(q:Int)(b:gn):gn:=bQ (λx y=>x-q*y) a b
theorem O9{a b:gn}{q:Int}(h:a.length=b.length):(sub a q b).length=a.length:=by unfold sub;rw[uf];rfl'
theorem N4{a b:gn}{q:Int}(h:a.length=b.length)(k:Nat):at0 (sub a q b) k=at0 a k-q*at0 b k:=by
 by_cases hk:k<a.length
 .unfold at0 sub;simp[am,w0i,wa hk,wa (show k<b.length by rfl')]
 .rw[u7 (by rw[O9 h];rfl'),u7 (),u7 (show b.length<=k by rfl')];simp
def lin(x:Int)(a:gn)(y:Int)(b:gn):gn:=bQ (λp q=>x*p+y*q) a b
theorem Kk{a b:gn}{x y:Int}(h:a.length=b.length):(lin x a y b).length=a.length:=by unfold lin;rw[uf];rfl'
theorem Kl{a b:gn}{x y:Int}(h:a.length=b.length)(k:Nat):at0 (lin x a y b) k=x*at0 a k+y*at0 b k:=by
 by_cases hk:k<a.length
 .unfold at0 lin;simp[am,w0i,wa hk,wa (show k<b.length by rfl')]
 .rw[u7 (by rw[Kk h];rfl'),u7 (),u7 (show b.length<=k by rfl')];simp
def hd(r:gn):Int:=at0 r (b8 r)
def C5(left rung:gn):Int:=(at0 left (b8 rung)).fdiv (hd rung)
def m6:gn->aA->gn
 |left,[]=>left
 |left,r::rs=>m6 (sub left (C5 left r) r) rs
def Ll:gn->aA->aH
 |_,[]=>[]
 |left,r::rs=>C5 left r::Ll (sub left (C5 left r) r) rs
def Asc(n:Nat):Nat->aA->Prop
 |_,[]=>True
 |f,r::rs=>r.length=n/\f<=b8 r/\b8 r<n/\0<hd r/\Asc n (b8 r+1) rs
theorem Asc.weak{n:Nat}:∀{f g:Nat}{S:aA},Asc n f S->g<=f->Asc n g S
 |_,_,[],_,_=>trivial
 |_,_,r::rs,⟨h1,h2,h3,h4,h5⟩,h=>⟨h1,wO h h2,h3,h4,h5⟩
theorem Asc.mem{n:Nat}:∀{f:Nat}{S:aA}{r:gn},Asc n f S->r∈S->r.length=n/\f<=b8 r/\b8 r<n/\0<hd r
 |_,_::_,_,⟨h1,h2,h3,h4,h5⟩,.head _=>⟨h1,h2,h3,h4⟩
 |_,_::_,_,⟨h1,h2,h3,h4,h5⟩,.tail _ q=>by obtain⟨a,b,c,d⟩:=h5.mem q;exact⟨a,(),c,d⟩
theorem M3{n:Nat}:∀{f:Nat}{S:aA}{left:gn},Asc n f S->left.length=n->(m6 left S).length=n
 |_,[],left,_,h=>h
 |_,r::rs,left,⟨h1,h2,h3,h4,h5⟩,h=>by rw[m6];exact M3 h5 (by rw[O9 ()];exact h)
theorem CB{n:Nat}:∀{f:Nat}{S:aA}{left:gn},Asc n f S->left.length=n->∀k,k<f->at0 (m6 left S) k=at0 left k
 |_,[],left,_,h,k,_=>rfl
 |f,r::rs,left,⟨h1,h2,h3,h4,h5⟩,h,k,hk=>by
  rw[m6,CB h5 (by rw[O9 ()];exact h) k (),N4 (),u5 r k ()];simp
theorem Iy(a:Int){b:Int}(h:0<b):0<=a-a.fdiv b*b/\a-a.fdiv b*b<b:=by
 have h1:=ud a h;have h2:=uC a h;have h3:=w16 a b;rw[wU]at h3;rfl'
theorem Q2{n:Nat}:∀{f:Nat}{S:aA}{left:gn},Asc n f S->left.length=n->∀r∈S,0<=at0 (m6 left S) (b8 r)/\at0 (m6 left S) (b8 r)<hd r
 | f,r::rs,left,⟨h1,h2,h3,h4,h5⟩,h,x,hx=>by
  have hl:(sub left (C5 left r) r).length=n:=by rw[O9 ()];exact h
  rw[m6];cases hx with
  |head=>
   rw[CB h5 hl _ (vU _),N4 ()];exact Iy _ h4
  |tail _ hx=>exact Q2 h5 hl x hx
def Lt(m:Nat)(r:gn):Prop:=∀k,(at0 r k).natAbs<m
theorem Lt.mono{m m':Nat}{r:gn}(h:Lt m r)(q:m<=m'):Lt m' r:=λk=>wG (h k) q
theorem BK(a:Int){b:Int}(h:0<b):(a.fdiv b).natAbs<=a.natAbs:=by
 have h1:=Iy a h;generalize a.fdiv b=q at *;rcases w0d q 0 with hq|hq|hq
 .have e:(q+1)*b=q*b+b:=by rw[w1H];rfl'
  have:(q+1)*b<=(q+1)*1:=Int.mul_le_mul_of_nonpos_left () ();rfl'
 .subst hq;simp
 .have:q*1<=q*b:=uL () ();rfl'
theorem kF{a b:gn}{q:Int}{s t u:Nat}(hl:a.length=b.length)(ha:Lt s a)(hb:Lt t b)(hq:q.natAbs<=u)(hs:0<s)(ht:0<t):Lt (s+u*t) (sub a q b):=λk=>by
 rw[N4 hl];have h1:=ha k;have h2:=hb k;have h3:(q*at0 b k).natAbs<=u*(t-1):=by rw[vq];exact ue hq ()
 have h4:u*(t-1)<=u*t:=vw _ ();rfl'
theorem z1W{left r:gn}{s t:Nat}(hl:left.length=r.length)(hr:0<hd r)(ha:Lt s left)(hb:Lt t r):Lt (s*(t+1)) (sub left (C5 left r) r):=by
 have hs:0<s:=w0y (vh _) (ha 0);have ht:0<t:=w0y (vh _) (hb 0);have:=kF (q:=C5 left r) (u:=s) hl ha hb (wO (BK (at0 left (b8 r)) hr) (vZ (ha (b8 r)))) hs ht;rw[w0G,w1a,Nat.add_comm];exact this
end St
end
section
local macro_rules|`(tactic|rfl')=>`(tactic|first|lia|omega +splitDisjunctions)
namespace St
open Lat
abbrev gZ(r:gn):Vec:=λk=>at0 r k
abbrev fP(S:aA):List Vec:=S.map gZ
theorem DC{S:aA}{r:gn}(h:r∈S):gZ r∈fP S:=wj.mpr ⟨r,h,rfl⟩
theorem J9{n:Nat}:∀{f:Nat}{S:aA}{left:gn},Asc n f S->left.length=n->Span (fP S) (λk=>at0 left k-at0 (m6 left S) k)
 |_,[],left,_,h=>λk=>by show at0 left k-at0 left k=0;rfl'
 |f,r::rs,left,⟨h1,h2,h3,h4,h5⟩,h=>by
  have hl:(sub left (C5 left r) r).length=n:=by rw[O9 ()];exact h
  have ih:=J9 h5 hl;refine⟨C5 left r,Span.congr (λk=>?_) ih⟩;rw[m6];show at0 (sub left (C5 left r) r) k-at0 (m6 (sub left (C5 left r) r) rs) k=at0 left k-at0 (m6 (sub left (C5 left r) r) rs) k-C5 left r*at0 r k;rw[N4 ()];rfl'
def mix:aA->aH->Vec
 |r::rs,c::cs=>λk=>c*at0 r k+mix rs cs k
 |_,_=>λ_=>0
theorem Asc.low{n:Nat}:∀{f:Nat}{S:aA}{v:Vec},Asc n f S->Span (fP S) v->∀k,k<f->v k=0
 |_,[],v,_,s,k,_=>s k
 |f,r::S,v,⟨h1,h2,h3,h4,h5⟩,⟨c,s⟩,k,hk=>by
  have e:=Asc.low h5 s k ();have e2:at0 r k=0:=u5 r k ();have e:v k-c*at0 r k=0:=e;rw[e2]at e;simpa using e
theorem Asc.coef{n f:Nat}{r:gn}{v:Vec}{S:aA}{c:Int}(A:Asc n f (r::S))(s:Span (fP S) (λk=>v k-c*at0 r k)):v (b8 r)=c*hd r:=by
 have:v (b8 r)-c*at0 r (b8 r)=0:=A.2.2.2.2.low s _ (vU _);unfold hd;rfl'
theorem Asc.first{n:Nat}:∀{f:Nat}{S:aA}{v:Vec}{h:Nat},Asc n f S->Span (fP S) v->(∀k,k<h->v k=0)->v h≠0->∃r∈S,b8 r=h
 |_,[],v,h,_,s,_,q=>aM (s h) q
 |f,r::S,v,h,A,⟨c,s⟩,z,q=>by
  have e:=A.coef s;by_cases hc:c=0
  .subst hc;have s':Span (fP S) v:=Span.congr (λk=>by simp) s;obtain⟨x,hx,e⟩:=A.2.2.2.2.first s' z q;exact⟨x,wc _ hx,e⟩
  .have hn:v (b8 r)≠0:=by
     rw[e];intro z;rcases vT.mp z with z|z
     .exact hc z
     .have:=A.2.2.2.1;rfl'
   have h1:¬b8 r<h:=λz'=>hn (z _ z');by_cases h2:h<b8 r
   .exfalso;have e2:v h-c*at0 r h=0:=A.2.2.2.2.low s h ();rw[u5 r h h2]at e2;exact q (by simpa using e2)
   .exact⟨r,wf,()⟩
def even:aA->aA
 |[]=>[]
 |r::rs=>m6 r (even rs)::even rs
theorem Y9{n:Nat}:∀{f:Nat}{S:aA},Asc n f S->Asc n f (even S)/\(even S).map b8=S.map b8/\(even S).map hd=S.map hd
 |_,[],_=>⟨trivial,rfl,rfl⟩
 |f,r::rs,⟨h1,h2,h3,h4,h5⟩=>by
  obtain⟨i1,i2,i3⟩:=Y9 h5;have low:=CB i1 h1;have e1:at0 (m6 r (even rs)) (b8 r)=hd r:=low _ (vU _);have e2:b8 (m6 r (even rs))=b8 r:=L3 _ _ (λk hk=>by rw[low k ()];exact u5 r k hk) (by rw[e1];rfl');have e3:hd (m6 r (even rs))=hd r:=by unfold hd;rw[e2];exact e1
  refine⟨⟨M3 i1 h1,by rw[e2];exact h2,by rw[e2];exact h3,by rw[e3];exact h4,by rw[e2];exact i1⟩,?_,?_⟩
  .rw[even,wx,wx,e2,i2]
  .rw[even,wx,wx,e3,i3]
def u6(S:aA):List (Nat×Vec):=S.map λr=>(b8 r,gZ r)
theorem NN{n:Nat}:∀{f:Nat}{S:aA},Asc n f S->Form f (u6 (even S))
 |_,[],_=>trivial
 |f,r::rs,A=>by
  obtain⟨j1,_,_⟩:=Y9 A;obtain⟨h1,h2,h3,h4,h5⟩:=A;obtain⟨i1,i2,i3⟩:=Y9 h5;obtain⟨k1,k2,k3,k4,k5⟩:=j1;have low:=CB i1 h1;have e1:at0 (m6 r (even rs)) (b8 r)=hd r:=low _ (vU _);have e2:b8 (m6 r (even rs))=b8 r:=L3 _ _ (λk hk=>by rw[low k ()];exact u5 r k hk) (by rw[e1];rfl');refine⟨k2,λk hk=>u5 _ k hk,k4,λp hp=>?_,by rw[e2];exact NN h5⟩;obtain⟨x,hx,rfl⟩:=wj.mp hp;exact Q2 i1 h1 x hx
theorem NO{n:Nat}:∀{f:Nat}{S:aA},Asc n f S->SameSpan (fP (even S)) (fP S)
 |_,[],_=>SameSpan.refl
 |f,r::rs,A=>by
  obtain⟨h1,h2,h3,h4,h5⟩:=A;obtain⟨i1,i2,i3⟩:=Y9 h5;have ih:=NO h5;have sp:=J9 i1 h1;constructor
  .intro v hv;obtain⟨x,hx,rfl⟩:=wj.mp hv;rcases wB.mp hx with rfl|hx
   .refine⟨1,Span.congr (λk=>?_) ((ih.iff.mp sp).neg)⟩;show -(at0 r k-at0 (m6 r (even rs)) k)=at0 (m6 r (even rs)) k-1*at0 r k;rfl'
   .exact(ih.1 _ (DC hx)).cons
  .intro v hv;obtain⟨x,hx,rfl⟩:=wj.mp hv;rcases wB.mp hx with rfl|hx
   .refine⟨1,Span.congr (λk=>?_) sp⟩;show at0 x k-at0 (m6 x (even rs)) k=at0 x k-1*at0 (m6 x (even rs)) k;rfl'
   .exact(ih.2 _ (DC hx)).cons
end St
end
section
local macro_rules|`(tactic|rfl')=>`(tactic|first|lia|omega +splitDisjunctions)
namespace St
open Lat
theorem Asc.iff{n:Nat}:∀{f:Nat}{S:aA},Asc n f S↔(∀r∈S,r.length=n/\f<=b8 r/\b8 r<n/\0<hd r)/\(S.map b8).Pairwise (·<·)
 |f,[]=>by simp[Asc]
 |f,r::rs=>by
  constructor
  .intro A;refine⟨λx hx=>A.mem hx,?_⟩;rw[wx,vA];refine⟨λh hh=>?_,(Asc.iff.mp A.2.2.2.2).2⟩;obtain⟨x,hx,rfl⟩:=wj.mp hh;exact(A.2.2.2.2.mem hx).2.1
  .rintro⟨h1,h2⟩;rw[wx,vA]at h2;have q:=h1 r wf;refine⟨q.1,q.2.1,q.2.2.1,q.2.2.2,Asc.iff.mpr ⟨λx hx=>?_,h2.2⟩⟩;have q2:=h1 x (wc _ hx);exact⟨q2.1,h2.1 _ (wj.mpr ⟨x,hx,rfl⟩),q2.2.2.1,q2.2.2.2⟩
theorem sub_zero{a b:gn}(h:a.length=b.length):sub a 0 b=a:=ext0 (O9 h) λk=>by rw[N4 h];simp
theorem DE{n:Nat}{t:Nat}:∀{S:aA}{left:gn},(∀r∈S,r.length=n)->left.length=n->(∀k,k<t->at0 left k=0)->(∀k,k<t->at0 (m6 left S) k=0)/\(m6 left S).length=n
 |[],left,_,hl,z=>⟨z,hl⟩
 |r::rs,left,hw,hl,z=>by
  have h1:=hw r wf;rw[m6];refine DE (λx hx=>hw x (wc _ hx)) (by rw[O9 ()];exact hl) λk hk=>?_;rw[N4 (),z k hk];by_cases hh:b8 r<t
  .have:C5 left r=0:=by unfold C5;rw[z _ hh];simp
   rw[this];simp
  .rw[u5 r k ()];simp
def LowB(m:Nat):gn->aA->Prop
 |_,[]=>True
 |left,r::rs=>(C5 left r=0\/((C5 left r).natAbs<2^m/\Lt (2^m) r))/\LowB m (sub left (C5 left r) r) rs
theorem Q3{n t s e m:Nat}:∀{S:aA}{left:gn},(∀r∈S,r.length=n/\0<hd r)->left.length=n->(∀k,k<t->at0 left k=0)->(∀r∈S,t<=b8 r->Lt (2^e) r)->Lt (2^s) left->s+S.length*(e+1)<=m->e<=m ->
  Lt (2^(s+S.length*(e+1))) (m6 left S)/\LowB m left S
 |[],left,_,hl,z,_,hs,_,_=>⟨by simpa[m6]using hs,trivial⟩
 |r::rs,left,hw,hl,z,hb,hs,hm,hem=>by
  have h1:=hw r wf;have lenE:(r::rs).length*(e+1)=rs.length*(e+1)+(e+1):=by rw[wu,uV]
  have e2:∀q,(sub left q r).length=n:=λq=>by rw[O9 ()];exact hl
  by_cases hh:b8 r<t
  .have o:C5 left r=0:=by unfold C5;rw[z _ hh];simp
   have es:sub left (C5 left r) r=left:=by rw[o];exact sub_zero ()
   obtain⟨i1,i2⟩:=Q3 (t:=t) (s:=s) (e:=e) (m:=m) (S:=rs) (left:=left) (λx hx=>hw x (wc _ hx)) hl z (λx hx=>hb x (wc _ hx)) hs () hem;rw[m6,LowB,es];exact⟨i1.mono (wq (by decide) ()),.inl o,i2⟩
  .have hr:Lt (2^e) r:=hb r wf ();have st:=z1W (s:=2^s) (t:=2^e) () h1.2 hs hr;have st':Lt (2^(s+(e+1))) (sub left (C5 left r) r):=by
    refine st.mono ?_;rw[vB];refine vw _ ?_;have:0<2^e:=wK e;rw[vX];rfl'
   obtain⟨i1,i2⟩:=Q3 (t:=t) (s:=s+(e+1)) (e:=e) (m:=m) (S:=rs) (left:=sub left (C5 left r) r) (λx hx=>hw x (wc _ hx)) (e2 _)
    (λk hk=>by rw[N4 (),z k hk,u5 r k ()];simp) (λx hx=>hb x (wc _ hx)) st' () hem
   rw[m6,LowB];refine⟨i1.mono (wq (by decide) ()),.inr ⟨?_,hr.mono (wq (by decide) hem)⟩,i2⟩;refine w0y (BK (at0 left (b8 r)) h1.2) (wG (hs _) (wq (by decide) ()))
def C0(r left:gn)(x y:Int):gn:=lin x r y left
def G8(r left:gn)(g:Int):gn:=lin ((at0 r (b8 r)).fdiv g) left (-((at0 left (b8 r)).fdiv g)) r
structure Wi(n e eh m0 kk:Nat)(S0:aA)(v:gn)(S:aA)(left:gn):Prop where
 asc:Asc n 0 S
 len:left.length=n
 heads:S.map b8=S0.map b8
 span:SameSpan (fP (left::S)) (fP (v::S0))
 low:∀r∈S,0<=at0 left (b8 r)/\at0 left (b8 r)<hd r
 right:∀r∈S,b8 left<=b8 r->Lt (2^e) r
 hds:∀r∈S,hd r<2^eh
 size:Lt (2^(m0+b8 left*kk)) left
 all:∀r∈S,Lt (2^(e+3+(m0+b8 left*kk))) r
theorem tB{a b:gn}{x y:Int}{p q s:Nat}(h:a.length=b.length)(hx:x.natAbs<2^p)(hy:y.natAbs<2^p)(ha:Lt (2^q) a)(hb:Lt (2^q) b)(hs:p+q+1<=s):Lt (2^s) (lin x a y b):=λk=>by
 rw[Kl h];have h1:(x*at0 a k).natAbs<2^(p+q):=by
  rw[vq,vB];exact uW hx (ha k)
 have h2:(y*at0 b k).natAbs<2^(p+q):=by
  rw[vq,vB];exact uW hy (hb k)
 have h3:2^(p+q+1)<=2^s:=wq (by decide) hs;rw[vX]at h3;omega +splitDisjunctions
theorem m9{S:aA}{r:gn}(h:r∈S):Span (fP S) (λk=>at0 r k):=Span.mem (DC h)
theorem GT{T:List Vec}{u v:Vec}(x y:Int)(hu:Span T u)(hv:Span T v):Span T (λk=>x*u k+y*v k):=(hu.smul x).add (hv.smul y)
theorem CC{A B:aA}(h1:∀r∈A,Span (fP B) (λk=>at0 r k))(h2:∀r∈B,Span (fP A) (λk=>at0 r k)):SameSpan (fP A) (fP B):=by
 constructor
 .intro v hv;obtain⟨r,hr,rfl⟩:=wj.mp hv;exact h1 r hr
 .intro v hv;obtain⟨r,hr,rfl⟩:=wj.mp hv;exact h2 r hr
theorem Wi.step{n e eh m0 kk:Nat}{S0:aA}{v:gn}{S1 S2:aA}{r left:gn}{g x y:Int}(I:Wi n e eh m0 kk S0 v (S1++r::S2) left)(hh:b8 r=b8 left)(hn:b8 left<n)
   (hg:0<g) (ga:g∣hd r) (gb:g∣at0 left (b8 r)) (hxy:hd r*x+at0 left (b8 r)*y=g) (hx:x.natAbs<2^(e+2)) (hy:y.natAbs<2^(e+2)) (he:e<=m0)
   (hk:2*e+3+(S1.length+S2.length+1)*(e+1)<=kk) :
   Wi n e eh m0 kk S0 v (S1++C0 r left x y::S2) (m6 (G8 r left g) (S1++C0 r left x y::S2))/\b8 left<b8 (m6 (G8 r left g) (S1++C0 r left x y::S2)) /\
     LowB (m0+n*kk) (G8 r left g) (S1++C0 r left x y::S2)/\(∀q∈S1++C0 r left x y::S2,hd q<2^eh):=by
 have hrm:r∈S1++r::S2:=ww.mpr (.inr wf);have q:=I.asc.mem hrm;have hl:r.length=left.length:=by rw[q.1,I.len]
 have hlow:=I.low r hrm;have hu:∀k,at0 (C0 r left x y) k=x*at0 r k+y*at0 left k:=λk=>Kl hl k;have hlo:∀k,at0 (G8 r left g) k=((at0 r (b8 r)).fdiv g)*at0 left k+(-((at0 left (b8 r)).fdiv g))*at0 r k:=λk=>Kl hl.symm k;have lu:(C0 r left x y).length=n:=by unfold C0;rw[Kk hl];exact q.1
 have llo:(G8 r left g).length=n:=by unfold G8;rw[Kk hl.symm];exact I.len
 obtain⟨a',ea⟩:=ga;obtain⟨b',eb⟩:=gb;have da:(hd r).fdiv g=a':=by rw[ea];exact w0M _ ()
 have db:(at0 left (b8 r)).fdiv g=b':=by rw[eb];exact w0M _ ()
 have hlo:∀k,at0 (G8 r left g) k=a'*at0 left k+(-b')*at0 r k:=λk=>by
   have:=hlo k;rw[db,show at0 r (b8 r)=hd r from rfl,da]at this;exact this
 have det:a'*x+b'*y=1:=by
   have:g*(a'*x+b'*y)=g*1:=by rw[uH,<-vH,<-vH,<-ea,<-eb];rfl'
   exact w0B () this
 have zb:∀k,k<b8 left->at0 r k=0/\at0 left k=0:=λk hk=>⟨u5 r k (),u5 left k hk⟩;have us:at0 (C0 r left x y) (b8 r)=g:=by rw[hu,<-hxy];show x*hd r+y*_=_;rw[wU x,wU y]
 have uh:b8 (C0 r left x y)=b8 r:=L3 _ _ (λk hk=>by rw[hu,(zb k ()).1,(zb k ()).2];simp) (by rw[us];rfl');have uhd:hd (C0 r left x y)=g:=by unfold hd;rw[uh];exact us
 have gle:g<=hd r:=uj q.2.2.2 ⟨a',ea⟩;have lz:∀k,k<b8 left+1->at0 (G8 r left g) k=0:=λk hk=>by
   rw[hlo];by_cases h:k<b8 left
   .rw[(zb k h).1,(zb k h).2];simp
   .have:k=b8 r:=()
    subst this;rw[eb,show at0 r (b8 r)=hd r from rfl,ea,vL a' g b',uq,vL b' g a',wU a' b'];rfl'
 have asc':Asc n 0 (S1++C0 r left x y::S2):=by
   have A:=Asc.iff.mp I.asc;refine Asc.iff.mpr ⟨λz hz=>?_,?_⟩
   .rcases ww.mp hz with h|h
    .exact A.1 z (ww.mpr (.inl h))
    .rcases wB.mp h with rfl|h
     .exact⟨lu,vh _,by rw[uh];exact q.2.2.1,by rw[uhd];exact hg⟩
     .exact A.1 z (ww.mpr (.inr (wc _ h)))
   .have e1:(S1++C0 r left x y::S2).map b8=(S1++r::S2).map b8:=by simp[uh]
    rw[e1];exact A.2
 have hw':∀z∈S1++C0 r left x y::S2,z.length=n:=λz hz=>(asc'.mem hz).1;obtain⟨nz,nl⟩:=DE (t:=b8 left+1) hw' llo lz;have hhead:b8 left+1<=b8 (m6 (G8 r left g) (S1++C0 r left x y::S2)):=z0g _ _ nz (by rw[nl];rfl');have mm:∀z∈S1++C0 r left x y::S2,z=C0 r left x y\/z∈S1++r::S2:=λz hz=>by
   rcases ww.mp hz with h|h
   .exact .inr (ww.mpr (.inl h))
   .rcases wB.mp h with rfl|h
    .exact .inl rfl
    .exact .inr (ww.mpr (.inr (wc _ h)))
 have right':∀z∈S1++C0 r left x y::S2,b8 left+1<=b8 z->Lt (2^e) z:=λz hz hk=>by
   rcases mm z hz with rfl|h
   .rw[uh]at hk;rfl'
   .exact I.right z h ()
 have rlt:Lt (2^e) r:=I.right r hrm ();have hds':∀z∈S1++C0 r left x y::S2,hd z<2^eh:=λz hz=>by
   rcases mm z hz with rfl|h
   .rw[uhd];have:=I.hds r hrm;rfl'
   .exact I.hds z h
 have aS:(a').natAbs<2^e:=by
   have h1:(hd r).natAbs<2^e:=rlt (b8 r);rw[ea,vq]at h1;have:1*a'.natAbs<=g.natAbs*a'.natAbs:=wN _ ();rfl'
 have bS:(-b').natAbs<2^e:=by
   have h1:(hd r).natAbs<2^e:=rlt (b8 r);have h2:(at0 left (b8 r)).natAbs<2^e:=()
   rw[eb,vq]at h2;have:1*b'.natAbs<=g.natAbs*b'.natAbs:=wN _ ();rfl'
 have m1:e<=m0+b8 left*kk:=()
 have sl:Lt (2^(e+(m0+b8 left*kk)+1)) (G8 r left g):=by
   unfold G8;rw[show at0 r (b8 r)=hd r from rfl,da,db];exact tB hl.symm aS bS I.size (rlt.mono (wq (by decide) m1)) (wt _)
 have hk1:(b8 left+1)*kk=b8 left*kk+kk:=by rw[uV]
 have hkn:(b8 left+1)*kk<=n*kk:=wN _ ();have hkh:(b8 left+1)*kk<=b8 (m6 (G8 r left g) (S1++C0 r left x y::S2))*kk:=wN _ hhead;have lenS:(S1++C0 r left x y::S2).length=S1.length+S2.length+1:=by simp;rfl'
 obtain⟨z1,z2⟩:=Q3 (n:=n) (t:=b8 left+1) (s:=e+(m0+b8 left*kk)+1) (e:=e) (m:=m0+n*kk) (S:=S1++C0 r left x y::S2) (left:=G8 r left g)
   (λz hz=>⟨hw' z hz,(asc'.mem hz).2.2.2⟩) llo lz right' sl (by rw[lenS];rfl') ()
 have low':=Q2 asc' llo;refine⟨⟨asc',nl,?_,?_,low',λz hz hk=>right' z hz (),hds',z1.mono (wq (by decide) (by rw[lenS];rfl')),λz hz=>?_⟩,hhead,z2,hds'⟩
 .rw[<-I.heads];simp[uh]
 .refine SameSpan.trans (CC (B:=left::(S1++r::S2)) ?_ ?_) I.span
  ·
    have oldr:Span (fP (left::(S1++r::S2))) (λk=>at0 r k):=m9 (wc _ hrm);have oldl:Span (fP (left::(S1++r::S2))) (λk=>at0 left k):=m9 wf;have nu:Span (fP (left::(S1++r::S2))) (λk=>at0 (C0 r left x y) k):=Span.congr (λk=>(hu k).symm) (GT x y oldr oldl);have nlo:Span (fP (left::(S1++r::S2))) (λk=>at0 (G8 r left g) k):=Span.congr (λk=>(hlo k).symm) (GT a' (-b') oldl oldr);have all:∀z∈S1++C0 r left x y::S2,Span (fP (left::(S1++r::S2))) (λk=>at0 z k):=λz hz=>by
      rcases mm z hz with rfl|h
      .exact nu
      .exact m9 (wc _ h)
    intro z hz;rcases wB.mp hz with rfl|hz
    .have d:=J9 asc' llo;have d':Span (fP (left::(S1++r::S2))) (λk=>at0 (G8 r left g) k-at0 (m6 (G8 r left g) (S1++C0 r left x y::S2)) k):=
       d.trans λw hw=>by obtain⟨z,hz,rfl⟩:=wj.mp hw;exact all z hz
     exact Span.congr (λk=>()) (nlo.sub d')
    .exact all z hz
  .have um:C0 r left x y∈S1++C0 r left x y::S2:=ww.mpr (.inr wf);have nu:Span (fP (m6 (G8 r left g) (S1++C0 r left x y::S2)::(S1++C0 r left x y::S2))) (λk=>at0 (C0 r left x y) k):=m9 (wc _ um);have nlo:Span (fP (m6 (G8 r left g) (S1++C0 r left x y::S2)::(S1++C0 r left x y::S2))) (λk=>at0 (G8 r left g) k):=by
     have d:=J9 asc' llo;have t:Span (fP (m6 (G8 r left g) (S1++C0 r left x y::S2)::(S1++C0 r left x y::S2))) (λk=>at0 (m6 (G8 r left g) (S1++C0 r left x y::S2)) k):=m9 wf;exact Span.congr (λk=>()) (t.add d.cons)
   have nr:∀k,at0 r k=a'*at0 (C0 r left x y) k+(-y)*at0 (G8 r left g) k:=λk=>by
     rw[hu,hlo];have:at0 r k=(a'*x+b'*y)*at0 r k:=by rw[det];rfl'
     rw[this]
     grind
   have nle:∀k,at0 left k=b'*at0 (C0 r left x y) k+x*at0 (G8 r left g) k:=λk=>by
     rw[hu,hlo];have:at0 left k=(a'*x+b'*y)*at0 left k:=by rw[det];rfl'
     rw[this]
     grind
   intro z hz;rcases wB.mp hz with rfl|hz
   .exact Span.congr (λk=>(nle k).symm) (GT _ _ nu nlo)
   .rcases ww.mp hz with h|h
    .exact m9 (wc _ (ww.mpr (.inl h)))
    .rcases wB.mp h with rfl|h
     .exact Span.congr (λk=>(nr k).symm) (GT _ _ nu nlo)
     .exact m9 (wc _ (ww.mpr (.inr (wc _ h))))
 .rcases mm z hz with rfl|h
  .exact tB (q:=m0+b8 left*kk) hl hx hy (rlt.mono (wq (by decide) m1)) I.size ()
  .exact(I.all z h).mono (wq (by decide) ())
end St
end
section
namespace St
open Lat
def Ind(R:aA):Prop:=∀cs:aH,cs.length=R.length->(∀k,mix R cs k=0)->∀c∈cs,c=0
theorem GV{T:List Vec}:∀{R:aA}{cs:aH},(∀r∈R,Span T (λk=>at0 r k))->Span T (mix R cs)
 |[],cs,_=>by unfold mix;exact Span.zero
 |r::R,[],_=>by unfold mix;exact Span.zero
 |r::R,c::cs,h=>by
  unfold mix;exact((h r wf).smul c).add (GV λx hx=>h x (wc _ hx))
def iX(a b:aH):aH:=bQ (λx y=>x-y) a b
theorem YO{a b:aH}(h:a.length=b.length):(iX a b).length=a.length:=by unfold iX;rw[uf];rfl'
theorem YQ:∀{R:aA}{a b:aH},a.length=b.length->∀k,mix R (iX a b) k=mix R a k-mix R b k
 |[],a,b,h,k=>by simp[mix]
 |r::R,[],[],h,k=>by simp[mix,iX]
 |r::R,x::a,y::b,h,k=>by
  have ih:=YQ (R:=R) (a:=a) (b:=b) (by simpa using h) k;show(x-y)*at0 r k+mix R (iX a b) k=(x*at0 r k+mix R a k)-(y*at0 r k+mix R b k);rw[ih,w0H];rfl'
theorem Ru:∀{a b:aH},a.length=b.length->(∀c∈iX a b,c=0)->a=b
 |[],[],_,_=>rfl
 |x::a,y::b,h,z=>by
  have h1:x-y=0:=z _ (wf);rw[Ru (a:=a) (b:=b) (by simpa using h) λc hc=>z c (wc _ hc),show x=y by rfl']
theorem NP{N:Nat}:∀{a b:aH},(∀c∈a,0<=c/\c<=N)->(∀c∈b,0<=c/\c<=N)->∀c∈iX a b,c.natAbs<=N
 |[],_,_,_,c,hc=>by simp[iX]at hc
 |x::a,[],_,_,c,hc=>by simp[iX]at hc
 |x::a,y::b,ha,hb,c,hc=>by
  have hc:c∈(x-y)::iX a b:=hc;rcases wB.mp hc with rfl|hc
  .have:=ha x wf;have:=hb y wf;rfl'
  .exact NP (λc h=>ha c (wc _ h)) (λc h=>hb c (wc _ h)) c hc
theorem PC{N B:Nat}:∀{R:aA}{cs:aH},(∀r∈R,Lt B r)->(∀c∈cs,c.natAbs<=N)->∀k,(mix R cs k).natAbs<=R.length*(N*B)
 |[],cs,_,_,k=>by simp[mix]
 |r::R,[],_,_,k=>by simp[mix]
 | r::R,c::cs,hr,hc,k=>by
  have ih:=PC (R:=R) (cs:=cs) (λx hx=>hr x (wc _ hx)) (λx hx=>hc x (wc _ hx)) k;show(c*at0 r k+mix R cs k).natAbs<=_;have h1:(c*at0 r k).natAbs<=N*B:=by
   rw[vq];exact ue (hc c wf) (vZ (hr r wf k))
  rw[wu,uV];rfl'
theorem Iz{N:Nat}:∀{r:Nat}{t:aH},L0 (aP r (N+1)) t↔t.length=r/\∀c∈t,0<=c/\c<=N
 |0,[]=>by simp[L0]
 |0,x::t=>by simp[L0]
 |r+1,[]=>by simp[L0,aP]
 |r+1,x::t=>by
  rw[w0t,L0,Iz,wu];constructor
  .rintro⟨h1,h2,h3,h4⟩;refine⟨(),λc hc=>?_⟩;rcases wB.mp hc with rfl|hc
   .rfl'
   .exact h4 c hc
  .rintro⟨h1,h2⟩;have:=h2 x wf;exact⟨(),(),(),λc hc=>h2 c (wc _ hc)⟩
theorem Lm(N:Nat):∀r,prod (aP r N)=N^r
 |0=>rfl
 |r+1=>by rw[w0t,prod,Lm,vX,uG]
theorem kH{R:aA}{B:Nat}(hR:Ind R)(hb:∀r∈R,Lt B r)(hp:0<B)(hs:fu)(hl:hs.length+1=R.length):
   ∃cs:aH,cs.length=R.length/\(∀h∈hs,mix R cs h=0)/\(∃k,mix R cs k≠0)/\∀k,(mix R cs k).natAbs<=(2*R.length*B)^R.length:=by
 let r:=R.length;let N:=(2*R.length*B) ^ hs.length;let W:=R.length*(N*B);let f:aH->aH:=λcs=>hs.map λh=>mix R cs h+(W:Int);have main:∃ a b:aH,L0 (List.replicate r (N+1)) a/\L0 (List.replicate r (N+1)) b/\f a=f b/\a≠b:=by
   apply vg;intro no;have inj:∀s t,L0 (aP r (N+1)) s->L0 (aP r (N+1)) t->f s=f t->s=t:=λs t h1 h2 h3=>vg λhne=>no ⟨s,t,h1,h2,h3,hne⟩;have h1:=PB (ns:=aP r (N+1)) (ms:=aP hs.length (2*W+1)) f inj λs hsr=>by
    rw[Iz]at hsr|-;refine⟨by simp[f],λc hc=>?_⟩;obtain⟨h,_,rfl⟩:=wj.mp hc;have:=PC (N:=N) hb (cs:=s) (λc hc=>by have:=hsr.2 c hc;rfl') h;have:(mix R s h).natAbs<=W:=this;rfl'
   rw[Lm,Lm]at h1;have hr1:1<=R.length:=()
   have h2:2*W+1<=(2*R.length*B)*(N+1):=by
    have e:(2*R.length*B)*(N+1)=2*W+2*R.length*B:=by
     show _=2*(R.length*(N*B))+_;rw[w0G,w1a];congr 1;rw[uG N B,vY,vY]
    have:1<=2*R.length*B:=w1b () hp;rfl'
   have h3:(2*W+1)^hs.length<=((2*R.length*B)*(N+1))^hs.length:=uZ h2 _;rw[Nat.mul_pow]at h3;have h4:(N+1)^r=(N+1)*(N+1)^hs.length:=by rw[show r=hs.length+1 from hl.symm,vX,uG]
   rw[h4]at h1;have h5:(N+1)*(N+1)^hs.length<=N*(N+1)^hs.length:=wO h1 h3;have h6:0<(N+1)^hs.length:=w1J ();rw[uV]at h5;rfl'
 obtain⟨a,b,ha,hb',hf,hne⟩:=main;rw[Iz]at ha hb';have hab:a.length=b.length:=by rw[ha.1,hb'.1]
 refine⟨iX a b,by rw[YO hab];exact ha.1,λh hh=>?_,?_,λk=>?_⟩
 .rw[YQ hab];have:mix R a h+(W:Int)=mix R b h+(W:Int):=List.map_inj_left.mp hf h hh;rfl'
 .apply vg;intro no;have z:∀k,mix R (iX a b) k=0:=λk=>vg λh=>no ⟨k,h⟩;exact hne (Ru hab (hR (iX a b) (by rw[YO hab];exact ha.1) z))
 .have:=PC (N:=N) hb (cs:=iX a b) (NP ha.2 hb'.2) k;refine wO this ?_;rw[<-hl,vX,hl,uG];show(N*B)*R.length<=N*(2*R.length*B);rw[vY,uG B];refine vw _ ?_;rw[vY];rfl'
theorem Rv(v:Vec):∀m,v m≠0->∃h,(∀k,k<h->v k=0)/\v h≠0:=by
 intro m
 induction m using uP with
 |_ m ih=>
  intro hm;by_cases q:∃k,k<m/\v k≠0
  .obtain⟨k,h1,h2⟩:=q;exact ih k h1 h2
  .exact⟨m,λk hk=>vg λh=>q ⟨k,hk,h⟩,hm⟩
theorem Rw{E:Nat}:∀{T:aA}{n f Q:Nat}{u:Vec},Asc n f T->Form f (u6 T)->(∀r∈T,Lt E r)->Span (fP T) u->(∀r∈T,(u (b8 r)).natAbs<=Q*(hd r).natAbs)->∀k,(u k).natAbs<=Q*((2^T.length-1)*E)
 |[],n,f,Q,u,_,_,_,s,_,k=>by rw[s k];simp
 | r::T,n,f,Q,u,A,F,hE,⟨c,s⟩,hu,k=>by
  have hp:=A.2.2.2.1;have ec:=A.coef s;have hc:c.natAbs<=Q:=by
   have:=hu r wf;rw[ec,vq]at this;exact Nat.le_of_mul_le_mul_right this ()
  have ih:=Rw (T:=T) (Q:=2*Q) A.2.2.2.2 F.2.2.2.2 (λx hx=>hE x (wc _ hx)) s (λx hx=>by
   have h1:=hu x (wc _ hx);have h2:=F.2.2.2.1 (b8 x,gZ x) (wj.mpr ⟨x,hx,rfl⟩);have h2:0<=at0 r (b8 x)/\at0 r (b8 x)<hd x:=h2;show(u (b8 x)-c*at0 r (b8 x)).natAbs<=_;have h3:(c*at0 r (b8 x)).natAbs<=Q*(hd x).natAbs:=by rw[vq];exact ue hc ()
   rw[vY];rfl') k
  have ih:(u k-c*at0 r k).natAbs<=2*Q*((2^T.length-1)*E):=ih;have h4:(c*at0 r k).natAbs<=Q*E:=by rw[vq];exact ue hc (vZ (hE r wf k))
  have h5:Q*((2^(r::T).length-1)*E)=2*Q*((2^T.length-1)*E)+Q*E:=by
   have p:0<2^T.length:=wK _;rw[wu,vX,show 2^T.length*2-1=2*(2^T.length-1)+1 by rfl',w1I,Nat.one_mul,w0G,vY 2,Nat.mul_left_comm Q 2,vY 2]
  rfl'
theorem z1Y{W E n f:Nat}{r:gn}{T:aA}{w:Vec}(A:Asc n f (r::T))(F:Form f (u6 (r::T)))(hE:∀x∈T,Lt E x)(s:Span (fP (r::T)) w)(h0:w (b8 r)≠0)(hz:∀x∈T,w (b8 x)=0)(hw:∀k,(w k).natAbs<=W):
  ∀k,(at0 r k).natAbs<=W+(2^T.length-1)*E:=by
 obtain⟨c,s⟩:=s;have ec:=A.coef s;have c0:c≠0:=by intro z;rw[z]at ec;simp at ec;exact h0 ec
 intro k;have q:=Rw (E:=E) (Q:=c.natAbs) A.2.2.2.2 F.2.2.2.2 hE s (λx hx=>by
  have h2:=F.2.2.2.1 (b8 x,gZ x) (wj.mpr ⟨x,hx,rfl⟩);have h2:0<=at0 r (b8 x)/\at0 r (b8 x)<hd x:=h2;show(w (b8 x)-c*at0 r (b8 x)).natAbs<=_;rw[hz x hx];have h3:(c*at0 r (b8 x)).natAbs<=c.natAbs*(hd x).natAbs:=by rw[vq];exact vw _ ()
  rfl') k
 have q:(w k-c*at0 r k).natAbs<=c.natAbs*((2^T.length-1)*E):=q;have hwk:=hw k;have e1:(c*at0 r k).natAbs=c.natAbs*(at0 r k).natAbs:=vq _ _;apply ug;intro hlt;generalize (2^T.length-1)*E=X at *;have h6:c.natAbs*(W+X+1)<=c.natAbs*(at0 r k).natAbs:=vw _ hlt;have h7:c.natAbs*(W+X+1)=c.natAbs*X+c.natAbs*(W+1):=by rw[<-w0G];congr 1;rfl'
 have h8:1*(W+1)<=c.natAbs*(W+1):=wN _ ();rfl'
def gR(r B:Nat):Nat:=(2*r*B)^r*2^(r*r)
theorem NQ{W n:Nat}:∀{T:aA}{f:Nat},Asc n f T->Form f (u6 T)->(∀r∈T,∃w:Vec,Span (fP T) w/\w (b8 r)≠0/\(∀k,k<b8 r->w k=0)/\(∀x∈T,x≠r->w (b8 x)=0)/\∀k,(w k).natAbs<=W)->∀r∈T,Lt (W*2^(T.length*T.length)+1) r
 |r::T,f,A,F,h,x,hx=>by
  have nd:∀y∈T,b8 r<b8 y:=λy hy=>(A.2.2.2.2.mem hy).2.1;have ih:=NQ (T:=T) A.2.2.2.2 F.2.2.2.2 (λy hy=>by
    obtain⟨w,w1,w2,w3,w4,w5⟩:=h y (wc _ hy);refine⟨w,?_,w2,w3,λz hz hne=>w4 z (wc _ hz) hne,w5⟩;exact Form.tail F (show Span (E6 (u6 (r::T))) w by
     have:E6 (u6 (r::T))=fP (r::T):=by simp[u6,E6]
     rw[this];exact w1) (w3 _ (nd y hy)) |> λs=>by
      have:E6 (u6 T)=fP T:=by simp[u6,E6]
      have s:Span (E6 (u6 T)) w:=s;rw[this]at s;exact s)
  have hW:W*2^(T.length*T.length)+1<=W*2^((r::T).length*(r::T).length)+1:=by
    refine w1C (vw _ (wq (by decide) ?_));exact ue (by simp) (by simp)
  rcases wB.mp hx with rfl|hx
  .obtain⟨w,w1,w2,w3,w4,w5⟩:=h x wf;intro k;have q:=z1Y (E:=W*2^(T.length*T.length)+1) A F ih w1 w2 (λy hy=>w4 y (wc _ hy) λe=>by have:=nd y hy;rw[e]at this;rfl') w5 k;refine Nat.lt_succ_of_le (wO q ?_);have hW1:1<=W:=by have:=w5 (b8 x);rfl'
   have e2:(x::T).length*(x::T).length=T.length*T.length+T.length+T.length+1:=by rw[wu];grind
   rw[e2,vX,vB];generalize hP:2^(T.length*T.length+T.length)=P;have p1:2^(T.length*T.length)*2^T.length=P:=by rw[<-hP,vB]
   have p2:1<=2^T.length:=wK _;have p3:1<=2^(T.length*T.length):=wK _;generalize 2^T.length=a at *;generalize 2^(T.length*T.length)=b at *;have h1:(a-1)*(W*b+1)<=a*(2*(W*b)):=ue () (by have:1<=W*b:=w1b hW1 p3;rfl');have h1':(a-1)*(W*b+1)+(W*b+1)=a*(W*b+1):=by
    have:a=(a-1)+1:=()
    rw[show a*(W*b+1)=((a-1)+1)*(W*b+1) by rw[<-this],uV]
   have h2:W<=W*b:=w0O _ p3;have h3:a*(W*b+1)<=a*(2*(W*b)):=vw _ (by have:1<=W*b:=w1b hW1 p3;rfl');have h4:a*(2*(W*b))=W*(b*a)*2:=by grind
   have h5:W*(b*a)*2<=W*(P*a*2):=by
    rw[p1,vY];refine vw _ (wN _ (w0O _ p2))
   rfl'
  .exact(ih x hx).mono hW
theorem NR(T:aA):E6 (u6 T)=fP T:=by simp[u6,E6]
theorem TR{n B:Nat}{S R:aA}(A:Asc n 0 S)(F:Form 0 (u6 S))(hR:Ind R)(hl:R.length=S.length)(hs:∀r∈R,Span (fP S) (λk=>at0 r k))(hb:∀r∈R,Lt B r)(hp:0<B):
  ∀r∈S,Lt (gR S.length B+1) r:=by
 refine NQ A F λr hr=>?_;have hpw:=(Asc.iff.mp A).2;obtain⟨S1,S2,rfl⟩:=w1h hr;obtain⟨cs,c1,c2,⟨m,c3⟩,c4⟩:=kH hR hb hp ((S1++S2).map b8) (by rw[hl];simp;rfl');have sp:Span (fP (S1++r::S2)) (mix R cs):=GV hs;obtain⟨h,z,q⟩:=Rv _ m c3;obtain⟨x,hx,ex⟩:=A.first sp z q;have oth:∀y∈S1++r::S2,y≠r->y∈S1++S2:=λy hy hne=>by
  rcases ww.mp hy with h|h
  .exact ww.mpr (.inl h)
  .rcases wB.mp h with rfl|h
   .exact aM rfl hne
   .exact ww.mpr (.inr h)
 have zo:∀y∈S1++r::S2,y≠r->mix R cs (b8 y)=0:=λy hy hne=>c2 _ (wj.mpr ⟨y,oth y hy hne,rfl⟩);have er:x=r:=vg λhne=>q (by rw[<-ex];exact zo x hx hne);subst er;rw[hl]at c4;exact⟨mix R cs,sp,by rw[ex];exact q,λk hk=>z k (),zo,c4⟩
end St
end
section
local macro_rules|`(tactic|rfl')=>`(tactic|first|lia|omega +splitDisjunctions)
namespace St
open Lat
structure Post(n u:Nat)(S0:aA)(v:gn)(S:aA):Prop where
 asc:Asc n 0 S
 span:SameSpan (fP S) (fP (v::S0))
 size:∀r∈S,Lt (2^u) r
 more:S.map b8=S0.map b8\/(S.length=S0.length+1/\∃r∈S,∀x∈S0,b8 x≠b8 r)
theorem Wi.start{n e eh s m0 kk:Nat}{S0:aA}{v:gn}(A:Asc n 0 S0)(hv:v.length=n)(h0:∀r∈S0,Lt (2^e) r)(hh:∀r∈S0,hd r<2^eh)(hs:Lt (2^s) v)(hm:s+S0.length*(e+1)<=m0)(he:e<=m0):
   Wi n e eh m0 kk S0 v S0 (m6 v S0)/\LowB m0 v S0:=by
 obtain⟨z1,z2⟩:=Q3 (n:=n) (t:=0) (s:=s) (e:=e) (m:=m0) (S:=S0) (left:=v) (λr hr=>⟨(A.mem hr).1,(A.mem hr).2.2.2⟩) hv (λk hk=>()) (λr hr _=>h0 r hr) hs hm he;have sp:=J9 A hv;refine⟨⟨A,M3 A hv,rfl,?_,Q2 A hv,λr hr _=>h0 r hr,λr hr=>?_,z1.mono (wq (by decide) ()),λr hr=>(h0 r hr).mono (wq (by decide) ())⟩,z2⟩
 .refine CC (λr hr=>?_) λr hr=>?_
  .rcases wB.mp hr with rfl|hr
   .have t:Span (fP (v::S0)) (λk=>at0 v k):=m9 wf;exact Span.congr (λk=>()) (t.sub sp.cons)
   .exact m9 (wc _ hr)
  .rcases wB.mp hr with rfl|hr
   .have t:Span (fP (m6 r S0::S0)) (λk=>at0 (m6 r S0) k):=m9 wf;exact Span.congr (λk=>()) (t.add sp.cons)
   .exact m9 (wc _ hr)
 .exact hh r hr
theorem Wi.done{n e eh m0 kk:Nat}{S0:aA}{v:gn}{S:aA}{left:gn}(I:Wi n e eh m0 kk S0 v S left)(h:¬b8 left<n):Post n (e+3+(m0+n*kk)) S0 v S:=by
 have hl:=Ix left;rw[I.len]at hl;have e:b8 left=n:=()
 refine⟨I.asc,SameSpan.trans (CC (λr hr=>m9 (wc _ hr)) λr hr=>?_) I.span,λr hr=>by have:=I.all r hr;rw[e]at this;exact this,.inl I.heads⟩;rcases wB.mp hr with rfl|hr
 .refine Span.congr (λk=>?_) Span.zero;by_cases hk:k<n
  .exact(u5 r k ()).symm
  .exact(u7 (by rw[I.len];rfl')).symm
 .exact m9 hr
theorem Wi.new{n e eh m0 kk:Nat}{S0:aA}{v:gn}{S S':aA}{left t:gn}(I:Wi n e eh m0 kk S0 v S left)(h:b8 left<n)(hn:∀r∈S,b8 r≠b8 left)
   (ht:t.length=n) (c:Int) (hc:c=1\/c = -1) (et:∀k,at0 t k=c*at0 left k) (hp:0<at0 t (b8 left)) (pm:S'.Perm (t::S)) (pw:(S'.map b8).Pairwise (·<·)):Post n (e+3+(m0+n*kk)) S0 v S':=by
 have hh:b8 t=b8 left:=L3 _ _ (λk hk=>by rw[et,u5 left k hk];simp) ();have mem:∀r∈S',r=t\/r∈S:=λr hr=>wB.mp (pm.mem_iff.mp hr);have tm:t∈S':=pm.mem_iff.mpr wf;have sm:∀r∈S,r∈S':=λr hr=>pm.mem_iff.mpr (wc _ hr);have hk:m0+b8 left*kk<=m0+n*kk:=by have:=wN kk (vZ h);rfl'
 refine⟨Asc.iff.mpr ⟨λr hr=>?_,pw⟩,SameSpan.trans (CC (λr hr=>?_) λr hr=>?_) I.span,λr hr=>?_,.inr ⟨?_,t,tm,λx hx e=>?_⟩⟩
 .rcases mem r hr with rfl|hr
  .exact⟨ht,vh _,by rw[hh];exact h,by unfold hd;rw[hh];exact hp⟩
  .exact I.asc.mem hr
 .rcases mem r hr with rfl|hr
  .exact Span.congr (λk=>(et k).symm) ((m9 wf:Span (fP (left::S)) (λk=>at0 left k)).smul c)
  .exact m9 (wc _ hr)
 .rcases wB.mp hr with rfl|hr
  .refine Span.congr (λk=>?_) ((m9 tm:Span (fP S') (λk=>at0 t k)).smul c);show c*at0 t k=at0 r k;rw[et];rcases hc with rfl|rfl<;>rfl'
  .exact m9 (sm r hr)
 .rcases mem r hr with rfl|hr
  .intro k;rw[et];have h1:=I.size k;have h2:2^(m0+b8 left*kk)<=2^(e+3+(m0+n*kk)):=wq (by decide) ();rcases hc with rfl|rfl<;>rfl'
  .exact(I.all r hr).mono (wq (by decide) ())
 .have h1:=pm.length_eq;have h2:=bv dg I.heads;simp at h1 h2;rfl'
 .have:b8 x∈S.map b8:=by rw[I.heads];exact wj.mpr ⟨x,hx,rfl⟩
  obtain⟨y,hy,ey⟩:=wj.mp this;exact hn y hy ()
structure Good(n B:Nat)(rows:aA)(S:aA):Prop where
 asc:Asc n 0 S
 form:Form 0 (u6 S)
 span:SameSpan (fP S) (fP rows)
 ind:∃R:aA,Ind R/\R.length=S.length/\(∀r∈R,r∈rows)
 len:S.length<=rows.length
 full:Ind rows->S.length=rows.length
theorem Good.nil{n B:Nat}:Good n B [] []:=⟨trivial,trivial,SameSpan.refl,⟨[],(λcs h _ c hc=>by have h:cs=[]:=w0P.mp h;subst h;cases hc),rfl,λr hr=>by cases hr⟩,wt _,λ_=>rfl⟩
theorem Good.small{n B:Nat}{rows S:aA}(G:Good n B rows S)(hb:∀r∈rows,Lt B r)(hp:0<B):∀r∈S,Lt (gR S.length B+1) r:=by
 obtain⟨R,h1,h2,h3⟩:=G.ind;exact TR G.asc G.form h1 h2 (λr hr=>G.span.iff.mpr (m9 (h3 r hr))) (λr hr=>hb r (h3 r hr)) hp
theorem W1:∀{R:aA}{v:Vec},Span (fP R) v->∃c:aH,c.length=R.length/\∀k,v k=mix R c k
 |[],v,s=>⟨[],rfl,s⟩
 |r::R,v,⟨c,s⟩=>by
  obtain⟨cs,h1,h2⟩:=W1 s;refine⟨c::cs,by simp[h1],λk=>?_⟩;have:=h2 k;have this:v k-c*at0 r k=mix R cs k:=this;show v k=c*at0 r k+mix R cs k;rfl'
theorem Ln{v:gn}{d:Int}:∀{R:aA}{c:aH},c.length=R.length->∀k,mix (R++[v]) (c++[d]) k=mix R c k+d*at0 v k
 |[],[],_,k=>by simp[mix]
 |r::R,x::c,h,k=>by
  show x*at0 r k+mix (R++[v]) (c++[d]) k=x*at0 r k+mix R c k+d*at0 v k;rw[Ln (R:=R) (c:=c) (by simpa using h)];rfl'
theorem Ind.left{R:aA}{v:gn}(h:Ind (R++[v])):Ind R:=λc hl hz x hx=>by
 exact h (c++[0]) (by simp[hl]) (λk=>by rw[Ln hl,hz k];simp) x (ww.mpr (.inl hx))
theorem NS{n:Nat}:∀{f:Nat}{S T:aA}{u:Vec},Asc n f S->Asc n f T->T.map b8=S.map b8->(∀r∈T,Span (fP S) (λk=>at0 r k))->Span (fP S) u->∃D:Int,D≠0/\Span (fP T) (λk=>D*u k)
 |f,[],[],u,_,_,_,_,s=>⟨1,by decide,λk=>by have:=s k;show 1*u k=0;rfl'⟩
 |f,r::S,t::T,u,A,A',hh,hT,s=>by
  have hh':b8 t=b8 r/\T.map b8=S.map b8:=by simpa using hh
  have tz:∀{w:Vec},Span (fP (r::S)) w->w (b8 r)=0->Span (fP S) w:=λ{w}hw z=>by
    obtain⟨c,q⟩:=hw;have e:=A.coef q;have c0:c=0:=by
      rw[z]at e;rcases vT.mp e.symm with h|h
      .exact h
      .have:=A.2.2.2.1;rfl'
    subst c0;exact Span.congr (λk=>by simp) q
  have ht:Span (fP (r::S)) (λk=>at0 t k):=hT t wf;have w1:Span (fP (r::S)) (λk=>hd t*u k-u (b8 r)*at0 t k):=(s.smul (hd t)).sub (ht.smul (u (b8 r)));have w2:=tz w1 (by show hd t*u (b8 r)-u (b8 r)*at0 t (b8 r)=0;rw[<-hh'.1];show hd t*_-_*hd t=0;rw[wU];rfl');obtain⟨D,hD,q⟩:=NS A.2.2.2.2 (by rw[<-hh'.1];exact A'.2.2.2.2) hh'.2 (λx hx=>tz (hT x (wc _ hx)) (u5 x _ (by have:=(A'.2.2.2.2.mem hx).2.1;rfl'))) w2;refine⟨D*hd t,λz=>?_,D*u (b8 r),Span.congr (λk=>?_) q⟩
  .rcases vT.mp z with z|z
   .exact hD z
   .have:=A'.2.2.2.1;rfl'
  .show D*(hd t*u k-u (b8 r)*at0 t k)=D*hd t*u k-D*u (b8 r)*at0 t k
   grind
 |f,[],t::T,u,_,_,hh,_,_=>by simp at hh
 |f,r::S,[],u,_,_,hh,_,_=>by simp at hh
theorem Ap:∀S:aA,(even S).length=S.length
 |[]=>rfl
 |r::rs=>by rw[even,wu,wu,Ap rs]
theorem Good.step{n u B:Nat}{rows S0 S:List gn}{v:gn}(G:Good n B rows S0)(P:Post n u S0 v S):Good n B (rows++[v]) (even S):=by
  have es:=NO P.asc;have sp:SameSpan (fP (v::S0)) (fP (rows++[v])):=CC (λr hr=>by
      rcases wB.mp hr with rfl|hr
      .exact m9 (ww.mpr (.inr wf))
      .exact(G.span.iff.mp (m9 hr)).trans λw hw=>by
         obtain⟨z,hz,rfl⟩:=wj.mp hw;exact m9 (ww.mpr (.inl hz))) λr hr=>by
      rcases ww.mp hr with hr|hr
      .exact(G.span.iff.mpr (m9 hr)).trans λw hw=>by
         obtain⟨z,hz,rfl⟩:=wj.mp hw;exact m9 (wc _ hz)
      .rcases ve.mp hr with rfl
       exact m9 wf
  obtain⟨R,h1,h2,h3⟩:=G.ind;have hlen:(even S).length<=(rows++[v]).length:=by
    rw[Ap,wF];have:=G.len;rcases P.more with h|⟨h,_⟩
    .have h:=bv dg h;simp at h|-;rfl'
    .simp;rfl'
  refine⟨(Y9 P.asc).1,NN P.asc,SameSpan.trans es (P.span.trans sp),?_,hlen,λhI=>?_⟩
  rotate_left
  .have hI0:=hI.left;have hl0:=G.full hI0;rcases P.more with h|⟨h,_⟩
   .exfalso;have hv:Span (fP S) (λk=>at0 v k):=P.span.iff.mpr (m9 wf);obtain⟨D,hD,q⟩:=NS P.asc G.asc h.symm (λr hr=>P.span.iff.mpr (m9 (wc _ hr))) hv;obtain⟨c,hc,ec⟩:=W1 (G.span.iff.mp q);have:=hI (c++[-D]) (by simp[hc]) (λk=>by rw[Ln hc];have:=ec k;rw[<-this,uq];show D*at0 v k+_=0;rfl') (-D) (by simp);rfl'
   .rw[Ap,h,hl0];simp
  rcases P.more with h|⟨h,r,hr,hne⟩
  .exact⟨R,h1,by have h:=bv dg h;simp at h;rw[Ap,h,h2],λr hr=>ww.mpr (.inl (h3 r hr))⟩
  .refine⟨ v::R,?_,by rw[Ap,h,List.length_cons,h2],fun r hr=>?_⟩
   .intro cs hl hz
    cases cs with
    |nil=>intro c hc;cases hc
    | cons c cs =>
      have hl':cs.length=R.length:=by simpa using hl
      have hz:∀k,c*at0 v k+mix R cs k=0:=hz;by_cases c0:c=0
      .subst c0;have z:=h1 cs hl' (λk=>by have:=hz k;rfl');intro d hd;rcases wB.mp hd with rfl|hd
       .rfl
       .exact z d hd
      .exfalso;have cv:Span (fP S0) (λk=>c*at0 v k):=by
         have:Span (fP S0) (mix R cs):=GV λr hr=>G.span.iff.mpr (m9 (h3 r hr));exact Span.congr (λk=>by have:=hz k;rfl') this.neg
       have all:∀w:Vec,Span (fP (v::S0)) w->Span (fP S0) (λk=>c*w k):=λw hw=>by
         obtain⟨d,s⟩:=hw;have s2:=(cv.smul d).add (s.smul c);refine Span.congr (λk=>?_) s2;show d*(c*at0 v k)+c*(w k-d*at0 v k)=c*w k
         grind
       have rs:Span (fP (v::S0)) (λk=>at0 r k):=P.span.iff.mp (m9 hr);have q:=P.asc.mem hr;obtain⟨x,hx,e⟩:=G.asc.first (h:=b8 r) (all _ rs) (λk hk=>by show c*at0 r k=0;rw[u5 r k hk];simp) (by
         show c*hd r≠0;intro z;rcases vT.mp z with z|z
         .exact c0 z
         .rfl')
       exact hne x hx e
   .rcases wB.mp hr with rfl|hr
    .exact ww.mpr (.inr wf)
    .exact ww.mpr (.inl (h3 r hr))
theorem DG{r s B:Nat}(h:r<=s)(hB:0<B)(hs:0<s):gR r B<=gR s B:=by
 unfold gR;refine ue ?_ (wq (by decide) (ue h h));have h1:2*r*B<=2*s*B:=wN _ (vw _ h);have h2:0<2*s*B:=w1b () hB;exact wO (uZ h1 r) (wq h2 h)
theorem CD{n:Nat}:∀{f:Nat}{S:aA},Asc n f S->f<=n->S.length<=n-f
 |f,[],_,_=>vh _
 |f,r::rs,⟨h1,h2,h3,h4,h5⟩,h=>by
  have:=CD h5 ();rw[wu];rfl'
end St
end
section
set_option exponentiation.threshold 3000
namespace St
open Lat
theorem Lo:∀{f:Nat}{S:aA},Form f (u6 S)->∀{j k:Nat},j<k->k<S.length->0<=at0 (S.getD j []) (b8 (S.getD k []))/\at0 (S.getD j []) (b8 (S.getD k []))<hd (S.getD k [])
 |f,r::S,F,0,k+1,_,hk=>by
  have hk:k<S.length:=by simpa using hk
  have hm:S.getD k []∈S:=by simp[am,wa hk]
  have:=F.2.2.2.1 (b8 (S.getD k []),gZ (S.getD k [])) (wj.mpr ⟨_,hm,rfl⟩);exact this
 |f,r::S,F,j+1,k+1,hjk,hk=>by
  have:=Lo (S:=S) F.2.2.2.2 (j:=j) (k:=k) () (by simpa using hk);simpa[am]using this
theorem GW{n f:Nat}{S:aA}(A:Asc n f S){k:Nat}(hk:k<S.length):(S.getD k []).length=n/\f<=b8 (S.getD k [])/\b8 (S.getD k [])<n/\0<hd (S.getD k []):=
 A.mem (by simp[am,wa hk])
theorem TU{n:Nat}:∀{f:Nat}{S:aA},Asc n f S->∀{j k:Nat},j<k->k<S.length->b8 (S.getD j [])<b8 (S.getD k [])
 |f,r::S,A,0,k+1,_,hk=>by
  have hk:k<S.length:=by simpa using hk
  have hm:S.getD k []∈S:=by simp[am,wa hk]
  have:=(A.2.2.2.2.mem hm).2.1;exact this
 |f,r::S,A,j+1,k+1,hjk,hk=>by
  have:=TU (S:=S) A.2.2.2.2 (j:=j) (k:=k) () (by simpa using hk);simpa[am]using this
theorem YR(k:Nat)(h:k<=8):gR k (10^30)+1<=2^900:=by
 have:=DG (B:=10^30) h (by decide) (by decide);have e:gR 8 (10^30)+1<=2^900:=by unfold gR;decide
 rfl'
theorem BL{r:gn}{B:Nat}(hB:0<B)(h:∀x∈r,x.natAbs<B):Lt B r:=λk=>by
 unfold at0 am;by_cases hk:k<r.length
 .rw[wa hk];exact h _ (vx _)
 .rw[wW ()];exact hB
end St
end
section
local macro_rules|`(tactic|rfl')=>`(tactic|first|lia|omega +splitDisjunctions)
namespace St
open Lat
theorem Asc.tz{n f:Nat}{r:gn}{S:aA}{w:Vec}(A:Asc n f (r::S))(hw:Span (fP (r::S)) w)(z:w (b8 r)=0):Span (fP S) w:=by
 obtain⟨c,q⟩:=hw;have e:=A.coef q;have c0:c=0:=by
  rw[z]at e;rcases vT.mp e.symm with h|h
  .exact h
  .have:=A.2.2.2.1;rfl'
 subst c0;exact Span.congr (λk=>by simp) q
theorem Asc.small0{n:Nat}:∀{f:Nat}{S:aA}{u:Vec},Asc n f S->Span (fP S) u->(∀r∈S,0<=u (b8 r)/\u (b8 r)<hd r)->∀k,u k=0
 |f,[],u,_,s,_=>s
 | f,r::S,u,A,s,h=>by
  have hr:=h r wf;have z:u (b8 r)=0:=by
   obtain⟨c,q⟩:=s;have e:=A.coef q;have c0:c=0:=Bn e A.2.2.2.1 () hr.2;rw[e,c0];simp
  exact A.2.2.2.2.small0 (A.tz s z) λx hx=>h x (wc _ hx)
def YS(n:Nat):gn:=aP n 0
theorem z0h(n k:Nat):at0 (YS n) k=0:=by
 unfold at0 YS am;rw[vE];split<;>rfl
theorem IA{R:aA}(c:aH):Span (fP R) (mix R c):=GV λr hr=>m9 hr
theorem CG{n:Nat}:∀{R:aA}{c:aH},(∀r∈R,r.length=n)->∀k,n<=k->mix R c k=0
 |[],c,_,k,_=>by simp[mix]
 |r::R,[],_,k,_=>by simp[mix]
 |r::R,x::c,h,k,hk=>by
  show x*at0 r k+mix R c k=0;rw[CG (λy hy=>h y (wc _ hy)) k hk,u7 (by rw[h r wf];exact hk)];simp
abbrev Ab(a b:gn):Prop:=0<=at0 a (b8 b)/\at0 a (b8 b)<hd b
theorem DH{n:Nat}:∀{f:Nat}{S:aA},Asc n f S->(Form f (u6 S)↔S.Pairwise Ab)
 |f,[],_=>by simp[u6,Form]
 |f,r::S,A=>by
  have ih:=DH A.2.2.2.2;rw[vA,<-ih];constructor
  .intro F;exact⟨λb hb=>F.2.2.2.1 (b8 b,gZ b) (wj.mpr ⟨b,hb,rfl⟩),F.2.2.2.2⟩
  .rintro⟨h1,h2⟩;refine⟨A.2.1,λk hk=>u5 r k hk,A.2.2.2.1,λp hp=>?_,h2⟩;obtain⟨b,hb,rfl⟩:=wj.mp hp;exact h1 b hb
theorem YT{n:Nat}:∀{S T:aA},(∀r∈S,r.length=n)->(∀r∈T,r.length=n)->u6 S=u6 T->S=T
 |[],[],_,_,_=>rfl
 |[],t::T,_,_,h=>by simp[u6]at h
 |s::S,[],_,_,h=>by simp[u6]at h
 |s::S,t::T,hs,ht,h=>by
  have h:(b8 s,gZ s)::u6 S=(b8 t,gZ t)::u6 T:=h;have h1:=(dS h).1;have h2:=(dS h).2;have e:s=t:=ext0 (by rw[hs s wf,ht t wf]) λk=>congrFun (bv eV h1) k;rw[e,YT (λr hr=>hs r (wc _ hr)) (λr hr=>ht r (wc _ hr)) h2]
theorem NT{n:Nat}{S T:aA}(A:Asc n 0 S)(F:Form 0 (u6 S))(A':Asc n 0 T)(F':Form 0 (u6 T))(h:SameSpan (fP S) (fP T)):S=T:=by
 refine YT (n:=n) (λr hr=>(A.mem hr).1) (λr hr=>(A'.mem hr).1) (Form.unique F F' ?_);rw[NR,NR];exact h
theorem X7{n:Nat}{a b:gn}(h:a.length=n)(k:Nat):at0 (a++b) k=if k<n then at0 a k else at0 b (k-n):=by
 subst h;unfold at0 am;rw[w0n];split<;>rfl
theorem J2(r:gn)(n k:Nat):at0 (r.take n) k=if k<n then at0 r k else 0:=by
 unfold at0 am;rw[w1i];split<;>rfl
theorem B8(r:gn)(n k:Nat):at0 (r.drop n) k=at0 r (n+k):=by
 unfold at0 am;rw[w04]
def k8(m j:Nat):gn:=(ah m).map λk=>if k=j then 1 else 0
theorem E1(m j:Nat):(k8 m j).length=m:=by unfold k8;simp
theorem v7(m j k:Nat):at0 (k8 m j) k=if k=j/\k<m then 1 else 0:=by
 unfold at0 k8 am;rw[wv];by_cases hk:k<m
 .rw[vC hk];simp[hk]
 .rw[wW (by simpa using hk)];simp[hk]
def tagF(m:Nat):Nat->aA->aA
 |_,[]=>[]
 |s,b::bs=>(b++k8 m s)::tagF m (s+1) bs
abbrev N9(bills:aA):aA:=tagF bills.length 0 bills
theorem BM(m:Nat):∀(s:Nat)(bs:aA),(tagF m s bs).length=bs.length
 |s,[]=>rfl
 |s,b::bs=>by rw[tagF,wu,wu,BM]
theorem Lp(m:Nat):∀{s:Nat}{bs:aA}{r:gn},r∈tagF m s bs->∃b∈bs,∃j,r=b++k8 m j
 |s,b::bs,r,h=>by
  rcases wB.mp h with rfl|h
  .exact⟨b,wf,s,rfl⟩
  .obtain⟨b',hb,j,e⟩:=Lp m h;exact⟨b',wc _ hb,j,e⟩
theorem DI{n m:Nat}:∀{s:Nat}{bs:aA}{c:aH}{k:Nat},(∀b∈bs,b.length=n)->k<n->mix (tagF m s bs) c k=mix bs c k
 |s,[],c,k,_,_=>by simp[tagF,mix]
 |s,b::bs,[],k,_,_=>by simp[tagF,mix]
 |s,b::bs,x::c,k,h,hk=>by
  show x*at0 (b++k8 m s) k+mix (tagF m (s+1) bs) c k=x*at0 b k+mix bs c k;rw[DI (λy hy=>h y (wc _ hy)) hk,X7 (h b wf),ak hk]
theorem GX{n m:Nat}:∀{s:Nat}{bs:aA}{c:aH}{i:Nat},(∀b∈bs,b.length=n)->c.length=bs.length->s+bs.length<=m->mix (tagF m s bs) c (n+i)=if s<=i/\i<s+bs.length then at0 c (i-s) else 0
 |s,[],[],i,_,_,_=>by simp[tagF,mix];intros;rfl'
 |s,b::bs,x::c,i,h,hl,hs=>by
  have ih:=GX (n:=n) (m:=m) (s:=s+1) (bs:=bs) (c:=c) (i:=i) (λy hy=>h y (wc _ hy)) (by simpa using hl) (by simp at hs;rfl');show x*at0 (b++k8 m s) (n+i)+mix (tagF m (s+1) bs) c (n+i)=_;rw[ih,X7 (h b wf),ao (),v7,show n+i-n=i by rfl'];have hlen:(b::bs).length=bs.length+1:=rfl;rw[hlen];have hm:s<m:=by simp at hs;rfl'
  by_cases h1:i=s
  .subst h1;rw[ak ⟨rfl,hm⟩,ao (),ak ()];simp[at0]
  .rw[ao ()];by_cases h2:s+1<=i/\i<s+1+bs.length
   .rw[ak h2,ak ()];have:i-s=(i-(s+1))+1:=()
    rw[this];simp[at0]
   .rw[ao h2,ao ()];simp
theorem Lq{n:Nat}{bills:aA}{c:aH}(h:∀b∈bills,b.length=n)(hl:c.length=bills.length)(i:Nat):mix (N9 bills) c (n+i)=at0 c i:=by
 rw[GX h hl ()];split
 .simp
 .rw[u7 ()]
theorem Lr{n:Nat}{bills:aA}(h:∀b∈bills,b.length=n):Ind (N9 bills):=λc hl hz x hx=>by
 rw[BM]at hl;obtain⟨i,hi,e⟩:=w0o.mp hx;have:=hz (n+i);rw[Lq h hl]at this;rw[<-e];simpa[at0,am,wa hi]using this
theorem DJ{n:Nat}{bills:aA}{u:gn}(h:∀b∈bills,b.length=n)(hu:u.length=n+bills.length):Span (fP (N9 bills)) (λk=>at0 u k)↔∀k,k<n->at0 u k=mix bills (u.drop n) k:=by
 have hd:(u.drop n).length=bills.length:=by rw[wR];rfl'
 constructor
 .intro s k hk;obtain⟨c,hc,e⟩:=W1 s;rw[BM]at hc;have:c=u.drop n:=ext0 (by rw[hc,hd]) λi=>by
    rw[B8,<-Lq h hc i];exact(e (n+i)).symm
  have e1:=e k;rw[DI h hk,this]at e1;exact e1
 .intro q;refine Span.congr (λk=>?_) (IA (u.drop n));by_cases hk:k<n
  .rw[DI h hk,q k hk]
  .have:k=n+(k-n):=()
   rw[this,Lq h hd,B8]
theorem CH{N n:Nat}:∀{f:Nat}{S:aA},Asc N f S->S=S.filter (λr=>decide (b8 r<n))++S.filter (λr=>!decide (b8 r<n))
 |f,[],_=>rfl
 |f,r::S,A=>by
  have ih:=CH (n:=n) A.2.2.2.2;by_cases h:b8 r<n
  .rw[uA,uA];simp only[h,decide_true,if_true,Bool.not_true,w0x,if_false];rw[w0k,<-ih]
  .have e:S.filter (λr=>decide (b8 r<n))=[]:=w0X.mpr λx hx=>by have:=(A.2.2.2.2.mem hx).2.1;simp;rfl'
   rw[e,w0r]at ih;rw[uA,uA];simp only[h,decide_false,w1Z,if_true,w0x,if_false];rw[e,w0r,<-ih]
def gu(n:Nat)(S:aA):aA:=(S.filter λr=>decide (b8 r<n)).map (·.take n)
def gH(n:Nat)(S:aA):aA:=(S.filter λr=>!decide (b8 r<n)).map (·.drop n)
theorem IB{r:gn}{n:Nat}(h:b8 r<n)(hl:b8 r<r.length):b8 (r.take n)=b8 r:=L3 _ _ (λk hk=>by rw[J2,ak ()];exact u5 r k hk) (by rw[J2,ak h];exact DB r hl)
theorem BN{r:gn}{n:Nat}(h:n<=b8 r)(hl:b8 r<r.length):b8 (r.drop n)=b8 r-n:=L3 _ _ (λk hk=>by rw[B8];exact u5 r _ ()) (by rw[B8,show n+(b8 r-n)=b8 r by rfl'];exact DB r hl)
section
variable {n N:Nat}{S:aA}
theorem GY(A:Asc N 0 S)(hN:n<=N):Asc n 0 (gu n S)/\(gu n S).length=(S.filter λr=>decide (b8 r<n)).length:=by
 have Q:=Asc.iff.mp A;refine⟨Asc.iff.mpr ⟨λx hx=>?_,?_⟩,by unfold gu;simp⟩
 .obtain⟨r,hr,rfl⟩:=wj.mp hx;obtain⟨hr,hd'⟩:=wQ.mp hr;have hd':b8 r<n:=by simpa using hd'
  have q:=Q.1 r hr;have e:=IB hd' ();refine⟨by rw[vy];rfl',vh _,by rw[e];exact hd',?_⟩;unfold hd;rw[e,J2,ak hd'];exact q.2.2.2
 .have e:(gu n S).map b8=(S.filter λr=>decide (b8 r<n)).map b8:=by
   unfold gu;rw[wM];apply vI;intro r hr;obtain⟨hr,hd'⟩:=wQ.mp hr;exact IB (by simpa using hd') (by have:=Q.1 r hr;rfl')
  rw[e];exact Q.2.sublist (vD.map _)
theorem IC(A:Asc N 0 S)(F:Form 0 (u6 S))(hN:n<=N):Form 0 (u6 (gu n S)):=by
 have Q:=Asc.iff.mp A;rw[DH (GY A hN).1];have P:=(DH A).mp F;unfold gu;rw[uR];refine cC (λ{a b}ha hb h=>?_) (P.sublist vD);obtain⟨hb,hd'⟩:=wQ.mp hb;have hd':b8 b<n:=by simpa using hd'
 have e:=IB hd' (by have:=Q.1 b hb;rfl');unfold Ab hd at *;rw[e,J2,ak hd',J2,ak hd'];exact h
theorem Rx(A:Asc N 0 S){m:Nat}(hN:N=n+m):Asc m 0 (gH n S):=by
 have Q:=Asc.iff.mp A;refine Asc.iff.mpr ⟨λx hx=>?_,?_⟩
 .obtain⟨r,hr,rfl⟩:=wj.mp hx;obtain⟨hr,hd'⟩:=wQ.mp hr;have hd':n<=b8 r:=by simpa using hd'
  have q:=Q.1 r hr;have e:=BN hd' ();refine⟨by rw[wR];rfl',vh _,by rw[e];rfl',?_⟩;unfold hd;rw[e,B8,show n+(b8 r-n)=b8 r by rfl'];exact q.2.2.2
 .unfold gH;rw[wM,uR];have P:=(uR.mp Q.2).sublist (vD (p:=λr=>!decide (b8 r<n)));refine cC (λ{a b}ha hb h=>?_) P;obtain⟨ha,ha'⟩:=wQ.mp ha;obtain⟨hb,hb'⟩:=wQ.mp hb;have ha':n<=b8 a:=by simpa using ha'
  have hb':n<=b8 b:=by simpa using hb'
  show b8 (a.drop n)<b8 (b.drop n);rw[BN ha' (by have:=Q.1 a ha;rfl'),BN hb' (by have:=Q.1 b hb;rfl')];rfl'
theorem z0i(A:Asc N 0 S)(F:Form 0 (u6 S)){m:Nat}(hN:N=n+m):Form 0 (u6 (gH n S)):=by
 have Q:=Asc.iff.mp A;rw[DH (Rx A hN)];have P:=(DH A).mp F;unfold gH;rw[uR];refine cC (λ{a b}ha hb h=>?_) (P.sublist vD);obtain⟨hb,hb'⟩:=wQ.mp hb;have hb':n<=b8 b:=by simpa using hb'
 have e:=BN hb' (by have:=Q.1 b hb;rfl');unfold Ab hd at *;rw[e,B8,B8,show n+(b8 b-n)=b8 b by rfl'];exact h
theorem ID(A:Asc N 0 S){v:Vec}(s:Span (fP S) v):Span (fP (gu n S)) (λk=>if k<n then v k else 0):=by
 refine Span.least (P:=λv=>Span (fP (gu n S)) (λk=>if k<n then v k else 0)) ?_ (λv w hv hw=>?_) (λc v hv=>?_) (λx hx=>?_) s
 .exact Span.congr (λk=>by split<;>rfl) Span.zero
 .exact Span.congr (λk=>by split<;>rfl) (hv.add hw)
 .refine Span.congr (λk=>?_) (hv.smul c);split
  .rfl
  .simp
 .obtain⟨r,hr,rfl⟩:=wj.mp hx;by_cases h:b8 r<n
  .have hm:r.take n∈gu n S:=wj.mpr ⟨r,wQ.mpr ⟨hr,by simpa using h⟩,rfl⟩;exact Span.congr (λk=>J2 r n k) (m9 hm)
  .refine Span.congr (λk=>?_) Span.zero;split
   .rw[show gZ r k=0 from u5 r k ()]
   .rfl
theorem Ry{N:Nat}:∀{f:Nat}{T B:aA}{v:Vec},Asc N f (T++B)->Span (fP (T++B)) v->(∀r∈T,v (b8 r)=0)->Span (fP B) v
 |f,[],B,v,_,s,_=>s
 |f,r::T,B,v,A,s,h=>Ry (T:=T) A.2.2.2.2 (A.tz s (h r wf)) λx hx=>h x (wc _ hx)
theorem z0j(A:Asc N 0 S){v:Vec}(s:Span (fP S) v)(z:∀k,k<n->v k=0):Span (fP (gH n S)) (λk=>v (n+k)):=by
 have e:=CH (n:=n) A;have A':=A;rw[e]at A' s;have s2:=Ry A' s λr hr=>z _ (by simpa using(wQ.mp hr).2);refine Span.least (P:=λv=>Span (fP (gH n S)) (λk=>v (n+k))) Span.zero (λv w hv hw=>hv.add hw) (λc v hv=>hv.smul c) (λx hx=>?_) s2;obtain⟨r,hr,rfl⟩:=wj.mp hx;exact Span.congr (λk=>B8 r n k) (m9 (wj.mpr ⟨r,hr,rfl⟩))
theorem z0k(A:Asc N 0 S){w:Vec}(s:Span (fP (gH n S)) w):Span (fP S) (λk=>if k<n then 0 else w (k-n)):=by
 refine Span.least (P:=λw=>Span (fP S) (λk=>if k<n then 0 else w (k-n))) ?_ (λv w hv hw=>?_) (λc v hv=>?_) (λx hx=>?_) s
 .exact Span.congr (λk=>by split<;>rfl) Span.zero
 .exact Span.congr (λk=>by split<;>rfl) (hv.add hw)
 .refine Span.congr (λk=>?_) (hv.smul c);split
  .simp
  .rfl
 .obtain⟨r',hr',rfl⟩:=wj.mp hx;obtain⟨r,hr1,rfl⟩:=wj.mp hr';obtain⟨hr,h⟩:=wQ.mp hr1;have h:n<=b8 r:=by simpa using h
  refine Span.congr (λk=>?_) (m9 hr);split
  .rw[u5 r k ()]
  .show at0 r k=at0 (r.drop n) (k-n);rw[B8,show n+(k-n)=k by rfl']
end
structure Tag(n:Nat)(bills S:aA):Prop where
 wide:∀b∈bills,b.length=n
 asc:Asc (n+bills.length) 0 S
 form:Form 0 (u6 S)
 span:SameSpan (fP S) (fP (N9 bills))
 full:S.length=bills.length
theorem Good.tag{n B:Nat}{bills S:aA}(h:∀b∈bills,b.length=n)(G:Good (n+bills.length) B (N9 bills) S):Tag n bills S:=
 ⟨h,G.asc,G.form,G.span,by rw[G.full (Lr h),BM]⟩
end St
end
section
local macro_rules|`(tactic|rfl')=>`(tactic|first|lia|omega +splitDisjunctions)
namespace St
open Lat
theorem D6{B:aA}{i:Nat}(h:i<B.length):B.getD i []∈B:=by simp[am,wa h]
end St
namespace St
open Lat
theorem Asc.small{n:Nat}:∀{f:Nat}{S:aA}{u:Vec},Asc n f S->Span (fP S) u->(∀r∈S,-(hd r)<u (b8 r)/\u (b8 r)<hd r)->∀k,u k=0
 |f,[],u,_,s,_=>s
 | f,r::S,u,A,s,h=>by
  have hr:=h r wf;have z:u (b8 r)=0:=by
   obtain⟨c,q⟩:=s;have e:=A.coef q;have c0:c=0:=Bn e A.2.2.2.1 hr.1 hr.2;rw[e,c0];simp
  exact A.2.2.2.2.small (A.tz s z) λx hx=>h x (wc _ hx)
theorem z0l{n:Nat}{S:aA}{u v:gn}(A:Asc n 0 S)(hu:u.length=n)(hv:v.length=n)(s:Span (fP S) (λk=>at0 u k-at0 v k))(h1:∀r∈S,0<=at0 u (b8 r)/\at0 u (b8 r)<hd r)(h2:∀r∈S,0<=at0 v (b8 r)/\at0 v (b8 r)<hd r):u=v:=by
 refine ext0 () λk=>?_;have:=A.small s (λr hr=>by have:=h1 r hr;have:=h2 r hr;rfl') k;rfl'
theorem Rz{n:Nat}{S:aA}{u v:gn}(A:Asc n 0 S)(hu:u.length=n)(hv:v.length=n)(s:Span (fP S) (λk=>at0 u k-at0 v k)):m6 u S=m6 v S:=by
 refine z0l A (M3 A hu) (M3 A hv) ?_ (Q2 A hu) (Q2 A hv);have s1:=J9 A hu;have s2:=J9 A hv;exact Span.congr (λk=>()) ((s.sub s1).add s2)
end St
end
section
local macro_rules|`(tactic|rfl')=>`(tactic|first|lia|omega +splitDisjunctions)
namespace St
open Lat
theorem RC{n:Nat}{bills:aA}(hw:∀r∈bills,r.length=n){v:Vec}(s:Span (fP bills) v):∀k,n<=k->v k=0:=
 Span.least (P:=λv=>∀k,n<=k->v k=0) (λ_ _=>rfl) (λv w h1 h2 k hk=>by show v k+w k=0;rw[h1 k hk,h2 k hk];rfl) (λc v h k hk=>by show c*v k=0;rw[h k hk,uw]) (λr hr=>by
  obtain⟨x,hx,rfl⟩:=wj.mp hr;intro k hk;exact u7 (by rw[hw x hx];exact hk)) s
end St
end
section
local macro_rules|`(tactic|rfl')=>`(tactic|first|lia|omega +splitDisjunctions)
namespace St
open Lat
theorem NU{A B:aA}{v:Vec}(s:Span (fP A) v)(h:∀r∈A,r∈B):Span (fP B) v:=Span.trans (λr hr=>by
 obtain⟨x,hx,rfl⟩:=wj.mp hr;exact Span.mem (DC (h x hx))) s
end St
end
section
local macro_rules|`(tactic|rfl')=>`(tactic|first|lia|omega +splitDisjunctions)
namespace St
open Lat
theorem Aq{S:aA}{r:gn}(h:r∈S):Span (fP S) (gZ r):=Span.mem (DC h)
end St
end
section
local macro_rules|`(tactic|rfl')=>`(tactic|first|lia|omega +splitDisjunctions)
set_option maxHeartbeats 1000000
namespace St
open Lat
theorem CI{a b:gn}{n k:Nat}(h:a.length=n):at0 (a++b) k=if k<n then at0 a k else at0 b (k-n):=X7 h k
theorem YU(n k:Nat):at0 (aP n 0) k=0:=by
 unfold at0;by_cases h:k<n
 .simp[am,h]
 .simp[am,h]
theorem Z0{A B:aA}(v:Vec):Span (fP (A++B)) v↔∃x y:Vec,Span (fP A) x/\Span (fP B) y/\∀k,v k=x k+y k:=by
 constructor
 .intro s;refine Span.least (P:=λv=>∃x y:Vec,Span (fP A) x/\Span (fP B) y/\∀k,v k=x k+y k) ?_ ?_ ?_ ?_ s
  .exact⟨_,_,Span.zero,Span.zero,λk=>rfl⟩
  .rintro v w ⟨x,y,a,b,e⟩ ⟨x',y',a',b',e'⟩;exact⟨_,_,a.add a',b.add b',λk=>by show v k+w k=_;rw[e,e'];rfl'⟩
  .rintro c v ⟨x,y,a,b,e⟩;exact⟨_,_,a.smul c,b.smul c,λk=>by show c*v k=_;rw[e,uH]⟩
  .intro g hg;obtain⟨r,hr,rfl⟩:=wj.mp hg;rcases ww.mp hr with h|h
   .exact⟨_,_,Aq h,Span.zero,λk=>(Int.add_zero _).symm⟩
   .exact⟨_,_,Span.zero,Aq h,λk=>(w0u _).symm⟩
 .rintro⟨x,y,a,b,e⟩;exact Span.congr (λk=>(e k).symm) ((NU a λr hr=>ww.mpr (.inl hr)).add (NU b λr hr=>ww.mpr (.inr hr)))
end St
end
section
set_option maxHeartbeats 1000000
namespace St
open Lat
def BO(table rungs:aA):aA:=N9 table++rungs.map (λr=>r++aP table.length 0)
theorem z1Z(n:Nat)(r:gn):gZ (r++aP n 0)=gZ r:=funext λk=>by
 show at0 (r++aP n 0) k=at0 r k;rw[CI rfl];split
 .rfl
 .rw[YU,u7 (r:=r) ()]
theorem NV(n:Nat)(S:aA):fP (S.map λr=>r++aP n 0)=fP S:=by
 show ce gZ (ce _ S)=ce gZ S;rw[wM];exact vI λr _=>z1Z n r
theorem z0m{m:Nat}{table rungs U:aA}{b:gn}(ht:∀r∈table,r.length=m)(hr:∀r∈rungs,r.length=m)(hb:b.length=table.length)(A:Asc (m+table.length) 0 U)(ss:SameSpan (fP U) (fP (BO table rungs))):Span (fP (gH m U)) (λk=>at0 b k)↔Span (fP rungs) (mix table b):=by
 have vf:fP (BO table rungs)=fP (N9 table++rungs):=by
   unfold BO;show ce gZ _=ce gZ _;rw[vn,vn];congr 1;exact NV _ _
 have mz:∀k,m<=k->mix table b k=0:=CG ht;constructor
 .intro s;have s1:=(ss.iff).mp (z0k (n:=m) A s);rw[vf]at s1;obtain⟨x,y,sx,sy,e⟩:=(Z0 _).mp s1;have yo:=RC hr sy;have u0:∀k,at0 ((ah m).map x++b) k=x k:=λk=>by
    rw[CI (a:=(ah m).map x) (n:=m) (by simp)];by_cases h:k<m
    .rw[ak h];unfold at0;simp[am,h]
    .rw[ao h];have e:=e k;have e:(if k<m then(0:Int) else at0 b (k-m))=x k+y k:=e;rw[ao h,yo k ()]at e;rfl'
  have sx':Span (fP (N9 table)) (λk=>at0 ((ah m).map x++b) k):=Span.congr (λk=>(u0 k).symm) sx;have q:=(DJ ht (by rw[wF,wn,vJ,hb])).mp sx';have dr:((ah m).map x++b).drop m=b:=by
    have:((ah m).map x).length=m:=by simp
    rw[uX,this,w0Y,w0c,vV ()];rfl
  rw[dr]at q;refine Span.congr (λk=>?_) sy.neg;by_cases h:k<m
  .have e:=e k;have e:(if k<m then(0:Int) else at0 b (k-m))=x k+y k:=e;rw[ak h,<-u0 k,q k h]at e;show -(y k)=_;rfl'
  .show -(y k)=_;rw[yo k (),mz k ()];rfl
 .intro s;have dr:((ah m).map (mix table b)++b).drop m=b:=by
    have:((ah m).map (mix table b)).length=m:=by simp
    rw[uX,this,w0Y,w0c,vV ()];rfl
  have u0:∀k,at0 ((ah m).map (mix table b)++b) k=if k<m then mix table b k else at0 b (k-m):=λk=>by
    rw[CI (a:=(ah m).map (mix table b)) (n:=m) (by simp)];by_cases h:k<m
    .rw[ak h,ak h];unfold at0;simp[am,h]
    .rw[ao h,ao h]
  have sx:Span (fP (N9 table)) (λk=>at0 ((ah m).map (mix table b)++b) k):=(DJ ht (by rw[wF,wn,vJ,hb])).mpr λk hk=>by
    rw[u0,ak hk,dr]
  have s1:Span (fP (N9 table++rungs)) (λk=>at0 ((ah m).map (mix table b)++b) k-mix table b k):=(Z0 _).mpr ⟨_,_,sx,s.neg,λk=>by show _=_ + -(mix table b k);rfl'⟩;rw[<-vf]at s1;have s2:=(ss.iff).mpr s1;refine Span.congr (λk=>?_) (z0j (n:=m) A s2 λk hk=>?_)
  .show at0 ((ah m).map (mix table b)++b) (m+k)-mix table b (m+k)=at0 b k;rw[u0,ao (),mz _ (),show m+k-m=k by rfl'];rfl'
  .show at0 ((ah m).map (mix table b)++b) k-mix table b k=0;rw[u0,ak hk];rfl'
end St
end
section
local macro_rules|`(tactic|rfl')=>`(tactic|first|lia|omega +splitDisjunctions)
namespace St
open Lat
def sm:Nat->(Nat->Int)->Int
 |0,_=>0
 |m+1,f=>f 0+sm m (λk=>f (k+1))
theorem n8:∀{m:Nat}{f g:Nat->Int},(∀k,k<m->f k=g k)->sm m f=sm m g
 |0,_,_,_=>rfl
 |m+1,f,g,h=>by rw[sm,sm,h 0 (),n8 λk hk=>h (k+1) ()]
theorem A5{m:Nat}{f:Nat->Int}(h:∀k,k<m->f k=0):sm m f=0:=by
 rw[n8 h]
 induction m with
 |zero=>rfl
 |succ m ih=>rw[sm,ih λk hk=>h k ()];rfl
theorem Ge:∀(m:Nat)(f g:Nat->Int),sm m (λk=>f k+g k)=sm m f+sm m g
 |0,_,_=>rfl
 |m+1,f,g=>by rw[sm,sm,sm,Ge m];rfl'
theorem L6(c:Int):∀(m:Nat)(f:Nat->Int),sm m (λk=>c*f k)=c*sm m f
 |0,_=>by simp[sm]
 |m+1,f=>by rw[sm,sm,L6 c m,uH]
theorem Km(c:Int)(m:Nat)(f:Nat->Int):sm m (λk=>f k*c)=sm m f*c:=by
 rw[wU,<-L6];exact n8 λk _=>wU _ _
theorem Bp(m:Nat)(f g:Nat->Int):sm m (λk=>f k-g k)=sm m f-sm m g:=by
 have:=Ge m f (λk=>(-1)*g k);rw[L6]at this;rw[n8 (g:=λk=>f k+(-1)*g k) λk _=>(),this];rfl'
theorem ED:∀(m p:Nat)(f:Nat->Nat->Int),sm m (λi=>sm p (λj=>f i j))=sm p (λj=>sm m (λi=>f i j))
 |0,p,f=>by rw[sm];exact(A5 λk _=>rfl).symm
 |m+1,p,f=>by rw[sm,ED m p,<-Ge];rfl
theorem O0:∀{m i:Nat}{f:Nat->Int},i<m->(∀k,k<m->k≠i->f k=0)->sm m f=f i
 |m+1,0,f,_,z=>by rw[sm,A5 λk hk=>z (k+1) () ()];rfl'
 |m+1,i+1,f,h,z=>by rw[sm,z 0 () (),O0 (i:=i) () λk hk hn=>z (k+1) () ()];rfl'
def fW(A:aA)(i j:Nat):Int:=at0 (A.getD i []) j
theorem z56(k:Nat):at0 [] k=0:=by simp[at0]
theorem C6{A:aA}{i:Nat}(h:A.length<=i)(j:Nat):fW A i j=0:=by
 unfold fW;rw[show A.getD i []=[] by simp[am,wW h],z56]
theorem PD{A:aA}{m i j:Nat}(hl:∀r∈A,r.length=m)(h:m<=j):fW A i j=0:=by
 by_cases hi:i<A.length
 .unfold fW;exact u7 (by rw[hl _ (D6 hi)];exact h)
 .exact C6 () j
theorem RD(r:gn)(A:aA)(i j:Nat):fW (r::A) (i+1) j=fW A i j:=rfl
theorem F9:∀{A:aA}{v:Vec},Span (fP A) v↔∃c:Nat->Int,∀k,v k=sm A.length (λi=>c i*fW A i k)
 |[],v=>⟨λh=>⟨λ_=>0,h⟩,λ⟨_,h⟩=>h⟩
 |r::A,v=>by
  constructor
  .rintro⟨c0,h⟩;obtain⟨c,h⟩:=F9.mp h;refine⟨λi=>match i with|0=>c0|i+1=>c i,λk=>?_⟩;have:v k-c0*at0 r k=sm A.length (λi=>c i*fW A i k):=h k;rw[wu,sm];show v k=c0*at0 r k+sm A.length (λi=>c i*fW A i k);rfl'
  .rintro⟨c,h⟩;refine⟨c 0,F9.mpr ⟨λi=>c (i+1),λk=>?_⟩⟩;have:=h k;rw[wu,sm]at this;show v k-c 0*at0 r k=sm A.length (λi=>c (i+1)*fW A i k);have e:fW (r::A) 0 k=at0 r k:=rfl;rw[e]at this;simp only[RD]at this;rfl'
theorem S7{A:aA}{i:Nat}(h:i<A.length):Span (fP A) (λk=>fW A i k):=m9 (D6 h)
def gx(m:Nat)(A:aA):aA:=(ah m).map λk=>A.map λr=>at0 r k
theorem D7(m:Nat)(A:aA):(gx m A).length=m:=by simp[gx]
theorem X8{m:Nat}{A:aA}{r:gn}(h:r∈gx m A):r.length=A.length:=by
 obtain⟨k,_,rfl⟩:=wj.mp h;simp
theorem z20(m:Nat)(A:aA)(k i:Nat):fW (gx m A) k i=if k<m then fW A i k else 0:=by
 by_cases h:k<m
 .rw[ak h];unfold fW gx at0;rw[show((ah m).map λk=>A.map λr=>r.getD k 0).getD k []=A.map λr=>r.getD k 0 by simp[am,h]];by_cases hi:i<A.length
  .simp[am,wa hi]
  .simp[am,wW (ug hi)]
 .rw[ao h,C6 (by rw[D7];rfl')]
theorem K5{m:Nat}{A:aA}(hl:∀r∈A,r.length=m)(k i:Nat):fW (gx m A) k i=fW A i k:=by
 rw[z20];split
 .rfl
 .exact(PD hl ()).symm
theorem z57{A B:aA}{m:Nat}(h:A.length=B.length)(ha:∀r∈A,r.length=m)(hb:∀r∈B,r.length=m)(q:∀i k,fW A i k=fW B i k):A=B:=by
 refine vz h λi h1 h2=>?_;have e1:A.getD i []=A[i]:=by simp[am,wa h1]
 have e2:B.getD i []=B[i]:=by simp[am,wa h2]
 refine ext0 (by rw[ha _ (vx h1),hb _ (vx h2)]) λk=>?_;have:=q i k;unfold fW at this;rw[e1,e2]at this;exact this
theorem z58{m p:Nat}{A:aA}(hl:∀r∈A,r.length=m)(hp:A.length=p):gx p (gx m A)=A:=by
 refine z57 (m:=m) (by rw[D7,hp]) (λr hr=>by rw[X8 hr,D7]) hl λi k=>?_;rw[K5 (λr hr=>by rw[X8 hr,hp]),K5 hl]
structure Sq(r:Nat)(A:aA):Prop where
 asc:Asc r 0 A
 form:Form 0 (u6 A)
 len:A.length=r
theorem NW{n:Nat}:∀{f:Nat}{S:aA}{i:Nat},Asc n f S->i<S.length->f+i<=b8 (S.getD i [])/\b8 (S.getD i [])+(S.length-i)<=n
 |f,r::S,0,⟨h1,h2,h3,h4,h5⟩,_=>by
  have:=CD h5 ();show f+0<=b8 r/\b8 r+(S.length+1-0)<=n;rfl'
 |f,r::S,i+1,⟨h1,h2,h3,h4,h5⟩,h=>by
  obtain⟨a,b⟩:=NW (i:=i) h5 (by simpa using h);have e:(r::S).getD (i+1) []=S.getD i []:=rfl;rw[e,wu];rfl'
variable {r:Nat}{A:aA}
theorem Sq.rows(q:Sq r A):∀x∈A,x.length=r:=λx hx=>(q.asc.mem hx).1
theorem Sq.head(q:Sq r A){i:Nat}(hi:i<r):b8 (A.getD i [])=i:=by
 have:=NW q.asc (i:=i) (by rw[q.len];exact hi);have:=q.len;rfl'
theorem Sq.pos(q:Sq r A){i:Nat}(hi:i<r):0<fW A i i:=by
 have:=(GW q.asc (k:=i) (by rw[q.len];exact hi)).2.2.2;unfold hd at this;rw[q.head hi]at this;exact this
theorem Sq.low(q:Sq r A){i j:Nat}(h:j<i):fW A i j=0:=by
 by_cases hi:i<r
 .exact u5 _ _ (by rw[q.head hi];exact h)
 .exact C6 (by rw[q.len];rfl') j
theorem Sq.red(q:Sq r A){i j:Nat}(h:i<j)(hj:j<r):0<=fW A i j/\fW A i j<fW A j j:=by
 have:=Lo q.form (j:=i) (k:=j) h (by rw[q.len];exact hj);unfold hd at this;rw[q.head hj]at this;exact this
theorem Sq.far(q:Sq r A){i j:Nat}(h:r<=j):fW A i j=0:=PD q.rows h
theorem PH{n:Nat}:∀{f:Nat}{S:aA}{v:Vec}{x:gn},Asc n f S->Span (fP S) v->(∀k,k<b8 x->v k=0)->x∈S->hd x∣v (b8 x)
 |f,r::S,v,x,A,⟨c,s⟩,z,hx=>by
  have e:=A.coef s;rcases wB.mp hx with rfl|hx
  .exact⟨c,by rw[e];exact wU _ _⟩
  .have hh:=(A.2.2.2.2.mem hx).2.1;have e0:=z (b8 r) ();have hp:=A.2.2.2.1;have hc:c=0:=by
    rw[e0]at e;rcases vT.mp e.symm with h|h
    .exact h
    .rfl'
   subst hc;exact PH A.2.2.2.2 (Span.congr (λk=>by simp) s) z hx
theorem Sq.dvd(q:Sq r A){v:Vec}{i:Nat}(hi:i<r)(s:Span (fP A) v)(z:∀k,k<i->v k=0):fW A i i∣v i:=by
 have h:=PH q.asc s (x:=A.getD i []) (λk hk=>z k (by rw[q.head hi]at hk;exact hk)) (D6 (by rw[q.len];exact hi));unfold hd at h;rw[q.head hi]at h;exact h
abbrev pt(i:Nat)(d:Int):Vec:=λk=>if k=i then d else 0
theorem Sq.clean(q:Sq r A){i:Nat}{d:Int}(hi:i<r)(hd:0<d)(h1:Span (fP A) (pt i d))(h2:∀y,Span (fP A) y->d∣y i):∀k,fW A i k=pt i d k:=by
 have a:=q.dvd hi h1 λk hk=>by simp[pt];rfl'
 have b:=h2 _ (S7 (by rw[q.len];exact hi));have e:fW A i i=d:=w1D (w1s (q.pos hi)) (w1s hd) (by simpa[pt]using a) b;have u:Span (fP A) (λk=>fW A i k-pt i d k):=(S7 (by rw[q.len];exact hi)).sub h1;have z:=Asc.small0 q.asc u λx hx=>by
  obtain⟨j,hj,rfl⟩:=wI hx;have ej:A[j]=A.getD j []:=by simp[am,wa hj]
  rw[q.len]at hj;have hp:=q.pos hj;unfold St.hd;rw[ej,q.head hj];show 0<=fW A i j-pt i d j/\fW A i j-pt i d j<fW A j j;rcases w0I j i with h|h|h
  .rw[q.low h];simp only[pt];rw[ao ()];rfl'
  .subst h;simp only[pt,if_true];rfl'
  .have:=q.red h hj;simp only[pt];rw[ao ()];rfl'
 intro k;have:=z k;rfl'
def Clean(t:Nat)(A:aA):Prop:=∀i,i<t->∀k,k≠i->fW A i k=0
theorem W3{y:Vec}(hl:∀x∈A,x.length=r):Span (fP (gx r A)) y↔∃c:Nat->Int,∀k,y k=sm r (λj=>c j*fW A k j):=by
 rw[F9];simp only[D7,K5 hl]
theorem Clean.dvd(q:Sq r A){t i:Nat}(c:Clean t A)(hi:i<t){y:Vec}(s:Span (fP (gx r A)) y):fW A i i∣y i:=by
 by_cases hr:i<r
 .obtain⟨c',h⟩:=(W3 q.rows).mp s;rw[h i,O0 hr λk _ hn=>by rw[c i hi k hn];simp];exact⟨c' i,wU _ _⟩
 .rw[q.far ()];obtain⟨c',h⟩:=(W3 q.rows).mp s;rw[h i,A5 λk hk=>by rw[c i hi k ()];simp];exact⟨0,rfl⟩
theorem Clean.col(q:Sq r A){t:Nat}(c:Clean t A){i:Nat}(hi:i<=t)(hr:i<r):Span (fP (gx r A)) (pt i (fW A i i)):=by
 refine Span.congr (λk=>?_) (S7 (A:=gx r A) (i:=i) (by rw[D7];exact hr));rw[K5 q.rows];simp only[pt];by_cases h:k=i
 .subst h;rw[ak rfl]
 .rw[ao h];by_cases hk:k<i
  .exact c k () i ()
  .exact q.low ()
theorem lQ{X Y:aA}{t:Nat}(x:Sq r X)(y:Sq r Y)(s:SameSpan (fP Y) (fP (gx r X)))(c:Clean t X)(ht:t<=r):
   Clean t Y/\(∀i,i<t->fW Y i i=fW X i i)/\(t<r->fW Y t t∣fW X t t/\(fW Y t t=fW X t t->Clean (t+1) Y)):=by
 have key:∀i,i<t->∀k,fW Y i k=pt i (fW X i i) k:=λi hi=>y.clean () (x.pos ()) (s.iff.mpr (c.col x () ())) λv hv=>c.dvd x hi (s.iff.mp hv);have cl:Clean t Y:=λi hi k hn=>by rw[key i hi];simp[pt,hn]
 refine⟨cl,λi hi=>by rw[key i hi];simp[pt],λh=>?_⟩;have sp:=s.iff.mpr (c.col x (wt t) h);have d:=y.dvd h sp λk hk=>by simp[pt];rfl'
 simp only[pt,if_true]at d;refine⟨d,λe=>?_⟩;have k2:=y.clean (i:=t) (d:=fW X t t) h (x.pos h) sp λv hv=>by
   obtain⟨c',hc⟩:=F9.mp hv;rw[hc t,y.len,O0 h λk hk hn=>?_]
   .rw[e];exact⟨c' t,wU _ _⟩
   .rcases uM hn with hlt|hgt
    .rw[cl k hlt t ()];simp
    .rw[y.low hgt];simp
 intro i hi k hn;by_cases ht:i<t
 .exact cl i ht k hn
 .have:i=t:=()
  subst this;rw[k2];simp[pt,hn]
theorem RE{X Y Z:aA}{t:Nat}(x:Sq r X)(y:Sq r Y)(z:Sq r Z)(s:SameSpan (fP Y) (fP (gx r X)))(s':SameSpan (fP Z) (fP (gx r Y)))(c:Clean t X)(ht:t<r):
   Clean t Z/\(Clean (t+1) Z\/fW Z t t<fW X t t):=by
 obtain⟨a1,a2,a3⟩:=lQ x y s c ();obtain⟨b1,b2,b3⟩:=lQ y z s' a1 ();obtain⟨a4,a5⟩:=a3 ht;obtain⟨b4,b5⟩:=b3 ht;have xp:=x.pos ht;have yp:=y.pos ht;have zp:=z.pos ht;have l1:=uj xp a4;have l2:=uj yp b4;refine⟨b1,?_⟩;by_cases e:fW Z t t=fW X t t
 .left;have cy:=a5 ();obtain⟨d1,_,_⟩:=lQ y z s' cy ();exact d1
 .right;rfl'
def S8(r:Nat)(w:Int)(A:aA):Prop:=∀i,i<r->Span (fP A) (pt i w)
theorem Sq.comm(q:Sq r A){w:Int}(h:S8 r w A):S8 r w (gx r A):=by
 have hM:∃M:Nat->Nat->Int,∀i,i<r->∀k,pt i w k=sm r (λj=>M i j*fW A j k):=by
   have:∀i,∃c:Nat->Int,i<r->∀k,pt i w k=sm r (λj=>c j*fW A j k):=λi=>by
     by_cases hi:i<r
     .obtain⟨c,hc⟩:=F9.mp (h i hi);rw[q.len]at hc;exact⟨c,λ_=>hc⟩
     .exact⟨λ_=>0,λh=>aM h hi⟩
   exact⟨λi=>vd (this i),λi hi=>wE (this i) hi⟩
 obtain⟨M,hM⟩:=hM;have indep:∀z:Nat->Int,(∀k,k<r->sm r (λj=>z j*fW A j k)=0)->∀j,j<r->z j=0:=λz hz j=>by
   induction j using uP with
   | ind j ih =>
     intro hj;have e:=hz j hj;rw[O0 hj λk hk hn=>?_]at e
     .rcases vT.mp e with h|h
      .exact h
      .have:=q.pos hj;rfl'
     .rcases uM hn with h|h
      .rw[ih k h hk];simp
      .rw[q.low h];simp
 intro i hi;refine(W3 q.rows).mpr ⟨λj=>M j i,λk=>?_⟩;by_cases hk:k<r
 .have:=indep (λi=>sm r (λj=>M j i*fW A k j)-pt i w k) (λm hm=>?_) i hi
  .have hs:pt i w k=pt k w i:=by simp only[pt];split<;>split<;>first|rfl|rfl'
   show pt i w k=sm r (λj=>M j i*fW A k j);rw[hs];have this:sm r (λj=>M j i*fW A k j)-pt i w k=0:=this;rfl'
  .rw[n8 (g:=λi=>sm r (λj=>(fW A k j*(M j i*fW A i m)))-pt i w k*fW A i m) λi _=>?_]
   .rw[Bp,ED,n8 (g:=λj=>fW A k j*pt j w m) λj hj=>?_]
    .rw[O0 (i:=m) hm λj _ hn=>by simp only[pt];rw[ao ()];simp];rw[O0 (i:=k) hk λj _ hn=>by simp only[pt];rw[ao ()];simp];simp only[pt,if_true];rw[wU];rfl'
    .rw[L6,<-hM j hj m]
   .rw[w0H,<-Km];congr 1;exact n8 λj _=>by rw[wU (M j i),vH]
 .have:pt i w k=0:=by simp only[pt];rw[ao ()]
  rw[show(pt i w) k=0 from this,A5 λj _=>by rw[C6 (A:=A) (i:=k) (by rw[q.len];rfl')];simp]
theorem Sq.whole(q:Sq r A){w:Int}(h:S8 r w A){i:Nat}(hi:i<r):fW A i i∣w:=by
 have:=q.dvd hi (h i hi) λk hk=>by simp[pt];rfl'
 simpa[pt]using this
end St
end
section
local macro_rules|`(tactic|rfl')=>`(tactic|first|lia|omega +splitDisjunctions)
namespace St
open Lat
theorem z21:∀{m k:Nat}{f:Nat->Int},k<=m->(∀i,k<=i->i<m->f i=0)->sm m f=sm k f
 |m,0,f,_,z=>A5 λi hi=>z i (vh _) hi
 |m+1,k+1,f,h,z=>by rw[sm,sm,z21 (k:=k) () λi h1 h2=>z (i+1) () ()]
theorem RF:∀(m p:Nat)(f:Nat->Int),sm (m+p) f=sm m f+sm p (λk=>f (m+k))
 |0,p,f=>by rw[sm,uu];simp
 |m+1,p,f=>by
  rw[show m+1+p=(m+p)+1 by rfl',sm,sm,RF m p,n8 (m:=p) (g:=λk=>f (m+1+k)) λk _=>by show f (m+k+1)=_;congr 1;rfl'];rfl'
theorem GZ{m a:Nat}{c:Nat->Int}{D:Nat->Nat->Int}(hd:∀l,l<m->D l l≠0)(hl:∀l j,l<j->j<m->D l j=0)(h:∀j,a<=j->j<m->sm m (λl=>c l*D l j)=0):
  ∀d l,l+d=m->a<=l->l<m->c l=0:=λd=>by
 induction d using uP with
 |ind d ih=>
  intro l e ha hm;have q:=h l ha hm;rw[O0 hm λk hk hn=>?_]at q
  .rcases vT.mp q with q|q
   .exact q
   .exact aM q (hd l hm)
  .rcases uM hn with x|x
   .rw[hl k l x hm];simp
   .rw[ih (m-k) () k () () hk];simp
theorem Ls{P:aA}{k i:Nat}(h:i<k)(j:Nat):fW (P.take k) i j=fW P i j:=by
 unfold fW;congr 1;simp[am,w1i,h]
structure Below(r N:Nat)(w:Int)(P:aA):Prop where
 len:P.length=r
 wid:r<=N
 rows:∀x∈P,x.length=N
 pos:∀i,i<r->fW P i i≠0
 low:∀i j,i<j->j<r->fW P i j=0
 whole:∀i,i<r->∃v:Vec,Span (fP P) v/\v i=w/\∀k,k<r->k≠i->v k=0
theorem Below.heads{r N:Nat}{w:Int}{P S:aA}(B:Below r N w P){k:Nat}(hk:k<=r)(A:Asc N 0 S)(s:SameSpan (fP S) (fP (P.take k))){x:gn}(hx:x∈S):b8 x<k/\hd x∣w:=by
 have kl:(P.take k).length=k:=by rw[vy,B.len];rfl'
 obtain⟨c,hc⟩:=F9.mp (s.iff.mp (m9 hx));rw[kl]at hc;have hh:b8 x<k:=by
  refine Nat.lt_of_not_le λhge=>?_;have z:=GZ (m:=k) (a:=0) (c:=c) (D:=λl j=>fW P l j) (λl hl=>B.pos l ()) (λl j h1 h2=>B.low l j h1 ()) (λj _ hj=>by
   have:=hc j;rw[n8 (g:=λl=>c l*fW P l j) λl hl=>by rw[Ls hl]]at this;rw[<-this];exact u5 x j ())
  have:=(A.mem hx).2.2.2;unfold hd at this;have e:=hc (b8 x);rw[A5 λl hl=>by rw[z (k-l) l () () hl];simp]at e;rfl'
 refine⟨hh,?_⟩;obtain⟨v,v1,v2,v3⟩:=B.whole (b8 x) ();obtain⟨d,hd'⟩:=F9.mp v1;rw[B.len]at hd';have z:=GZ (m:=r) (a:=b8 x+1) (c:=d) (D:=λl j=>fW P l j) B.pos B.low λj h1 h2=>by rw[<-hd' j];exact v3 j h2 ()
 have sv:Span (fP S) v:=s.iff.mpr (F9.mpr ⟨d,λj=>by
  rw[hd' j,kl,z21 hk λi h1 h2=>by rw[z (r-i) i () () h2];simp];exact n8 λl hl=>by rw[Ls hl]⟩)
 have:=PH A sv (x:=x) (λj hj=>v3 j () ()) hx;rw[v2]at this;exact this
structure Lin(F:Vec->Int):Prop where
 add:∀u v:Vec,F (λk=>u k+v k)=F u+F v
 smul:∀(c:Int)(u:Vec),F (λk=>c*u k)=c*F u
theorem Lin.zero{F:Vec->Int}(h:Lin F):F (λ_=>0)=0:=by
 have:=h.smul 0 (λ_=>0);simpa using this
theorem Lin.sum{F:Vec->Int}(h:Lin F):∀(m:Nat)(c:Nat->Int)(R:Nat->Vec),F (λk=>sm m (λi=>c i*R i k))=sm m (λi=>c i*F (R i))
 |0,_,_=>h.zero
 |m+1,c,R=>by
  have:=h.sum m (λi=>c (i+1)) (λi=>R (i+1));rw[sm,<-this,<-h.smul,<-h.add];rfl
theorem Lin.span{F:Vec->Int}(h:Lin F){P:aA}{v:Vec}(z:∀l,l<P.length->F (λk=>fW P l k)=0)(s:Span (fP P) v):F v=0:=by
 obtain⟨c,hc⟩:=F9.mp s;rw[show v=λk=>sm P.length (λi=>c i*fW P i k)from funext hc,h.sum];exact A5 λi hi=>by rw[z i hi];simp
theorem NX{N:Nat}:∀{f:Nat}{S:aA}{z:Nat->Int},Asc N f S->(∀k,sm S.length (λi=>z i*fW S i k)=0)->∀i,i<S.length->z i=0
 |f,r::S,z,A,h,i,hi=>by
  have e:=h (b8 r);rw[wu,sm,A5 λk hk=>?_]at e
  .have z0:z 0=0:=by
    have p:=A.2.2.2.1;have e:z 0*hd r+0=0:=e;rcases vT.mp (show z 0*hd r=0 by rfl')with q|q
    .exact q
    .rfl'
   match i,hi with
   |0,_=>exact z0
   |i+1,hi=>
    refine NX (z:=λi=>z (i+1)) A.2.2.2.2 (λk=>?_) i (by simpa using hi);have e:=h k;rw[wu,sm,z0]at e;have e:0*fW (r::S) 0 k+sm S.length (λi=>z (i+1)*fW S i k)=0:=e;rfl'
  .rw[RD];have:=(A.2.2.2.2.mem (D6 hk)).2.1;rw[show fW S k (b8 r)=0 from u5 _ _ ()];simp
theorem oy{N:Nat}{P S:aA}(s:SameSpan (fP P) (fP S))(A:Asc N 0 S)(ζ:Nat->Int):
  ∃z:Nat->Int,∀F,Lin F->(∀l,l<P.length->F (λk=>fW P l k)=z l)->∀i,i<S.length->F (λk=>fW S i k)=ζ i:=by
 have hU:∀i,∃c:Nat->Int,i<S.length->∀k,fW S i k=sm P.length (λl=>c l*fW P l k):=λi=>by
  by_cases hi:i<S.length
  .obtain⟨c,hc⟩:=F9.mp (s.iff.mpr (S7 hi));exact⟨c,λ_=>hc⟩
  .exact⟨λ_=>0,λh=>aM h hi⟩
 have hV:∀i,∃c:Nat->Int,i<P.length->∀k,fW P i k=sm S.length (λl=>c l*fW S l k):=λi=>by
  by_cases hi:i<P.length
  .obtain⟨c,hc⟩:=F9.mp (s.iff.mp (S7 hi));exact⟨c,λ_=>hc⟩
  .exact⟨λ_=>0,λh=>aM h hi⟩
 obtain⟨U,hU⟩:∃U:Nat->Nat->Int,∀i,i<S.length->∀k,fW S i k=sm P.length (λl=>U i l*fW P l k):=⟨λi=>vd (hU i),λi=>wE (hU i)⟩;obtain⟨V,hV⟩:∃V:Nat->Nat->Int,∀i,i<P.length->∀k,fW P i k=sm S.length (λl=>V i l*fW S l k):=⟨λi=>vd (hV i),λi=>wE (hV i)⟩
 have key:∀i,i<S.length→∀m,m<S.length→sm P.length (fun l=>U i l*V l m)=if m=i then 1 else 0:=fun i hi m hm=>by
  have:=NX (z:=λm=>sm P.length (λl=>U i l*V l m)-if m=i then 1 else 0) A (λk=>?_) m hm
  .have this:sm P.length (λl=>U i l*V l m)-(if m=i then 1 else 0)=0:=this;rfl'
  .rw[n8 (g:=λm=>sm P.length (λl=>U i l*(V l m*fW S m k))-(if m=i then 1 else 0)*fW S m k) λm _=>?_]
   .rw[Bp,ED,n8 (g:=λl=>U i l*fW P l k) λl hl=>by rw[L6,<-hV l hl k],<-hU i hi k,O0 hi λm _ hn=>by rw[ao hn];simp];simp
   .rw[w0H,<-Km];congr 1;exact n8 λl _=>by rw[vH]
 refine⟨λl=>sm S.length (λm=>V l m*ζ m),λF h hF i hi=>?_⟩;rw[show(λk=>fW S i k)=λk=>sm P.length (λl=>U i l*fW P l k)from funext (hU i hi),h.sum P.length (U i) (λl k=>fW P l k)];rw[n8 (g:=λl=>sm S.length (λm=>U i l*V l m*ζ m)) λl hl=>by rw[hF l hl,<-L6];exact n8 λm _=>(vH _ _ _).symm];rw[ED,n8 (g:=λm=>(if m=i then 1 else 0)*ζ m) λm hm=>by rw[Km,key i hi m hm],O0 hi λm _ hn=>by rw[ao hn];simp];simp
def ii(r n:Nat)(c b v:Vec):Int:=sm n (λk=>v (r+k)*b k)-sm r (λj=>c j*v j)
theorem Kn(r n:Nat)(c b:Vec):Lin (ii r n c b) where
 add u v:=by
  unfold ii;rw[n8 (g:=λk=>u (r+k)*b k+v (r+k)*b k) λk _=>w1H _ _ _,Ge,n8 (m:=r) (g:=λj=>c j*u j+c j*v j) λk _=>uH _ _ _,Ge];rfl'
 smul a u:=by
  unfold ii;rw[n8 (g:=λk=>a*(u (r+k)*b k)) λk _=>vH _ _ _,L6,n8 (m:=r) (g:=λj=>a*(c j*u j)) λk _=>by rw[<-vH,wU (c k),vH],L6,vO]
def EqP(r n:Nat)(P:aA)(b:Vec):Prop:=∃c:Vec,∀l,l<P.length->ii r n c b (λk=>fW P l k)=0
theorem EqP.same{r n:Nat}{P S:aA}{b:Vec}(s:SameSpan (fP P) (fP S)):EqP r n P b↔EqP r n S b:=
 ⟨λ⟨c,h⟩=>⟨c,λl hl=>(Kn r n c b).span h (s.iff.mpr (S7 hl))⟩,λ⟨c,h⟩=>⟨c,λl hl=>(Kn r n c b).span h (s.iff.mp (S7 hl))⟩⟩
end St
end
section
local macro_rules|`(tactic|rfl')=>`(tactic|first|lia|omega +splitDisjunctions)
namespace St
open Lat
def il(n:Nat)(W:aA)(b:Vec):Vec:=λi=>sm n (λk=>fW W i k*b k)
def pair(A W:aA):aA:=bQ (·++·) A W
theorem S9{A W:aA}(h:A.length=W.length):(pair A W).length=A.length:=by unfold pair;rw[uf];rfl'
theorem z22{A W:aA}{i:Nat}(h:i<A.length)(h':i<W.length):(pair A W).getD i []=A.getD i []++W.getD i []:=by
 simp[pair,am,w0i,wa h,wa h']
theorem DK{r n:Nat}{A W:aA}(ha:∀x∈A,x.length=r){i:Nat}(h:i<A.length)(h':i<W.length)(k:Nat):fW (pair A W) i k=if k<r then fW A i k else fW W i (k-r):=by
 unfold fW;rw[z22 h h',X7 (ha _ (D6 h))]
theorem NY{r n:Nat}{A W:aA}(ha:∀x∈A,x.length=r)(hw:∀x∈W,x.length=n):∀x∈pair A W,x.length=r+n:=λx hx=>by
 obtain⟨i,hi,rfl⟩:=wI hx;simp only[pair,w1c,wF];rw[ha _ (vx _),hw _ (vx _)]
theorem DL{r n:Nat}{A W:aA}{b:Vec}(ha:∀x∈A,x.length=r)(hl:A.length=W.length)(c:Vec)(l:Nat)(h:l<A.length):ii r n c b (λk=>fW (pair A W) l k)=il n W b l-sm r (λj=>c j*fW A l j):=by
 unfold ii il;rw[n8 (g:=λk=>fW W l k*b k) λk _=>by show fW (pair A W) l (r+k)*b k=_;rw[DK (n:=n) ha h (),ao (),show r+k-r=k by rfl']];rw[n8 (m:=r) (g:=λj=>c j*fW A l j) λj hj=>by show c j*fW (pair A W) l j=_;rw[DK (n:=n) ha h (),ak hj]]
theorem YV{r n:Nat}{A W:aA}{b:Vec}(ha:∀x∈A,x.length=r)(hl:A.length=W.length):EqP r n (pair A W) b↔Span (fP (gx r A)) (il n W b):=by
 rw[W3 ha];have e:=DL (r:=r) (n:=n) (b:=b) ha hl;constructor
 .rintro⟨c,h⟩;refine⟨c,λk=>?_⟩;by_cases hk:k<A.length
  .have:=h k (by rw[S9 hl];exact hk);rw[e c k hk]at this;rfl'
  .rw[show il n W b k=0 from A5 λj _=>by rw[C6 ()];simp];exact(A5 λj _=>by rw[C6 ()];simp).symm
 .rintro⟨c,h⟩;refine⟨c,λl hl'=>?_⟩;rw[S9 hl]at hl';rw[e c l hl',h l];rfl'
theorem TV{r:Nat}{w:Int}{B:aA}(h:S8 r w B){u:Vec}(hu:∀k,r<=k->u k=0):Span (fP B) (λk=>w*u k):=by
 have key:∀ m,m≤r→Span (fP B) (fun k=>if k<m then w*u k else 0):=fun m=>by
   induction m with
   |zero=>intro _;exact Span.congr (λk=>by simp) Span.zero
   |succ m ih=>
    intro hm;refine Span.congr (λk=>?_) ((ih ()).add ((h m ()).smul (u m)));by_cases e:k=m
    .subst e;rw[ao (),ak ()];simp[pt,wU]
    .simp only[pt,ao e];by_cases q:k<m
     .rw[ak q,ak ()];simp
     .rw[ao q,ao ()];simp
 refine Span.congr (λk=>?_) (key r (wt _));by_cases q:k<r
 .rw[ak q]
 .rw[ao q,hu k ()];simp
theorem z0n{r:Nat}{P:aA}{v:Vec}(s:Span (fP P) v):Span (fP (P.map (·.take r))) (λk=>if k<r then v k else 0):=by
 obtain⟨c,h⟩:=F9.mp s;refine F9.mpr ⟨c,λk=>?_⟩;have e:∀i,fW (P.map (·.take r)) i k=if k<r then fW P i k else 0:=λi=>by
   by_cases hi:i<P.length
   .unfold fW;rw[show(P.map (·.take r)).getD i []=(P.getD i []).take r by simp[am,wa hi],J2]
   .rw[C6 (by simpa using ug hi),C6 ()];simp
 rw[wn];by_cases hk:k<r
 .rw[ak hk,h k];exact n8 λi _=>by rw[e,ak hk]
 .rw[ao hk];exact(A5 λi _=>by rw[e,ao hk];simp).symm
theorem EE{r:Nat}{P S:aA}(s:SameSpan (fP P) (fP S)):SameSpan (fP (P.map (·.take r))) (fP (S.map (·.take r))):=by
 have one:∀{P S:aA},SameSpan (fP P) (fP S)->∀x∈P.map (·.take r),Span (fP (S.map (·.take r))) (λk=>at0 x k):=λ{P S}s x hx=>by
  obtain⟨y,hy,rfl⟩:=wj.mp hx;exact Span.congr (λk=>by rw[J2]) (z0n (r:=r) (s.iff.mp (m9 hy)))
 exact CC (one s) (one s.symm)
theorem EG{r:Nat}{A W:aA}(ha:∀x∈A,x.length=r)(hl:A.length=W.length):(pair A W).map (·.take r)=A:=by
 refine vz (by rw[wn,S9 hl]) λi h1 h2=>?_;simp only[pair,List.getElem_map,w1c];rw[w1S (ha _ (vx _))]
theorem RG{r:Nat}(S:aA):pair (S.map (·.take r)) (S.map (·.drop r))=S:=by
 induction S with
 |nil=>rfl
 |cons x S ih=>show(x.take r++x.drop r)::_=_;rw[List.take_append_drop];congr 1
theorem z23{r N:Nat}{S:aA}(h:∀x∈S,b8 x<r):gu r S=S.map (·.take r):=by
 unfold gu;congr 1;exact w1g.mpr λx hx=>aL (h x hx)
structure Mst(r n:Nat)(w:Int)(G K A W:aA):Prop where
 sq:Sq r A
 wl:W.length=r
 wr:∀x∈W,x.length=n
 whole:S8 r w (gx r A)
 ker:∀b:Vec,(∀k,n<=k->b k=0)->(Span (fP G) b↔(∀j,j<K.length->il n K b j=0)/\Span (fP (gx r A)) (il n W b))
 onto:∀ζ κ:Vec,∃b:Vec,(∀k,n<=k->b k=0)/\(∀j,j<K.length->il n K b j=κ j)/\Span (fP (gx r A)) (λi=>il n W b i-if i<r then ζ i else 0)
variable {r n:Nat}{w:Int}{G K A W T S W':aA}
theorem Mst.rest(m:Mst r n w G K A W)(hl:W'.length=r)(hr:∀x∈W',x.length=n)(q:Nat->Nat->Int)(e:∀i k,i<r->fW W' i k=fW W i k-w*q i k):Mst r n w G K A W':=by
 have key:∀b:Vec,Span (fP (gx r A)) (λi=>il n W b i-il n W' b i):=λb=>by
   refine Span.congr (λi=>?_) (TV m.whole (u:=λi=>if i<r then sm n (λk=>q i k*b k) else 0) λk hk=>by simp;rfl');by_cases hi:i<r
   .unfold il;rw[ak hi,<-Bp,<-L6];exact n8 λk _=>by rw[e i k hi,w0H,vH];rfl'
   .have z1:il n W b i=0:=A5 λk _=>by rw[C6 (by rw[m.wl];rfl')];simp
    have z2:il n W' b i=0:=A5 λk _=>by rw[C6 ()];simp
    rw[ao hi,z1,z2];simp
 refine⟨m.sq,hl,hr,m.whole,λb hb=>?_,λζ κ=>?_⟩
 .rw[m.ker b hb];refine and_congr_right λ_=>⟨λh=>Span.congr (λi=>()) (h.sub (key b)),λh=>Span.congr (λi=>()) (h.add (key b))⟩
 .obtain⟨b,h1,h2,h3⟩:=m.onto ζ κ;exact⟨b,h1,h2,Span.congr (λi=>()) (h3.sub (key b))⟩
theorem Mst.step(m:Mst r n w G K A W)(t:Sq r T)(sT:SameSpan (fP T) (fP (gx r A)))(As:Asc (r+n) 0 S)(Fs:Form 0 (u6 S))(sl:S.length=r)(sh:∀x∈S,b8 x<r)(ss:SameSpan (fP S) (fP (pair (gx r T) W))):
   Mst r n w G K (S.map (·.take r)) (S.map (·.drop r)):=by
 have et:gu r S=S.map (·.take r):=z23 (N:=0) sh;obtain⟨a1,a2⟩:=GY As (show r<=r+n by rfl');rw[et]at a1 a2;have sq:Sq r (S.map (·.take r)):=⟨a1,by rw[<-et];exact IC As Fs (),by rw[wn,sl]⟩;have cl:(gx r T).length=r:=D7 _ _;have cr:∀x∈gx r T,x.length=r:=λx hx=>by rw[X8 hx,t.len]
 have tt:gx r (gx r T)=T:=z58 t.rows t.len;have dr:∀x∈S.map (·.drop r),x.length=n:=λx hx=>by
   obtain⟨y,hy,rfl⟩:=wj.mp hx;rw[wR,(As.mem hy).1];rfl'
 have hs:=EE (r:=r) ss;rw[EG cr (by rw[cl,m.wl])]at hs;have wT:S8 r w T:=λi hi=>sT.iff.mpr (m.whole i hi);have wC:=t.comm wT;have wA:S8 r w (S.map (·.take r)):=λi hi=>hs.iff.mpr (wC i hi);have eq:∀y,Span (fP (gx r A)) y↔Span (fP (gx r (gx r T))) y:=λy=>by rw[tt];exact sT.symm.iff
 have pc:=RG (r:=r) S;refine⟨sq,by rw[wn,sl],dr,sq.comm wA,λb hb=>?_,λζ κ=>?_⟩
 .rw[m.ker b hb];refine and_congr_right λ_=>?_;rw[eq,<-YV (n:=n) cr (by rw[cl,m.wl]),<-YV (n:=n) sq.rows (by simp),pc];exact EqP.same ss.symm
 .obtain⟨z,hz⟩:=oy ss.symm As ζ;obtain⟨b,h1,h2,h3⟩:=m.onto z κ;refine⟨b,h1,h2,?_⟩;obtain⟨c,hc⟩:=(W3 cr).mp ((eq _).mp h3);have pl:(pair (gx r T) W).length=r:=by rw[S9 (by rw[cl,m.wl]),cl]
  have:=hz (ii r n c b) (Kn r n c b) λl hl=>by
    rw[pl]at hl;have e:=hc l;rw[ak hl]at e;rw[DL cr (by rw[cl,m.wl]) c l ()];rfl'
  refine(W3 sq.rows).mpr ⟨c,λi=>?_⟩;by_cases hi:i<r
  .have e:=this i ();rw[<-pc]at e;rw[DL sq.rows (by simp) c i (by rw[sq.len];exact hi)]at e;rw[ak hi];rfl'
  .rw[ao hi,show il n (S.map (·.drop r)) b i=0 from A5 λk _=>by rw[C6 (by simp[sl];rfl')];simp];rw[A5 λj _=>by rw[C6 (by rw[sq.len];rfl')];simp];rfl
end St
end
section
local macro_rules|`(tactic|rfl')=>`(tactic|first|lia|omega +splitDisjunctions)
namespace St
open Lat
def pr(A:aA):Nat->Int
 |0=>1
 |k+1=>pr A k*fW A k k
theorem z24{T:List Vec}{R:Nat->Vec}(c:Nat->Int):∀m,(∀j,j<m->Span T (R j))->Span T (λk=>sm m (λj=>c j*R j k)):=by
 intro m
 induction m generalizing c R with
 |zero=>intro _;exact Span.zero
 |succ m ih=>intro h;exact((h 0 ()).smul (c 0)).add (ih (R:=λj=>R (j+1)) (λj=>c (j+1)) λj hj=>h (j+1) ())
theorem RH{D:aA}(hl:∀i j,i<j->fW D i j=0):∀i,i<=D.length->∀j,j<i->Span (fP D) (pt j (pr D i)):=by
 intro i
 induction i with
 |zero=>intro _ j hj;rfl'
 |succ i ih=>
  intro hi j hj;have ih:=ih ();by_cases e:j<i
  .refine Span.congr (λk=>?_) ((ih j e).smul (fW D i i));simp only[pt,pr];split
   .exact wU _ _
   .simp
  .have e:j=i:=()
   subst e;refine Span.congr (λk=>?_) (((S7 (A:=D) (i:=j) ()).smul (pr D j)).sub (z24 (R:=λl=>pt l (pr D j)) (λl=>fW D j l) j ih));by_cases h1:k<j
   .rw[O0 h1 λl _ hn=>by simp only[pt];rw[ao ()];simp];simp only[pt,if_true];rw[ao (),wU];rfl'
   .rw[A5 λl hl=>by simp only[pt];rw[ao ()];simp];by_cases h2:k=j
    .subst h2;simp[pt,pr]
    .rw[hl j k ()];simp[pt,h2]
theorem RI{A B:aA}:∀{k:Nat},(∀i,i<k->fW A i i=fW B i i)->pr A k=pr B k
 |0,_=>rfl
 |k+1,h=>by rw[pr,pr,RI λi hi=>h i (),h k ()]
theorem TW{A:aA}:∀{k:Nat},(∀i,i<k->0<fW A i i)->0<pr A k
 |0,_=>by show(0:Int)<1;decide
 |k+1,h=>by rw[pr];exact w1K (TW λi hi=>h i ()) (h k ())
variable {r n:Nat}{w:Int}{G K A W T S:aA}
theorem Sq.prod(q:Sq r A):S8 r (pr A r) (gx r A):=λi hi=>by
 have:=RH (D:=gx r A) (λi j h=>by rw[K5 q.rows];exact q.low h) r (by rw[D7];exact wt _) i hi;rw[RI (B:=A) λi _=>by rw[K5 q.rows]]at this;exact this
theorem Sq.below(q:Sq r A)(h:S8 r w (gx r A)):Below r r w (gx r A) where
 len:=D7 _ _
 wid:=wt _
 rows x hx:=by rw[X8 hx,q.len]
 pos i hi:=by rw[K5 q.rows];have:=q.pos hi;rfl'
 low i j h1 h2:=by rw[K5 q.rows];exact q.low h1
 whole i hi:=⟨_,h i hi,by simp[pt],λk _ hn=>by simp[pt,hn]⟩
theorem Sq.below_pair(t:Sq r T)(h:S8 r w (gx r T))(wl:W.length=r)(wr:∀x∈W,x.length=n):Below r (r+n) w (pair (gx r T) W):=by
 have B:=t.below h;have pl:(pair (gx r T) W).length=r:=by rw[S9 (by rw[B.len,wl]),B.len]
 have e:∀i k,i<r->k<r->fW (pair (gx r T) W) i k=fW (gx r T) i k:=λi k hi hk=>by
   rw[DK (n:=n) B.rows (by rw[B.len];exact hi) (),ak hk]
 refine⟨pl,(),NY B.rows wr,λi hi=>by rw[e i i hi hi];exact B.pos i hi,λi j h1 h2=>by rw[e i j () h2];exact B.low i j h1 h2,λi hi=>?_⟩;obtain⟨c,hc⟩:=F9.mp (h i hi);rw[D7]at hc;refine⟨λk=>sm r (λl=>c l*fW (pair (gx r T) W) l k),F9.mpr ⟨c,λk=>by rw[pl]⟩,?_,λk hk hn=>?_⟩
 .show sm r (λl=>c l*fW (pair (gx r T) W) l i)=w;rw[n8 (g:=λl=>c l*fW (gx r T) l i) λl hl=>by rw[e l i hl hi],<-hc i];simp[pt]
 .show sm r (λl=>c l*fW (pair (gx r T) W) l k)=0;rw[n8 (g:=λl=>c l*fW (gx r T) l k) λl hl=>by rw[e l k hl hk],<-hc k];simp[pt,hn]
theorem TX:∀{R:aA}{cs:aH}(k:Nat),cs.length=R.length->mix R cs k=sm R.length (λi=>at0 cs i*fW R i k)
 |[],[],_,_=>rfl
 |x::R,c::cs,k,h=>by
  rw[mix,wu,sm];show c*at0 x k+mix R cs k=_;rw[TX k (by simpa using h)];rfl
theorem Below.ind{N:Nat}{P:aA}(B:Below r N w P):Ind P:=λcs hl hz c hc=>by
 have z:=GZ (m:=r) (a:=0) (c:=λi=>at0 cs i) (D:=λl j=>fW P l j) B.pos B.low λj _ _=>by
  have:=hz j;rw[TX j hl,B.len]at this;exact this
 obtain⟨i,hi,rfl⟩:=wI hc;have e:=z (r-i) i (by rw[hl,B.len]at hi;rfl') () (by rw[hl,B.len]at hi;exact hi);simpa[at0,am,wa hi]using e
theorem Below.full{N:Nat}{P:aA}(B:Below r N w P)(As:Asc N 0 S)(ss:SameSpan (fP S) (fP P)):∀x∈S,b8 x<r/\hd x∣w:=λx hx=>
 B.heads (wt r) As (by rw[show P.take r=P by rw[<-B.len];exact w0N];exact ss) hx
def units(n:Nat):aA:=(ah n).map (k8 n)
theorem E2(n:Nat):(units n).length=n:=by simp[units]
theorem NZ(n:Nat):∀x∈units n,x.length=n:=λx hx=>by obtain⟨i,_,rfl⟩:=wj.mp hx;exact E1 n i
theorem IE{i k:Nat}(hi:i<n):fW (units n) i k=if k=i/\k<n then 1 else 0:=by
 unfold fW units;rw[show((ah n).map (k8 n)).getD i []=k8 n i by simp[am,hi],v7]
theorem z0o{f:Nat}(As:Asc r f T)(h:∀i,i<r->∃x∈T,b8 x=i):r<=T.length:=by
 have:=Bo (l:=ah r) (m:=T.map b8) id List.nodup_range (λx _ y _ e=>e) λi hi=>by
  obtain⟨x,hx,e⟩:=h i (wJ.mp hi);exact wj.mpr ⟨x,hx,e⟩
 simpa using this
theorem start(Ag:Asc n 0 G)(gl:G.length=r)(As:Asc (r+n) 0 S)(Fs:Form 0 (u6 S))(sl:S.length=n)(ss:SameSpan (fP S) (fP (pair (gx n G) (units n)))):
   ∃W,S.filter (λx=>decide (b8 x<r))=S.take r/\W=(S.take r).map (·.drop r)/\(gH r S).length=n-r/\Mst r n (pr (gu r S) r) G (gH r S) (gu r S) W/\gu r S=(S.take r).map (·.take r)/\r<=n:=by
 have gr:∀x∈G,x.length=n:=λx hx=>(Ag.mem hx).1;have rn:r<=n:=by have:=CD Ag (vh _);rfl'
 have cr:∀x∈gx n G,x.length=r:=λx hx=>by rw[X8 hx,gl]
 have cl:(gx n G).length=n:=D7 _ _;obtain⟨a1,a2⟩:=GY As (show r<=r+n by rfl');have hs:=EE (r:=r) ss;rw[EG cr (by rw[cl,E2])]at hs;have cover:∀i,i<r->∃x∈gu r S,b8 x=i:=λi hi=>by
   let D:aA:=(ah r).map λi=>(gx n G).getD (b8 (G.getD i [])) [];have dl:D.length=r:=by simp[D]
   have de:∀i j,i<r->fW D i j=fW G j (b8 (G.getD i [])):=λi j hi=>by
     have:D.getD i []=(gx n G).getD (b8 (G.getD i [])) []:=by simp[D,am,hi]
     rw[<-K5 gr];unfold fW;rw[this]
   have low:∀i j,i<j->fW D i j=0:=λi j h=>by
     by_cases hi:i<r
     .rw[de i j hi];by_cases hj:j<r
      .exact u5 _ _ (TU Ag h (by rw[gl];exact hj))
      .exact C6 (by rw[gl];rfl') _
     .exact C6 (by rw[dl];rfl') _
   have sp:=RH low r (by rw[dl];exact wt _) i hi;have pos:0<pr D r:=TW λi hi=>by
     rw[de i i hi];exact(GW Ag (k:=i) (by rw[gl];exact hi)).2.2.2
   have sp2:Span (fP (gx n G)) (pt i (pr D r)):=Span.trans (λv hv=>by
     obtain⟨x,hx,rfl⟩:=wj.mp hv;obtain⟨j,hj,rfl⟩:=wj.mp hx;have hj:=wJ.mp hj;exact m9 (D6 (by rw[cl];exact(GW Ag (k:=j) (by rw[gl];exact hj)).2.2.1))) sp
   have sp3:=hs.iff.mpr sp2;have sp4:Span (fP (gu r S)) (pt i (pr D r)):=by
     refine Span.trans (λv hv=>?_) sp3;obtain⟨x,hx,rfl⟩:=wj.mp hv;obtain⟨y,hy,rfl⟩:=wj.mp hx;exact Span.congr (λk=>by simp only[gZ];rw[J2]) (ID (n:=r) As (m9 hy))
   exact Asc.first a1 sp4 (λk hk=>by simp[pt];rfl') (by simp[pt];rfl')
 have tl:(gu r S).length=r:=by
   have h1:=z0o a1 cover;have h2:=CD a1 (vh _);rfl'
 have fl:(S.filter λx=>decide (b8 x<r)).length=r:=by rw[<-a2];exact tl
 have sp:=CH As (n:=r);have tk:S.filter (λx=>decide (b8 x<r))=S.take r:=by
   have:=bv (List.take r) sp;rw[w1S fl]at this;exact this.symm
 have dk:S.filter (λx=>!decide (b8 x<r))=S.drop r:=by
   have:=bv (List.drop r) sp;rw[List.drop_left' fl]at this;exact this.symm
 have te:gu r S=(S.take r).map (·.take r):=by unfold gu;rw[tk]
 have be:gH r S=(S.drop r).map (·.drop r):=by unfold gH;rw[dk]
 have bl:(gH r S).length=n-r:=by rw[be,wn,wR,sl]
 have sq:Sq r (gu r S):=⟨a1,IC As Fs (),tl⟩;have hS:∀i,i<r->∀k,fW S i k=fW (pair (gu r S) ((S.take r).map (·.drop r))) i k:=λi hi k=>by
   rw[te,RG,Ls hi]
 have wl:((S.take r).map (·.drop r)).length=r:=by rw[wn,vy,sl];rfl'
 have zl:∀j,j<n-r->∀k,k<r->fW S (r+j) k=0:=λj hj k hk=>by
   have m:S.getD (r+j) []∈S.filter (λx=>!decide (b8 x<r)):=by
     rw[dk,show S.getD (r+j) []=(S.drop r).getD j [] by simp[am,w04]];exact D6 (by rw[wR,sl];exact hj)
   have:=(wQ.mp m).2;rw[Bool.not_eq_true',decide_eq_false_iff_not]at this;exact u5 _ _ ()
 have bk:∀j,j<n-r->∀k,fW S (r+j) (r+k)=fW (gH r S) j k:=λj hj k=>by
   rw[be];unfold fW;rw[show((S.drop r).map (·.drop r)).getD j []=(S.getD (r+j) []).drop r by simp[am,w04,wa (show r+j<S.length by rfl')],B8]
 have fb:∀(c b:Vec)(j:Nat),j<n-r->ii r n c b (λk=>fW S (r+j) k)=il n (gH r S) b j:=λc b j hj=>by
   unfold ii il;rw[n8 (g:=λk=>fW (gH r S) j k*b k) λk _=>by show fW S (r+j) (r+k)*b k=_;rw[bk j hj],A5 (m:=r) λk hk=>by show c k*fW S (r+j) k=0;rw[zl j hj k hk];simp];rfl'
 have fa:∀(c b:Vec)(i:Nat),i<r->ii r n c b (λk=>fW S i k)=il n ((S.take r).map (·.drop r)) b i-sm r (λj=>c j*fW (gu r S) i j):=λc b i hi=>by
   rw[show(λk=>fW S i k)=λk=>fW (pair (gu r S) ((S.take r).map (·.drop r))) i k from funext (hS i hi)];exact DL sq.rows (by rw[tl,wl]) c i (by rw[tl];exact hi)
 have fp:∀(c b:Vec)(l:Nat),l<n->ii r n c b (λk=>fW (pair (gx n G) (units n)) l k)=b l-sm r (λj=>c j*fW G j l):=λc b l hl=>by
   rw[DL cr (by rw[cl,E2]) c l (by rw[cl];exact hl)];congr 1
   .unfold il;rw[O0 hl λk _ hn=>by rw[IE hl,ao ()];simp,IE hl,ak ⟨rfl,hl⟩];simp
   .exact n8 λj _=>by rw[K5 gr]
 have pl:(pair (gx n G) (units n)).length=n:=by rw[S9 (by rw[cl,E2]),cl]
 refine⟨_,tk,rfl,bl,⟨sq,wl,λx hx=>?_,sq.prod,λb hb=>?_,λζ κ=>?_⟩,te,rn⟩
 .obtain⟨y,hy,rfl⟩:=wj.mp hx;rw[wR,(As.mem (uI hy)).1];rfl'
 .have e1:Span (fP G) b↔EqP r n (pair (gx n G) (units n)) b:=by
    rw[F9,gl];constructor
    .rintro⟨c,h⟩;exact⟨c,λl hl=>by rw[fp c b l (),h l];rfl'⟩
    .rintro⟨c,h⟩;refine⟨c,λk=>?_⟩;by_cases hk:k<n
     .have:=h k ();rw[fp c b k hk]at this;rfl'
     .rw[hb k ()];exact(A5 λj _=>by rw[PD gr ()];simp).symm
  rw[e1,EqP.same ss.symm,bl,W3 sq.rows];constructor
  .rintro⟨c,h⟩;refine⟨λj hj=>by rw[<-fb c b j hj];exact h _ (),c,λk=>?_⟩;by_cases hk:k<r
   .have:=h k ();rw[fa c b k hk]at this;rfl'
   .rw[show il n ((S.take r).map (·.drop r)) b k=0 from A5 λj _=>by rw[C6 (by rw[wl];rfl')];simp];exact(A5 λj _=>by rw[C6 (by rw[tl];rfl')];simp).symm
  .rintro⟨h1,c,h2⟩;refine⟨c,λl hl=>?_⟩;by_cases hk:l<r
   .rw[fa c b l hk,h2 l];rfl'
   .have:=h1 (l-r) ();rw[<-fb c b (l-r) (),show r+(l-r)=l by rfl']at this;exact this
 .obtain⟨z,hz⟩:=oy ss.symm As (λi=>if i<r then ζ i else κ (i-r));have:=hz (ii r n (λ_=>0) (λk=>if k<n then z k else 0)) (Kn _ _ _ _) λl hl=>by
    rw[fp _ _ l (),ak (),A5 λj _=>by simp];rfl'
  refine⟨λk=>if k<n then z k else 0,λk hk=>ao (),λj hj=>?_,?_⟩
  .have e:=this (r+j) ();rw[fb _ _ j (),ao (),show r+j-r=j by rfl']at e;exact e
  .refine Span.congr (λi=>?_) Span.zero;by_cases hi:i<r
   .have e:=this i ();rw[fa _ _ i hi,ak hi,A5 λj _=>by simp]at e;rw[ak hi];rfl'
   .rw[ao hi,show il n ((S.take r).map (·.drop r)) _ i=0 from A5 λj _=>by rw[C6 (by rw[wl];rfl')];simp];rfl
end St
end
section
namespace St
open Lat
abbrev gc:=List (gn×Int)
def mw(M:gc)(i:Nat):gn:=(M.getD i ([],0)).1
def mp(M:gc)(i:Nat):Int:=(M.getD i ([],0)).2
def dt(n:Nat)(w:gn)(b:Vec):Int:=sm n (λk=>at0 w k*b k)
structure Ms(n:Nat)(G:aA)(M:gc):Prop where
 rows:∀x∈M,x.1.length=n
 ker:∀b:Vec,(∀k,n<=k->b k=0)->(Span (fP G) b↔∀i,i<M.length->mp M i∣dt n (mw M i) b)
 onto:∀ζ:Vec,∃b:Vec,(∀k,n<=k->b k=0)/\∀i,i<M.length->mp M i∣dt n (mw M i) b-ζ i
variable {n:Nat}{G:aA}{M M':gc}
theorem Ms.rest(m:Ms n G M)(hr:∀x∈M',x.1.length=n)(hl:M'.length=M.length)(hp:∀i,i<M.length->mp M' i=mp M i)(hd:∀i,i<M.length->∀b:Vec,mp M i∣dt n (mw M' i) b-dt n (mw M i) b):Ms n G M':=by
 refine⟨hr,λb hb=>?_,λζ=>?_⟩
 .rw[m.ker b hb,hl];refine forall_congr' λi=>forall_congr' λhi=>?_;rw[hp i hi];have:=hd i hi b;constructor
  .intro h;have:=ur this h;rwa [w1j]at this
  .intro h;have:=w0J h this;rwa [show dt n (mw M' i) b-(dt n (mw M' i) b-dt n (mw M i) b)=dt n (mw M i) b by rfl']at this
 .obtain⟨b,h1,h2⟩:=m.onto ζ;refine⟨b,h1,λi hi=>?_⟩;rw[hl]at hi;rw[hp i hi];have:=ur (hd i hi b) (h2 i hi)
  rwa [show dt n (mw M' i) b-dt n (mw M i) b+(dt n (mw M i) b-ζ i)=dt n (mw M' i) b-ζ i by rfl']at this
theorem Ms.link(m:Ms n G M){p q:Nat}{g f1 f2 a b:Int}(hp:p<M.length)(hq:q<M.length)(hn:p≠q)(ea:mp M p=g*a)(eb:mp M q=g*b)(hg:g≠0)(e1:f1*a+f2*b=1)
   (hr:∀x∈M',x.1.length=n) (hl:M'.length=M.length) (ho:∀i,i≠p->i≠q->mp M' i=mp M i/\mw M' i=mw M i) (hp1:mp M' p=g) (hq1:mp M' q=a*(g*b))
   (hp2:∀v:Vec,g∣dt n (mw M' p) v-(dt n (mw M p) v+dt n (mw M q) v)) (hq2:∀v:Vec,a*(g*b)∣dt n (mw M' q) v-(-(f2*b)*dt n (mw M p) v+f1*a*dt n (mw M q) v)):Ms n G M':=by
 have key:∀X Y U V:Int,g∣U-(X+Y)->a*(g*b)∣V-(-(f2*b)*X+f1*a*Y)->((g*a∣X/\g*b∣Y)↔(g∣U/\a*(g*b)∣V)):=by
   rintro X Y U V ⟨u,hu⟩ ⟨v,hv⟩;constructor
   .rintro⟨⟨x,rfl⟩,⟨y,rfl⟩⟩;exact⟨⟨u+a*x+b*y,by grind⟩,⟨v-f2*x+f1*y,by grind⟩⟩
   .rintro⟨⟨x,rfl⟩,⟨y,rfl⟩⟩;refine⟨⟨f1*(x-u)-b*(y-v),?_⟩,⟨f2*(x-u)+a*(y-v),?_⟩⟩
    .grind
    .grind
 refine⟨hr,λb' hb=>?_,λζ=>?_⟩
 .rw[m.ker b' hb,hl];have k:=key (dt n (mw M p) b') (dt n (mw M q) b') (dt n (mw M' p) b') (dt n (mw M' q) b') (hp2 b') (hq2 b');constructor
  .intro h i hi;have:=k.mp ⟨by rw[<-ea];exact h p hp,by rw[<-eb];exact h q hq⟩;by_cases i1:i=p
   .subst i1;rw[hp1];exact this.1
   .by_cases i2:i=q
    .subst i2;rw[hq1];exact this.2
    .rw[(ho i i1 i2).1,(ho i i1 i2).2];exact h i hi
  .intro h i hi;have:=k.mpr ⟨by rw[<-hp1];exact h p hp,by rw[<-hq1];exact h q hq⟩;by_cases i1:i=p
   .subst i1;rw[ea];exact this.1
   .by_cases i2:i=q
    .subst i2;rw[eb];exact this.2
    .have:=h i hi;rw[(ho i i1 i2).1,(ho i i1 i2).2]at this;exact this
 .obtain⟨v,h1,h2⟩:=m.onto λi=>if i=p then f1*a*ζ p-ζ q else if i=q then f2*b*ζ p+ζ q else ζ i
  refine⟨v,h1,λi hi=>?_⟩;have x1:=h2 p hp;rw[ak rfl,ea]at x1;have x2:=h2 q hq;rw[ao (),ak rfl,eb]at x2;have k:=(key (dt n (mw M p) v-(f1*a*ζ p-ζ q)) (dt n (mw M q) v-(f2*b*ζ p+ζ q)) (dt n (mw M' p) v-ζ p) (dt n (mw M' q) v-ζ q)
    (by have:=hp2 v;rwa [show dt n (mw M' p) v-ζ p-(dt n (mw M p) v-(f1*a*ζ p-ζ q)+(dt n (mw M q) v-(f2*b*ζ p+ζ q)))=dt n (mw M' p) v-(dt n (mw M p) v+dt n (mw M q) v) by grind])
    (by have:=hq2 v;rwa [show dt n (mw M' q) v-ζ q-(-(f2*b)*(dt n (mw M p) v-(f1*a*ζ p-ζ q))+f1*a*(dt n (mw M q) v-(f2*b*ζ p+ζ q)))=dt n (mw M' q) v-(-(f2*b)*dt n (mw M p) v+f1*a*dt n (mw M q) v) by grind])).mp ⟨x1,x2⟩
  by_cases i1:i=p
  .subst i1;rw[hp1];exact k.1
  .by_cases i2:i=q
   .subst i2;rw[hq1];exact k.2
   .have:=h2 i ();rw[ao i1,ao i2]at this;rw[(ho i i1 i2).1,(ho i i1 i2).2];exact this
theorem z59{g a b f1 f2 w:Int}(hg:g≠0)(e1:f1*a+f2*b=1)(h1:g*a∣w)(h2:g*b∣w):a*(g*b)∣w:=by
 obtain⟨s,hs⟩:=h1;obtain⟨t,ht⟩:=h2;exact⟨f1*t+f2*s,by grind⟩
theorem z5a{p:Int}{x y:gn}{q:Nat->Int}(e:∀k,at0 x k=at0 y k-p*q k)(b:Vec):p∣dt n x b-dt n y b:=by
 refine⟨- sm n (λk=>q k*b k),?_⟩;unfold dt;rw[<-Bp,n8 (g:=λk=>(-p)*(q k*b k)) λk _=>by rw[e k];grind,L6];grind
theorem Mst.meas{r:Nat}{w:Int}{K A W:aA}(m:Mst r n w G K A W)(hc:Clean r A)(kr:∀x∈K,x.length=n)(M:gc)(hl:M.length=r+K.length)(h1:∀i,i<r->mw M i=W.getD i []/\mp M i=fW A i i)(h2:∀j,j<K.length->mw M (r+j)=K.getD j []/\mp M (r+j)=0):Ms n G M:=by
 have sp:∀y:Vec,(∀k,r<=k->y k=0)->(Span (fP (gx r A)) y↔∀i,i<r->fW A i i∣y i):=λy hy=>by
   rw[W3 m.sq.rows];constructor
   .rintro⟨c,h⟩ i hi;rw[h i,O0 hi λk _ hn=>by rw[hc i hi k hn];simp];exact⟨c i,wU _ _⟩
   .intro h;refine⟨λi=>y i/fW A i i,λk=>?_⟩;by_cases hk:k<r
    .rw[O0 hk λj _ hn=>by rw[hc k hk j hn];simp];exact(Int.ediv_mul_cancel (h k hk)).symm
    .rw[hy k ()];exact(A5 λj _=>by rw[C6 (by rw[m.sq.len];rfl')];simp).symm
 have wz:∀b k,r<=k->il n W b k=0:=λb k hk=>A5 λj _=>by rw[C6 (by rw[m.wl];exact hk)];simp
 have d1:∀b i,i<r->dt n (mw M i) b=il n W b i:=λb i hi=>by rw[(h1 i hi).1];rfl
 have d2:∀b j,j<K.length->dt n (mw M (r+j)) b=il n K b j:=λb j hj=>by rw[(h2 j hj).1];rfl
 refine⟨λx hx=>?_,λb hb=>?_,λζ=>?_⟩
 .obtain⟨i,hi,rfl⟩:=wI hx;have e:M[i].1=mw M i:=by simp[mw,am,wa hi]
  rw[e];by_cases q:i<r
  .rw[(h1 i q).1];exact m.wr _ (D6 (by rw[m.wl];exact q))
  .rw[show i=r+(i-r) by rfl',(h2 (i-r) ()).1];exact kr _ (D6 ())
 .rw[m.ker b hb,sp _ (wz b),hl];constructor
  .rintro⟨a1,a2⟩ i hi;by_cases q:i<r
   .rw[(h1 i q).2,d1 b i q];exact a2 i q
   .rw[show i=r+(i-r) by rfl',(h2 (i-r) ()).2,d2 b _ (),a1 _ ()];exact w0f 0
  .intro h;refine⟨λj hj=>?_,λi hi=>?_⟩
   .have:=h (r+j) ();rw[(h2 j hj).2,d2 b j hj]at this;exact w0g.mp this
   .have:=h i ();rw[(h1 i hi).2,d1 b i hi]at this;exact this
 .obtain⟨b,b1,b2,b3⟩:=m.onto ζ (λj=>ζ (r+j));rw[sp _ λk hk=>by rw[wz b k hk,ao ()];rfl]at b3;refine⟨b,b1,λi hi=>?_⟩;by_cases q:i<r
  .have:=b3 i q;rw[ak q]at this;rw[(h1 i q).2,d1 b i q];exact this
  .have:=b2 (i-r) ();rw[show i=r+(i-r) by rfl',(h2 (i-r) ()).2,d2 b _ (),this];simp
end St
end
section
namespace St
open Lat
theorem U1:∀{n:Nat}{f:Nat->Nat}{t:aH},L0 ((ah n).map f) t↔t.length=n/\∀i,i<n->0<=at0 t i/\at0 t i<f i:=by
 have key:∀(ns:List Nat) (t:List Int),L0 ns t↔t.length=ns.length∧∀ i,i<ns.length→0≤at0 t i∧at0 t i<(ns.getD i 0:Int):=by
  intro ns
  induction ns with
  |nil=>
   intro t;cases t with
   |nil=>simp[L0]
   |cons x t=>simp[L0]
  | cons a ns ih =>
   intro t;cases t with
   |nil=>simp[L0]
   |cons x t=>
    rw[L0,ih];constructor
    .rintro⟨h0,h1,h2,h3⟩;refine⟨by simp[h2],λi hi=>?_⟩;cases i with
     |zero=>exact⟨h0,h1⟩
     |succ i=>exact h3 i (by simpa using hi)
    .rintro⟨h2,h3⟩;have a:=h3 0 (by simp);exact⟨a.1,a.2,by simpa using h2,λi hi=>h3 (i+1) (by simpa using hi)⟩
 intro n f t;rw[key];simp only[wn,vJ];refine and_congr_right λ_=>forall_congr' λi=>forall_congr' λhi=>?_;rw[show((ah n).map f).getD i 0=f i by simp[am,hi]]
def jd(n:Nat)(f:Nat->Int):gn:=(ah n).map f
theorem EH(n:Nat)(f:Nat->Int):(jd n f).length=n:=by simp[jd]
theorem Ha{n:Nat}{f:Nat->Int}{k:Nat}(h:k<n):at0 (jd n f) k=f k:=by simp[at0,jd,am,h]
theorem Lu{n:Nat}{f:Nat->Int}(hf:∀k,n<=k->f k=0)(k:Nat):at0 (jd n f) k=f k:=by
 by_cases h:k<n
 .exact Ha h
 .rw[hf k ()];exact u7 (by rw[EH];rfl')
theorem TY{n:Nat}(x:gn)(u v:Vec):dt n x (λk=>u k-v k)=dt n x u-dt n x v:=by
 unfold dt;rw[<-Bp];exact n8 λk _=>by rw[vO]
theorem TZ{a b p:Int}(h:a % p=b % p):p∣a-b:=Int.dvd_of_emod_eq_zero (by rw[Int.sub_emod,h];simp)
variable {n:Nat}{G:aA}{M:gc}
end St
end
section
namespace St
open Lat
theorem RJ(l:fu)(x:Nat):prod (l++[x])=prod l*x:=by
 induction l with
 |nil=>simp[prod]
 |cons a l ih=>rw[w0k,prod,prod,ih,vY]
theorem YW{A:aA}:∀{r:Nat},(∀i,i<r->0<fW A i i)->pr A r=(prod ((ah r).map λi=>(fW A i i).toNat):Int)
 |0,_=>rfl
 |r+1,h=>by
  have:=h r ();rw[pr,YW λi hi=>h i (),uO,vn,wx,w1n,RJ,Int.natCast_mul];congr 1;rfl'
theorem RK{f:Nat->Nat}{e:Nat}:∀{r:Nat},(∀i,i<r->f i<=2^e)->prod ((ah r).map f)<=2^(e*r)
 |0,_=>by simp[prod]
 |r+1,h=>by
  rw[uO,vn,wx,w1n,RJ,Nat.mul_succ,vB];exact ue (RK λi hi=>h i ()) (h r ())
variable {r:Nat}{A D:aA}
theorem z0p(dl:D.length=r)(low:∀i j,i<j->fW D i j=0)(pos:∀i,i<r->0<fW D i i):∀k,k<=r->∀t:Vec,(∀j,k<=j->t j=0) ->
  ∃x:Vec,(∀j,j<k->0<=x j/\x j<fW D j j)/\(∀j,k<=j->x j=0)/\Span (fP D) (λj=>t j-x j):=by
 intro k
 induction k with
 |zero=>intro _ t ht;exact⟨λ_=>0,λj hj=>(),λ_ _=>rfl,Span.congr (λj=>by rw[ht j ()];rfl) Span.zero⟩
 |succ k ih=>
  intro hk t ht;have p:=pos k ();obtain⟨f0,f1⟩:=Iy (t k) p;have sd:Span (fP D) (λj=>fW D k j):=S7 ();obtain⟨x,x1,x2,x3⟩:=ih () (λj=>if j<k then t j-(t k).fdiv (fW D k k)*fW D k j else 0) λj hj=>ao ();refine⟨λj=>if j=k then t k-(t k).fdiv (fW D k k)*fW D k k else x j,λj hj=>?_,λj hj=>?_,?_⟩
  .dsimp only;by_cases e:j=k
   .subst e;rw[ak rfl];exact⟨f0,f1⟩
   .rw[ao e];exact x1 j ()
  .dsimp only;rw[ao ()];exact x2 j ()
  .refine Span.congr (λj=>?_) (x3.add (sd.smul ((t k).fdiv (fW D k k))));dsimp only;by_cases e:j=k
   .subst e;rw[ao (),ak rfl,x2 j ()];rfl'
   .rw[ao e];by_cases h:j<k
    .rw[ak h];rfl'
    .rw[ao h,low k j (),ht j ()];simp
theorem Sq.prod_bound(q:Sq r A)(dl:D.length=r)(low:∀i j,i<j->fW D i j=0)(pos:∀i,i<r->0<fW D i i)(sp:∀x∈D,Span (fP A) (λk=>at0 x k)):
   Lat.prod ((ah r).map λi=>(fW A i i).toNat)<=Lat.prod ((ah r).map λi=>(fW D i i).toNat):=by
 have sub:∀v,Span (fP D) v->Span (fP A) v:=λv hv=>Span.trans (λu hu=>by obtain⟨x,hx,rfl⟩:=wj.mp hu;exact sp x hx) hv;have ch:∀t:gn,t.length=r->∃x:Vec,(∀j,j<r->0<=x j/\x j<fW D j j)/\(∀j,r<=j->x j=0)/\Span (fP D) (λj=>at0 t j-x j):=λt ht=>z0p dl low pos r (wt _) _ λj hj=>u7 ();have ch':∀t:gn,∃x:Vec,t.length=r->(∀j,j<r->0<=x j/\x j<fW D j j)/\(∀j,r<=j->x j=0)/\Span (fP D) (λj=>at0 t j-x j):=λt=>by
   by_cases h:t.length=r
   .obtain⟨x,hx⟩:=ch t h;exact⟨x,λ_=>hx⟩
   .exact⟨λ_=>0,λh'=>aM h' h⟩
 refine PB (λt=>jd r (vd (ch' t))) (λs t hs ht e=>?_) λs hs=>?_
 .obtain⟨sl,sb⟩:=U1.mp hs;obtain⟨tl,tb⟩:=U1.mp ht;obtain⟨s1,s2,s3⟩:=wE (ch' s) sl;obtain⟨t1,t2,t3⟩:=wE (ch' t) tl;generalize vd (ch' s)=b at e s1 s2 s3;generalize vd (ch' t)=c at e t1 t2 t3;have e:jd r b=jd r c:=e;have bc:∀k,b k=c k:=λk=>by
    have:=bv (λx=>at0 x k) e;simp only[Lu s2,Lu t2]at this;exact this
  have d:Span (fP A) (λk=>at0 s k-at0 t k):=sub _ (Span.congr (λk=>by have:=bc k;rfl') (s3.sub t3));refine ext0 () λk=>?_;have z:=Asc.small q.asc d (λx hx=>by
    obtain⟨j,hj,rfl⟩:=wI hx;have ej:A[j]=A.getD j []:=by simp[am,wa hj]
    rw[q.len]at hj;unfold hd;rw[ej,q.head hj];have a:=sb j hj;have b:=tb j hj;have p:=q.pos hj;show -(fW A j j)<at0 s j-at0 t j/\at0 s j-at0 t j<fW A j j;rfl') k
  rfl'
 .obtain⟨sl,sb⟩:=U1.mp hs;obtain⟨s1,s2,s3⟩:=wE (ch' s) sl;refine U1.mpr ⟨EH _ _,λi hi=>?_⟩;rw[Ha hi];have:=s1 i hi;have p:=pos i hi;rfl'
theorem RL{n e:Nat}{G T:aA}(Ag:Asc n 0 G)(gl:G.length=r)(q:Sq r T)(s:∀x∈gx n G,Span (fP T) (λk=>at0 x k))(hb:∀x∈G,hd x<2^e):pr T r<=2^(e*r):=by
 let D:aA:=(ah r).map λi=>(gx n G).getD (b8 (G.getD i [])) [];have gr:∀x∈G,x.length=n:=λx hx=>(Ag.mem hx).1;have dl:D.length=r:=by simp[D]
 have de:∀i j,i<r->fW D i j=fW G j (b8 (G.getD i [])):=λi j hi=>by
  have:D.getD i []=(gx n G).getD (b8 (G.getD i [])) []:=by simp[D,am,hi]
  rw[<-K5 gr];unfold fW;rw[this]
 have low:∀i j,i<j->fW D i j=0:=λi j h=>by
  by_cases hi:i<r
  .rw[de i j hi];by_cases hj:j<r
   .exact u5 _ _ (TU Ag h (by rw[gl];exact hj))
   .exact C6 (by rw[gl];rfl') _
  .exact C6 (by rw[dl];rfl') _
 have pos:∀i,i<r->0<fW D i i:=λi hi=>by
  rw[de i i hi];exact(GW Ag (k:=i) (by rw[gl];exact hi)).2.2.2
 have b:=q.prod_bound dl low pos λx hx=>by
  obtain⟨j,hj,rfl⟩:=wj.mp hx;have hj:=wJ.mp hj;exact s _ (D6 (by rw[D7];exact(GW Ag (k:=j) (by rw[gl];exact hj)).2.2.1))
 have b2:=RK (f:=λi=>(fW D i i).toNat) (e:=e) (r:=r) λi hi=>by
  have h:fW D i i<2^e:=by rw[de i i hi];exact hb _ (D6 (by rw[gl];exact hi))
  have p2:(0:Int)<2^e:=Int.pow_pos (by decide);have:((2^e:Nat):Int)=(2:Int)^e:=by norm_cast
  rfl'
 rw[YW λi hi=>q.pos hi];have:((2^(e*r):Nat):Int)=(2:Int)^(e*r):=by norm_cast
 rfl'
theorem Sq.entry(q:Sq r A){w:Int}(h:S8 r w A)(hw:0<w)(i j:Nat):0<=fW A i j/\fW A i j<=w:=by
 by_cases hj:j<r
 .have d:=uj hw (q.whole h hj);rcases w0I i j with x|x|x
  .have:=q.red x hj;rfl'
  .subst x;have:=q.pos hj;rfl'
  .rw[q.low x];rfl'
 .rw[q.far ()];rfl'
end St
end
section
local macro_rules|`(tactic|rfl')=>`(tactic|first|lia|omega +splitDisjunctions)
namespace St
open Lat
variable {n:Nat}{G:aA}{M K0:gc}
theorem X1{i:Nat}(h:i<M.length):mp (M++K0) i=mp M i/\mw (M++K0) i=mw M i:=by
 unfold mp mw;simp[am,wV h]
theorem Lv{p q i:Nat}{x y:gn×Int}(hpq:p≠q)(hp:p<M.length)(hq:q<M.length):((M.set p x).set q y).getD i ([],0)=if i=q then y else if i=p then x else M.getD i ([],0):=by
 by_cases h1:i=q
 .subst h1;simp[am,hq]
 .rw[ao h1];by_cases h2:i=p
  .subst h2;simp[am,vK,hp,bR h1,ao (bR h1)]
  .rw[ao h2];simp[am,vK,bR h1,bR h2]
theorem AV{i:Nat}:(M++K0).getD i ([],0)=if i<M.length then M.getD i ([],0) else K0.getD (i-M.length) ([],0):=by
 by_cases h:i<M.length
 .rw[ak h];simp[am,wV h]
 .rw[ao h];simp[am,vj (ug h)]
structure Bz(g f1 f2 a b a' b':Int):Prop where
 gp:0<g
 ea:a=g*a'
 eb:b=g*b'
 one:f1*a'+f2*b'=1
theorem Bz.of{g f1 f2 a b:Int}(gp:0<g)(ga:g∣a)(gb:g∣b)(h:f1*a+f2*b=g):Bz g f1 f2 a b (a/g) (b/g):=by
 obtain⟨a',rfl⟩:=ga;obtain⟨b',rfl⟩:=gb;rw[w01 _ (),w01 _ ()];refine⟨gp,rfl,rfl,?_⟩;have:g*(f1*a'+f2*b')=g*1:=by grind
 exact w0B () this
theorem z5b{p q:Nat}{g f1 f2 a' b' lc:Int}{u l:gn}{qu ql:Nat->Int}(m:Ms n G (M++K0))(hlc:lc=a'*mp M q)(hpq:p≠q)(hp:p<M.length)(hq:q<M.length)(z:Bz g f1 f2 (mp M p) (mp M q) a' b')(hu:u.length=n)(hl:l.length=n)
   (eu:∀k,at0 u k=(at0 (mw M p) k+at0 (mw M q) k)-g*qu k) (el:∀k,at0 l k=((-(f2*b'))*at0 (mw M p) k+(f1*a')*at0 (mw M q) k)-lc*ql k) :
   Ms n G ((M.set p (u,g)).set q (l,lc)++K0):=by
 have len:((M.set p (u,g)).set q (l,lc)).length=M.length:=by simp
 have get:∀i,((M.set p (u,g)).set q (l,lc)++K0).getD i ([],0)=if i=q then(l,lc) else if i=p then(u,g) else(M++K0).getD i ([],0):=λi=>by
   rw[AV,len,Lv hpq hp hq];by_cases h1:i=q
   .subst h1;rw[ak hq,ak rfl,ak rfl]
   .by_cases h2:i=p
    .subst h2;rw[ak hp,ao h1,ao h1,ak rfl,ak rfl]
    .rw[ao h1,ao h2,ao h1,ao h2,AV]
 obtain⟨x1,x2⟩:=X1 (K0:=K0) hp;obtain⟨y1,y2⟩:=X1 (K0:=K0) hq;have dl:∀(x y:gn)(c d:Int)(w:gn)(s:Int)(t:Nat->Int)(v:Vec),(∀k,at0 w k=(c*at0 x k+d*at0 y k)-s*t k)->s∣dt n w v-(c*dt n x v+d*dt n y v):=λx y c d w s t v h=>by
   refine⟨- sm n (λk=>t k*v k),?_⟩;unfold dt;rw[<-L6,<-L6,<-Ge,<-Bp,n8 (g:=λk=>(-s)*(t k*v k)) λk _=>by rw[h k];grind,L6];grind
 have hg:=z.gp;refine m.link (p:=p) (q:=q) (g:=g) (f1:=f1) (f2:=f2) (a:=a') (b:=b') (by rw[wF];rfl') (by rw[wF];rfl') hpq (by rw[x1];exact z.ea) (by rw[y1];exact z.eb) () z.one ?_ ?_ ?_ ?_ ?_ ?_ ?_
 .intro x hx;rcases ww.mp hx with hx|hx
  .rcases uE hx with hx|rfl
   .rcases uE hx with hx|rfl
    .exact m.rows x (ww.mpr (.inl hx))
    .exact hu
   .exact hl
  .exact m.rows x (ww.mpr (.inr hx))
 .rw[wF,wF,len]
 .intro i h1 h2;unfold mp mw;rw[get,ao h2,ao h1];exact⟨rfl,rfl⟩
 .unfold mp;rw[get,ao hpq,ak rfl]
 .have e:=z.eb;unfold mp;rw[get,ak rfl];show lc=_;rw[hlc,e]
 .intro v;rw[x2,y2];have h:=dl (mw M p) (mw M q) 1 1 u g qu v λk=>by rw[eu k];rfl'
  rw[show mw ((M.set p (u,g)).set q (l,lc)++K0) p=u by unfold mw;rw[get,ao hpq,ak rfl]];simpa using h
 .intro v;have e:=z.eb;rw[x2,y2,<-e,<-hlc];have h:=dl (mw M p) (mw M q) (-(f2*b')) (f1*a') l lc ql v el;rw[show mw ((M.set p (u,g)).set q (l,lc)++K0) q=l by unfold mw;rw[get,ak rfl]];exact h
structure Chn(w:Int)(t s:Nat)(M:gc):Prop where
 pos:∀i,i<M.length->0<mp M i
 whole:∀i,i<M.length->mp M i∣w
 all:∀i j,i<t->i<j->j<M.length->mp M i∣mp M j
 here:∀j,t<j->j<s->j<M.length->mp M t∣mp M j
theorem Chn.link{w g f1 f2 a' b' lc:Int}{t s:Nat}{u l:gn}(c:Chn w t s M)(hts:t<s)(hs:s<M.length)(z:Bz g f1 f2 (mp M t) (mp M s) a' b')(hlc:lc=a'*mp M s):Chn w t (s+1) ((M.set t (u,g)).set s (l,lc)):=by
 have len:((M.set t (u,g)).set s (l,lc)).length=M.length:=by simp
 have get:∀i,mp ((M.set t (u,g)).set s (l,lc)) i=if i=s then lc else if i=t then g else mp M i:=λi=>by
   unfold mp;rw[Lv () () hs];split
   .rfl
   .split<;>rfl
 have hg:=z.gp;have pt:=c.pos t ();have ps:=c.pos s hs;have ap:0<a':=by
   have e:=z.ea;rcases w0d a' 0 with h|h|h
   .have:=Int.mul_neg_of_pos_of_neg hg h;rfl'
   .rw[h]at e;rfl'
   .exact h
 refine⟨λi hi=>?_,λi hi=>?_,λi j h1 h2 h3=>?_,λj h1 h2 h3=>?_⟩
 .rw[len]at hi;rw[get];split
  .rw[hlc];exact w1K ap ps
  .split
   .exact hg
   .exact c.pos i hi
 .rw[len]at hi;rw[get];split
  .have e:=z.eb;rw[hlc,e];exact z59 () z.one (by rw[<-z.ea];exact c.whole t ()) (by rw[<-e];exact c.whole s hs)
  .split
   .exact uz ⟨a',z.ea⟩ (c.whole t ())
   .exact c.whole i hi
 .rw[len]at h3;rw[get i,ao (),ao (),get j];split
  .rw[hlc];exact uz (c.all i s h1 () hs) ⟨a',wU _ _⟩
  .split
   .have d1:=c.all i t h1 () ();have d2:=c.all i s h1 () hs;have e:g=f1*mp M t+f2*mp M s:=by
     rw[z.ea,z.eb];have:=z.one
     grind
    rw[e];exact ur (uz d1 ⟨f1,wU _ _⟩) (uz d2 ⟨f2,wU _ _⟩)
   .exact c.all i j h1 h2 h3
 .rw[len]at h3;rw[get t,ao (),ak rfl,get j];split
  .rw[hlc,z.eb];exact⟨a'*b',by grind⟩
  .rw[ao ()];exact uz ⟨a',z.ea⟩ (c.here j h1 () h3)
theorem Chn.next{w:Int}{t s:Nat}(c:Chn w t s M)(h:M.length<=s):Chn w (t+1) (t+2) M:=
 ⟨c.pos,c.whole,fun i j h1 h2 h3=>by
  by_cases e:i<t
  .exact c.all i j e h2 h3
  .have:i=t:=()
   subst this;exact c.here j h2 () h3,λj h1 h2=>()⟩
theorem Chn.first{w:Int}(hp:∀i,i<M.length->0<mp M i)(hw:∀i,i<M.length->mp M i∣w):Chn w 0 1 M:=⟨hp,hw,λi j h=>(),λj h1 h2=>()⟩
end St
end
section
namespace St
open Lat
theorem Sq.whole_col{r:Nat}{A:aA}{w:Int}(q:Sq r A)(h:S8 r w (gx r A)){i:Nat}(hi:i<r):fW A i i∣w:=by
 obtain⟨c,hc⟩:=F9.mp (h i hi);rw[D7]at hc;have B:=q.below h;have z:=GZ (m:=r) (a:=i+1) (c:=c) (D:=λl j=>fW (gx r A) l j) B.pos B.low λj h1 h2=>by rw[<-hc j];simp only[pt];rw[ao ()]
 have e:=hc i;rw[O0 hi λk hk hn=>?_]at e
 .rw[K5 q.rows]at e;simp only[pt,if_true]at e;exact⟨c i,by rw[e];exact wU _ _⟩
 .rcases uM hn with x|x
  .rw[B.low k i x hi];simp
  .rw[z (r-k) k () () hk];simp
theorem Sq.entryC{r:Nat}{A:aA}(q:Sq r A){w:Int}(h:S8 r w (gx r A))(hw:0<w)(i j:Nat):0<=fW A i j/\fW A i j<=w:=by
 by_cases hj:j<r
 .have d:=uj hw (q.whole_col h hj);rcases w0I i j with x|x|x
  .have:=q.red x hj;rfl'
  .subst x;have:=q.pos hj;rfl'
  .rw[q.low x];rfl'
 .rw[q.far ()];rfl'
theorem Good.sq{r N B:Nat}{w:Int}{P S:aA}(G:Good N B P S)(b:Below r N w P):S.length=r/\∀x∈S,b8 x<r:=by
 refine⟨by rw[G.full b.ind,b.len],λx hx=>(b.full G.asc G.span x hx).1⟩
end St
end
section
local macro_rules|`(tactic|rfl')=>`(tactic|first|lia|omega +splitDisjunctions)
set_option maxHeartbeats 1000000
namespace St
open Lat
theorem z25{n:Nat}{v:Vec}(h:∀k,n<=k->v k=0):Span (fP (units n)) v:=by
 have key:∀ m,m≤n→Span (fP (units n)) (fun k=>if k<m then v k else 0):=by
   intro m
   induction m with
   |zero=>intro _;exact Span.congr (λk=>by simp) Span.zero
   |succ m ih=>
    intro hm;have hu:k8 n m∈units n:=wj.mpr ⟨m,wJ.mpr (),rfl⟩;refine Span.congr (λk=>?_) ((ih ()).add ((Aq hu).smul (v m)));show(if k<m then v k else 0)+v m*at0 (k8 n m) k=if k<m+1 then v k else 0
    rw[v7];by_cases h1:k<m
    .rw[ak h1,ao (show ¬(k=m/\k<n) by rfl'),ak (show k<m+1 by rfl')];rfl'
    .by_cases h2:k=m
     .subst h2;rw[ao h1,ak (show k=k/\k<n from⟨rfl,()⟩),ak (show k<k+1 by rfl')];rfl'
     .rw[ao h1,ao (show ¬(k=m/\k<n) by rfl'),ao (show ¬k<m+1 by rfl')];rfl'
 refine Span.congr (λk=>?_) (key n (wt n));by_cases hk:k<n
 .simp only[ak hk]
 .simp only[ao hk];exact(h k ()).symm
theorem z0q(n:Nat):Asc n 0 (units n):=by
 have key:∀m f,f+m=n->Asc n f ((w1L f m).map (k8 n)):=by
  intro m
  induction m with
  |zero=>intro f _;exact trivial
  |succ m ih=>
   intro f hf;rw[w0Q,wx];have hh:b8 (k8 n f)=f:=L3 _ _ (λk hk=>by rw[v7,ao ()]) (by rw[v7,ak ⟨rfl,()⟩];decide);refine⟨E1 n f,by rw[hh];exact wt f,by rw[hh];rfl',?_,?_⟩
   .unfold hd;rw[hh,v7,ak ⟨rfl,()⟩];decide
   .rw[hh];exact ih (f+1) ()
 have:=key n 0 ();unfold units;rw[uS];exact this
theorem Ua(n:Nat):Form 0 (u6 (units n)):=by
 have key:∀m f,f+m=n->Form f (u6 ((w1L f m).map (k8 n))):=by
  intro m
  induction m with
  |zero=>intro f _;exact trivial
  |succ m ih=>
   intro f hf;rw[w0Q,wx];have hh:∀j,j<n->b8 (k8 n j)=j:=λj hj=>L3 _ _ (λk hk=>by rw[v7,ao ()]) (by rw[v7,ak ⟨rfl,()⟩];decide);have h0:=hh f ();show Form f ((b8 (k8 n f),gZ (k8 n f))::u6 _);rw[h0];refine⟨wt f,λk hk=>by show at0 (k8 n f) k=0;rw[v7,ao ()],by show 0<at0 (k8 n f) f;rw[v7,ak ⟨rfl,()⟩];decide,λp hp=>?_,ih (f+1) ()⟩;obtain⟨r,hr,rfl⟩:=wj.mp hp;obtain⟨j,hj,rfl⟩:=wj.mp hr;have hj:=List.mem_range'_1.mp hj;show 0<=at0 (k8 n f) (b8 (k8 n j))/\at0 (k8 n f) (b8 (k8 n j))<at0 (k8 n j) (b8 (k8 n j));rw[hh j (),v7,v7,ao (),ak ⟨rfl,()⟩];decide
 have:=key n 0 ();unfold units;rw[uS];exact this
theorem z0r{n:Nat}{P wr U:aA}(lP:P.length=n)(hP:∀r∈P,r.length=n)(hw:∀r∈wr,r.length=n)(A:Asc (n+n) 0 U)(F:Form 0 (u6 U))(ss:SameSpan (fP U) (fP (BO P wr)))(onto:∀v:Vec,(∀k,n<=k->v k=0)->Span (fP (P++wr)) v):
   ((U.filter λr=>decide (b8 r<n)).map (·.drop n)).length=n/\∀j,j<n->(((U.filter λr=>decide (b8 r<n)).map (·.drop n)).getD j []).length=n/\Span (fP wr) (λk=>at0 (k8 n j) k-mix P (((U.filter λr=>decide (b8 r<n)).map (·.drop n)).getD j []) k):=by
 have vf:fP (BO P wr)=fP (N9 P++wr):=by
   unfold BO;show ce gZ _=ce gZ _;rw[vn,vn];congr 1;exact NV _ _
 obtain⟨tA,tl⟩:=GY (n:=n) A ();have tF:=IC (n:=n) A F ();have te:gu n U=units n:=by
   refine NT tA tF (z0q n) (Ua n) ⟨λv hv=>?_,λv hv=>?_⟩
   .obtain⟨r,hr,rfl⟩:=wj.mp hv;exact z25 λk hk=>u7 (by rw[(tA.mem hr).1];exact hk)
   .obtain⟨r,hr,rfl⟩:=wj.mp hv;obtain⟨j,hj,rfl⟩:=wj.mp hr;have hj:=wJ.mp hj;have uo:∀k,n<=k->at0 (k8 n j) k=0:=λk hk=>u7 (by rw[E1];exact hk);obtain⟨x,y,sx,sy,e⟩:=(Z0 _).mp (onto (gZ (k8 n j)) uo);obtain⟨c,hc,ec⟩:=W1 sx;have u0:∀k,at0 ((ah n).map x++c) k=if k<n then x k else at0 c (k-n):=λk=>by
      rw[CI (a:=(ah n).map x) (n:=n) (by simp)];by_cases h:k<n
      .rw[ak h,ak h];unfold at0;simp[am,h]
      .rw[ao h,ao h]
    have dr:((ah n).map x++c).drop n=c:=by
      have:((ah n).map x).length=n:=by simp
      rw[uX,this,w0Y,w0c,vV ()];rfl
    have s1:Span (fP (N9 P)) (λk=>at0 ((ah n).map x++c) k):=(DJ hP (by rw[wF,wn,vJ,hc])).mpr λk hk=>by
      rw[u0,ak hk,dr,ec k]
    have s2:Span (fP (N9 P++wr)) (λk=>at0 ((ah n).map x++c) k+y k):=(Z0 _).mpr ⟨_,y,s1,sy,λ_=>rfl⟩;rw[<-vf]at s2;refine Span.congr (λk=>?_) (ID (n:=n) A (ss.iff.mpr s2));show(if k<n then at0 ((ah n).map x++c) k+y k else 0)=gZ (k8 n j) k;by_cases h:k<n
    .rw[ak h,u0,ak h];exact(e k).symm
    .rw[ao h];exact(uo k ()).symm
 have fl:(U.filter λr=>decide (b8 r<n)).length=n:=by rw[<-tl,te,E2]
 refine⟨by rw[wn,fl],λj hj=>?_⟩;have hj':j<(U.filter λr=>decide (b8 r<n)).length:=()
 have hm:=vx hj';have hU:=(wQ.mp hm).1;have et:((U.filter λr=>decide (b8 r<n))[j]).take n=k8 n j:=by
   have q:(gu n U)[j]?=(units n)[j]?:=by rw[te]
   unfold gu units at q;rw[wv,wv,wa hj',vC hj]at q;exact aO q
 have ed:(((U.filter λr=>decide (b8 r<n)).map (·.drop n)).getD j [])=((U.filter λr=>decide (b8 r<n))[j]).drop n:=by
   rw[am,wv,wa hj'];rfl
 rw[ed];generalize (U.filter λr=>decide (b8 r<n))[j]=r at *;have lr:=(A.mem hU).1;have ld:(r.drop n).length=n:=by rw[wR];rfl'
 refine⟨ld,?_⟩;have s1:=ss.iff.mp (Aq hU);rw[vf]at s1;obtain⟨x,y,sx,sy,e⟩:=(Z0 _).mp s1;have yo:=RC hw sy;have er:∀k,at0 r k=if k<n then at0 (k8 n j) k else at0 (r.drop n) (k-n):=λk=>by
   by_cases h:k<n
   .rw[ak h,<-et,J2,ak h]
   .rw[ao h,B8,show n+(k-n)=k by rfl']
 have u0:∀k,at0 ((ah n).map x++r.drop n) k=x k:=λk=>by
   rw[CI (a:=(ah n).map x) (n:=n) (by simp)];by_cases h:k<n
   .rw[ak h];unfold at0;simp[am,h]
   .rw[ao h];have e:=e k;have e:at0 r k=x k+y k:=e;rw[er,ao h,yo k ()]at e;rfl'
 have dr:((ah n).map x++r.drop n).drop n=r.drop n:=by
   have:((ah n).map x).length=n:=by simp
   rw[uX,this,w0Y,w0c,vV ()];rfl
 have q:=(DJ hP (by rw[wF,wn,vJ,ld,lP])).mp (Span.congr (λk=>(u0 k).symm) sx);rw[dr]at q;refine Span.congr (λk=>?_) sy;by_cases h:k<n
 .have e:=e k;have e:at0 r k=x k+y k:=e;rw[er,ak h,<-u0 k,q k h]at e;rfl'
 .rw[yo k (),CG hP k (),u7 (r:=k8 n j) (by rw[E1];rfl')];rfl
end St
namespace St
open Lat
theorem V4(R:aA)(c:aH)(k:Nat)(h:c.length=R.length):mix R c k=sm R.length (λi=>at0 c i*at0 (R.getD i []) k):=TX k h
theorem PJ{p:Int}:∀{m:Nat}{f:Nat->Int},(∀i,i<m->p∣f i)->p∣sm m f
 |0,f,_=>w0h _
 |m+1,f,h=>by
  rw[sm];exact ur (h 0 ()) (PJ λi hi=>h (i+1) ())
def Q4(n:Nat)(M:gc):aA:=(ah n).map λj=>(k8 n j).map (mp M j*·)
theorem Lw(n:Nat)(c:Int)(j k:Nat):at0 ((k8 n j).map (c*·)) k=c*at0 (k8 n j) k:=by
 unfold at0;rw[am,am,wv];cases (k8 n j)[k]? with
 |none=>exact(uw _).symm
 |some x=>rfl
theorem Hb(n:Nat)(M:gc):∀r∈Q4 n M,r.length=n:=λr hr=>by
 obtain⟨j,_,rfl⟩:=wj.mp hr;rw[wn,E1]
theorem RM{n:Nat}{M:gc}{y:Vec}(s:Span (fP (Q4 n M)) y):∀k,k<n->mp M k∣y k:=by
 refine Span.least (P:=λy=>∀k,k<n->mp M k∣y k) (λk _=>w0h _) (λv w a b k hk=>ur (a k hk) (b k hk)) (λc v a k hk=>uz (a k hk) (w0R _ _)) (λg hg=>?_) s;obtain⟨r,hr,rfl⟩:=wj.mp hg;obtain⟨j,hj,rfl⟩:=wj.mp hr;intro k hk;show mp M k∣at0 ((k8 n j).map (mp M j*·)) k;rw[Lw,v7];by_cases h:k=j
 .subst h;exact Int.dvd_mul_right _ _
 .rw[ao (),uw];exact w0h _
theorem YX{n:Nat}{M:gc}{y:Vec}(d:∀k,k<n->mp M k∣y k)(h:∀k,n<=k->y k=0):Span (fP (Q4 n M)) y:=by
 have key:∀ m,m≤n→Span (fP (Q4 n M)) (fun k=>if k<m then y k else 0):=by
   intro m
   induction m with
   |zero=>intro _;exact Span.congr (λk=>by simp) Span.zero
   |succ m ih=>
    intro hm;obtain⟨q,hq⟩:=d m ();have hu:(k8 n m).map (mp M m*·)∈Q4 n M:=wj.mpr ⟨m,wJ.mpr (),rfl⟩;refine Span.congr (λk=>?_) ((ih ()).add ((Aq hu).smul q));show(if k<m then y k else 0)+q*at0 ((k8 n m).map (mp M m*·)) k=if k<m+1 then y k else 0
    rw[Lw,v7];by_cases h1:k<m
    .rw[ak h1,ao (show ¬(k=m/\k<n) by rfl'),ak (show k<m+1 by rfl')];simp
    .by_cases h2:k=m
     .subst h2;rw[ao h1,ak (show k=k/\k<n from⟨rfl,()⟩),ak (show k<k+1 by rfl'),hq,w0C,wU];rfl'
     .rw[ao h1,ao (show ¬(k=m/\k<n) by rfl'),ao (show ¬k<m+1 by rfl')];simp
 refine Span.congr (λk=>?_) (key n (wt n));by_cases hk:k<n
 .simp only[ak hk]
 .simp only[ao hk];exact(h k ()).symm
structure Plc(n:Nat)(M:gc)(P:aA):Prop where
 len:P.length=n
 rows:∀r∈P,r.length=n
 near:∀i k,i<n->k<n->mp M k∣at0 (P.getD i []) k-at0 (mw M k) i
theorem Plc.mix{n:Nat}{M:gc}{P:aA}(p:Plc n M P){t:aH}(ht:t.length=n){k:Nat}(hk:k<n):mp M k∣St.mix P t k-dt n (mw M k) (λi=>at0 t i):=by
 rw[V4 P t k (by rw[ht,p.len]),p.len];unfold dt;rw[<-Bp];refine PJ λi hi=>?_;have e:at0 t i*at0 (P.getD i []) k-at0 (mw M k) i*at0 t i=at0 t i*(at0 (P.getD i []) k-at0 (mw M k) i):=by rw[vO,wU (at0 (mw M k) i)]
 show mp M k∣at0 t i*at0 (P.getD i []) k-at0 (mw M k) i*at0 t i;rw[e];exact uz (p.near i k hi hk) (w0R _ _)
theorem Plc.onto{n:Nat}{G:aA}{M:gc}{P:aA}(p:Plc n M P)(ms:Ms n G M)(lM:M.length=n):∀v:Vec,(∀k,n<=k->v k=0)->Span (fP (P++Q4 n M)) v:=λv hv=>by
 obtain⟨b,hb,d⟩:=ms.onto v;have lc:((ah n).map b).length=n:=by simp
 have ac:∀i,at0 ((ah n).map b) i=b i:=λi=>by
   by_cases h:i<n
   .unfold at0;simp[am,h]
   .rw[u7 (),hb i ()]
 refine(Z0 _).mpr ⟨St.mix P ((ah n).map b),λk=>v k-St.mix P ((ah n).map b) k,IA _,YX (λk hk=>?_) (λk hk=>?_),λk=>by show v k=_+(v k-_);rfl'⟩
 .have a:=p.mix lc hk;have e:(λi=>at0 ((ah n).map b) i)=b:=funext ac;rw[e]at a;have c:=d k (by rw[lM];exact hk);have:=w1M.mpr (ur a c)
  rwa [show -(St.mix P ((ah n).map b) k-dt n (mw M k) b+(dt n (mw M k) b-v k))=v k-St.mix P ((ah n).map b) k by rfl']at this
 .show v k-St.mix P ((ah n).map b) k=0;rw[hv k hk,CG p.rows k hk];rfl
theorem Ub{n:Nat}{G:aA}{M:gc}{P U:aA}(p:Plc n M P)(ms:Ms n G M)(lM:M.length=n)(A:Asc (n+n) 0 U)(F:Form 0 (u6 U))(ss:SameSpan (fP U) (fP (BO P (Q4 n M)))){T:aA}(hT:T=(U.filter λr=>decide (b8 r<n)).map (·.drop n)):
   T.length=n/\(∀r∈T,r.length=n)/\∀c:aH,c.length=n->∀k,k<n->mp M k∣dt n (mw M k) (St.mix T c)-at0 c k:=by
 obtain⟨b1,b2⟩:=z0r p.len p.rows (Hb n M) A F ss (p.onto ms lM);rw[<-hT]at b1 b2;refine⟨b1,λr hr=>?_,λc hc k hk=>?_⟩
 .obtain⟨j,hj,rfl⟩:=wI hr;have:=(b2 j ()).1;rw[am,wa hj]at this;exact this
 .have one:∀j,j<n->mp M k∣at0 (k8 n j) k-dt n (mw M k) (λi=>at0 (T.getD j []) i):=λj hj=>by
   have a:=RM (b2 j hj).2 k hk;have b:=p.mix (b2 j hj).1 hk;have:=ur a b
   rwa [show at0 (k8 n j) k-St.mix P (T.getD j []) k+(St.mix P (T.getD j []) k-dt n (mw M k) (λi=>at0 (T.getD j []) i))=at0 (k8 n j) k-dt n (mw M k) (λi=>at0 (T.getD j []) i) by rfl']at this
  have e1:dt n (mw M k) (St.mix T c)=sm n (λj=>at0 c j*dt n (mw M k) (λi=>at0 (T.getD j []) i)):=by
   unfold dt;rw[n8 (g:=λi=>sm n (λj=>at0 c j*(at0 (mw M k) i*at0 (T.getD j []) i))) λi _=>by
    rw[V4 T c i (by rw[hc,b1]),b1,<-L6];exact n8 λj _=>vL _ _ _,ED]
   exact n8 λj _=>by rw[L6]
  have e2:at0 c k=sm n (λj=>at0 c j*at0 (k8 n j) k):=by
   rw[O0 (i:=k) hk λj hj hne=>by rw[v7,ao (),uw],v7,ak ⟨rfl,hk⟩,w0C]
  rw[e1,e2,<-Bp];refine PJ λj hj=>?_;show mp M k∣at0 c j*dt n (mw M k) (λi=>at0 (T.getD j []) i)-at0 c j*at0 (k8 n j) k;rw[<-vO];have:=w1M.mpr (one j hj);rw[Int.neg_sub]at this;exact uz this (w0R _ _)
end St
end
section
set_option maxHeartbeats 1000000
namespace St
open Lat
theorem z0s{n:Nat}{G:aA}{M:gc}{P U:aA}(p:Plc n M P)(ms:Ms n G M)(lM:M.length=n)(aG:Asc n 0 G)(fG:Form 0 (u6 G))(A:Asc (n+n) 0 U)(F:Form 0 (u6 U))(ss:SameSpan (fP U) (fP (BO P (Q4 n M)))):gH n U=G:=by
 have bA:Asc n 0 (gH n U):=Rx A rfl;have key:∀b:gn,b.length=n->(Span (fP (gH n U)) (λk=>at0 b k)↔Span (fP G) (λk=>at0 b k)):=λb hb=>by
   rw[z0m p.rows (Hb n M) (by rw[hb,p.len]) (by rw[p.len];exact A) ss,ms.ker _ (λk hk=>u7 ())];constructor
   .intro s i hi;have a:=RM s i ();have c:=p.mix hb (k:=i) ();have:=w0J a c
    rwa [show mix P b i-(mix P b i-dt n (mw M i) (λk=>at0 b k))=dt n (mw M i) (λk=>at0 b k) by rfl']at this
   .intro h;refine YX (λk hk=>?_) (λk hk=>CG p.rows k hk);have a:=h k ();have c:=p.mix hb hk;have:=ur c a
    rwa [show mix P b k-dt n (mw M k) (λi=>at0 b i)+dt n (mw M k) (λi=>at0 b i)=mix P b k by rfl']at this
 refine NT bA (z0i A F rfl) aG fG (CC (λr hr=>?_) λr hr=>?_)
 .exact(key r (bA.mem hr).1).mp (Aq hr)
 .exact(key r (aG.mem hr).1).mpr (Aq hr)
theorem Lx:∀{S:List (Nat×Vec)}{f:Nat}{i j:Nat}{p q:Nat×Vec},Form f S->i<j->S[i]?=aa p->S[j]?=aa q->0<=p.2 q.1/\p.2 q.1<q.2 q.1
 |x::S,f,0,j+1,p,q,h,_,e1,e2=>by
  simp at e1 e2;subst e1;exact h.2.2.2.1 q (vN e2)
 |x::S,f,i+1,j+1,p,q,h,hij,e1,e2=>by
  simp at e1 e2;exact Lx h.2.2.2.2 () e1 e2
 |[],_,_,_,_,_,_,_,e1,_=>by simp at e1
 |_::_,_,_,0,_,_,_,h,_,_=>()
theorem z0t{n:Nat}{U G:aA}(A:Asc (n+n) 0 U)(F:Form 0 (u6 U))(hb:gH n U=G){t:gn}(ht:t∈(U.filter λr=>decide (b8 r<n)).map (·.drop n)){g:gn}(hg:g∈G):0<=at0 t (b8 g)/\at0 t (b8 g)<hd g:=by
 obtain⟨r,hr,rfl⟩:=wj.mp ht;rw[<-hb]at hg;unfold gH at hg;obtain⟨q,hq,rfl⟩:=wj.mp hg;have sp:=CH (n:=n) A;obtain⟨i,hi,er⟩:=wI hr;obtain⟨j,hj,eq⟩:=wI hq;obtain⟨hqU,hqh⟩:=wQ.mp hq;have hqh:n<=b8 q:=by simpa using hqh
 have lq:=A.mem hqU;have hh:b8 (q.drop n)=b8 q-n:=BN hqh (by rw[lq.1];exact lq.2.2.1);clear hr hq ht hg;generalize (U.filter λr=>decide (b8 r<n))=F1 at *;generalize (U.filter λr=>!decide (b8 r<n))=F2 at *;have e1:(u6 U)[i]?=aa (b8 r,gZ r):=by
  unfold u6;rw[wv,sp,wV hi,wa hi,er];rfl
 have e2:(u6 U)[F1.length+j]?=aa (b8 q,gZ q):=by
  unfold u6;rw[wv,sp];rw[vj (),Nat.add_sub_cancel_left,wa hj,eq];rfl
 have:=Lx F () e1 e2;have a1:at0 (r.drop n) (b8 (q.drop n))=at0 r (b8 q):=by rw[B8,hh];congr 1;rfl'
 have a2:hd (q.drop n)=at0 q (b8 q):=by unfold hd;rw[B8,hh];congr 1;rfl'
 rw[a1,a2];exact this
end St
end
section
local macro_rules|`(tactic|rfl')=>`(tactic|first|lia|omega +splitDisjunctions)
namespace L2
theorem Hc{a b:aH}(h:a.length=b.length)(k:Nat):St.at0 (gy a b) k=St.at0 a k+St.at0 b k:=by
 have e:gy a b=St.lin 1 a 1 b:=by unfold gy St.lin;congr 1;funext x y;rfl'
 rw[e,St.Kl h];rfl'
theorem W4{a b:aH}(h:a.length=b.length)(k:Nat):St.at0 (gq a b) k=St.at0 a k-St.at0 b k:=by
 have e:gq a b=St.sub a 1 b:=by unfold gq St.sub;congr 1;funext x y;rfl'
 rw[e,St.N4 h];rfl'
theorem AW(q:Int)(a:aH)(k:Nat):St.at0 (gh q a) k=q*St.at0 a k:=by
 simp only[St.at0,gh,am,wv];cases a[k]?<;>simp
theorem RN(n:Nat):l9 n=St.YS n:=by unfold l9 St.YS;simp
theorem F3(n k:Nat):St.at0 (l9 n) k=0:=by rw[RN];exact St.z0h n k
theorem RO{n:Nat}:∀(rows:aA)(cs:aH)(t:aH),t.length=n->(∀r∈rows,r.length=n)->∀k,St.at0 ((rows.zip cs).foldl (λt p=>gy t (gh p.2 p.1)) t) k=St.at0 t k+St.mix rows cs k
 |[],cs,t,_,_,k=>by simp[St.mix]
 |r::rows,[],t,_,_,k=>by simp[St.mix]
 |r::rows,c::cs,t,ht,hw,k=>by
  have hr:=hw r wf;rw[uN,w13,RO rows cs _ (by rw[S6 (by rw[A0,ht,hr])];exact ht) (λx hx=>hw x (wc _ hx)),Hc (by rw[A0,ht,hr]),AW];show St.at0 t k+c*St.at0 r k+St.mix rows cs k=St.at0 t k+(c*St.at0 r k+St.mix rows cs k);rfl'
theorem Ar{n:Nat}{rows:aA}{cs:aH}(hw:∀r∈rows,r.length=n)(k:Nat):St.at0 (gB n rows cs) k=St.mix rows cs k:=by
 unfold gB;rw[RO rows cs (l9 n) C4 hw,F3];rfl'
theorem z5c(v:aH):gh 1 v=v:=by unfold gh;simp
theorem BP{r:aH}{x:Int}(h:x∈r):∃k,St.at0 r k=x:=by
 obtain⟨k,hk,e⟩:=w0o.mp h;exact⟨k,by simp[St.at0,am,wa hk,e]⟩
theorem Au{r:aH}{B:Nat}(h:St.Lt B r):∀x∈r,x.natAbs<B:=λx hx=>by
 obtain⟨k,rfl⟩:=BP hx;exact h k
theorem PL{n i:Nat}(h:i<n):iD n (i:Int)=aa i:=by
 unfold iD;rw[ak (),ak ()];simp
theorem U2{i j:Int}(h:0<j):X3 i j=af:=by unfold X3;rw[aL (show j≠0 by rfl')]
theorem EI{α γ:Type}{g:Tg}{F:FS}(e:α->Dt)(bad:α->Prop)(R:γ->gI)(f:Fl)(d:Dt):∀(xs:List α)(j:γ),(∀x∈xs,∀j,bad x->(g.put (e x) (R j)).bind F=aa (.rt f d))->(∀x∈xs,∀j,¬bad x->∃j',(g.put (e x) (R j)).bind F=aa (.nx (R j'))) ->
  ((∃x∈xs,bad x)->gk g F (xs.map e) (R j)=aa (.rt f d))/\((∀x∈xs,¬bad x)->∃j',gk g F (xs.map e) (R j)=aa (.nx (R j')))
 |[],j,_,_=>⟨λ⟨x,hx,_⟩=>(nomatch hx),λ_=>⟨j,rfl⟩⟩
 |x::xs,j,h1,h2=>by
  by_cases hb:bad x
  .have e1:=h1 x wf j hb;refine⟨λ_=>?_,λh=>aM hb (h x wf)⟩;rw[wx,F0,e1];rfl
  .obtain⟨j1,e1⟩:=h2 x wf j hb;obtain⟨i1,i2⟩:=EI e bad R f d xs j1 (λy hy=>h1 y (wc _ hy)) (λy hy=>h2 y (wc _ hy));rw[wx,F0,e1];refine⟨λ⟨y,hy,by_⟩=>?_,λh=>i2 λy hy=>h y (wc _ hy)⟩;rcases wB.mp hy with rfl|hy
   .exact aM by_ hb
   .exact i1 ⟨y,hy,by_⟩
theorem mv{P:aF->Prop}(h:P []):∀us:aF,us.length=0->P us:=λus hl=>(w0P.mp hl).symm ▸ h
theorem iR{P:aF->Prop}{n:Nat}(h:∀a us,us.length=n->P (a::us)):∀us:aF,us.length=n+1->P us:=λus hl=>by
 cases us with
 |nil=>cases hl
 |cons a us=>exact h a us (Nat.succ.inj hl)
theorem tR{P:aF->Prop}(h:∀a,P [a]):∀us:aF,us.length=1->P us:=iR λa=>mv (h a)
theorem us2{P:aF->Prop}(h:∀a b,P [a,b]):∀us:aF,us.length=2->P us:=iR λa=>(iR λb=>mv (h a b))
theorem us3{P:aF->Prop}(h:∀a b c,P [a,b,c]):∀us:aF,us.length=3->P us:=iR λa=>(iR λb=>(iR λc=>mv (h a b c)))
theorem us4{P:aF->Prop}(h:∀a b c d,P [a,b,c,d]):∀us:aF,us.length=4->P us:=iR λa=>(iR λb=>(iR λc=>(iR λd=>mv (h a b c d))))
theorem us6{P:aF->Prop}(h:∀a b c d e f,P [a,b,c,d,e,f]):∀us:aF,us.length=6->P us:=iR λa=>(iR λb=>(iR λc=>(iR λd=>(iR λe=>(iR λf=>mv (h a b c d e f))))))
end L2
end
section
namespace L2
open Builtin Builtin.Str
section
variable {X:Cx}{a b c e:az}{Fa Fb Fe:FE}{pos:Pos}
def okS(x:Str):Bool:=decide (x.length<=100000)
section
variable {prog:aN}{w:aI}{A:bu}{E:aC}{s:Shared}
end
end
end L2
end
section
namespace L2
open PySem.W
section
variable {X:Cx}{x:Str}{e j:az}{Fe Fj:FE}{i:Nat}{px spos pos:Pos}
end
end L2
end
section
namespace L2
open PySem.W
section
variable {X:Cx}{e a b:az}{es:fw}{pos pos' p:Pos}{Fs:FA}{R:FR}{fr:Bool}{k k':Nat}{f:Addr}{fd:aq}{ps:fq}{x:Str}{st:aJ}{ct:FX}
end
section
variable {M:Model}{A:bu}{E:aC}{s:Shared}{h0:aR}{H:Hp}{ea C L:Addr}
end
section
variable {X:Cx}{N:fq}{scope:Scope}{nt:Nat}{js:fu}{π:aB}{σ:St}{H2:Hp}{s2:Shared}{fp:ft}{C:Addr}{cl:List (Str×Addr)}{E:XK}{Q0:aC}
end
section
variable {X:Cx}{N:fq}{scope:Scope}{nt:Nat}{js:fu}{tg elt iter:az}{Fi:FI}{g:Tg}{Fe:FE}{Re:FR}{pos:Pos}
end
section
variable {X:Cx}{x:Str}{e j:az}{Fe Fj:FE}{i:Nat}{px spos pos:Pos}
end
end L2
end
section
namespace L2
open PySem.W
section
variable {X:Cx}{x:Str}{e hi:az}{Fe Fu:FE}{i:Nat}{p0 p1 p2 p3 p4 p5 pos:Pos}
end
section
variable {X:Cx}{st:aJ}{rest:fy}{F G:FS}
end
def mix(S:Nat->Bool)(new:Dt):Nat->fK->fK
 |_,[]=>[]
 |q,d::ds=>(if S q then new else d)::mix S new (q+1) ds
section
variable {K:aD}{B H:Hp}
end
section
variable {X:Cx}{x:Str}{e ei ej:az}{Fi Fj Fv:FE}{i:Nat}{px s1 s2 pos:Pos}{rest:fy}{G:FS}
end
end L2
end
section
namespace L2
open PySem.W
structure Dm(K:aD)(C:Addr)(m qual:Str)(st:aJ)(ps:fq)(f:Addr)(fd:aq):Prop where
 mt:Meth K C m f
 fn:Fun K m qual st f fd
 bd:Binds K fd ps []
section
variable {X:Cx}{e o:az}{es:fw}{pos apos:Pos}{F Fo:FE}{Fs:FA}{fr:Bool}{k k':Nat}{f C:Addr}{fd:aq}{ps:fq}{m qual:Str}{st:aJ}{ct:FX}{cf:FC}
end
end L2
end
section
namespace L2
open PySem.W
section
variable {P:aN}{w:aI}{K:aD}{mg:aE}{base:aR}
end
section
variable {X:Cx}{e:az}{es:fw}{pos p:Pos}{Fs:FA}{k k':Nat}{f C:Addr}{fd:aq}{ps:fq}{x:Str}{ct:FX}
end
end L2
end
section
namespace L2
open PySem.W
def tTurn(K:aD):TS:=iI (jz (tW K "list" Yz (mO K (hG 0) "earlier") (pW (mO K (hG 0) "bills") tNil))) (qh K (hG 0) (hG 1) "bills")
section
variable {CX:ja}{P:aN}{w:aI}{K:aD}{mg:aE}{base:aR}{x qual:Str}{st:aJ}{f:Addr}{fd:aq}{N ps:fq}{k:Nat}
end
section
variable {X:Cx}{e:az}{es:fw}{pos p:Pos}{Fs:FA}{k k':Nat}{f C:Addr}{fd:aq}{ps:fq}{x:Str}{ok:Dt->Prop}
end
end L2
end
section
namespace L2
open PySem.W
section
variable {K:aD}{B H:Hp}
end
end L2
end
section
namespace L2
open PySem.W
section
variable {K:aD}{B B' H:Hp}
end
section
variable {X:Cx}{y:Str}{e:az}{Fe:FE}{i:Nat}{py apos cpos pos:Pos}{rest:fy}{G:FS}{C f:Addr}{fd:aq}{ps:fq}{qual:Str}{st:aJ}{k k':Nat}{nbf:Dt->Dt->fK->Dt->Option (fK)}
end
end L2
end
section
namespace L2
open PySem.W
section
variable {X:Cx}{y:Str}{A:az}{FA:FT}{a:fy}{i:Nat}{py apos cpos p1 p2 pos npos:Pos}{nj:Nat}{rest:fy}{G Gb:FS}{C f:Addr}{fd:aq}{ps:fq}{qual:Str}{st:aJ}{k k':Nat}
end
end L2
end
section
namespace L2
open PySem.W
section
variable {X:Cx}{π:aB}{σ:St}{H H1 H' H₀:Hp}{s s1:Shared}{ea C M:Addr}{cx:Value}{E:aC}
end
section
variable {X:Cx}{C:Addr}{n:Nat}{e:az}{es:fw}{pos pos' tpos hpos np:Pos}{Fs:FA}{fr:Bool}{k k':Nat}{f:Addr}{fd:aq}{ps:fq}{x y:Str}{st:aJ}{p:Pos}{ct:FX}
end
end L2
end
section
namespace L2
open PySem.W
abbrev Cx.pw(X:Cx)(π:aB)(E:aC):Cx:={ X with pn:=X.pn++π,xe:=E }
section
variable {X:Cx}{π pins':aB}{σ:St}{H:Hp}{s:Shared}{E:aC}
end
section
variable {X:Cx}{body:fy}{y y2:Str}{M M2:Addr}{v1 v2:Str}{np np2 hpos hpos2 rp rp2 cp cp2 tpos:Pos}{k1 k2:Nat}
def Ends.no:Ends:={ nx:=λ_ _=>False,bk:=λ_ _=>False,ct:=λ_ _=>False,rt:=λ_ _=>False }
end
end L2
end
section
namespace L2
open PySem.W
section
variable {CX:ja}{P:aN}{w:aI}{K:aD}{mg:aE}{base:aR}{x qual:Str}{st:aJ}{f:Addr}{fd:aq}{N ps:fq}{k:Nat}
end
end L2
end
section
namespace L2
open PySem.W
section
variable {P:aN}{w:aI}{K:aD}{mg:aE}{base:aR}{x qual:Str}{st:aJ}{f:Addr}{fd:aq}{N ps:fq}{k:Nat}
end
end L2
end
section
namespace L2
open PySem.W
section
variable {X:Cx}{D:Ends}{σ:St}{H:Hp}{ρ:gI}{c:FT}{t u:TS}
end
section
variable {P:aN}{w:aI}{K:aD}{mg:aE}{base:aR}{x qual:Str}{st:aJ}{f:Addr}{fd:aq}{N ps:fq}{k:Nat}
end
end L2
end
section
namespace L2
open PySem.W
section
variable {K:aD}{H₀:Hp}{C:Addr}{n:Nat}{ns:aH}{A:ft}{S0:List (aA)}{bs:aA}{S1:List (aA)}{cs:aA}{H H':Hp}{vp vo:V}{a dx e s:Addr}{vb:V}{ws ss:fL}{vc:V}
end
end L2
end
section
namespace L2
open PySem.W
section
variable {X:Cx}{e1 e2 e4 g:az}{gs:fw}{F1 F2 F4:FE}{Fs:FA}{k k2 k':Nat}{f f2:Addr}{fd fd2:aq}{ps ps2:fq}{x y:Str}{st st2:aJ}{c:FC}{Pre:fK->Prop}{Post:fK->Dt->Prop}{p py pos pos2:Pos}
end
section
variable {X:Cx}{H:Hp}{O:Own}{ρ:gI}{σ:St}{i k:Nat}{ds row:fK}
end
end L2
end
section
local macro_rules|`(tactic|rfl')=>`(tactic|first|lia|omega +splitDisjunctions)
namespace St
open Lat
def Supp(n:Nat)(x:Vec):Prop:=∀k,n<=k->x k=0
def LinV(φ:Vec->Vec):Prop:=∀(a b:Int)(x y:Vec)(k:Nat),φ (λk=>a*x k+b*y k) k=a*φ x k+b*φ y k
structure Iso(n1:Nat)(S1:aA)(n2:Nat)(S2:aA)(φ ψ:Vec->Vec):Prop where
 lf:LinV φ
 lb:LinV ψ
 sf:∀x,Supp n1 x->Supp n2 (φ x)
 sb:∀y,Supp n2 y->Supp n1 (ψ y)
 f:∀x,Supp n1 x->Span (fP S1) x->Span (fP S2) (φ x)
 b:∀y,Supp n2 y->Span (fP S2) y->Span (fP S1) (ψ y)
 fb:∀x,Supp n1 x->Span (fP S1) (λk=>ψ (φ x) k-x k)
 bf:∀y,Supp n2 y->Span (fP S2) (λk=>φ (ψ y) k-y k)
theorem Iso.symm{n1 n2:Nat}{S1 S2:aA}{φ ψ:Vec->Vec}(i:Iso n1 S1 n2 S2 φ ψ):Iso n2 S2 n1 S1 ψ φ:=⟨i.lb,i.lf,i.sb,i.sf,i.b,i.f,i.bf,i.fb⟩
theorem LinV.sub{φ:Vec->Vec}(l:LinV φ)(x y:Vec)(k:Nat):φ (λk=>x k-y k) k=φ x k-φ y k:=by
 have:=l 1 (-1) x y k;rw[show(λk=>(1:Int)*x k + -1*y k)=λk=>x k-y k from funext λk=>()]at this;rfl'
theorem Iso.trans{n1 n2 n3:Nat}{S1 S2 S3:aA}{φ ψ φ' ψ':Vec->Vec}(i:Iso n1 S1 n2 S2 φ ψ)(j:Iso n2 S2 n3 S3 φ' ψ'):Iso n1 S1 n3 S3 (λx=>φ' (φ x)) (λy=>ψ (ψ' y)) where
 lf:=λa b x y k=>by
  show φ' (φ _) k=_;rw[show φ (λk=>a*x k+b*y k)=λk=>a*φ x k+b*φ y k from funext (i.lf a b x y),j.lf]
 lb:=λa b x y k=>by
  show ψ (ψ' _) k=_;rw[show ψ' (λk=>a*x k+b*y k)=λk=>a*ψ' x k+b*ψ' y k from funext (j.lb a b x y),i.lb]
 sf:=λx h=>j.sf _ (i.sf _ h)
 sb:=λy h=>i.sb _ (j.sb _ h)
 f:=λx h s=>j.f _ (i.sf _ h) (i.f _ h s)
 b:=λy h s=>i.b _ (j.sb _ h) (j.b _ h s)
 fb:=λx h=>by
  have h1:=j.fb (φ x) (i.sf _ h);have s1:Supp n2 (λk=>ψ' (φ' (φ x)) k-φ x k):=λk hk=>by
   show _-_=(0:Int);rw[j.sb _ (j.sf _ (i.sf _ h)) k hk,i.sf _ h k hk];rfl
  have h2:=i.b _ s1 h1;refine Span.congr (λk=>?_) (h2.add (i.fb x h));rw[i.lb.sub];rfl'
 bf:=λy h=>by
  have h1:=i.bf (ψ' y) (j.sb _ h);have s1:Supp n2 (λk=>φ (ψ (ψ' y)) k-ψ' y k):=λk hk=>by
   show _-_=(0:Int);rw[i.sf _ (i.sb _ (j.sb _ h)) k hk,j.sb _ h k hk];rfl
  have h2:=j.f _ s1 h1;refine Span.congr (λk=>?_) (h2.add (j.bf y h));rw[j.lf.sub];rfl'
theorem z26(d m:Int)(hm:0<m)(h:¬d∣m):∃q:Nat,2<=q/\∀t:Int,d∣m*t->(q:Int)∣t:=by
 by_cases d0:d=0
 .subst d0;refine⟨2,wt _,λt ht=>?_⟩;have:m*t=0:=w0g.mp ht;rcases vT.mp this with z|z
  .rfl'
  .rw[z];exact w0h _
 .have g0:0<Nat.gcd d.natAbs m.natAbs:=Nat.gcd_pos_of_pos_right _ ();generalize hg:Nat.gcd d.natAbs m.natAbs=g at *;obtain⟨q,hq⟩:g∣d.natAbs:=by rw[<-hg];exact Nat.gcd_dvd_left _ _
  obtain⟨r,hr⟩:g∣m.natAbs:=by rw[<-hg];exact Nat.gcd_dvd_right _ _
  have cop:Nat.Coprime q r:=by
    have:=hg;rw[hq,hr,Nat.gcd_mul_left]at this;exact Nat.eq_of_mul_eq_mul_left g0 (by rw[this,w1a])
  refine⟨q,?_,λt ht=>?_⟩
  .by_cases q2:2<=q
   .exact q2
   .exfalso;have:q=0\/q=1:=()
    rcases this with z|z
    .rw[z,Nat.mul_zero]at hq;exact d0 (w0w.mp hq)
    .rw[z,w1a]at hq;exact h (w0j.mp (by rw[hq,hr];exact Nat.dvd_mul_right _ _))
  .have h1:d.natAbs∣m.natAbs*t.natAbs:=by rw[<-vq];exact w0j.mpr ht
   rw[hq,hr,vY]at h1;have h2:q∣r*t.natAbs:=Nat.dvd_of_mul_dvd_mul_left g0 h1;have h3:q∣t.natAbs:=cop.dvd_of_dvd_mul_left h2;exact Int.ofNat_dvd_left.mpr h3
theorem Oa(q:Nat):∀k:Nat,prod ((ah k).map λ_=>q)=q^k:=by
 intro k;have e:((ah k).map λ_=>q)=aP k q:=by
  apply vz
  .simp
  .intro i h1 h2;simp
 rw[e];clear e
 induction k with
 |zero=>rfl
 |succ k ih=>rw[w0t];show q*prod _=_;rw[ih,vX,uG]
theorem Za{n:Nat}(w:gn)(a b:Int)(x y:Vec):dt n w (λk=>a*x k+b*y k)=a*dt n w x+b*dt n w y:=by
 unfold dt;rw[<-L6,<-L6,<-Ge];exact n8 λk _=>by rw[uH,vL,vL _ b]
theorem few{n1 n2:Nat}{G1 G2:aA}{M1 M2:gc}{φ ψ:Vec->Vec}(m1:Ms n1 G1 M1)(l1:M1.length=n1)(m2:Ms n2 G2 M2)(l2:M2.length=n2)(I:Iso n1 G1 n2 G2 φ ψ){m:Int}(hm:0<m){p1 p2:Nat}(hp1:p1<n1)(hp2:p2<=n2)
  (c1:∀i,p1<=i->i<n1->mp M1 p1∣mp M1 i) (d1:¬mp M1 p1∣m) (d2:∀i,i<p2->mp M2 i∣m):n1-p1<=n2-p2:=by
 obtain⟨q,q2,hq⟩:=z26 (mp M1 p1) m hm d1;have q0:(q:Int)≠0:=()
 have ex:∀c:aH,∃x:Vec,Supp n1 x/\∀i,i<n1->mp M1 i∣dt n1 (mw M1 i) x-(if p1<=i then at0 c (i-p1) else 0):=λc=>by
  obtain⟨x,h1,h2⟩:=m1.onto λi=>if p1<=i then at0 c (i-p1) else 0
  exact⟨x,h1,λi hi=>h2 i (by rw[l1];exact hi)⟩
 let X:aH->Vec:=λc=>vd (ex c);have hX:∀c,Supp n1 (X c)/\∀i,i<n1->mp M1 i∣dt n1 (mw M1 i) (X c)-(if p1<=i then at0 c (i-p1) else 0):=λc=>wE (ex c);generalize X=X at hX;have key:=PB (ns:=(ah (n1-p1)).map λ_=>q) (ms:=(ah (n2-p2)).map λ_=>q)
  (λc=>jd (n2-p2) λj=>dt n2 (mw M2 (p2+j)) (φ (X c)) % (q:Int)) ?inj ?into
 case into=>
  intro c hc;refine U1.mpr ⟨EH _ _,λi hi=>?_⟩;rw[Ha hi];exact⟨Int.emod_nonneg _ q0,Int.emod_lt_of_pos _ ()⟩
 case inj=>
  intro c c' hc hc' e;obtain⟨lc,rc⟩:=U1.mp hc;obtain⟨lc',rc'⟩:=U1.mp hc';obtain⟨s1,x1⟩:=hX c;obtain⟨s2,x2⟩:=hX c';generalize X c=x at *;generalize X c'=x' at *;have ag:∀i,p2<=i->i<n2->(q:Int)∣dt n2 (mw M2 i) (φ x)-dt n2 (mw M2 i) (φ x'):=λi h1 h2=>by
   have hj:i-p2<n2-p2:=()
   have:=bv (λl=>at0 l (i-p2)) e;rw[Ha hj,Ha hj,show p2+(i-p2)=i by rfl']at this;exact TZ this
  obtain⟨u,su,hu⟩:=m2.onto λi=>if p2<=i then(dt n2 (mw M2 i) (φ x)-dt n2 (mw M2 i) (φ x'))/q else 0
  have sy:=I.sf _ s1;have sy':=I.sf _ s2;have se:Supp n2 (λk=>m*(φ x k-φ x' k) + -(q*m)*u k):=λk hk=>by
   show m*(φ x k-φ x' k) + -(q*m)*u k=0;rw[sy k hk,sy' k hk,su k hk];simp
  have de:∀i,dt n2 (mw M2 i) (λk=>m*(φ x k-φ x' k) + -(q*m)*u k)=m*(dt n2 (mw M2 i) (φ x)-dt n2 (mw M2 i) (φ x')) + -(q*m)*dt n2 (mw M2 i) u:=λi=>by
   rw[Za,TY]
  have he:Span (fP G2) (fun k=>m*(φ x k-φ x' k) + -(q*m)*u k):=by
   refine(m2.ker _ se).mpr λi hi=>?_;rw[l2]at hi;rw[de];by_cases h:p2<=i
   .have h1:=hu i (by rw[l2];exact hi);simp only[ak h]at h1;obtain⟨t,ht⟩:=ag i h hi;rw[ht,w01 _ q0]at h1;rw[ht];have e2:m*(q*t) + -(q*m)*dt n2 (mw M2 i) u = -(q*m)*(dt n2 (mw M2 i) u-t):=by
      rw[vO,uq,uq,vL m q t,vH,vH];rfl'
    rw[e2];exact uJ h1
   .have h1:=d2 i ();refine ur (w0S h1) (w0S ?_);exact(w1M).mpr (uJ h1)
  have hb:=I.b _ se he;have lin:∀k,ψ (λk=>m*(φ x k-φ x' k) + -(q*m)*u k) k=m*(ψ (φ x) k-ψ (φ x') k) + -(q*m)*ψ u k:=λk=>by
   rw[I.lb,show ψ (λk=>φ x k-φ x' k) k=ψ (φ x) k-ψ (φ x') k from I.lb.sub _ _ k]
  have h2:Span (fP G1) (λk=>m*(x k-x' k) + -(q*m)*ψ u k):=by
   refine Span.congr (λk=>?_) (hb.sub (((I.fb x s1).sub (I.fb x' s2)).smul m));rw[lin];have:m*(ψ (φ x) k-x k-(ψ (φ x') k-x' k))=m*(ψ (φ x) k-ψ (φ x') k)-m*(x k-x' k):=by rw[<-vO];congr 1;rfl'
   rfl'
  have sb:=I.sb _ su;have s3:Supp n1 (λk=>m*(x k-x' k) + -(q*m)*ψ u k):=λk hk=>by
   show m*(x k-x' k) + -(q*m)*ψ u k=0;rw[s1 k hk,s2 k hk,sb k hk];simp
  have ej:∀ j,j<n1-p1→at0 c j=at0 c' j:=fun j hj=>by
   have hi:p1+j<n1:=()
   have g1:=(m1.ker _ s3).mp h2 (p1+j) (by rw[l1];exact hi);rw[Za,TY]at g1;have g2:=x1 (p1+j) hi;have g3:=x2 (p1+j) hi;rw[ak (),show p1+j-p1=j by rfl']at g2 g3;generalize dt n1 (mw M1 (p1+j)) x=a at *;generalize dt n1 (mw M1 (p1+j)) x'=a' at *;generalize dt n1 (mw M1 (p1+j)) (ψ u)=v at *;have g4:mp M1 (p1+j)∣m*(at0 c j-at0 c' j-q*v):=by
     have:=w0J g1 (uJ (b:=m) (w0J g2 g3));have e3:m*(a-a') + -(q*m)*v-m*(a-at0 c j-(a'-at0 c' j))=m*(at0 c j-at0 c' j-q*v):=by
       rw[vO m (a-at0 c j),vO m a,vO m a',vO m a,vO m (at0 c j-at0 c' j),vO m (at0 c j),uq,wU (q:Int) m,vH];rfl'
     rw[e3]at this;exact this
   have g5:=hq _ (uz (c1 (p1+j) () hi) g4);obtain⟨t,ht⟩:=g5;obtain⟨r1,r2⟩:=rc j hj;obtain⟨r3,r4⟩:=rc' j hj;have g6:at0 c j-at0 c' j=q*(v+t):=by rw[uH];rfl'
   have g7:v+t=0:=by
     rcases w0d (v+t) 0 with z|z|z
     .exfalso;have:(q:Int)*(v+t)<=q*(-1):=uL () ();rfl'
     .exact z
     .exfalso;have:(q:Int)*1<=q*(v+t):=uL () ();rfl'
   rw[g7,uw]at g6;rfl'
  apply vz (by rw[lc,lc']);intro i h1 h2;have:=ej i ();simpa[at0,am,wa h1,wa h2]using this
 rw[Oa,Oa]at key;exact(Nat.pow_le_pow_iff_right ()).mp key
structure Chain(n:Nat)(M:gc):Prop where
 nn:∀i,i<n->0<=mp M i
 dvd:∀i j,i<=j->j<n->mp M i∣mp M j
theorem Chain.ones{n:Nat}{M:gc}(c:Chain n M):∃o,o<=n/\(∀i,i<o->mp M i=1)/\∀i,o<=i->i<n->mp M i≠1:=by
 have:∀t,t<=n->∃o,o<=t/\(∀i,i<o->mp M i=1)/\(o<t->mp M o≠1):=by
  intro t
  induction t with
  |zero=>intro _;exact⟨0,wt _,λi h=>aM h (w1T _),λh=>aM h (vG _)⟩
  |succ t ih=>
   intro ht;obtain⟨o,h1,h2,h3⟩:=ih ();by_cases z:o<t
   .exact⟨o,(),h2,λ_=>h3 z⟩
   .have:o=t:=()
    subst this;by_cases y:mp M o=1
    .refine⟨o+1,wt _,λi hi=>?_,λh=>aM h (vG _)⟩;by_cases w:i=o
     .rw[w];exact y
     .exact h2 i ()
    .exact⟨o,(),h2,λ_=>y⟩
 obtain⟨o,h1,h2,h3⟩:=this n (wt _);refine⟨o,h1,h2,λi h4 h5 z=>h3 () ?_⟩;have:=c.dvd o i h4 h5;rw[z]at this;exact w17 (c.nn o ()) this
theorem Chain.shape{n o:Nat}{M:gc}(ho:o<=n)(h1:∀i,i<o->mp M i=1)(h2:∀i,o<=i->i<n->mp M i≠1):((ah n).map (mp M)).filter (λp=>decide (p≠1))=(ah (n-o)).map λj=>mp M (o+j):=by
 obtain⟨k,rfl⟩:∃k,n=o+k:=⟨n-o,()⟩;rw[List.range_add,vn,List.filter_append,show o+k-o=k by rfl'];have e1:((ah o).map (mp M)).filter (λp=>decide (p≠1))=[]:=w0X.mpr λx hx=>by
  obtain⟨i,hi,rfl⟩:=wj.mp hx;have:=h1 i (wJ.mp hi);simp[this]
 have e2:((((ah k).map (o+·))).map (mp M)).filter (λp=>decide (p≠1))=(((ah k).map (o+·))).map (mp M):=w1g.mpr λx hx=>by
  obtain⟨i,hi,rfl⟩:=wj.mp hx;obtain⟨j,hj,rfl⟩:=wj.mp hi;have:=h2 (o+j) () (by have:=wJ.mp hj;rfl');simp[this]
 rw[e1,e2,w0r,wM];rfl
theorem Uc{n1 n2:Nat}{G1 G2:aA}{M1 M2:gc}{φ ψ:Vec->Vec}(m1:Ms n1 G1 M1)(l1:M1.length=n1)(k1:Chain n1 M1)(m2:Ms n2 G2 M2)(l2:M2.length=n2)(k2:Chain n2 M2)(I:Iso n1 G1 n2 G2 φ ψ):
   ((ah n1).map (mp M1)).filter (λp=>decide (p≠1))=((ah n2).map (mp M2)).filter (λp=>decide (p≠1)):=by
 obtain⟨o1,a1,a2,a3⟩:=k1.ones;obtain⟨o2,b1,b2,b3⟩:=k2.ones;rw[Chain.shape a1 a2 a3,Chain.shape b1 b2 b3];have not1:∀{x:Int},0<=x->x≠1->¬x∣1:=λh0 h1 h=>h1 (w17 h0 h);have le1:n1-o1<=n2-o2:=by
   by_cases z:o1<n1
   .exact few m1 l1 m2 l2 I (m:=1) (by decide) z b1 (λi h1 h2=>k1.dvd _ _ h1 h2) (not1 (k1.nn _ z) (a3 o1 (wt _) z)) (λi hi=>by rw[b2 i hi];exact w0f _)
   .rfl'
 have le2:n2-o2<=n1-o1:=by
   by_cases z:o2<n2
   .exact few m2 l2 m1 l1 I.symm (m:=1) (by decide) z a1 (λi h1 h2=>k2.dvd _ _ h1 h2) (not1 (k2.nn _ z) (b3 o2 (wt _) z)) (λi hi=>by rw[a2 i hi];exact w0f _)
   .rfl'
 have ek:n1-o1=n2-o2:=w1Q le1 le2;have dv1:∀j,j<n1-o1->mp M1 (o1+j)≠0->mp M2 (o2+j)∣mp M1 (o1+j):=λj hj h0=>by
   refine vg λhn=>?_;have:=few m2 l2 m1 l1 I.symm (m:=mp M1 (o1+j)) (by have:=k1.nn (o1+j) ();rfl') (p1:=o2+j) (p2:=o1+j+1) () () (λi h1 h2=>k2.dvd _ _ h1 h2) hn (λi hi=>k1.dvd _ _ () ());rfl'
 have dv2:∀j,j<n1-o1->mp M2 (o2+j)≠0->mp M1 (o1+j)∣mp M2 (o2+j):=λj hj h0=>by
   refine vg λhn=>?_;have:=few m1 l1 m2 l2 I (m:=mp M2 (o2+j)) (by have:=k2.nn (o2+j) ();rfl') (p1:=o1+j) (p2:=o2+j+1) () () (λi h1 h2=>k1.dvd _ _ h1 h2) hn (λi hi=>k2.dvd _ _ () ());rfl'
 rw[<-ek];refine vI λj hj=>?_;have hj:=wJ.mp hj;have n1':=k1.nn (o1+j) ();have n2':=k2.nn (o2+j) ();by_cases z1:mp M1 (o1+j)=0
 .by_cases z2:mp M2 (o2+j)=0
  .rw[z1,z2]
  .have:=dv2 j hj z2;rw[z1]at this;exact aM (w0g.mp this) z2
 .by_cases z2:mp M2 (o2+j)=0
  .have:=dv1 j hj z1;rw[z2]at this;exact aM (w0g.mp this) z1
  .exact w1D n1' n2' (dv2 j hj z2) (dv1 j hj z1)
end St
end
section
local macro_rules|`(tactic|rfl')=>`(tactic|first|lia|omega +splitDisjunctions)
namespace St
open Lat
theorem LinV.zero{φ:Vec->Vec}(l:LinV φ)(k:Nat):φ (λ_=>0) k=0:=by
 have:=l 0 0 (λ_=>0) (λ_=>0) k;simpa using this
theorem LinV.subm{φ:Vec->Vec}(l:LinV φ)(c:Int)(x y:Vec)(k:Nat):φ (λk=>x k-c*y k) k=φ x k-c*φ y k:=by
 have:=l 1 (-c) x y k;rw[show(λk=>(1:Int)*x k + -c*y k)=λk=>x k-c*y k from funext λk=>by rw[uq];rfl']at this;rw[this,uq];rfl'
theorem Hd{φ:Vec->Vec}(l:LinV φ):∀{rs:List Vec}{v:Vec},Span rs v->Span (rs.map φ) (φ v)
 |[],v,h=>λk=>by
  have:v=λ_=>0:=funext h;rw[this];exact l.zero k
 |r::rs,v,⟨c,h⟩=>⟨c,Span.congr (λk=>l.subm c v r k) (Hd l h)⟩
theorem He{n:Nat}{S1 S2:aA}{φ ψ:Vec->Vec}(lf:LinV φ)(lb:LinV ψ)(sf:∀x,Supp n x->Supp n (φ x))(sb:∀x,Supp n x->Supp n (ψ x))(fb:∀x,ψ (φ x)=x)(bf:∀x,φ (ψ x)=x)(e:fP S2=(fP S1).map φ):Iso n S1 n S2 φ ψ where
 lf:=lf
 lb:=lb
 sf:=sf
 sb:=sb
 f:=λx _ h=>by rw[e];exact Hd lf h
 b:=λy _ h=>by
  have:=Hd lb h;rw[e,wM,show(ψ∘φ)=id from funext fb,List.map_id]at this;exact this
 fb:=λx _=>Span.congr (λk=>by rw[fb];rfl') Span.zero
 bf:=λx _=>Span.congr (λk=>by rw[bf];rfl') Span.zero
def BQ(a b:Nat)(x:Vec):Vec:=λk=>if k=a then x b else if k=b then x a else x k
def addV(a b:Nat)(t:Int)(x:Vec):Vec:=λk=>if k=a then x a+t*x b else x k
def negV(a:Nat)(x:Vec):Vec:=λk=>if k=a then-x a else x k
theorem RP(a b:Nat):LinV (BQ a b):=λc d x y k=>by unfold BQ;split<;>(try split)<;>rfl
theorem Zb(a b:Nat)(t:Int):LinV (addV a b t):=λc d x y k=>by
 unfold addV;split
 .show(c*x a+d*y a)+t*(c*x b+d*y b)=c*(x a+t*x b)+d*(y a+t*y b);rw[uH,uH,uH,vL t c,vL t d];rfl'
 .rfl
theorem Zc(a:Nat):LinV (negV a):=λc d x y k=>by
 unfold negV;split
 .show -(c*x a+d*y a)=c * -(x a)+d * -(y a);rw[w0m,w0m];rfl'
 .rfl
theorem Ob(a b:Nat)(x:Vec):BQ a b (BQ a b x)=x:=funext λk=>by
 unfold BQ;by_cases h1:k=a
 .subst h1;by_cases h2:b=k
  .subst h2;simp
  .simp[h2]
 .by_cases h2:k=b
  .subst h2;simp[h1]
  .simp[h1,h2]
theorem RQ{a b:Nat}(h:a≠b)(t:Int)(x:Vec):addV a b (-t) (addV a b t x)=x:=funext λk=>by
 unfold addV;by_cases h1:k=a
 .subst h1;simp only[if_true];rw[ao (bR h),uq];rfl'
 .simp[h1]
theorem neg_neg(a:Nat)(x:Vec):negV a (negV a x)=x:=funext λk=>by
 unfold negV;by_cases h1:k=a
 .subst h1;simp
 .simp[h1]
theorem z27{n a b:Nat}{S1 S2:aA}(ha:a<n)(hb:b<n)(e:fP S2=(fP S1).map (BQ a b)):Iso n S1 n S2 (BQ a b) (BQ a b):=
 have sp:∀x,Supp n x->Supp n (BQ a b x):=λx h k hk=>by unfold BQ;rw[ao (),ao ()];exact h k hk
 He (RP a b) (RP a b) sp sp (Ob a b) (Ob a b) e
theorem z5d{n a b:Nat}{t:Int}{S1 S2:aA}(ha:a<n)(h:a≠b)(e:fP S2=(fP S1).map (addV a b t)):Iso n S1 n S2 (addV a b t) (addV a b (-t)):=
 have sp:∀t x,Supp n x->Supp n (addV a b t x):=λt x h k hk=>by unfold addV;rw[ao ()];exact h k hk
 He (Zb a b t) (Zb a b (-t)) (sp t) (sp (-t)) (RQ h t) (λx=>by have:=RQ h (-t) x;rwa [Int.neg_neg]at this) e
theorem z5e{n a:Nat}{S1 S2:aA}(ha:a<n)(e:fP S2=(fP S1).map (negV a)):Iso n S1 n S2 (negV a) (negV a):=
 have sp:∀x,Supp n x->Supp n (negV a x):=λx h k hk=>by unfold negV;rw[ao ()];exact h k hk
 He (Zc a) (Zc a) sp sp (neg_neg a) (neg_neg a) e
theorem RS(n:Nat)(S:aA):Iso n S n S id id:=
 He (λ_ _ _ _ _=>rfl) (λ_ _ _ _ _=>rfl) (λ_ h=>h) (λ_ h=>h) (λ_=>rfl) (λ_=>rfl) (by simp)
theorem RT(n1:Nat):LinV (λ(y:Vec)k=>if k<n1 then y k else 0):=λa b x y k=>by
 show(if k<n1 then a*x k+b*y k else 0)=a*(if k<n1 then x k else 0)+b*(if k<n1 then y k else 0);by_cases h:k<n1
 .rw[ak h,ak h,ak h]
 .rw[ao h,ao h,ao h];simp
theorem z28{n1 n2:Nat}{S1 S2:List gn}(hn:n1≤n2)(w1:∀ v∈fP S1,Supp n1 v)(e:fP S2=fP S1++(List.range (n2-n1)).map fun j=>fun k=>if k=n1+j then(1:Int) else 0):
  Iso n1 S1 n2 S2 id (λy k=>if k<n1 then y k else 0) where
 lf:=λ_ _ _ _ _=>rfl
 lb:=λa b x y k=>RT n1 a b x y k
 sf:=λx h k hk=>h k ()
 sb:=λy h k hk=>by show(if k<n1 then _ else _)=_;rw[ao ()]
 f:=λx _ h=>Span.trans (λr hr=>Span.mem (by rw[e];exact ul _ hr)) h
 b:=λy _ h=>by
  have l:LinV (λ(y:Vec)k=>if k<n1 then y k else 0):=λa b x y k=>RT n1 a b x y k;refine Span.trans (λr hr=>?_) (Hd l h);obtain⟨v,hv,rfl⟩:=wj.mp hr;rw[e]at hv;rcases ww.mp hv with hv|hv
  .refine Span.congr (λk=>?_) (Span.mem hv);show v k=if k<n1 then v k else 0
   by_cases c:k<n1
   .rw[ak c]
   .rw[ao c];exact w1 v hv k ()
  .obtain⟨j,_,rfl⟩:=wj.mp hv;refine Span.congr (λk=>?_) Span.zero;show 0=if k<n1 then(if k=n1+j then(1:Int) else 0) else 0
   split
   .rw[ao ()]
   .rfl
 fb:=λx h=>Span.congr (λk=>by
  show 0=(if k<n1 then x k else 0)-x k;by_cases c:k<n1
  .rw[ak c];rfl'
  .rw[ao c,h k ()];rfl) Span.zero
 bf:=λy h=>by
  have key:∀m,m<=n2-n1->Span (fP S2) (λk=>(if k<n1+m then y k else 0)-(if k<n1 then y k else 0)):=by
    intro m
    induction m with
    |zero=>intro _;exact Span.congr (λk=>by show 0=_;rw[Nat.add_zero];rfl') Span.zero
    | succ m ih =>
      intro hm;have u:Span (fP S2) (λk=>if k=n1+m then(1:Int) else 0):=Span.mem (by rw[e];exact wP _ (wj.mpr ⟨m,wJ.mpr (),rfl⟩));refine Span.congr (λk=>?_) ((ih ()).add (u.smul (y (n1+m))));by_cases c:k=n1+m
      .subst c;rw[ao (),ao (),ak rfl,ak ()];rfl'
      .rw[ao c];by_cases c2:k<n1+m
       .rw[ak c2,ak (show k<n1+(m+1) by rfl')];rfl'
       .rw[ao c2,ao (show ¬k<n1+(m+1) by rfl')];rfl'
  refine Span.congr (λk=>?_) (key (n2-n1) (wt _)).neg;show -((if k<n1+(n2-n1) then y k else 0)-(if k<n1 then y k else 0))=(if k<n1 then y k else 0)-y k;by_cases c:k<n2
  .rw[ak ()];rfl'
  .rw[ao (),h k ()];rfl'
end St
end
section
local macro_rules|`(tactic|rfl')=>`(tactic|first|lia|omega +splitDisjunctions)
namespace St
open Lat
structure Alike(n1 n2 o1 o2:Nat)(M1 M2:gc):Prop where
 h1:o1<=n1
 h2:o2<=n2
 k:n1-o1=n2-o2
 one1:∀i,i<o1->mp M1 i=1
 one2:∀i,i<o2->mp M2 i=1
 same:∀j,j<n1-o1->mp M1 (o1+j)=mp M2 (o2+j)
section
variable {n1 n2 o1 o2:Nat}{M1 M2:gc}{T P tb:aA}
theorem z0u(a:gn)(o j:Nat):at0 (a.drop o) j=at0 a (o+j):=by simp[at0,am]
theorem Ud(T:aA)(o j:Nat):(T.drop o).getD j []=T.getD (o+j) []:=by simp[am]
theorem Od(A:Alike n1 n2 o1 o2 M1 M2)(lT:T.length=n2)(mk:∀c:aH,c.length=n2->∀i,i<n2->mp M2 i∣dt n2 (mw M2 i) (mix T c)-at0 c i)(plc:Plc n1 M1 P)(ltb:tb.length=n1)
   (htb:∀s,s<n1->∀k,at0 (tb.getD s []) k=mix (T.drop o2) ((P.getD s []).drop o1) k) (x:aH) (lx:x.length=n1) :
   ∀i,i<n2->mp M2 i∣dt n2 (mw M2 i) (mix tb x)-(if o2<=i then dt n1 (mw M1 (o1+(i-o2))) (λk=>at0 x k) else 0):=by
 have h1:=A.h1;have h2:=A.h2;have hk:=A.k;have lP:∀s,s<n1->(P.getD s []).length=n1:=λs hs=>plc.rows _ (D6 (by rw[plc.len];exact hs));let c:aH:=aP o2 0++(ah (n2-o2)).map λj=>sm n1 λs=>at0 x s*at0 (P.getD s []) (o1+j);have lc:c.length=n2:=by simp[c];rfl'
 have c0:∀i,i<o2->at0 c i=0:=λi hi=>by simp[c,at0,am,w0n,hi]
 have c1:∀j,j<n2-o2->at0 c (o2+j)=sm n1 λs=>at0 x s*at0 (P.getD s []) (o1+j):=λj hj=>by
   simp[c,at0,am,w0n,hj]
 have em:∀k,mix tb x k=mix T c k:=λk=>by
   rw[V4 tb x k (),V4 T c k (),ltb,lT];have e1:∀s,s<n1->at0 x s*at0 (tb.getD s []) k=sm (n2-o2) λj=>at0 x s*at0 (P.getD s []) (o1+j)*at0 (T.getD (o2+j) []) k:=λs hs=>by
    rw[htb s hs k,V4 _ _ k (by rw[wR,wR,lP s hs,lT];rfl'),wR,lT,<-L6];exact n8 λj _=>by rw[z0u,Ud,vH]
   rw[n8 e1,ED];have e2:n2=o2+(n2-o2):=()
   have e3:sm n2 (λi=>at0 c i*at0 (T.getD i []) k)=sm (o2+(n2-o2)) (λi=>at0 c i*at0 (T.getD i []) k):=by rw[<-e2]
   rw[e3,RF,A5 (m:=o2) (λi hi=>by rw[c0 i hi,Int.zero_mul]),w0u];refine n8 λj hj=>?_;rw[c1 j hj,Km]
 have ed:∀i,dt n2 (mw M2 i) (mix tb x)=dt n2 (mw M2 i) (mix T c):=λi=>by rw[show mix tb x=mix T c from funext em]
 intro i hi;rw[ed];have g:=mk c lc i hi;by_cases h:o2<=i
 .rw[ak h];have hj:i-o2<n2-o2:=()
  have c1':=c1 (i-o2) hj;rw[show o2+(i-o2)=i by rfl']at c1';rw[c1']at g;have d:mp M2 i∣(sm n1 λs=>at0 x s*at0 (P.getD s []) (o1+(i-o2)))-dt n1 (mw M1 (o1+(i-o2))) (λk=>at0 x k):=by
   unfold dt;rw[<-Bp];refine PJ λs hs=>?_;have:=plc.near s (o1+(i-o2)) hs ();rw[A.same (i-o2) (),show o2+(i-o2)=i by rfl']at this;rw[wU (at0 (mw M1 (o1+(i-o2))) s),<-vO];exact uJ this
  have:=ur g d;rw[show ∀a b e:Int,a-b+(b-e)=a-e from λa b e=>()]at this;exact this
 .rw[ao h];rw[c0 i ()]at g;exact g
variable {G1 G2:aA}
theorem Ue(A:Alike n1 n2 o1 o2 M1 M2)(m1:Ms n1 G1 M1)(l1:M1.length=n1)(m2:Ms n2 G2 M2)(l2:M2.length=n2)(hT:∀r∈tb,r.length=n2)(lT:T.length=n2)(mk:∀c:aH,c.length=n2->∀i,i<n2->mp M2 i∣dt n2 (mw M2 i) (mix T c)-at0 c i)(plc:Plc n1 M1 P)(ltb:tb.length=n1)
   (htb:∀s,s<n1->∀k,at0 (tb.getD s []) k=mix (T.drop o2) ((P.getD s []).drop o1) k) (x:aH) (lx:x.length=n1):Span (fP G1) (λk=>at0 x k)↔Span (fP G2) (mix tb x):=by
 have tm:=Od A lT mk plc ltb htb x lx;have h1:=A.h1;have h2:=A.h2;have hk:=A.k;have sm:∀k,n2<=k->mix tb x k=0:=λk hk'=>by
   rw[V4 tb x k ()];refine A5 λi hi=>?_;rw[u7 (r:=tb.getD i []) (by rw[hT _ (D6 hi)];exact hk'),uw]
 rw[m1.ker _ (λk hk'=>u7 ()),m2.ker _ sm,l1,l2];constructor
 .intro g i hi;have t:=tm i hi;by_cases h:o2<=i
  .rw[ak h]at t;have:=g (o1+(i-o2)) ();rw[A.same (i-o2) (),show o2+(i-o2)=i by rfl']at this;have:=ur t this
   rwa [w1j]at this
  .rw[A.one2 i ()];exact w1d _
 .intro g i hi;by_cases h:o1<=i
  .have t:=tm (o2+(i-o1)) ();rw[ak (),show o1+(o2+(i-o1)-o2)=i by rfl',<-A.same (i-o1) (),show o1+(i-o1)=i by rfl']at t;have g2:=g (o2+(i-o1)) ();rw[<-A.same (i-o1) (),show o1+(i-o1)=i by rfl']at g2;have:=w0J g2 t
   rwa [show ∀a b:Int,a-(a-b)=b from λa b=>()]at this
  .rw[A.one1 i ()];exact w1d _
theorem Uf(A:Alike n1 n2 o1 o2 M1 M2)(m1:Ms n1 G1 M1)(l1:M1.length=n1)(m2:Ms n2 G2 M2)(l2:M2.length=n2)(hT:∀r∈tb,r.length=n2)(lT:T.length=n2)(mk:∀c:aH,c.length=n2->∀i,i<n2->mp M2 i∣dt n2 (mw M2 i) (mix T c)-at0 c i)(plc:Plc n1 M1 P)(ltb:tb.length=n1)
   (htb:∀s,s<n1->∀k,at0 (tb.getD s []) k=mix (T.drop o2) ((P.getD s []).drop o1) k) (y:Vec) (sy:Supp n2 y):∃x:aH,x.length=n1/\Span (fP G2) (λk=>mix tb x k-y k):=by
 have h1:=A.h1;have h2:=A.h2;have hk:=A.k;obtain⟨b,sb,hb⟩:=m1.onto λi=>if o1<=i then dt n2 (mw M2 (o2+(i-o1))) y else 0
 refine⟨jd n1 b,EH _ _,?_⟩;have tm:=Od A lT mk plc ltb htb (jd n1 b) (EH _ _);have eb:(λk=>at0 (jd n1 b) k)=b:=funext λk=>Lu sb k;rw[eb]at tm;have sm:∀k,n2<=k->mix tb (jd n1 b) k-y k=0:=λk hk'=>by
   rw[sy k hk',V4 tb _ k (by rw[EH];rfl')];rw[A5 λi hi=>?_];rfl;rw[u7 (r:=tb.getD i []) (by rw[hT _ (D6 hi)];exact hk'),uw]
 rw[m2.ker _ sm,l2];intro i hi;rw[TY];have t:=tm i hi;by_cases h:o2<=i
 .rw[ak h]at t;have g:=hb (o1+(i-o2)) ();rw[ak (),show o2+(o1+(i-o2)-o1)=i by rfl',A.same (i-o2) (),show o2+(i-o2)=i by rfl']at g;have:=ur t g
  rwa [show ∀a b e:Int,a-b+(b-e)=a-e from λa b e=>()]at this
 .rw[A.one2 i ()];exact w1d _
end
end St
end
section
namespace L2
theorem Dh.ex{K:aD}{x:Str}{st:aJ}{f:Addr}(d:Dh K x st f):∃(fd:aq)(oc kV doc pm cdv ct:Value)(od an:fJ)(osl:Array (fI)),fd=bz x x (O8 st) (G9 st) (f9 st) .none kV doc pm an cdv ct/\aU K aw x=aa (aa (.ref f))/\K.lookup f=aa ⟨oc,od,.func fd,osl⟩/\cb K cdv x=af/\bI K (.ref f)=af:=by
 obtain⟨_,_,_,_,_,_,_,_,_,e,l,c,k⟩:=d;exact⟨_,_,_,_,_,_,_,_,_,_,rfl,e,l,c,k⟩
noncomputable def Dh.fd{K:aD}{x:Str}{st:aJ}{f:Addr}(d:Dh K x st f):aq:=vd d.ex
theorem Dh.b{K:aD}{x:Str}{st:aJ}{f:Addr}{ps:fq}(d:Dh K x st f)
  (hb:∀(kV doc pm:Value)(an:fJ)(cdv ct:Value)(us:aF),us.length=ps.length->eO (bz x x (O8 st) (G9 st) (f9 st) .none kV doc pm an cdv ct) ⟨us,[]⟩=pure (ps.zip us)) (us:aF) (h:us.length=ps.length):eO d.fd ⟨us,[]⟩=pure (ps.zip us):=by
 obtain⟨_,_,_,_,_,_,_,_,_,z,_⟩:=wE d.ex;rw[show d.fd=_ from z];exact hb _ _ _ _ _ _ us h
theorem Dh.q{K:aD}{h:aR}{mg:aE}(X:K.In h)(G:h.Ns aw mg){x:Str}{st:aJ}{f:Addr}{ps:fq}(d:Dh K x st f)
  (hb:∀(kV doc pm:Value) (an:Option Addr) (cdv ct:Value) (us:List Value),us.length=ps.length→bindArgs (PySem.W.fnOf x x (O8 st) (G9 st) (f9 st) .none kV doc pm an cdv ct) ⟨us,[]⟩=pure (ps.zip us):=by
   intro _ _ _ _ _ _
   first|exact tR λ_=>rfl|exact us2 λ_ _=>rfl|exact us3 λ_ _ _=>rfl|exact us4 λ_ _ _ _=>rfl|exact mv rfl|exact us5 λ_ _ _ _ _=>rfl|exact us6 λ_ _ _ _ _ _=>rfl):Df K mg x st ps f d.fd:=by
 obtain⟨_,_,_,_,_,_,_,_,_,z,e,l,c,k⟩:=wE d.ex;have w:d.fd=_:=z;rw[z]at l;rw[w];exact oH X G e l c k hb
abbrev FK(P:aN)(w:aI)(K:aD)(mg:aE)(base:aR)(k:Nat)(f:Addr)(fd:aq)(ps:fq)(r:Bool)(c:FC):Prop:=FnOk P w K mg base CX0 k f fd ps (iT K r c)
end L2
end
section
local macro_rules|`(tactic|rfl')=>`(tactic|first|lia|omega +splitDisjunctions)
namespace L2
def Zd(B H:Hp)(rows:aA)(ys:fL):Prop:=∃as:ft,ys=as.map V.ref/\as.Nodup/\as.length=rows.length/\∀(j:Nat)(a:Addr)(r:aH),as[j]?=aa a->rows[j]?=aa r->B a=aj/\H a=aa (.lst (r.map V.int))
section
variable {X:Cx}{nt:Nat}{js:fu}{Fi:FI}{g:Tg}{Fe:FE}
theorem z29{σ:St}{H:Hp}{Q:VK}{rows:List (List Int)}{ρ:gI}(hj:∀ j∈js,j<σ.length)(rs:RepS X.ky H ρ σ)(ei:Fi ρ=some (rows.map L))(hl:rows.length≤1000)(he:∀ r∈rows,(g.put (L r) (sigD nt js ρ)).bind Fe=some (.nw,L r))
   (k:∀D ys H2,H D=aj->H2 D=aa (.lst ys)->Same H (fU [D] H2)->Zd H (fU [D] H2) rows ys->Q (.ref D) H2) :
   Jv nt js (mB X Fi) (g.low X.K) (mC λH1=>iH ⟨X.K,H1⟩ fYes) (oF λH1=>my ⟨X.K,H1⟩ Fe) σ H Q:=by
 refine⟨ρ,rows.map L,rs,ei,λJ H1 sm hsz wk D hD=>?_⟩;have nD:H D=aj:=sm.free hD;have h5:(100000:Nat)<=sizeLine:=by decide
 refine⟨λi m ys H2=>m=rows.length-i/\i<=rows.length/\H2 D=aa (.lst ys)/\Same H1 (fU [D] H2)/\Zd H1 (fU [D] H2) (rows.take i) ys,⟨_,rfl,vh _,B3,?_,[],rfl,w18,rfl,λj a r e=>by cases e⟩,?_⟩
 .rw[Ey,QZ hD];exact Same.refl _
 rintro i m ys H2 ⟨rfl,hi,e2,s2,as,rfl,nd,la,ra⟩;obtain⟨w1,w2⟩:=wk [D] H2 s2 (λa ha=>by rw[ve.mp ha];exact⟨_,e2⟩);by_cases hlt:i<rows.length
 .obtain⟨x,hx⟩:∃x,rows[i]?=aa x:=⟨_,wa hlt⟩;have hxm:x∈rows:=vN hx;obtain⟨go,yl⟩:=w1 i (L x) (by rw[wv,hx];rfl);refine .inr ⟨go,λxv H3 y3=>?_⟩;obtain⟨s3,k3,r3⟩:=yl xv H3 y3;have e3:H3 D=aa (.lst (as.map V.ref)):=by rw[k3 D (by simp)];exact e2
  have s13:Same H1 (fU [D] H3):=s2.trans s3;obtain⟨ρ1,p1,p3⟩:=i9 (he x hxm);refine Tg.low_mono (Tg.sim (Y:=⟨X.K,H1⟩) (Hh:=fU [D] H3) A9 ((rs.mono (sm.trans s13)).sigs hj s13) r3 p1) ?_;rintro σ4 H4 ⟨eH,rs4⟩;subst eH;have own:∀{H':Hp},H' D=aa (.lst (as.map V.ref))->∀a∈[D],(∃vs,H' a=aa (.lst vs))/\H1 a=aj:=λ{H'}z a ha=>by
    rw[ve.mp ha];exact⟨⟨_,z⟩,hD⟩
  refine⟨[D],own e3,ρ1,af,rs4,rfl,λH5 s5 n5=>?_⟩;have h5':fU [D] (E3 [D] H4 H5)=H5:=R7 n5;have e5:E3 [D] H4 H5 D=aa (.lst (as.map V.ref)):=by rw[AM (by simp)];exact e3
  have m5:rows.length-(i+1)<rows.length-i:=()
  dsimp only;rw[ak rfl];have rs5:RepS ⟨X.K,H1⟩ H5 ρ1 σ4:=rs4.mono s5;refine⟨[D],own e5,ρ1,.nw,L x,by rw[h5'];exact rs5,p3,λv H6 s6 r6 n6=>?_⟩;rw[h5']at s6 r6;have h6:fU [D] (E3 [D] (E3 [D] H4 H5) H6)=H6:=R7 n6;have s26:Same (fU [D] H2) H6:=s3.trans (s5.trans s6);obtain⟨b,us,eb,nb,hb,hu⟩:=Rp.lst_.mp (show Rp X.K H5 (.lst (x.map Dt.int)) H6 v from r6);have hu:=Rps.ints.mp hu;subst eb hu;have n1:H1 b=aj:=(s13.trans s5).free nb;have fresh:b∉as:=λz=>by
    obtain⟨j,hj',ej⟩:=wI z;have gj:(rows.take i)[j]?=aa ((rows.take i)[j]'()):=wa ();have q:=(ra j b _ (by rw[wa hj',ej]) gj).2;have q5:H5 b=aa _:=s5 _ _ (s3 _ _ q);rw[nb]at q5;cases q5
  refine⟨by rw[AM (by simp)];exact e5,by rw[wn,la,vy];rfl',_,m5,rfl,hlt,B3,?_,as++[b],by simp,?_,?_,?_⟩
  .rw[Ey,h6];exact s13.trans (s5.trans s6)
  .exact w0F.mpr ⟨nd,by simp,λa ha c hc z=>by rw[ve.mp hc]at z;exact fresh (z ▸ ha)⟩
  .rw[wF,la,vy,vy];simp;rfl'
  .rw[Ey,h6];intro j a r ea er;have et:rows.take (i+1)=rows.take i++[x]:=by rw[w1q,hx];rfl
   rw[et]at er;by_cases c:j<as.length
   .rw[wV c]at ea;rw[wV ()]at er;exact⟨(ra j a r ea er).1,s26 _ _ (ra j a r ea er).2⟩
   .rw[vj ()]at ea;rw[vj ()]at er;have hjl:j-as.length=0:=by
     have:=(vv.mp ea).1;simp at this;rfl'
    rw[hjl]at ea;rw[show j-(rows.take i).length=0 by rfl']at er;cases ea;cases er;exact⟨n1,hb⟩
 .have ei':i=rows.length:=()
  subst ei';rw[w0N]at la ra;refine .inl ⟨w2 rows.length (by rw[wn];exact wt _),k D _ H2 nD e2 (sm.trans s2) ⟨as,rfl,nd,la,λj a r e1 e2=>⟨sm.free (ra j a r e1 e2).1,(ra j a r e1 e2).2⟩⟩⟩
theorem z2a{N:fq}{scope:Scope}{tg elt iter:az}{pos:Pos}{i:Nat}{x:Str}{pos' spos:Pos}(hN:X.N.Nodup)(hix:X.N[i]?=aa x)(hx:X.env.scope.names.lookup x=aa .local)
  (hsw:cD (.ListComp elt [⟨tg,iter,[],0⟩] scope pos) (aa (.Name x pos')) spos.line X.env=pure af) (S:CompScope X N scope nt js) (hc:X.calm=af) (hi:jh X tg iter Fi) (hg:∀cl C fp s H,PG (C2 X N scope cl C fp s H) tg (g.low X.K)) (hb:g.below nt)
  (he:∀cl C fp s H,PF (C2 X N scope cl C fp s H) elt Fe) (hs:∀x,bp iter X.env x=pure x:=by intro _;rfl) :
  PS X (.Assign [.Name x pos'] (.ListComp elt [⟨tg,iter,[],0⟩] scope pos) spos) (ie (Jv nt js (mB X Fi) (g.low X.K) (mC λH1=>iH ⟨X.K,H1⟩ fYes) (oF λH1=>my ⟨X.K,H1⟩ Fe)) (Ad i)):=
 YA hN hix hx S hc hi hg (Tg.ok hb) (λcl C fp s H=>PTs.frame (t:=λH1=>iH ⟨X.K,H1⟩ fYes) P5) (λcl C fp s H=>PE.frame (he cl C fp s H)) hsw hs
end
end L2
end
end
section
set_option maxHeartbeats 1000000
namespace K27
open St
open PySem L2
noncomputable section
abbrev g0a:fq:=["_law_script","_law_drawn","_law_kinds","_law_chosen","_law_others","_law_one","_law_other_here","_law_same_here","_law_due","_law_table","_law_row_here"]
abbrev g0b:fq:=["hall","kinds","rungs","many","both","square","whole","bound"]
abbrev g0c:fq:=["_law_script","_law_drawn","_law_one","_law_other_here","_law_others","_law_table","_law_kinds","_law_basket","_law_behind","_law_uses","_law_moved","_law_here","_law_left","_law_there"]
abbrev g0d:fq:=["_law_kinds","_law_bills","_law_table","_law_row_here","_law_number_here","_law_rows","_law_hall","_law_k","_law_aim"]
abbrev g0e:fq:=["_law_script","_law_mode","_law_kinds","_law_size","_law_many","_law_others","_law_one","_law_other_here"]
abbrev g0f:fq:=["hall","one","other"]
abbrev g0g:fq:=["one","other"]
abbrev g0h:fq:=["rows","tags","whole","many","square","weights","other","both"]
abbrev g0i:fq:=["measured","kinds","ones","places","wraps","both"]
abbrev g0j:fq:=["_law_script","_law_drawn","_law_one","_law_other_here","_law_others","_law_table"]
abbrev g0k:fq:=["_law_script","_law_at","_law_size","_law_mode"]
abbrev g0l:fq:=["_law_rows","_law_kinds","_law_cell","_law_one","_law_other_here","_law_made","_law_row_here","_law_kept_here"]
abbrev g0m:fq:=["_law_bills","_law_one","_law_other_here","_law_uses"]
abbrev g0n:fq:=["weights","part"]
abbrev g0o:fq:=["_law_one","_law_other_here","_law_times"]
abbrev g0p:fq:=["hall"]
abbrev g0q:fq:=["one","other","ours","theirs","many","baskets","places"]
abbrev g0r:fq:=["rungs","width"]
abbrev g0s:fq:=["_law_bills","_law_one","_law_other_here","_law_scale"]
abbrev g0t:fq:=["_law_hall","_law_bills","_law_one","_law_other_here"]
abbrev g0u:fq:=["measured"]
abbrev g0v:fq:=["a","b","upper","lower","often","left"]
abbrev g0w:fq:=["_law_script"]
abbrev g0x:fq:=["_law_kinds","_law_bills","_law_table"]
abbrev g0y:fq:=["_law_bills","_law_kinds","_law_size","_law_made","_law_k"]
abbrev g0z:fq:=["_law_size","_law_rows","_law_times","_law_made","_law_j"]
abbrev g1a:fq:=["_law_bills","_law_kinds","_law_size"]
abbrev g1b:fq:=["_law_size","_law_rows","_law_times"]
abbrev g1c:fq:=["_law_rows","_law_kinds","_law_cell"]
abbrev g1d:fq:=["a","b"]
abbrev g1e:fq:=["row","rungs"]
abbrev g1f:fq:=["measured","basket"]
abbrev g1g:fq:=["_law_script","_law_k"]
abbrev g1h:fq:=["_law_weights","_law_row_here"]
abbrev g1i:fq:=["length","one_at"]
abbrev g1j:fq:=["rungs","row","found","left","places","pair"]
abbrev g1k:fq:=["value","length"]
abbrev g1l:fq:=["measured","found","first","second","pair"]
abbrev g1m:fq:=["row","weights"]
abbrev g1n:fq:=["value","kinds"]
abbrev g1o:fq:=["_law_script","_law_drawn"]
abbrev g1p:fq:=["weights","part","basket"]
abbrev g1q:fq:=["kinds","rows"]
abbrev g1r:fq:=["rows","width"]
abbrev g1s:fq:=["rows","counts","length"]
abbrev g1t:fq:=["_law_found","_law_size"]
abbrev g1u:fq:=["row","often"]
abbrev g1v:fq:=["rows","tags"]
abbrev g1w:fq:=["_law_cell","_law_mode"]
abbrev g1x:fq:=["value"]
abbrev g1y:fq:=["kinds","basket"]
abbrev g1z:fq:=["place","row","square"]
abbrev g2a:fq:=["row","part"]
abbrev g2b:fq:=["rows","tags","whole"]
abbrev g2c:fq:=["place","rung","left"]
abbrev g2d:fq:=["hall","basket"]
abbrev g2e:fq:=["scale","found"]
abbrev g2f:fq:=["_law_rows"]
abbrev g2g:fq:=["bill","kinds"]
abbrev g2h:fq:=["rung","width"]
abbrev g2i:fq:=["way","scale"]
abbrev g2j:fq:=["row"]
abbrev g2k:fq:=["_law_found"]
abbrev g2l:fq:=["_law_part"]
abbrev g2m:fq:=["kinds","bills"]
abbrev g2n:fq:=["_law_row_here"]
abbrev g2o:fq:=["length"]
abbrev g2p:fq:=["a","part"]
abbrev g2q:fq:=["rows"]
abbrev g2r:fq:=["spot","kinds"]
abbrev g2s:fq:=["rungs","row"]
abbrev g2t:fq:=["spot","rows"]
abbrev g2u:fq:=["place","row"]
abbrev g2v:fq:=["rung","row"]
abbrev g2w:fq:=["row","many"]
abbrev g2x:fq:=["number"]
abbrev g2y:fq:=["row","tag"]
def Gf:FS:=(sRet (vAnd (fIsi "int" (fN 0)) (vNot (fIsi "bool" (fN 0)))))
def U3:FC:=fQ 1 1 af Gf
def Ly:FS:=(sSeq (sIf (fOr (fNot (fTru (fIsi "list" (fN 0)))) (n4 (fOp opNe (fBlt bLen (b7 (fN 0) fNil)) (fN 1)))) (sRet (fC (.bl ab))) w8)
 (sRet (fBlt bAll (b7 (j8 1 [] (iSeq (fN 0)) (Tg.one 0) fYes (i0 af U3 (b7 (fN 0) fNil))) fNil))))
def DM:FC:=fQ 2 2 af Ly
def IF:FS:=(sRet (j8 1 [] (j9 (fN 0)) (Tg.one 0) fYes (fC (.int 0))))
def Q5:FC:=fQ 1 1 af IF
def Gg:FS:=(sRet (j8 1 [1] (j9 (fN 0)) (Tg.one 0) fYes (fIf (n4 (fOp opEq (fN 0) (fN 1))) (fC (.int 1)) (fC (.int 0)))))
def E7:FC:=fQ 2 2 af Gg
def PM:FS:=(sRet (j8 2 [] (iZip (fN 0) (fN 1)) (Tg.many [0,1]) fYes (fOp o6 (fN 0) (fN 1))))
def X9:FC:=fQ 2 2 af PM
def PN:FS:=(sRet (j8 2 [] (iZip (fN 0) (fN 1)) (Tg.many [0,1]) fYes (fOp Ae (fN 0) (fN 1))))
def CJ:FC:=fQ 2 2 af PN
def Lz:FS:=(sRet (j8 1 [1] (iSeq (fN 0)) (Tg.one 0) fYes (fOp D9 (fN 1) (fN 0))))
def C9:FC:=fQ 2 2 af Lz
def IG:FS:=(sRet (fBlt bSum (b7 (j8 2 [] (iZip (fN 0) (fN 1)) (Tg.many [0,1]) fYes (fOp D9 (fN 0) (fN 1))) fNil)))
def Z3:FC:=fQ 2 2 af IG
def PQ:FS:=(sSeq (sSet [] 3 (i0 af Q5 (b7 (fN 2) fNil)))
 (sSeq (sFor [] (iZip (fN 0) (fN 1)) (Tg.many [4,5])
 (sSet [] 3 (i0 af X9 (b7 (fN 3) (b7 (i0 af C9 (b7 (fN 4) (b7 (fN 5) fNil))) fNil)))))
 (sRet (fN 3))))
def EJ:FC:=fQ 3 6 af PQ
def II:FS:=(sSeq (sFor [] (Ak (fN 0)) (Tg.many [1,2])
 (sIf (n4 (fOp opNe (fN 2) (fC (.int 0)))) (sRet (fN 1)) w8))
 (sRet (fBlt bLen (b7 (fN 0) fNil))))
def n9:FC:=fQ 1 3 af II
def DN:FS:=(sRet (vAnd (i0 af U3 (b7 (fN 0) fNil)) (Px opLe opLe (fC (.int 1)) (fN 0) (fC (.int 6)))))
def AX:FC:=fQ 1 1 af DN
def IJ:FS:=(sRet (vAnd (i0 af DM (b7 (fN 0) (b7 (fN 1) fNil))) (fBlt bAll (b7 (j8 1 [] (iSeq (fN 0)) (Tg.one 0) fYes (fOp opLt (fBlt bAbs (b7 (fN 0) fNil)) (fOp Jw (fC (.int 10)) (fC (.int 30))))) fNil))))
def EK:FC:=fQ 2 2 af IJ
def CK:FS:=(sIf (fNot (fTru (i0 af AX (b7 (fN 0) fNil)))) KW w8)
def Y3:FC:=fQ 1 1 af CK
def DO:FS:=(sIf (fNot (fTru (i0 af EK (b7 (fN 0) (b7 (fN 1) fNil))))) KW w8)
def Q6:FC:=fQ 2 2 af DO
def IK:FS:=(sRet (fTup (b7 (fN 0) (b7 (fBlt bTup (b7 (j8 1 [] (iSeq (fN 1)) (Tg.one 0) fYes (fBlt bTup (b7 (fN 0) fNil))) fNil)) fNil))))
def EL:FC:=fQ 2 2 af IK
def IL:FS:=(sSeq (Fw (i0 af Y3 (b7 (fN 0) fNil)))
 (sSeq (sIf (fOr (fNot (fTru (fIsi "list" (fN 1)))) (n4 (fOp opGt (fBlt bLen (b7 (fN 1) fNil)) (fC (.int 8))))) KW w8)
 (sSeq (sFor [] (iSeq (fN 1)) (Tg.one 2)
 (Fw (i0 af Q6 (b7 (fN 2) (b7 (fN 0) fNil)))))
 (sRet (i0 af EL (b7 (fN 0) (b7 (fN 1) fNil)))))))
def Z4:FC:=fQ 2 3 af IL
def U4:FS:=(sIf (fNot (fTru (i0 af DM (b7 (fN 1) (b7 (fN 0) fNil))))) KW w8)
def N5:FC:=fQ 2 2 af U4
def Bq:FS:=(Fw (i0 af N5 (b7 (fAt (fN 0) (fC (.int 0))) (b7 (fN 1) fNil))))
def O3:FC:=fQ 2 2 af Bq
def LA:FS:=(sRet (i0 af Q5 (b7 (fAt (fN 0) (fC (.int 0))) fNil)))
def Hf:FC:=fQ 1 1 af LA
def PR:FS:=(sSeq (Fw (i0 af O3 (b7 (fN 0) (b7 (fN 1) fNil))))
 (sSeq (Fw (i0 af O3 (b7 (fN 0) (b7 (fN 2) fNil))))
 (sRet (i0 af CJ (b7 (fN 2) (b7 (fN 1) fNil))))))
def EM:FC:=fQ 3 3 af PR
def LB:FS:=(sSeq (sSet [] 2 (fLst (b7 (fN 0) (b7 (fC (.int 1)) (b7 (fC (.int 0)) fNil)))))
 (sSeq (sSet [] 3 (fLst (b7 (fN 1) (b7 (fC (.int 0)) (b7 (fC (.int 1)) fNil)))))
 (sSeq (Bm (n4 (fOp opNe (fAt (fN 3) (fC (.int 0))) (fC (.int 0)))) (sSeq (sSet [] 4 (fOp Af (fAt (fN 2) (fC (.int 0))) (fAt (fN 3) (fC (.int 0)))))
 (sSeq (sSet [] 5 (j8 1 [2,4,3] (j9 (fC (.int 3))) (Tg.one 0) fYes (fOp Ae (fAt (fN 1) (fN 0)) (fOp D9 (fN 2) (fAt (fN 3) (fN 0))))))
 (sSeq (sSet [] 2 (fN 3))
 (sSet [] 3 (fN 5))))))
 (sSeq (sIf (n4 (fOp opLt (fAt (fN 2) (fC (.int 0))) (fC (.int 0)))) (sSet [] 2 (j8 1 [] (iSeq (fN 2)) (Tg.one 0) fYes (fNeg (fN 0)))) w8)
 (sRet (fBlt bTup (b7 (fN 2) fNil)))))))
def DP:FC:=fQ 2 6 af LB
def PU:FS:=(sSeq (sIf (n4 (fOp opEq (fN 1) (fC (.int 0)))) (sRet (fN 0)) w8)
 (sRet (fOp F8 (fN 0) (fN 1))))
def Bs:FC:=fQ 2 2 af PU
def IM:FS:=(sSeq (sSet [] 1 (fC (.int 1)))
 (sSeq (sFor [] (iSeq (fN 0)) (Tg.one 2)
 (sSet [] 1 (fOp D9 (fN 1) (fN 2))))
 (sRet (fN 1))))
def EN:FC:=fQ 1 3 af IM
def Gh:FS:=(sSeq (sSet [] 2 (fBlt bLst (b7 (fN 0) fNil)))
 (sSeq (sOwn 3 (fLst fNil))
 (sSeq (sFor [] (iSeq (fN 1)) (Tg.one 4)
 (sSeq (sSet [] 5 (i0 af n9 (b7 (fN 4) fNil)))
 (sSeq (sSet [] 6 (fOp Af (fAt (fN 2) (fN 5)) (fAt (fN 4) (fN 5))))
 (sSeq (sIf (n4 (fOp opNe (fN 6) (fC (.int 0)))) (sSet [] 2 (i0 af CJ (b7 (fN 2) (b7 (i0 af C9 (b7 (fN 4) (b7 (fN 6) fNil))) fNil)))) w8)
 (sWr wApp 3 (fN 6))))))
 (sRet (fTup (b7 (fN 3) (b7 (fN 2) fNil)))))))
def CL:FC:=fQ 2 7 af Gh
def IN:FS:=(sRet (fAt (i0 af CL (b7 (fN 0) (b7 (fN 1) fNil))) (fC (.int 1))))
def D8:FC:=fQ 2 2 af IN
def IP:FS:=(sSeq (sSet [] 2 (i0 af n9 (b7 (fN 0) fNil)))
 (sSeq (sSet [] 3 (i0 af DP (b7 (fAt (fN 0) (fN 2)) (b7 (fAt (fN 1) (fN 2)) fNil))))
 (sSeq (sSet [] 4 (i0 af X9 (b7 (i0 af C9 (b7 (fN 0) (b7 (fAt (fN 3) (fC (.int 1))) fNil))) (b7 (i0 af C9 (b7 (fN 1) (b7 (fAt (fN 3) (fC (.int 2))) fNil))) fNil))))
 (sSeq (sSet [] 5 (i0 af CJ (b7 (i0 af C9 (b7 (fN 1) (b7 (fOp Af (fAt (fN 0) (fN 2)) (fAt (fN 3) (fC (.int 0)))) fNil))) (b7 (i0 af C9 (b7 (fN 0) (b7 (fOp Af (fAt (fN 1) (fN 2)) (fAt (fN 3) (fC (.int 0)))) fNil))) fNil))))
 (sRet (fTup (b7 (fN 4) (b7 (fN 5) fNil))))))))
def Z5:FC:=fQ 2 6 af IP
def DQ:FS:=(sRet (fIf (n4 (fOp opLt (fAt (fN 0) (i0 af n9 (b7 (fN 0) fNil))) (fC (.int 0)))) (i0 af C9 (b7 (fN 0) (b7 (fNeg (fC (.int 1))) fNil))) (fBlt bLst (b7 (fN 0) fNil))))
def G4:FC:=fQ 1 1 af DQ
def Av:FS:=(sSeq (sOwn 2 (fBlt bLst (b7 (fN 0) fNil)))
 (sSeq (V8 3 (i0 af D8 (b7 (fN 1) (b7 (fN 2) fNil))))
 (sSeq (Bm (n4 (fOp opLt (i0 af n9 (b7 (fN 3) fNil)) (fBlt bLen (b7 (fN 3) fNil)))) (sSeq (V8 4 (j8 2 [3] (Ak (fN 2)) (Tg.many [0,1]) (n4 (fOp opEq (i0 af n9 (b7 (fN 1) fNil)) (i0 af n9 (b7 (fN 2) fNil)))) (fN 0)))
 (sSeq (sIf (n4 (fOp opEq (fBlt bLen (b7 (fN 4) fNil)) (fC (.int 0)))) (sRet (FV n9 (fOp o6 (fN 2) (fLst (b7 (i0 af G4 (b7 (fN 3) fNil)) fNil))))) w8)
 (sSeq (V8 5 (i0 af Z5 (b7 (fAt (fN 2) (fAt (fN 4) (fC (.int 0)))) (b7 (fN 3) fNil))))
 (sSeq (sPut 2 (fAt (fN 4) (fC (.int 0))) (fAt (fN 5) (fC (.int 0))))
 (V8 3 (i0 af D8 (b7 (fAt (fN 5) (fC (.int 1))) (b7 (fN 2) fNil)))))))))
 (sRet (fN 2)))))
def U5:FC:=fQ 2 6 ab Av
def LC:FS:=(sSeq (sOwn 1 (fLst fNil))
 (sSeq (sFor [] (iRev (fN 0)) (Tg.one 2)
 (sWrA Lc 1 (i0 af D8 (b7 (fN 2) (b7 (fN 1) fNil)))))
 (sRet (fN 1))))
def DR:FC:=fQ 1 3 af LC
def IQ:FS:=(sSeq (sSet [] 1 (fLst fNil))
 (sSeq (sFor [] (iSeq (fN 0)) (Tg.one 2)
 (sSet [] 1 (i0 af DR (b7 (i0 ab U5 (b7 (fN 1) (b7 (fN 2) fNil))) fNil))))
 (sRet (fN 1))))
def Q7:FC:=fQ 1 3 af IQ
def T0:FS:=(sRet (i0 af Q7 (b7 (j8 2 [] (iZip (fN 0) (fN 1)) (Tg.many [0,1]) fYes (fOp o6 (fBlt bLst (b7 (fN 0) fNil)) (fBlt bLst (b7 (fN 1) fNil)))) fNil)))
def B6:FC:=fQ 2 2 af T0
def X2:FS:=(sRet (j8 1 [1] (iSeq (fN 0)) (Tg.one 0) (n4 (fOp opLt (i0 af n9 (b7 (fN 0) fNil)) (fN 1))) (ic (fN 0) (G6 (fN 1)) A4)))
def P0:FC:=fQ 2 2 af X2
def U6:FS:=(sRet (j8 1 [1] (iSeq (fN 0)) (Tg.one 0) (n4 (fOp opGe (i0 af n9 (b7 (fN 0) fNil)) (fN 1))) (ic (fN 0) (G6 (fN 1)) A4)))
def D3:FC:=fQ 2 2 af U6
def PV:FS:=(sRet (i0 af Q7 (b7 (fAt (fN 0) (fC (.int 1))) fNil)))
def AY:FC:=fQ 1 1 af PV
def T1:FS:=(sSeq (sSet [] 1 (fBlt bLen (b7 (fAt (fN 0) (fC (.int 1))) fNil)))
 (sRet (i0 af B6 (b7 (fAt (fN 0) (fC (.int 1))) (b7 (j8 1 [1] (j9 (fN 1)) (Tg.one 0) fYes (i0 af E7 (b7 (fN 1) (b7 (fN 0) fNil)))) fNil)))))
def B5:FC:=fQ 1 2 af T1
def LD:FS:=(sRet (j8 1 [0] (j9 (fN 1)) (Tg.one 0) fYes (j8 1 [0] (iSeq (fN 1)) (Tg.one 0) fYes (fAt (fN 0) (fN 1)))))
def W5:FC:=fQ 2 2 af LD
def CM:FS:=(sSeq (sFor [] (Ak (fN 0)) (Tg.many [1,2])
 (sIf (fOr (n4 (fOp opNe (i0 af n9 (b7 (fN 2) fNil)) (fN 1))) (fTru (fBlt bAny (b7 (j8 1 [] (iSeq (ic (fN 2) (G6 (fOp o6 (fN 1) (fC (.int 1)))) A4)) (Tg.one 0) fYes (fOp opNe (fN 0) (fC (.int 0)))) fNil)))) (sRet (fC (.bl ab))) w8))
 (sRet (fC (.bl af))))
def P7:FC:=fQ 1 3 af CM
def PX:FS:=(sRet (j8 1 [1] (iSeq (fN 0)) (Tg.one 0) fYes (i0 af Bs (b7 (fN 0) (b7 (fN 1) fNil)))))
def V5:FC:=fQ 2 2 af PX
def BR:FS:=(sSeq (sSet [] 3 (fBlt bLen (b7 (fN 0) fNil)))
 (sSeq (sSet [] 4 (fN 0))
 (sSeq (sSet [] 5 (fN 1))
 (sSeq (Bm (fNot (fTru (i0 af P7 (b7 (fN 4) fNil)))) (sSeq (sSet [] 6 (i0 af W5 (b7 (i0 af Q7 (b7 (i0 af W5 (b7 (fN 4) (b7 (fN 3) fNil))) fNil)) (b7 (fN 3) fNil))))
 (sSeq (sSet [] 7 (i0 af B6 (b7 (fN 6) (b7 (fN 5) fNil))))
 (sSeq (sSet [] 4 (j8 1 [3] (iSeq (fN 7)) (Tg.one 0) fYes (ic (fN 0) A4 (G6 (fN 1)))))
 (sSet [] 5 (j8 1 [3,2] (iSeq (fN 7)) (Tg.one 0) fYes (i0 af V5 (b7 (ic (fN 0) (G6 (fN 1)) A4) (b7 (fN 2) fNil)))))))))
 (sRet (j8 2 [4] (Ak (fN 5)) (Tg.many [0,1]) fYes (fTup (b7 (fN 1) (b7 (fAt (fAt (fN 2) (fN 0)) (fN 0)) fNil)))))))))
def EO:FC:=fQ 3 8 ab BR
def DS:FS:=(sSeq (sSet [] 2 (i0 af DP (b7 (fAt (fN 0) (fC (.int 1))) (b7 (fAt (fN 1) (fC (.int 1))) fNil))))
 (sSeq (sSet [] 3 (fAt (fN 2) (fC (.int 0))))
 (sSeq (sSet [] 4 (fOp D9 (fOp Af (fAt (fN 0) (fC (.int 1))) (fN 3)) (fAt (fN 1) (fC (.int 1)))))
 (sSeq (sSet [] 5 (i0 af X9 (b7 (fAt (fN 0) (fC (.int 0))) (b7 (fAt (fN 1) (fC (.int 0))) fNil))))
 (sSeq (sSet [] 6 (i0 af X9 (b7 (i0 af C9 (b7 (fAt (fN 0) (fC (.int 0))) (b7 (fOp D9 (fNeg (fAt (fN 2) (fC (.int 2)))) (fOp Af (fAt (fN 1) (fC (.int 1))) (fN 3))) fNil))) (b7 (i0 af C9 (b7 (fAt (fN 1) (fC (.int 0))) (b7 (fOp D9 (fAt (fN 2) (fC (.int 1))) (fOp Af (fAt (fN 0) (fC (.int 1))) (fN 3))) fNil))) fNil))))
 (sRet (fTup (b7 (fTup (b7 (i0 af V5 (b7 (fN 5) (b7 (fN 3) fNil))) (b7 (fN 3) fNil))) (b7 (fTup (b7 (i0 af V5 (b7 (fN 6) (b7 (fN 4) fNil))) (b7 (fN 4) fNil))) fNil)))))))))
def Aw:FC:=fQ 2 7 af DS
def BS:FS:=(sSeq (sOwn 1 (fBlt bLst (b7 (fN 0) fNil)))
 (sSeq (JB (j9 (fBlt bLen (b7 (fN 1) fNil))) (Tg.one 2)
 (JB (Cv (fOp o6 (fN 2) (fC (.int 1))) (fBlt bLen (b7 (fN 1) fNil))) (Tg.one 3)
 (sSeq (V8 4 (i0 af Aw (b7 (fAt (fN 1) (fN 2)) (b7 (fAt (fN 1) (fN 3)) fNil))))
 (sSeq (sPut 1 (fN 2) (fAt (fN 4) (fC (.int 0))))
 (sPut 1 (fN 3) (fAt (fN 4) (fC (.int 1))))))))
 (sRet (j8 2 [] (iSeq (fN 1)) (Tg.many [0,1]) fYes (fTup (b7 (i0 af V5 (b7 (fN 0) (b7 (fN 1) fNil))) (b7 (fN 1) fNil)))))))
def Z6:FC:=fQ 1 5 af BS
def Ax:FS:=(sSeq (sSet [] 1 (fAt (fN 0) (fC (.int 0))))
 (sSeq (sSet [] 2 (i0 af AY (b7 (fN 0) fNil)))
 (sSeq (sSet [] 3 (fBlt bLen (b7 (fN 2) fNil)))
 (sSeq (sSet [] 4 (i0 af B6 (b7 (i0 af W5 (b7 (fN 2) (b7 (fN 1) fNil))) (b7 (j8 1 [1] (j9 (fN 1)) (Tg.one 0) fYes (i0 af E7 (b7 (fN 1) (b7 (fN 0) fNil)))) fNil))))
 (sSeq (sSet [] 5 (j8 1 [3] (iSeq (ic (fN 4) A4 (G6 (fN 3)))) (Tg.one 0) fYes (ic (fN 0) A4 (G6 (fN 1)))))
 (sSeq (sSet [] 6 (i0 af EN (b7 (j8 2 [] (Ak (fN 5)) (Tg.many [0,1]) fYes (fAt (fN 1) (fN 0))) fNil)))
 (sSeq (sSet [] 7 (i0 ab EO (b7 (fN 5) (b7 (j8 1 [3] (iSeq (ic (fN 4) A4 (G6 (fN 3)))) (Tg.one 0) fYes (ic (fN 0) (G6 (fN 1)) A4)) (b7 (fN 6) fNil)))))
 (sRet (fOp o6 (i0 af Z6 (b7 (fN 7) fNil)) (j8 1 [] (iSeq (i0 af D3 (b7 (fN 4) (b7 (fN 3) fNil)))) (Tg.one 0) fYes (fTup (b7 (fN 0) (b7 (fC (.int 0)) fNil)))))))))))))
def r8:FC:=fQ 1 8 ab Ax
def PY:FS:=(sRet (j8 2 [] (iSeq (i0 ab r8 (b7 (fN 0) fNil))) (Tg.many [0,1]) fYes (fN 1)))
def EQ:FC:=fQ 1 1 af PY
def Gi:FS:=(sRet (j8 2 [1] (iSeq (fN 0)) (Tg.many [0,1]) fYes (i0 af Bs (b7 (i0 af Z3 (b7 (fN 2) (b7 (fN 0) fNil))) (b7 (fN 1) fNil)))))
def M4:FC:=fQ 2 2 af Gi
def CN:FS:=(sSeq (sSet [] 1 (fBlt bLen (b7 (fN 0) fNil)))
 (sSeq (sSet [] 2 (j8 1 [1] (j9 (fN 1)) (Tg.one 0) fYes (i0 af E7 (b7 (fN 1) (b7 (fN 0) fNil)))))
 (sSeq (sSet [] 3 (j8 1 [0] (iSeq (fN 2)) (Tg.one 0) fYes (i0 af M4 (b7 (fN 1) (b7 (fN 0) fNil)))))
 (sSeq (sSet [] 4 (j8 1 [2,0] (j9 (fN 1)) (Tg.one 0) fYes (i0 af C9 (b7 (fAt (fN 1) (fN 0)) (b7 (fAt (fAt (fN 2) (fN 0)) (fC (.int 1))) fNil)))))
 (sSeq (sSet [] 5 (i0 af B6 (b7 (fOp o6 (fN 3) (fN 4)) (b7 (fOp o6 (fN 2) (j8 1 [1] (j9 (fN 1)) (Tg.one 0) fYes (i0 af Q5 (b7 (fN 1) fNil)))) fNil))))
 (sRet (i0 af P0 (b7 (fN 5) (b7 (fN 1) fNil)))))))))
def Y4:FC:=fQ 1 6 af CN
def Ko:FS:=(sRet (j8 2 [] (iSeq (fN 0)) (Tg.many [0,1]) (n4 (fOp opNe (fN 1) (fC (.int 1)))) (fN 1)))
def AZ:FC:=fQ 1 1 af Ko
def Ba:FS:=(sRet (fOp opEq (i0 af AZ (b7 (i0 ab r8 (b7 (fN 0) fNil)) fNil)) (i0 af AZ (b7 (i0 ab r8 (b7 (fN 1) fNil)) fNil))))
def Bb:FC:=fQ 2 2 af Ba
def CO:FS:=(sSeq (sSet [] 2 (i0 ab r8 (b7 (fN 0) fNil)))
 (sSeq (sSet [] 3 (i0 ab r8 (b7 (fN 1) fNil)))
 (sSeq (sIf (n4 (fOp opNe (i0 af AZ (b7 (fN 2) fNil)) (i0 af AZ (b7 (fN 3) fNil)))) (sRet (fC .non)) w8)
 (sSeq (sSet [] 4 (fBlt bLen (b7 (i0 af AZ (b7 (fN 2) fNil)) fNil)))
 (sSeq (sSet [] 5 (ic (i0 af Y4 (b7 (fN 3) fNil)) (G6 (fOp Ae (fAt (fN 1) (fC (.int 0))) (fN 4))) A4))
 (sSeq (sSet [] 6 (j8 1 [2,0] (j9 (fAt (fN 0) (fC (.int 0)))) (Tg.one 0) fYes (i0 af M4 (b7 (fN 1) (b7 (i0 af E7 (b7 (fAt (fN 2) (fC (.int 0))) (b7 (fN 0) fNil))) fNil)))))
 (sRet (j8 1 [5,0,4,1] (iSeq (fN 6)) (Tg.one 0) fYes (i0 af EJ (b7 (fN 1) (b7 (ic (fN 0) (G6 (fOp Ae (fAt (fN 2) (fC (.int 0))) (fN 3))) A4) (b7 (fAt (fN 4) (fC (.int 0))) fNil))))))))))))
def Ay:FC:=fQ 2 7 af CO
def IR:FS:=(sSeq (sSet [] 3 (i0 af C9 (b7 (i0 af EM (b7 (fN 0) (b7 (fN 1) (b7 (fN 2) fNil)))) (b7 (fNeg (fC (.int 1))) fNil))))
 (sSeq (sSet [] 4 (i0 af D8 (b7 (fOp o6 (fN 3) (i0 af Q5 (b7 (fBlt bLen (b7 (fAt (fN 0) (fC (.int 1))) fNil)) fNil))) (b7 (i0 af B5 (b7 (fN 0) fNil)) fNil))))
 (sSeq (sIf (n4 (fOp opNe (ic (fN 4) A4 (G6 (fAt (fN 0) (fC (.int 0))))) (i0 af Hf (b7 (fN 0) fNil)))) (sRet (fC .non)) w8)
 (sRet (ic (fN 4) (G6 (fAt (fN 0) (fC (.int 0)))) A4)))))
def ER:FC:=fQ 3 5 af IR
def PZ:FS:=(sRet (i0 af ER (b7 (fN 0) (b7 (fN 1) (b7 (fN 2) fNil)))))
def IS:FC:=fQ 3 3 af PZ
def DT:FS:=(sRet (j8 2 [] (iSeq (i0 ab r8 (b7 (fN 0) fNil))) (Tg.many [0,1]) (n4 (fOp opNe (fN 1) (fC (.int 1)))) (fTup (b7 (fN 0) (b7 (fN 1) fNil)))))
def T2:FC:=fQ 1 1 ab DT
def Ug:FS:=(sRet (i0 af Bs (b7 (i0 af Z3 (b7 (fN 0) (b7 (fAt (fN 1) (fC (.int 0))) fNil))) (b7 (fAt (fN 1) (fC (.int 1))) fNil))))
def DU:FC:=fQ 2 2 af Ug
def U7:FS:=(sRet (fTup (b7 (fAt (fN 0) (fC (.int 0))) (b7 (fIf (n4 (fOp opEq (fAt (fN 0) (fC (.int 1))) (fC (.int 0)))) (fOp o6 (fBlt bAbs (b7 (fN 1) fNil)) (fC (.int 1))) (fAt (fN 0) (fC (.int 1)))) fNil))))
def J3:FC:=fQ 2 2 ab U7
def BU:FS:=(sSeq (sSet [] 3 (i0 af EM (b7 (fN 0) (b7 (fN 1) (b7 (fN 2) fNil)))))
 (sSeq (sFor [] (iSeq (i0 ab T2 (b7 (fN 0) fNil))) (Tg.one 4)
 (sSeq (sSet [] 5 (i0 af DU (b7 (fN 3) (b7 (fN 4) fNil))))
 (sIf (n4 (fOp opNe (fN 5) (fC (.int 0)))) (sRet (i0 ab J3 (b7 (fN 4) (b7 (fN 5) fNil)))) w8)))
 (sRet (fC .non))))
def Az:FC:=fQ 3 6 ab BU
def DV:FS:=(sSeq (sIf (n4 (fOp opLt (fN 1) (fBlt bLen (b7 (fN 0) fNil)))) (sRet (fAt (fN 0) (fN 1))) w8)
 (sSeq (sIf (n4 (fOp opEq (fN 0) (fLst fNil))) (sRet (fC (.int 0))) w8)
 (sRet (fOp o6 (fOp D9 (fAt (fN 0) (fOp F8 (fN 1) (fBlt bLen (b7 (fN 0) fNil)))) (fC (.int 31))) (fN 1)))))
def o0:FC:=fQ 2 2 af DV
def ES:FS:=(sRet (vAnd (fIsi "int" (fN 0)) (vNot (fIsi "bool" (fN 0)))))
def N6:FC:=fQ 1 1 af ES
def Gj:FS:=(sSeq (sIf (fOr (fNot (fTru (fIsi "list" (fN 0)))) (n4 (fOp opNe (fBlt bLen (b7 (fN 0) fNil)) (fN 1)))) (sRet (fC (.bl ab))) w8)
 (sSeq (sFor [] (iSeq (fN 0)) (Tg.one 2)
 (sIf (fNot (fTru (i0 af N6 (b7 (fN 2) fNil)))) (sRet (fC (.bl ab))) w8))
 (sRet (fC (.bl af)))))
def P8:FC:=fQ 2 3 af Gj
def AA:FS:=(sSeq (sIf (n4 (fOp opEq (fN 1) (fC (.int 2)))) (sSeq (sSet [] 2 (fOp F8 (fN 0) (fOp Jw (fC (.int 10)) (fC (.int 30)))))
 (sSeq (sIf (n4 (fOp opEq (fOp F8 (fOp Af (fN 0) (fOp Jw (fC (.int 10)) (fC (.int 30)))) (fC (.int 2))) (fC (.int 1)))) (sRet (fNeg (fN 2))) w8)
 (sRet (fN 2)))) w8)
 (sSeq (sSet [] 3 (fAt (fLst (b7 (fC (.int 9)) (b7 (fC (.int 61)) fNil))) (fN 1)))
 (sSeq (sSet [] 2 (fOp F8 (fN 0) (fN 3)))
 (sSeq (sIf (n4 (fOp opGt (fN 2) (fOp Af (fN 3) (fC (.int 2))))) (sRet (fOp Ae (fN 2) (fN 3))) w8)
 (sRet (fN 2))))))
def U8:FC:=fQ 2 4 af AA
def Qb:FS:=(sRet (j8 1 [0,1,3] (j9 (fN 2)) (Tg.one 0) fYes (i0 af U8 (b7 (i0 af o0 (b7 (fN 1) (b7 (fOp o6 (fN 2) (fN 0)) fNil))) (b7 (fN 3) fNil)))))
def T3:FC:=fQ 4 4 af Qb
def Qc:FS:=(sSeq (sSet [] 3 (j8 1 [] (j9 (fN 0)) (Tg.one 0) fYes (fC (.int 0))))
 (sSeq (sFor [] (j9 (fBlt bLen (b7 (fN 1) fNil))) (Tg.one 4)
 (sSet [] 3 (j8 1 [3,2,4,1] (j9 (fN 0)) (Tg.one 0) fYes (fOp o6 (fAt (fN 1) (fN 0)) (fOp D9 (fAt (fN 2) (fN 3)) (fAt (fAt (fN 4) (fN 3)) (fN 0)))))))
 (sRet (fN 3))))
def T4:FC:=fQ 3 5 af Qc
def LG:FS:=(sRet (j8 1 [0,2,1] (j9 (fBlt bLen (b7 (fN 0) fNil))) (Tg.one 0) fYes (fOp o6 (fAt (fN 1) (fN 0)) (fOp D9 (fN 2) (fAt (fN 3) (fN 0))))))
def DW:FC:=fQ 3 3 af LG
def IT:FS:=(sSeq (sSet [] 2 (fC (.int 0)))
 (sSeq (sFor [] (j9 (fBlt bLen (b7 (fN 1) fNil))) (Tg.one 3)
 (sSet [] 2 (fOp o6 (fN 2) (fOp D9 (fAt (fN 0) (fN 3)) (fAt (fN 1) (fN 3))))))
 (sRet (fN 2))))
def U9:FC:=fQ 2 4 af IT
def IU:FS:=(sSeq (sIf (fNot (fTru (i0 af P8 (b7 (fN 3) (b7 (fBlt bLen (b7 (fN 0) fNil)) fNil))))) (sRet (fC (.bl ab))) w8)
 (sRet (fOp opEq (i0 af DW (b7 (fN 1) (b7 (i0 af T4 (b7 (fBlt bLen (b7 (fN 1) fNil)) (b7 (fN 0) (b7 (fN 3) fNil)))) (b7 (fC (.int 1)) fNil)))) (fN 2))))
def BV:FC:=fQ 4 4 af IU
def Gk:FS:=(sSeq (sIf (fOr (fNot (fTru (fIsi "tuple" (fN 3)))) (fOr (n4 (fOp opNe (fBlt bLen (b7 (fN 3) fNil)) (fC (.int 2)))) (fNot (fTru (i0 af N6 (b7 (fAt (fN 3) (fC (.int 1))) fNil)))))) (sRet (fC (.bl ab))) w8)
 (sSeq (sIf (fOr (fNot (fTru (i0 af P8 (b7 (fAt (fN 3) (fC (.int 0))) (b7 (fBlt bLen (b7 (fN 1) fNil)) fNil))))) (n4 (fOp opLt (fAt (fN 3) (fC (.int 1))) (fC (.int 2))))) (sRet (fC (.bl ab))) w8)
 (sSeq (sFor [] (iSeq (fN 0)) (Tg.one 4)
 (sIf (n4 (fOp opNe (fOp F8 (i0 af U9 (b7 (fAt (fN 3) (fC (.int 0))) (b7 (fN 4) fNil))) (fAt (fN 3) (fC (.int 1)))) (fC (.int 0)))) (sRet (fC (.bl ab))) w8))
 (sRet (fOp opNe (fOp F8 (i0 af U9 (b7 (fAt (fN 3) (fC (.int 0))) (b7 (i0 af DW (b7 (fN 2) (b7 (fN 1) (b7 (fNeg (fC (.int 1))) fNil)))) fNil))) (fAt (fN 3) (fC (.int 1)))) (fC (.int 0)))))))
def AB:FC:=fQ 4 5 af Gk
def Kp:FS:=(sSeq (sSet [] 1 (fAt (fLst (b7 (fC (.int 0)) (b7 (fC (.int 0)) (b7 (fC (.int 0)) (b7 (fC (.int 1)) fNil))))) (fOp F8 (i0 af o0 (b7 (fN 0) (b7 (fC (.int 2)) fNil))) (fC (.int 4)))))
 (sSeq (sSet [] 2 (fOp o6 (fC (.int 1)) (fOp F8 (i0 af o0 (b7 (fN 0) (b7 (fC (.int 0)) fNil))) (fC (.int 3)))))
 (sSeq (sSet [] 3 (fOp o6 (fC (.int 1)) (fOp F8 (i0 af o0 (b7 (fN 0) (b7 (fC (.int 4)) fNil))) (fC (.int 3)))))
 (sSeq (sIf (n4 (fOp opEq (fOp F8 (i0 af o0 (b7 (fN 0) (b7 (fC (.int 4)) fNil))) (fC (.int 7))) (fC (.int 6)))) (sSeq (sSet [] 2 (fC (.int 6)))
 (sSet [] 1 (fC (.int 0)))) w8)
 (sSeq (sSet [] 4 (fOp F8 (i0 af o0 (b7 (fN 0) (b7 (fC (.int 1)) fNil))) (fC (.int 4))))
 (sSeq (sSet [] 5 (fOp F8 (i0 af o0 (b7 (fN 0) (b7 (fC (.int 3)) fNil))) (fC (.int 4))))
 (sSeq (sSet [] 6 (j8 1 [0,2,1] (j9 (fN 4)) (Tg.one 0) fYes (i0 af T3 (b7 (fN 1) (b7 (fOp o6 (fC (.int 8)) (fOp D9 (fN 2) (fN 0))) (b7 (fN 2) (b7 (fN 3) fNil)))))))
 (sSeq (sSet [] 7 (j8 1 [0,3,1] (j9 (fN 5)) (Tg.one 0) fYes (i0 af T3 (b7 (fN 1) (b7 (fOp o6 (fC (.int 27)) (fOp D9 (fN 2) (fN 0))) (b7 (fN 2) (b7 (fN 3) fNil)))))))
 (sRet (fTup (b7 (fN 2) (b7 (fN 6) (b7 (fN 3) (b7 (fN 7) fNil))))))))))))))
def Qd:FC:=fQ 1 8 af Kp
def Gm:FS:=(sRet (j8 1 [] (iSeq (fN 0)) (Tg.one 0) fYes (fBlt bLst (b7 (fN 0) fNil))))
def AC:FC:=fQ 1 1 af Gm
def Hg:FS:=(sSeq (sSet [] 4 (i0 af IS (b7 (fN 0) (b7 (fBlt bLst (b7 (fN 2) fNil)) (b7 (fBlt bLst (b7 (fN 3) fNil)) fNil)))))
 (sSeq (sIf (n4 (fOp Du (fN 4) (fC .non))) (sRet (fAt (fLst (b7 (fC .non) (b7 (fC (.bl af)) fNil))) (fBlt bInt (b7 (i0 af BV (b7 (fN 1) (b7 (fN 2) (b7 (fN 3) (b7 (fN 4) fNil))))) fNil)))) w8)
 (sSeq (sSet [] 5 (i0 ab Az (b7 (fN 0) (b7 (fBlt bLst (b7 (fN 2) fNil)) (b7 (fBlt bLst (b7 (fN 3) fNil)) fNil)))))
 (sSeq (sIf (fOr (n4 (fOp NF (fN 5) (fC .non))) (fNot (fTru (i0 af AB (b7 (fN 1) (b7 (fN 2) (b7 (fN 3) (b7 (fN 5) fNil)))))))) (sRet (fC .non)) w8)
 (sRet (fC (.bl ab)))))))
def M5:FC:=fQ 4 6 af Hg
def Q8(a b:Nat)(c:Int)(r:aH):aH:=
 if c.fmod 3=0 then(r.set a (r.getD b 0)).set b (r.getD a 0)
 else if a≠b then r.set a (r.getD a 0+((c.fdiv 61).fmod 5-2)*r.getD b 0)
 else r.set a (-(r.getD a 0))
structure TurnOk(rows:aA)(n:Nat)(c:Int):Prop where
 n1:1<=n
 n6:n<=6
 wide:∀r∈rows,r.length=n
 few:rows.length<=8
 small:∀r∈rows,∀x∈r,x.natAbs<2^900
def K6:FC:=λds=>@dite _ (∃(rows:aA)(n:Nat)(c:Int),ds=[LL rows,.int n,.int c]/\TurnOk rows n c) (Classical.propDecidable _) (λh=>aa (LL ((vd h).map (Q8 (((vd (wE (wE h))).fdiv 3).fmod ((vd (wE h):Nat):Int)).toNat (((vd (wE (wE h))).fdiv 17).fmod ((vd (wE h):Nat):Int)).toNat (vd (wE (wE h))))))) λ_=>aj
def DX:FS:=(sSeq (sFor [] (iSeq (fN 2)) (Tg.one 3)
 (sFor [] (iSeq (fN 3)) (Tg.one 4)
 (sIf (n4 (fOp opGe (fBlt bAbs (b7 (fN 4) fNil)) (fOp Jw (fC (.int 10)) (fC (.int 30))))) (sRet (fC (.bl af))) w8)))
 (sSeq (sSet [] 5 (fOp o6 (fN 1) (fN 2)))
 (sSeq (sIf (n4 (fOp opGt (fBlt bLen (b7 (fN 5) fNil)) (fC (.int 8)))) (sRet (fC (.bl af))) w8)
 (sSeq (sSet [] 6 (i0 af Z4 (b7 (fN 0) (b7 (i0 af AC (b7 (fN 5) fNil)) fNil))))
 (sSeq (sFor [] (j9 (fN 0)) (Tg.one 7)
 (sSeq (sSet [] 8 (j8 1 [7] (j9 (fN 0)) (Tg.one 0) fYes (fBlt bInt (b7 (fOp opEq (fN 0) (fN 1)) fNil))))
 (sIf (n4 (fOp Ld (i0 af M5 (b7 (fN 6) (b7 (fN 5) (b7 (j8 1 [] (j9 (fN 0)) (Tg.one 0) fYes (fC (.int 0))) (b7 (fN 8) fNil))))) (fC (.bl af)))) (sRet (fC (.bl ab))) w8)))
 (sRet (fC (.bl af))))))))
def DY:FC:=fQ 3 9 af DX
def Bt:FS:=(sSeq (sOwn 3 (j8 1 [2,1] (iSeq (fN 0)) (Tg.one 0) fYes (fOp o6 (fBlt bLst (b7 (fN 0) fNil)) (j8 1 [] (j9 (fOp Ae (fN 1) (fN 2))) (Tg.one 0) fYes (fC (.int 0))))))
 (sSeq (sFor [] (Cv (fN 1) (fN 2)) (Tg.one 4)
 (sWr wApp 3 (j8 1 [4] (j9 (fN 2)) (Tg.one 0) fYes (fBlt bInt (b7 (fOp opEq (fN 0) (fN 1)) fNil)))))
 (sRet (fN 3))))
def Bu:FC:=fQ 3 5 af Bt
def Z7:FS:=(sSeq (sSet [] 2 (fOp F8 (i0 af o0 (b7 (fN 0) (b7 (fC (.int 5)) fNil))) (fC (.int 3))))
 (sSeq (sIf (n4 (fOp opEq (fN 2) (fC (.int 0)))) (sRet (fTup (b7 (fAt (fN 1) (fC (.int 2))) (b7 (fAt (fN 1) (fC (.int 3))) (b7 (fC (.bl ab)) fNil))))) w8)
 (sSeq (sSet [] 3 (fAt (fN 1) (fC (.int 1))))
 (sSeq (sSet [] 4 (fAt (fN 1) (fC (.int 0))))
 (sSeq (sIf (fAnd (n4 (fOp opEq (fN 2) (fC (.int 2)))) (n4 (fOp opLt (fN 4) (fC (.int 4))))) (sSeq (sSet [] 4 (fOp o6 (fOp o6 (fN 4) (fC (.int 1))) (fOp F8 (i0 af o0 (b7 (fN 0) (b7 (fC (.int 7)) fNil))) (fC (.int 2)))))
 (sSet [] 3 (i0 af Bu (b7 (fN 3) (b7 (fAt (fN 1) (fC (.int 0))) (b7 (fN 4) fNil)))))) w8)
 (sSeq (sFor [] (j9 (fOp o6 (fC (.int 2)) (fOp F8 (i0 af o0 (b7 (fN 0) (b7 (fC (.int 6)) fNil))) (fC (.int 4))))) (Tg.one 5)
 (sSet [] 3 (i0 af K6 (b7 (fN 3) (b7 (fN 4) (b7 (i0 af o0 (b7 (fN 0) (b7 (fOp o6 (fC (.int 40)) (fN 5)) fNil))) fNil))))))
 (sRet (fTup (b7 (fN 4) (b7 (fN 3) (b7 (fC (.bl af)) fNil)))))))))))
def IV:FC:=fQ 2 6 ab Z7
def LH:FS:=(sSeq (sSet [] 6 (fAt (fN 1) (fC (.int 0))))
 (sSeq (sSet [] 7 (i0 af T3 (b7 (fN 0) (b7 (fC (.int 46)) (b7 (fN 6) (b7 (fC (.int 0)) fNil))))))
 (sSeq (sSet [] 8 (i0 af T3 (b7 (fN 0) (b7 (fC (.int 52)) (b7 (fN 6) (b7 (fC (.int 0)) fNil))))))
 (sSeq (sIf (n4 (fOp opEq (fOp F8 (i0 af o0 (b7 (fN 0) (b7 (fC (.int 7)) fNil))) (fC (.int 2))) (fC (.int 1)))) (sSeq (sSet [] 9 (i0 af T3 (b7 (fN 0) (b7 (fC (.int 52)) (b7 (fBlt bLen (b7 (fAt (fN 1) (fC (.int 1))) fNil)) (b7 (fC (.int 0)) fNil))))))
 (sSeq (sSet [] 10 (i0 af T4 (b7 (fN 6) (b7 (fAt (fN 1) (fC (.int 1))) (b7 (fN 9) fNil)))))
 (sSet [] 8 (j8 1 [7,10] (j9 (fN 6)) (Tg.one 0) fYes (fOp o6 (fAt (fN 1) (fN 0)) (fAt (fN 2) (fN 0))))))) w8)
 (sSeq (sSet [] 11 (i0 af M5 (b7 (fN 2) (b7 (fAt (fN 1) (fC (.int 1))) (b7 (fN 7) (b7 (fN 8) fNil))))))
 (sSeq (sSet [] 12 (i0 af T4 (b7 (fAt (fN 3) (fC (.int 0))) (b7 (fN 5) (b7 (fN 7) fNil)))))
 (sSeq (sSet [] 13 (i0 af M5 (b7 (fN 3) (b7 (fN 4) (b7 (fN 12) (b7 (i0 af T4 (b7 (fAt (fN 3) (fC (.int 0))) (b7 (fN 5) (b7 (fN 8) fNil)))) fNil))))))
 (sRet (vAnd (fOp Du (fN 11) (fC .non)) (fOp opEq (fN 11) (fN 13)))))))))))
def LI:FC:=fQ 6 14 af LH
def z2b:FS:=(sSeq (sSet [] 1 (i0 af Qd (b7 (fN 0) fNil)))
 (sSeq (sSet [] 2 (fAt (fN 1) (fC (.int 0))))
 (sSeq (sSet [] 3 (i0 ab IV (b7 (fN 0) (b7 (fN 1) fNil))))
 (sSeq (sSet [] 4 (fAt (fN 3) (fC (.int 1))))
 (sSeq (sSet [] 5 (i0 af Z4 (b7 (fN 2) (b7 (i0 af AC (b7 (fAt (fN 1) (fC (.int 1))) fNil)) fNil))))
 (sSeq (sSet [] 6 (i0 af Z4 (b7 (fAt (fN 3) (fC (.int 0))) (b7 (i0 af AC (b7 (fN 4) fNil)) fNil))))
 (sSeq (sSet [] 7 (i0 af Bb (b7 (fN 5) (b7 (fN 6) fNil))))
 (sSeq (sSet [] 8 (fOp opEq (j8 1 [] (iSeq (i0 af EQ (b7 (fN 5) fNil))) (Tg.one 0) (n4 (fOp opNe (fN 0) (fC (.int 1)))) (fN 0)) (j8 1 [] (iSeq (i0 af EQ (b7 (fN 6) fNil))) (Tg.one 0) (n4 (fOp opNe (fN 0) (fC (.int 1)))) (fN 0))))
 (sSeq (sSet [] 9 (i0 af Ay (b7 (fN 5) (b7 (fN 6) fNil))))
 (sSeq (sIf (fOr (fNot (fTru (fIsi "bool" (fN 7)))) (n4 (fOp opNe (fN 7) (fN 8)))) (sRet (fC (.bl ab))) w8)
 (sSeq (sIf (fNot (fTru (fN 7))) (sRet (vAnd (fOp NF (fN 9) (fC .non)) (vNot (fAt (fN 3) (fC (.int 2)))))) w8)
 (sSeq (sIf (fOr (fNot (fTru (fIsi "list" (fN 9)))) (n4 (fOp opNe (fBlt bLen (b7 (fN 9) fNil)) (fN 2)))) (sRet (fC (.bl ab))) w8)
 (sSeq (sFor [] (iSeq (fN 9)) (Tg.one 10)
 (sIf (fNot (fTru (i0 af P8 (b7 (fN 10) (b7 (fAt (fN 3) (fC (.int 0))) fNil))))) (sRet (fC (.bl ab))) w8))
 (sRet (vAnd (i0 af LI (b7 (fN 0) (b7 (fN 1) (b7 (fN 5) (b7 (fN 6) (b7 (fN 4) (b7 (fN 9) fNil))))))) (i0 af DY (b7 (fAt (fN 3) (fC (.int 0))) (b7 (fN 4) (b7 (fN 9) fNil)))))))))))))))))))
def Ze:FC:=fQ 1 11 af z2b
theorem C3(ns:aH)(k:Int)(h0:0<=k):o0 [.scr ns,.int k]=aa (.int (u9 ns k)):=by
 unfold o0 DV u9;by_cases h:k<ns.length
 .have e:gJ ns k=aa (ns.getD k.toNat 0):=by
    rw[YL h0,wa ()];simp[am,wa (show k.toNat<ns.length by rfl')]
  simp[fQ,h,e]
 .by_cases h2:ns=[]
  .subst h2;simp[fQ,h,Rq [] [],show ¬k<0 by rfl'];rfl
  .have hp:0<ns.length:=List.length_pos_iff.mpr h2;obtain⟨f1,f2⟩:=B4 k (show(0:Int)<ns.length by rfl');have e:gJ ns (k.fmod ns.length)=aa (ns.getD (k.fmod ns.length).toNat 0):=by
    rw[YL f1,wa ()];simp[am,wa (show(k.fmod ns.length).toNat<ns.length by rfl')]
   have e2:opEq (.scr ns) (.lst [])=aa (.nw,.bl ab):=by have:=Rq ns [];rw[bh h2]at this;exact this
   simp[fQ,h,h2,e,e2,JD,X3,show ¬((ns.length:Int)=0) by rfl']
theorem RU(c m:Int)(h0:0<=m)(h3:m<3):U8 [.int c,.int m]=aa (.int (Fx c m)):=by
 unfold U8 Fx;have hm:m=0\/m=1\/m=2:=()
 have d30:K9 c 1000000000000000000000000000000=af:=by unfold K9;decide
 have d9:K9 9 2=af:=by unfold K9;decide
 have d61:K9 61 2=af:=by unfold K9;decide
 have p30:GL 10 30=af:=by unfold GL;decide
 have two:∀(m w v:Int),m≠2->gJ [Dt.int 9,Dt.int 61] m=aa (.int w)->0<w->K9 w 2=af->w.fdiv 2=v->fQ 2 4 af AA [.int c,.int m]=aa (.int (if v<c.fmod w then c.fmod w-w else c.fmod w)):=λm w v hm2 ha hw hd hv=>by
   refine I0 (f:=.nw) rfl (run (ρ':=[.sh ab (.int c),.sh ab (.int m),.no,.no]) (by simp[fQ,v6,hm2]) (run (ρ':=[.sh ab (.int c),.sh ab (.int m),.no,.sh af (.int w)]) (by simp[fQ,ha]) (run (ρ':=[.sh ab (.int c),.sh ab (.int m),.sh af (.int (c.fmod w)),.sh af (.int w)]) (by simp[fQ,X3,show ¬w=0 by rfl']) ?_))) rfl;by_cases h:v<c.fmod w
   .simp[fQ,hd,hv,h]
   .simp[fQ,hd,hv,h]
 rcases hm with rfl|rfl|rfl
 .exact(two 0 9 4 (by decide) rfl (by decide) d9 rfl).trans (by simp)
 .exact(two 1 61 30 (by decide) rfl (by decide) d61 rfl).trans (by simp)
 .by_cases h:(c.fdiv 1000000000000000000000000000000).fmod 2=1
  .simp[fQ,AA,v6,X3,p30,d30,h]
  .simp[fQ,AA,v6,X3,p30,d30,h]
theorem Hi(ns:aH)(a:Int)(n:Nat)(m:Int)(ha:0<=a)(hn:n<=1000)(h0:0<=m)(h3:m<3):T3 [.scr ns,.int a,.int n,.int m]=aa (L (A8 ns a n m)):=by
 unfold T3 Qb;have q:j8 1 [0,1,3] (j9 (fN 2)) (Tg.one 0) fYes (i0 af U8 (b7 (i0 af o0 (b7 (fN 1) (b7 (fOp o6 (fN 2) (fN 0)) fNil))) (b7 (fN 3) fNil))) (rho0 4 [.scr ns,.int a,.int n,.int m])=aa (.nw,L (A8 ns a n m)):=by
  have:=k7 (nt:=1) (js:=[0,1,3]) (Fi:=j9 (fN 2)) (g:=Tg.one 0) (Fe:=i0 af U8 (b7 (i0 af o0 (b7 (fN 1) (b7 (fOp o6 (fN 2) (fN 0)) fNil))) (b7 (fN 3) fNil))) (ρ:=rho0 4 [.scr ns,.int a,.int n,.int m]) (e:=λ(k:Nat)=>.int (0+(k:Int))) (h:=λ(k:Nat)=>.int (Fx (u9 ns (a+(k:Int))) m)) (xs:=ah n)
   (by simp[fQ,j9,intD,Ah,o9,show(n:Int)<=1000000 by rfl',show -1000000<=(n:Int) by rfl'])
   (λk hk=>by simp[fQ,Tg.put,sigD,Jz,C3 ns (a+(k:Int)) (),RU _ m h0 h3])
  rw[this];simp[L,A8]
 exact I0 rfl (f:=.nw) (by unfold sRet;rw[q];rfl) rfl
theorem JG(d:Dt):U3 [d]=aa (.bl (isWh d)):=by
 unfold U3 Gf;cases d<;>simp[fQ,isWh,Dt.flat,nrm]<;>simp[tyN,Dt.flat]
theorem Oe(a:aH)(n:Int):DM [L a,.int n]=aa (.bl (decide ((a.length:Int)=n))):=by
 unfold DM Ly;have q:j8 1 [] (iSeq (fN 0)) (Tg.one 0) fYes (i0 af U3 (b7 (fN 0) fNil)) [.sh ab (L a),.sh ab (.int n)]=aa (.nw,.lst (a.map λ_=>.bl af)):=
   k7 (e:=Dt.int) (h:=λ_=>.bl af) (xs:=a) (by simp[fQ]) (λx _=>by simp[fQ,Tg.put,sigD,JG,isWh])
 by_cases h:(a.length:Int)=n
 .simp[fQ,A7,h,q,bAll,EB (λ_=>af) a]
 .simp[fQ,A7,h]
theorem CP(n:Nat)(h:n<=1000):Q5 [.int n]=aa (L (l9 n)):=by
 unfold Q5 IF;have q:j8 1 [] (j9 (fN 0)) (Tg.one 0) fYes (fC (.int 0)) [.sh ab (.int n)]=aa (.nw,L (l9 n)):=by
  rw[k7 (e:=λ(k:Nat)=>.int (0+(k:Int))) (h:=λ_=>.int 0) (xs:=ah n) (by simp[fQ,j9,intD,Ah,o9,show(n:Int)<=1000000 by rfl',show -1000000<=(n:Int) by rfl']) (λx _=>by simp[fQ,Tg.put])];simp[L,l9,w1U]
 simp[fQ,q]
theorem Hj(a b:aH)(h:a.length=b.length):X9 [L a,L b]=aa (L (gy a b)):=by
 unfold X9 PM;have q:j8 2 [] (iZip (fN 0) (fN 1)) (Tg.many [0,1]) fYes (fOp o6 (fN 0) (fN 1)) [.sh ab (L a),.sh ab (L b)]=aa (.nw,L (gy a b)):=by
  rw[k7 (e:=λp:Int×Int=>.tup [.int p.1,.int p.2]) (h:=λp=>.int (p.1+p.2)) (xs:=a.zip b) (by simp[fQ,iZip,h,Am]) (λp _=>by simp[fQ,Tg.put,Ai,sigD]),z1R]
 simp[fQ,q]
theorem LJ(a b:aH)(h:a.length=b.length):CJ [L a,L b]=aa (L (gq a b)):=by
 unfold CJ PN;have q:j8 2 [] (iZip (fN 0) (fN 1)) (Tg.many [0,1]) fYes (fOp Ae (fN 0) (fN 1)) [.sh ab (L a),.sh ab (L b)]=aa (.nw,L (gq a b)):=by
  rw[k7 (e:=λp:Int×Int=>.tup [.int p.1,.int p.2]) (h:=λp=>.int (p.1-p.2)) (xs:=a.zip b) (by simp[fQ,iZip,h,Am]) (λp _=>by simp[fQ,Tg.put,Ai,sigD]),z0d]
 simp[fQ,q]
theorem J4(a:aH)(k:Int)(h:∀x∈a,E4 k x=af):C9 [L a,.int k]=aa (L (gh k a)):=by
 unfold C9 Lz;have q:j8 1 [1] (iSeq (fN 0)) (Tg.one 0) fYes (fOp D9 (fN 1) (fN 0)) [.sh ab (L a),.sh ab (.int k)]=aa (.nw,L (gh k a)):=by
  rw[k7 (e:=Dt.int) (h:=λx=>.int (k*x)) (xs:=a) (by simp[fQ]) (λx hx=>by simp[fQ,Tg.put,sigD,Jz,h x hx])];simp[L,gh]
 simp[fQ,q]
theorem Qe(n:Nat)(h1:1<=n)(h2:n<=6):AX [.int n]=aa (.bl af):=by
 unfold AX DN;have e:=JG (.int n);simp[fQ,e,isWh,Px,show(1:Int)<=n by rfl',show(n:Int)<=6 by rfl']
theorem Nk(n:Nat)(h1:1<=n)(h2:n<=6):Y3 [.int n]=aa .non:=by
 unfold Y3 CK;simp[fQ,Qe n h1 h2]
theorem Uh(a:aH)(n:Nat)(hl:a.length=n)(h:∀x∈a,x.natAbs<10^30):EK [L a,.int n]=aa (.bl af):=by
 unfold EK IJ;have e:=Oe a n;have p30:GL 10 30=af:=by unfold GL;decide
 have q:j8 1 [] (iSeq (fN 0)) (Tg.one 0) fYes (fOp opLt (fBlt bAbs (b7 (fN 0) fNil)) (fOp Jw (fC (.int 10)) (fC (.int 30)))) [.sh ab (L a),.sh ab (.int n)]=aa (.nw,.lst (a.map λ_=>.bl af)):=
  k7 (e:=Dt.int) (h:=λ_=>.bl af) (xs:=a) (by simp[fQ]) (λx hx=>by
   have:=h x hx;have:(if x<0 then -x else x)<1000000000000000000000000000000:=by split<;>rfl'
   simp[fQ,Tg.put,sigD,bAbs,p30,this])
 simp[fQ,e,hl,q,bAll,EB (λ_=>af) a]
theorem Qf(a:aH)(n:Nat)(hl:a.length=n)(h:∀x∈a,x.natAbs<10^30):Q6 [L a,.int n]=aa .non:=by
 unfold Q6 DO;simp[fQ,Uh a n hl h]
theorem Ui(k:Int)(rows:aA):EL [.int k,LL rows]=aa (k6 k rows):=by
 unfold EL IK;have q:j8 1 [] (iSeq (fN 1)) (Tg.one 0) fYes (fBlt bTup (b7 (fN 0) fNil)) [.sh ab (.int k),.sh ab (LL rows)]=aa (.nw,.lst (rows.map T)):=
  k7 (e:=L) (h:=T) (xs:=rows) (by simp[fQ]) (λx hx=>by simp[fQ,Tg.put,sigD,bTup,Al])
 simp[fQ,q,bTup,NL]
theorem Gn(n:Nat)(bills:aA)(h1:1<=n)(h2:n<=6)(hm:bills.length<=8)(hw:Wide n bills)(hb:∀r∈bills,∀x∈r,x.natAbs<10^30):Z4 [.int n,LL bills]=aa (k6 n bills):=by
 unfold Z4 IL;obtain⟨j,q⟩:=BG (g:=Tg.one 2) (F:=Fw (i0 af Q6 (b7 (fN 2) (b7 (fN 0) fNil)))) (e:=L) (R:=λ(_:Unit)(c:Cell)=>[.sh ab (.int n),.sh ab (LL bills),c]) (step:=λ_ _=>.unit) bills .unit .no
  (λb x j hx=>⟨.sh ab (L x),by simp[fQ,Tg.put,Qf x n (hw x hx) (hb x hx)]⟩)
 have q:gk (Tg.one 2) (Fw (i0 af Q6 (b7 (fN 2) (b7 (fN 0) fNil)))) (bills.map L) [.sh ab (.int n),.sh ab (LL bills),.no]=aa (.nx [.sh ab (.int n),.sh ab (LL bills),j]):=q;simp[fQ,Nk n h1 h2,show ¬(8<(bills.length:Int)) by rfl',q,Ui]
theorem DZ(n:Nat)(bills:aA)(b:aH)(h:b.length=n):O3 [k6 n bills,L b]=aa .non:=by
 have e:N5 [.int n,L b]=aa .non:=by
  unfold N5 U4;simp[fQ,Oe,h]
 unfold O3 Bq;simp[fQ,gJ,iD,e]
theorem z0v(n:Nat)(bills:aA)(h:n<=1000):Hf [k6 n bills]=aa (L (l9 n)):=by
 unfold Hf LA;simp[fQ,gJ,iD,CP n h]
theorem RV(n:Nat)(bills:aA)(a b:aH)(ha:a.length=n)(hb:b.length=n):EM [k6 n bills,L a,L b]=aa (L (gq b a)):=by
 unfold EM PR;have e:=LJ b a (by rw[ha,hb]);simp[fQ,DZ n bills a ha,DZ n bills b hb,e]
abbrev HF:FS:=sIf (n4 (fOp opNe (fN 2) (fC (.int 0)))) (sRet (fN 1)) w8
theorem Og(c0:Cell):∀(r:aH)(j:Nat)(c1 c2:Cell),(b8 r<r.length->gk (Tg.many [1,2]) HF (Aj j (r.map .int)) [c0,c1,c2]=aa (.rt .nw (.int ((j+b8 r:Nat):Int)))) /\
  (¬b8 r<r.length->∃c1' c2',gk (Tg.many [1,2]) HF (Aj j (r.map .int)) [c0,c1,c2]=aa (.nx [c0,c1',c2']))
 |[],j,c1,c2=>⟨λh=>by simp[b8]at h,λ_=>⟨c1,c2,rfl⟩⟩
 |x::r,j,c1,c2=>by
  obtain⟨i1,i2⟩:=Og c0 r (j+1) (.sh ab (.int j)) (.sh ab (.int x));rw[wx,Aj,F0];by_cases hx:x=0
  .have e:(Tg.put (Tg.many [1,2]) (.tup [.int j,.int x]) [c0,c1,c2]).bind HF=aa (.nx [c0,.sh ab (.int j),.sh ab (.int x)]):=by simp[fQ,A7,hx]
   have eh:b8 (x::r)=b8 r+1:=by simp[b8,hx]
   rw[e,eh,wu];refine⟨λh=>?_,λh=>i2 ()⟩;have:=i1 ();rw[show j+(b8 r+1)=j+1+b8 r by rfl'];exact this
  .have e:(Tg.put (Tg.many [1,2]) (.tup [.int j,.int x]) [c0,c1,c2]).bind HF=aa (.rt .nw (.int j)):=by simp[fQ,A7,hx]
   have eh:b8 (x::r)=0:=by simp[b8,hx]
   rw[e,eh,wu];exact⟨λ_=>rfl,λh=>aM (Nat.succ_pos _) h⟩
theorem D4(r:aH):n9 [L r]=aa (.int (b8 r)):=by
 unfold n9 II;obtain⟨h1,h2⟩:=Og (.sh ab (L r)) r 0 .no .no;have hl:=St.Ix r;by_cases h:b8 r<r.length
 .have h1:=h1 h;simp only[uu]at h1;simp[fQ,h1]
 .obtain⟨c1,c2,h2⟩:=h2 h;simp[fQ,h2,show b8 r=r.length by rfl']
theorem LK{r:aH}{k:Nat}(h:k<r.length):gJ (r.map Dt.int) (k:Int)=aa (.int (at0 r k)):=by
 rw[An,tH h];simp[at0,am,wa h]
theorem z5f(a b:aH)(q:Int):gq a (gh q b)=St.sub a q b:=by
 unfold gq gh St.sub;rw[w0W]
theorem Zf{r:aH}{x:Int}(h:x∈r):∃k,at0 r k=x:=by
 obtain⟨k,hk,e⟩:=w0o.mp h;exact⟨k,by simp[at0,am,wa hk,e]⟩
theorem Zg{x:Int}{m:Nat}(h:x.natAbs<2^m):bB x<=m:=Pu h
theorem V0{i j:Int}{m k:Nat}(h1:i.natAbs<2^m)(h2:j.natAbs<2^k)(h:m+k<=134217728):E4 i j=af:=by
 unfold E4;rw[aL (show bB i+bB j<=134217728 from by have:=Zg h1;have:=Zg h2;rfl')];rfl
theorem BW{i j:Int}(h0:0<j)(h:j<2^9000):K9 i j=af:=by
 unfold K9;rw[aL (show j≠0 by rfl'),aL (show j.natAbs.log2<9000 from ?_)]
 .rfl
 .rw[w1G ()];have:((2^9000:Nat):Int)=(2:Int)^9000:=by norm_cast
  rfl'
abbrev LF:FS:=(sSeq (sSet [] 5 (i0 af n9 (b7 (fN 4) fNil)))
 (sSeq (sSet [] 6 (fOp Af (fAt (fN 2) (fN 5)) (fAt (fN 4) (fN 5))))
 (sSeq (sIf (n4 (fOp opNe (fN 6) (fC (.int 0)))) (sSet [] 2 (i0 af CJ (b7 (fN 2) (b7 (i0 af C9 (b7 (fN 4) (b7 (fN 6) fNil))) fNil)))) w8)
 (sWr wApp 3 (fN 6)))))
theorem LM{n m:Nat}(hm:2*m<=134217728)(c0 c1:Cell):∀(S:aA)(left:aH)(cs:aH)(c4 c5 c6:Cell),(∀r∈S,r.length=n/\b8 r<n/\0<hd r/\hd r<2^9000)->left.length=n->St.LowB m left S->cs.length+S.length<=1000 ->
  ∃c4' c5' c6',gk (Tg.one 4) LF (S.map L) [c0,c1,.sh af (L left),.ow af (cs.map .int),c4,c5,c6]=aa (.nx [c0,c1,.sh af (L (m6 left S)),.ow af ((cs++Ll left S).map .int),c4',c5',c6'])
 |[],left,cs,c4,c5,c6,_,_,_,_=>⟨c4,c5,c6,by simp[z1O,m6,Ll]⟩
 | r::S,left,cs,c4,c5,c6,hr,hl,hb,hc=>by
  obtain⟨r1,r2,r3,r4⟩:=hr r wf;have hs:(St.sub left (C5 left r) r).length=n:=by rw[O9 ()];exact hl
  obtain⟨d4,d5,d6,ih⟩:=LM hm c0 c1 S (St.sub left (C5 left r) r) (cs++[C5 left r]) (.sh ab (L r)) (.sh af (.int (b8 r))) (.sh af (.int (C5 left r))) (λx hx=>hr x (wc _ hx)) hs hb.2 (by simp at hc|-;rfl');refine⟨d4,d5,d6,?_⟩;rw[wx,F0];have a1:=LK (r:=left) (k:=b8 r) ();have a2:=LK (r:=r) (k:=b8 r) ();have dv:K9 (at0 left (b8 r)) (at0 r (b8 r))=af:=BW r3 r4;have ef:(at0 left (b8 r)).fdiv (at0 r (b8 r))=C5 left r:=rfl;have hcs:cs.length<1000000:=by simp at hc;rfl'
  have e:(Tg.put (Tg.one 4) (L r) [c0,c1,.sh af (L left),.ow af (cs.map .int),c4,c5,c6]).bind LF=aa (.nx [c0,c1,.sh af (L (St.sub left (C5 left r) r)),.ow af ((cs++[C5 left r]).map .int),.sh ab (L r),.sh af (.int (b8 r)),.sh af (.int (C5 left r))]):=by
   refine(show LF [c0,c1,.sh af (L left),.ow af (cs.map .int),.sh ab (L r),c5,c6]=_ from run (ρ':=[c0,c1,.sh af (L left),.ow af (cs.map .int),.sh ab (L r),.sh af (.int (b8 r)),c6]) (by simp[fQ,D4]) (run (ρ':=[c0,c1,.sh af (L left),.ow af (cs.map .int),.sh ab (L r),.sh af (.int (b8 r)),.sh af (.int (C5 left r))]) (by simp[fQ,a1,a2,dv,ef]) (run (ρ':=[c0,c1,.sh af (L (St.sub left (C5 left r) r)),.ow af (cs.map .int),.sh ab (L r),.sh af (.int (b8 r)),.sh af (.int (C5 left r))]) ?_ (by simp[fQ,hcs]))));by_cases ho:C5 left r=0
   .have es:St.sub left (C5 left r) r=left:=by rw[ho];exact St.sub_zero ()
    rw[es];simp[fQ,ho,A7]
   .have mo:∀x∈r,E4 (C5 left r) x=af:=λx hx=>by
     obtain⟨k,rfl⟩:=Zf hx;rcases hb.1 with h|⟨h1,h2⟩
     .exact aM h ho
     .exact V0 h1 (h2 k) ()
    have e1:=J4 r (C5 left r) mo;have e2:=LJ left (gh (C5 left r) r) (by rw[A0];rfl');rw[z5f]at e2;simp[fQ,ho,A7,e1,e2]
  rw[e];show gk (Tg.one 4) LF (S.map L) _=_;rw[ih,m6,Ll];simp
def iG(d:Dt)(v:aH):Prop:=d=L v\/d=T v
theorem RW{n m:Nat}(d:Dt)(v:aH)(S:aA)(hd:iG d v)(hm:2*m<=134217728)(hr:∀r∈S,r.length=n/\b8 r<n/\0<St.hd r/\St.hd r<2^9000)(hl:v.length=n)(hb:St.LowB m v S)(hc:S.length<=1000):
   CL [d,LL S]=aa (.tup [L (Ll v S),L (m6 v S)]):=by
 unfold CL Gh;rcases hd with rfl|rfl
 .obtain⟨d4,d5,d6,q⟩:=LM hm (.sh ab (L v)) (.sh ab (LL S)) S v [] .no .no .no hr hl hb (by simpa using hc);simp[fQ]at q|-;simp[q]
 .obtain⟨d4,d5,d6,q⟩:=LM hm (.sh ab (T v)) (.sh ab (LL S)) S v [] .no .no .no hr hl hb (by simpa using hc);simp[fQ]at q|-;simp[q]
theorem CQ{n m:Nat}(d:Dt)(v:aH)(S:aA)(hd:iG d v)(hm:2*m<=134217728)(hr:∀r∈S,r.length=n/\b8 r<n/\0<St.hd r/\St.hd r<2^9000)(hl:v.length=n)(hb:St.LowB m v S)(hc:S.length<=1000):
  D8 [d,LL S]=aa (L (m6 v S)):=by
 have e:=RW d v S hd hm hr hl hb hc;have hn:nrm (flOf ab) d=(if d.flat then .nw else .sh,d):=rfl;unfold D8 IN;rcases hd with rfl|rfl<;>simp[fQ,e,tG]
theorem z0w{i j:Int}(h0:j≠0)(h:j.natAbs<2^9000):K9 i j=af:=by
 unfold K9;rw[aL h0,aL (show j.natAbs.log2<9000 from(w1G ()).mpr h)];rfl
abbrev BC:FT:=n4 (fOp opNe (fAt (fN 3) (fC (.int 0))) (fC (.int 0)))
abbrev BF:FS:=(sSeq (sSet [] 4 (fOp Af (fAt (fN 2) (fC (.int 0))) (fAt (fN 3) (fC (.int 0)))))
 (sSeq (sSet [] 5 (j8 1 [2,4,3] (j9 (fC (.int 3))) (Tg.one 0) fYes (fOp Ae (fAt (fN 1) (fN 0)) (fOp D9 (fN 2) (fAt (fN 3) (fN 0))))))
 (sSeq (sSet [] 2 (fN 3))
 (sSet [] 3 (fN 5)))))
theorem RX(c0 c1 c4 c5:Cell)(u0 u1 u2 l0 l1 l2:Int)(hl:l0≠0)(h:l0.natAbs<2^9000)(m0:E4 (u0.fdiv l0) l0=af)(m1:E4 (u0.fdiv l0) l1=af)(m2:E4 (u0.fdiv l0) l2=af):
  BF [c0,c1,.sh af (L [u0,u1,u2]),.sh af (L [l0,l1,l2]),c4,c5]=aa (.nx [c0,c1,.sh af (L [l0,l1,l2]),.sh af (L [u0-u0.fdiv l0*l0,u1-u0.fdiv l0*l1,u2-u0.fdiv l0*l2]),.sh af (.int (u0.fdiv l0)),.sh af (L [u0-u0.fdiv l0*l0,u1-u0.fdiv l0*l1,u2-u0.fdiv l0*l2])]):=by
 have dv:=z0w (i:=u0) hl h;have q:j8 1 [2,4,3] (j9 (fC (.int 3))) (Tg.one 0) fYes (fOp Ae (fAt (fN 1) (fN 0)) (fOp D9 (fN 2) (fAt (fN 3) (fN 0)))) [GP c0,GP c1,.sh af (L [u0,u1,u2]),.sh af (L [l0,l1,l2]),.sh af (.int (u0.fdiv l0)),GP c5]=aa (.nw,L [u0-u0.fdiv l0*l0,u1-u0.fdiv l0*l1,u2-u0.fdiv l0*l2]):=by
  rw[k7 (e:=λ(k:Nat)=>.int (0+(k:Int))) (h:=λ(k:Nat)=>.int ([u0,u1,u2].getD k 0-u0.fdiv l0*[l0,l1,l2].getD k 0)) (xs:=ah 3) (by simp[fQ,show Ah 3=af from CA (n:=3) (by decide),o9]) (λk hk=>by
   have hk:k<3:=wJ.mp hk;have a1:=M0 (xs:=[u0,u1,u2]) (i:=k) 0 hk;have a2:=M0 (xs:=[l0,l1,l2]) (i:=k) 0 hk;have mk:E4 (u0.fdiv l0) ([l0,l1,l2].getD k 0)=af:=by
    have:k=0\/k=1\/k=2:=()
    rcases this with rfl|rfl|rfl
    .exact m0
    .exact m1
    .exact m2
   generalize [u0,u1,u2].getD k 0=uk at *;generalize [l0,l1,l2].getD k 0=lk at *;generalize [u0,u1,u2]=us at *;generalize [l0,l1,l2]=ls at *;simp[fQ,An,a1,a2,mk])]
  rfl
 exact run (ρ':=[c0,c1,.sh af (L [u0,u1,u2]),.sh af (L [l0,l1,l2]),.sh af (.int (u0.fdiv l0)),c5]) (by simp[fQ,dv]) (run (ρ':=[c0,c1,.sh af (L [u0,u1,u2]),.sh af (L [l0,l1,l2]),.sh af (.int (u0.fdiv l0)),.sh af (L [u0-u0.fdiv l0*l0,u1-u0.fdiv l0*l1,u2-u0.fdiv l0*l2])]) (by simp[fQ,q]) (run (ρ':=[c0,c1,.sh af (L [l0,l1,l2]),.sh af (L [l0,l1,l2]),.sh af (.int (u0.fdiv l0)),.sh af (L [u0-u0.fdiv l0*l0,u1-u0.fdiv l0*l1,u2-u0.fdiv l0*l2])]) (by simp[fQ]) (by simp[fQ])))
theorem RY{a b:Int}{e:Nat}(he:e<=9000)(ha:a.natAbs<2^e)(hb:b.natAbs<2^e)(c0 c1:Cell):∀(k:Nat)(u0 u1 u2 l0 l1 l2:Int)(c4 c5:Cell),Br.BI a b u0 u1 u2 l0 l1 l2->l0.natAbs<=k ->
 ∃v0 v1 v2 w1 w2 d4 d5,E8 BC BF (k+1) [c0,c1,.sh af (L [u0,u1,u2]),.sh af (L [l0,l1,l2]),c4,c5]=aa (.nx [c0,c1,.sh af (L [v0,v1,v2]),.sh af (L [0,w1,w2]),d4,d5])/\Br.BI a b v0 v1 v2 0 w1 w2:=by
 intro k
 induction k using uP with
 |_ k IH=>
 intro u0 u1 u2 l0 l1 l2 c4 c5 B hk;have hc:BC [c0,c1,.sh af (L [u0,u1,u2]),.sh af (L [l0,l1,l2]),c4,c5]=aa (!decide (l0=0)):=by simp[fQ,A7]
 rw[E8,hc,v4];by_cases hl:l0=0
 .subst hl;exact⟨u0,u1,u2,l1,l2,c4,c5,by simp,B⟩
 .have p3:2^(e+3)=8*2^e:=by rw[vB];rfl'
  obtain⟨z1,z2,z3,z4⟩:=Br.YM u0 l0 hl;have c1':=B.c1;have c2':=B.c2;have b3:=B.b3;have b4:=B.b4;have hq:(u0.fdiv l0).natAbs<2^(e+3):=by
   have:1*(u0.fdiv l0).natAbs<=l0.natAbs*(u0.fdiv l0).natAbs:=wN _ ();rw[uG l0.natAbs]at this;rfl'
  have h9:(2:Nat)^e<=2^9000:=wq (by decide) he;have st:=RX c0 c1 c4 c5 u0 u1 u2 l0 l1 l2 hl () (V0 hq (show l0.natAbs<2^(e+3) by rfl') ()) (V0 hq (show l1.natAbs<2^(e+3) by rfl') ()) (V0 hq (show l2.natAbs<2^(e+3) by rfl') ());cases k with
  |zero=>rfl'
  |succ k=>
   obtain⟨v0,v1,v2,w1,w2,d4,d5,ih,B'⟩:=IH k (vU k) _ _ _ _ _ _ (.sh af (.int (u0.fdiv l0))) (.sh af (L [u0-u0.fdiv l0*l0,u1-u0.fdiv l0*l1,u2-u0.fdiv l0*l2])) (B.turn hl) ();refine⟨v0,v1,v2,w1,w2,d4,d5,?_,B'⟩;rw[st];simp only[hl,decide_false,w1Z,if_true,v4];exact ih
theorem Oh(a b:Int)(e:Nat)(he:e<=9000)(ha:a.natAbs<2^e)(hb:b.natAbs<2^e):∃x y,DP [.int a,.int b]=aa (T [(uQ a b:Int),x,y])/\a*x+b*y=uQ a b/\x.natAbs<=a.natAbs+2*b.natAbs+1/\y.natAbs<=a.natAbs+2*b.natAbs+1:=by
 obtain⟨v0,v1,v2,w1,w2,d4,d5,lp,B⟩:=RY he ha hb (.sh ab (.int a)) (.sh ab (.int b)) b.natAbs a 1 0 b 0 1 .no .no (Br.BI.start a b) (wt _);have lp:=Ez lp;have fin:=B.fin;have up:=B.up;have b1:=B.b1;have b2:=B.b2;have pre:∀{r:Option Oc},(sSeq (sIf (n4 (fOp opLt (fAt (fN 2) (fC (.int 0))) (fC (.int 0)))) (sSet [] 2 (j8 1 [] (iSeq (fN 2)) (Tg.one 0) fYes (fNeg (fN 0)))) w8) (sRet (fBlt bTup (b7 (fN 2) fNil)))) [.sh ab (.int a),.sh ab (.int b),.sh af (L [v0,v1,v2]),.sh af (L [0,w1,w2]),d4,d5]=r->LB (rho0 6 [.int a,.int b])=r:=λh=>run (ρ':=[.sh ab (.int a),.sh ab (.int b),.sh af (L [a,1,0]),.no,.no,.no]) (by simp[fQ,L]) (run (ρ':=[.sh ab (.int a),.sh ab (.int b),.sh af (L [a,1,0]),.sh af (L [b,0,1]),.no,.no]) (by simp[fQ,L]) (run lp h));have at0:gJ ([v0,v1,v2].map Dt.int) 0=aa (.int v0):=rfl;by_cases h0:v0<0
 .refine⟨-v1,-v2,?_,by rw[w0m,w0m];rfl',(),()⟩;have q:j8 1 [] (iSeq (fN 2)) (Tg.one 0) fYes (fNeg (fN 0)) [.sh ab (.int a),.sh ab (.int b),.sh af (L [v0,v1,v2]),.sh af (L [0,w1,w2]),GP d4,GP d5]=aa (.nw,L [-v0,-v1,-v2]):=by
   rw[k7 (e:=Dt.int) (h:=λx=>.int (-x)) (xs:=[v0,v1,v2]) (by simp[fQ,L]) (λx hx=>by simp[fQ])];rfl
  have e0:(uQ a b:Int) = -v0:=()
  rw[e0];refine I0 (f:=.nw) rfl (pre (run (ρ':=[.sh ab (.int a),.sh ab (.int b),.sh af (L [-v0,-v1,-v2]),.sh af (L [0,w1,w2]),d4,d5]) ?_ (by simp[fQ,T]))) rfl;generalize [v0,v1,v2]=vs at *;simp[fQ,at0,h0,q]
 .refine⟨v1,v2,?_,(),(),()⟩;have e0:(uQ a b:Int)=v0:=()
  rw[e0];refine I0 (f:=.nw) rfl (pre (run (ρ':=[.sh ab (.int a),.sh ab (.int b),.sh af (L [v0,v1,v2]),.sh af (L [0,w1,w2]),d4,d5]) ?_ (by simp[fQ,T]))) rfl;generalize [v0,v1,v2]=vs at *;simp[fQ,at0,h0]
theorem z5g(a b:aH)(x y:Int):gy (gh x a) (gh y b)=lin x a y b:=by
 unfold gy gh lin;rw[w1E]
theorem z2c(a b:aH)(x y:Int):gq (gh x a) (gh y b)=lin x a (-y) b:=by
 unfold gq gh lin;rw[w1E];congr 1
 funext p q
 rw[uq];rfl'
theorem ET{q:Int}{r:aH}{m k:Nat}(h1:q.natAbs<2^m)(h2:Lt (2^k) r)(h:m+k<=134217728):∀x∈r,E4 q x=af:=λx hx=>by
 obtain⟨i,rfl⟩:=Zf hx;exact V0 h1 (h2 i) h
theorem Uj{n e q:Nat}(r left:aH)(hr:r.length=n)(hl:left.length=n)(hh:b8 r<n)(hp:0<hd r)(h1:hd r<2^e)(h2:0<=at0 left (b8 r))(h3:at0 left (b8 r)<hd r)(he:e<=8990)(s1:Lt (2^q) r)(s2:Lt (2^q) left)(hq:q<=100000000):
  ∃g x y,Z5 [L r,L left]=aa (.tup [L (C0 r left x y),L (G8 r left g)])/\0<g/\g∣hd r/\g∣at0 left (b8 r)/\hd r*x+at0 left (b8 r)*y=g/\x.natAbs<2^(e+2)/\y.natAbs<2^(e+2):=by
 have cast:((2^e:Nat):Int)=(2:Int)^e:=by norm_cast
 have a1:(hd r).natAbs<2^e:=()
 have a2:(at0 left (b8 r)).natAbs<2^e:=()
 obtain⟨x,y,eb,exy,bx,bY⟩:=Oh (hd r) (at0 left (b8 r)) e () a1 a2;have g0:0<uQ (hd r) (at0 left (b8 r)):=w0v _ ();have d1:(uQ (hd r) (at0 left (b8 r)):Int)∣hd r:=w1F _ _;have d2:(uQ (hd r) (at0 left (b8 r)):Int)∣at0 left (b8 r):=w1t _ _;generalize eg:(uQ (hd r) (at0 left (b8 r)):Int)=g at *;have g0:0<g:=()
 have p2:2^(e+2)=4*2^e:=by rw[vB];rfl'
 have x1:x.natAbs<2^(e+2):=()
 have y1:y.natAbs<2^(e+2):=()
 refine⟨g,x,y,?_,g0,d1,d2,exy,x1,y1⟩;have gle:g<=hd r:=uj hp d1;have g9:g<2^9000:=by
  have h9:(2:Nat)^e<=2^9000:=wq (by decide) ();have:((2^9000:Nat):Int)=(2:Int)^9000:=by norm_cast
  rfl'
 have dv1:K9 (hd r) g=af:=BW g0 g9;have dv2:K9 (at0 left (b8 r)) g=af:=BW g0 g9;have k1:((hd r).fdiv g).natAbs<2^(e+2):=by have:=BK (hd r) g0;rfl'
 have k2:((at0 left (b8 r)).fdiv g).natAbs<2^(e+2):=by have:=BK (at0 left (b8 r)) g0;rfl'
 have t1:=LK (r:=r) (k:=b8 r) ();have t2:=LK (r:=left) (k:=b8 r) ();have t1:gJ (r.map Dt.int) (b8 r:Int)=aa (.int (hd r)):=t1;have e1:=J4 r x (ET x1 s1 ());have e2:=J4 left y (ET y1 s2 ());have e3:=J4 left ((hd r).fdiv g) (ET k1 s2 ());have e4:=J4 r ((at0 left (b8 r)).fdiv g) (ET k2 s1 ());have e5:=Hj (gh x r) (gh y left) (by rw[A0,A0];rfl');have e6:=LJ (gh ((hd r).fdiv g) left) (gh ((at0 left (b8 r)).fdiv g) r) (by rw[A0,A0];rfl');rw[z5g]at e5;rw[z2c]at e6;have hT:T [g,x,y]=.tup [.int g,.int x,.int y]:=rfl;have nT:∀f,nrm f (.tup [.int g,.int x,.int y])=(.nw,.tup [.int g,.int x,.int y]):=λf=>oq f [g,x,y];rw[hT]at eb;unfold Z5 IP;have eL:G8 r left g=lin ((hd r).fdiv g) left (-((at0 left (b8 r)).fdiv g)) r:=rfl;simp[fQ,D4,t1,t2,eb,nT,dv1,dv2,e1,e2,e3,e4,e5,e6,C0,eL]
theorem Qg{n q:Nat}(left:aH)(hl:left.length=n)(hh:b8 left<n):G4 [L left]=aa (L (if at0 left (b8 left)<0 then gh (-1) left else left)):=by
 have t2:=LK (r:=left) (k:=b8 left) ();have e1:=J4 left (-1) (λx _=>S4 (by decide));unfold G4 DQ;by_cases h:at0 left (b8 left)<0
 .simp[fQ,D4,t2,h,e1]
 .simp[fQ,D4,t2,h,Q1]
def N7(S:aA):aA:=(X4 (S.map λr=>((b8 r:Int),r))).map (·.2)
theorem Hk(S:aA):(N7 S).Perm S:=by
 have:=(P6 (S.map λr=>((b8 r:Int),r))).map (·.2);rw[wM]at this;have e:S.map ((λx:Int×aH=>x.2)∘λr=>((b8 r:Int),r))=S:=by
  have:((λx:Int×aH=>x.2)∘λr:aH=>((b8 r:Int),r))=id:=rfl;rw[this,List.map_id]
 rw[e]at this;exact this
theorem LN(S:aA)(hn:(S.map b8).Nodup):((N7 S).map b8).Pairwise (·<·):=by
 have h1:((N7 S).map b8).Pairwise (·<=·):=by
  have q:=Cy (S.map λr=>((b8 r:Int),r));have mem:∀p∈X4 (S.map λr=>((b8 r:Int),r)),p.1=(b8 p.2:Int):=λp hp=>by
   obtain⟨r,_,rfl⟩:=wj.mp ((P6 _).mem_iff.mp hp);rfl
  unfold N7;rw[wM,uR];refine cC (λ{a b}ha hb hab=>?_) q;have e1:=mem a ha;have e2:=mem b hb;show b8 a.2<=b8 b.2;have hab:a.1<=b.1:=hab;rfl'
 have h2:((N7 S).map b8).Nodup:=((Hk S).map b8).nodup_iff.mpr hn;exact(List.pairwise_and_iff.mpr ⟨h1,h2⟩).imp λ{a b}⟨p,q⟩=>()
theorem LO:∀S:aA,X0 n9 (S.map L)=aa (S.map λr=>(b8 r:Int))
 |[]=>rfl
 |r::S=>by rw[wx,X0,D4,LO S];rfl
theorem z0x(S:aA):(X4 ((S.map λr=>(b8 r:Int)).zip (S.map L))).map (·.2)=(N7 S).map L:=by
 have e:(S.map λr=>(b8 r:Int)).zip (S.map L)=(S.map λr=>((b8 r:Int),r)).map λq=>(q.1,L q.2):=by
  rw[List.zip_map,wM];have:S.zip S=S.map λr=>(r,r):=by
   induction S with
   |nil=>rfl
   |cons r S ih=>rw[uN,ih];rfl
  rw[this,wM];rfl
 rw[e,EA];unfold N7;rw[wM,wM];rfl
def J5:Nat->aA->List (Nat×aH)
 |_,[]=>[]
 |j,r::S=>(j,r)::J5 (j+1) S
theorem BX:∀(j:Nat)(S:aA),Aj j (S.map L)=(J5 j S).map λp=>.tup [.int p.1,L p.2]
 |j,[]=>rfl
 |j,r::S=>by rw[wx,Aj,J5,wx,BX (j+1) S]
theorem Go(h:Nat):∀(j:Nat)(S:aA),(∀r∈S,b8 r≠h)->(J5 j S).filter (λp=>decide (b8 p.2=h))=[]
 |j,[],_=>rfl
 |j,r::S,q=>by
  rw[J5,uA,Go h (j+1) S λx hx=>q x (wc _ hx)];simp[q r wf]
theorem Oi(h:Nat):∀(j:Nat)(S1:aA)(r:aH)(S2:aA),b8 r=h->((S1++r::S2).map b8).Pairwise (·<·)->(J5 j (S1++r::S2)).filter (λp=>decide (b8 p.2=h))=[(j+S1.length,r)]
 |j,[],r,S2,hr,pw=>by
  rw[w0r]at pw|-;rw[wx,vA]at pw;rw[J5,uA,Go h (j+1) S2 λx hx=>by have:=pw.1 _ (wj.mpr ⟨x,hx,rfl⟩);rfl'];simp[hr]
 |j,x::S1,r,S2,hr,pw=>by
  rw[w0k]at pw|-;rw[wx,vA]at pw;have hx:=pw.1 (b8 r) (wj.mpr ⟨r,by simp,rfl⟩);rw[J5,uA,Oi h (j+1) S1 r S2 hr pw.2];simp[show b8 x≠h by rfl'];rfl'
theorem Oj(S:aA)(left:aH)(c0 c1 c4 c5:Cell)(f:Bool):j8 2 [3] (Ak (fN 2)) (Tg.many [0,1]) (n4 (fOp opEq (i0 af n9 (b7 (fN 1) fNil)) (i0 af n9 (b7 (fN 2) fNil)))) (fN 0) [c0,c1,.ow f (S.map L),.sh af (L left),c4,c5] =
   aa (.nw,.lst (((J5 0 S).filter λp=>decide (b8 p.2=b8 left)).map λp=>.int (p.1:Int))):=by
 refine S5 (e:=λp:Nat×aH=>.tup [.int p.1,L p.2]) (h:=λp=>.int (p.1:Int)) (p:=λp=>decide (b8 p.2=b8 left)) (xs:=J5 0 S) ?_ (λx hx=>?_) (λx hx _=>?_)
 .cases f<;>simp[fQ,BX]
 .simp[fQ,D4,v6];rfl'
 .simp[fQ]
abbrev WC:FT:=n4 (fOp opLt (i0 af n9 (b7 (fN 3) fNil)) (fBlt bLen (b7 (fN 3) fNil)))
abbrev WF:FS:=(sSeq (V8 4 (j8 2 [3] (Ak (fN 2)) (Tg.many [0,1]) (n4 (fOp opEq (i0 af n9 (b7 (fN 1) fNil)) (i0 af n9 (b7 (fN 2) fNil)))) (fN 0)))
 (sSeq (sIf (n4 (fOp opEq (fBlt bLen (b7 (fN 4) fNil)) (fC (.int 0)))) (sRet (FV n9 (fOp o6 (fN 2) (fLst (b7 (i0 af G4 (b7 (fN 3) fNil)) fNil))))) w8)
 (sSeq (V8 5 (i0 af Z5 (b7 (fAt (fN 2) (fAt (fN 4) (fC (.int 0)))) (b7 (fN 3) fNil))))
 (sSeq (sPut 2 (fAt (fN 4) (fC (.int 0))) (fAt (fN 5) (fC (.int 0))))
 (V8 3 (i0 af D8 (b7 (fAt (fN 5) (fC (.int 1))) (b7 (fN 2) fNil))))))))
theorem z2d(S:aA)(t:aH)(h:S.length<60):o6 (.lst (S.map L)) (.lst [L t])=aa (gM ((S++[t]).map L)):=by
 have:o6 (.lst (S.map L)) (.lst [L t])=Ds (.lst (S.map L)) (.lst [L t]):=rfl;rw[this,Ds,ak (by simp;rfl')];simp
theorem z2e(S:aA)(left t:aH)(c0 c1 c4 c5:Cell)(f:Bool)(hn:∀r∈S,b8 r≠b8 left)(ht:G4 [L left]=aa (L t))(hh:((S++[t]).map b8).Nodup)(h60:S.length<60):
  ∃fl,WF [c0,c1,.ow f (S.map L),.sh af (L left),c4,c5]=aa (.rt fl (LL (N7 (S++[t])))):=by
 have pl:=Oj S left c0 c1 c4 c5 f;rw[Go _ 0 S hn]at pl;have st:FV n9 (fOp o6 (fN 2) (fLst (b7 (i0 af G4 (b7 (fN 3) fNil)) fNil))) [c0,c1,.ow f (S.map L),.sh af (L left),.sh af (.lst []),c5]=aa (gM ((N7 (S++[t])).map L)):=by
  have e1:fOp o6 (fN 2) (fLst (b7 (i0 af G4 (b7 (fN 3) fNil)) fNil)) [c0,c1,.ow f (S.map L),.sh af (L left),.sh af (.lst []),c5]=aa (gM ((S++[t]).map L)):=by
   have:=z2d S t h60;simp[fQ,ht,this]
  unfold FV;rw[e1];have k1:=LO (S++[t]);have nd:((S++[t]).map λr=>(b8 r:Int)).Nodup:=by
   have:((S++[t]).map λr=>(b8 r:Int))=((S++[t]).map b8).map (λn:Nat=>(n:Int)):=by rw[wM];rfl
   rw[this];exact List.Pairwise.map _ (λa b hab e=>hab ()) hh
  show(X0 n9 ((S++[t]).map L)).bind _=_;rw[k1,v4,ak ⟨by simp;rfl',nd⟩,z0x]
 refine⟨ji ((N7 (S++[t])).map L),?_⟩;have e1:V8 4 (j8 2 [3] (Ak (fN 2)) (Tg.many [0,1]) (n4 (fOp opEq (i0 af n9 (b7 (fN 1) fNil)) (i0 af n9 (b7 (fN 2) fNil)))) (fN 0)) [c0,c1,.ow f (S.map L),.sh af (L left),c4,c5]=aa (.nx [c0,c1,.ow f (S.map L),.sh af (L left),.sh af (.lst []),c5]):=by
  unfold V8;rw[pl];rfl
 refine run e1 ?_;have e2:sIf (n4 (fOp opEq (fBlt bLen (b7 (fN 4) fNil)) (fC (.int 0)))) (sRet (FV n9 (fOp o6 (fN 2) (fLst (b7 (i0 af G4 (b7 (fN 3) fNil)) fNil))))) w8 [c0,c1,.ow f (S.map L),.sh af (L left),.sh af (.lst []),c5]=aa (.rt (ji ((N7 (S++[t])).map L)) (LL (N7 (S++[t])))):=by
  have c:n4 (fOp opEq (fBlt bLen (b7 (fN 4) fNil)) (fC (.int 0))) [c0,c1,.ow f (S.map L),.sh af (L left),.sh af (.lst []),c5]=aa af:=by simp[fQ,v6]
  unfold sIf;rw[c,v4,ak rfl,sRet,st];rfl
 unfold sSeq;rw[e2];rfl
theorem Uk(S1 S2:aA)(r left up lo:aH)(c0 c1 c4 c5:Cell)(f:Bool)(hh:b8 r=b8 left)(pw:((S1++r::S2).map b8).Pairwise (·<·))(hc:Z5 [L r,L left]=aa (.tup [L up,L lo]))(res:aH)(hl:D8 [L lo,LL (S1++up::S2)]=aa (L res)):
   ∃d4 d5,WF [c0,c1,.ow f ((S1++r::S2).map L),.sh af (L left),c4,c5]=aa (.nx [c0,c1,.ow f ((S1++up::S2).map L),.sh af (L res),d4,d5]):=by
 have pl:=Oj (S1++r::S2) left c0 c1 c4 c5 f;rw[Oi _ 0 S1 r S2 hh pw]at pl;have pl:j8 2 [3] (Ak (fN 2)) (Tg.many [0,1]) (n4 (fOp opEq (i0 af n9 (b7 (fN 1) fNil)) (i0 af n9 (b7 (fN 2) fNil)))) (fN 0) [c0,c1,.ow f ((S1++r::S2).map L),.sh af (L left),c4,c5]=aa (.nw,.lst [.int (S1.length:Int)]):=by rw[pl];simp
 refine⟨.sh af (.lst [.int (S1.length:Int)]),.sh af (.tup [L up,L lo]),?_⟩;have at1:gJ ((S1++r::S2).map L) (S1.length:Int)=aa (L r):=X6 (by simp);have ix:iD ((S1++r::S2).map L).length (S1.length:Int)=aa S1.length:=by
   unfold iD;rw[ak (),ak (by simp;rfl')];simp
 have set1:((S1++r::S2).map L).set S1.length (L up)=(S1++up::S2).map L:=by
   rw[vn,vn,List.set_append];simp
 have hl:D8 [L lo,.lst ((S1++up::S2).map L)]=aa (L res):=hl;generalize (S1++r::S2).map L=D at *;generalize (S1++up::S2).map L=D' at *;have e1:V8 4 (j8 2 [3] (Ak (fN 2)) (Tg.many [0,1]) (n4 (fOp opEq (i0 af n9 (b7 (fN 1) fNil)) (i0 af n9 (b7 (fN 2) fNil)))) (fN 0)) [c0,c1,.ow f D,.sh af (L left),c4,c5]=aa (.nx [c0,c1,.ow f D,.sh af (L left),.sh af (.lst [.int (S1.length:Int)]),c5]):=by
   unfold V8;rw[pl];rfl
 refine run e1 (run (ρ':=[c0,c1,.ow f D,.sh af (L left),.sh af (.lst [.int (S1.length:Int)]),c5]) ?_ (run (ρ':=[c0,c1,.ow f D,.sh af (L left),.sh af (.lst [.int (S1.length:Int)]),.sh af (.tup [L up,L lo])]) ?_ (run (ρ':=[c0,c1,.ow f D',.sh af (L left),.sh af (.lst [.int (S1.length:Int)]),.sh af (.tup [L up,L lo])]) ?_ ?_)))
 .simp[fQ,v6]
 .simp[fQ,at1,hc]
 .simp[fQ,ix,set1]
 .simp[fQ,hl]
theorem z0y(S:aA)(h:Nat):(∀r∈S,b8 r≠h)\/∃S1 r S2,S=S1++r::S2/\b8 r=h:=by
 by_cases q:∃r∈S,b8 r=h
 .obtain⟨r,hr,e⟩:=q;obtain⟨S1,S2,rfl⟩:=w1h hr;exact .inr ⟨S1,r,S2,rfl,e⟩
 .exact .inl λr hr e=>q ⟨r,hr,e⟩
theorem Hl{n e:Nat}{S:aA}(A:Asc n 0 S)(hd:∀r∈S,St.hd r<2^e)(he:e<=8990):∀r∈S,r.length=n/\b8 r<n/\0<St.hd r/\St.hd r<2^9000:=λr hr=>by
 have q:=A.mem hr;refine⟨q.1,q.2.2.1,q.2.2.2,?_⟩;have h1:=hd r hr;have h9:(2:Nat)^e<=2^9000:=wq (by decide) ();have c1:((2^9000:Nat):Int)=(2:Int)^9000:=by norm_cast
 have c2:((2^e:Nat):Int)=(2:Int)^e:=by norm_cast
 rfl'
structure Sz(n e eh m0 kk:Nat):Prop where
 n20:n<=20
 e90:eh<=8990
 ehe:eh<=e
 e33:e<=33000
 m0e:m0=e+20*(e+1)
 kke:kk=2*e+3+20*(e+1)
theorem Sz.lim{n e eh m0 kk:Nat}(z:Sz n e eh m0 kk):m0+n*kk<=16000000:=by
 have h1:=z.n20;have h2:=z.e33;have h3:=z.m0e;have h4:=z.kke;have:n*kk<=20*kk:=wN _ h1;rfl'
theorem z5h{n e eh m0 kk:Nat}(z:Sz n e eh m0 kk)(S0:aA)(v:aH)(h20:S0.length<=20)(c0 c1:Cell)(f:Bool):∀(k:Nat)(S:aA)(left:aH)(c4 c5:Cell),St.Wi n e eh m0 kk S0 v S left->n-b8 left<=k ->
 (∃S' left' c4' c5',E8 WC WF (k+1) [c0,c1,.ow f (S.map L),.sh af (L left),c4,c5]=aa (.nx [c0,c1,.ow f (S'.map L),.sh af (L left'),c4',c5'])/\St.Post n (e+3+(m0+n*kk)) S0 v S') \/
 (∃S' fl,E8 WC WF (k+1) [c0,c1,.ow f (S.map L),.sh af (L left),c4,c5]=aa (.rt fl (LL S'))/\St.Post n (e+3+(m0+n*kk)) S0 v S'):=by
 intro k
 induction k using uP with
 |_ k IH=>
 intro S left c4 c5 I hk;have lim:=z.lim;have hlen:S.length=S0.length:=by have:=bv dg I.heads;simpa using this
 have hc:WC [c0,c1,.ow f (S.map L),.sh af (L left),c4,c5]=aa (decide (b8 left<n)):=by
   have:(decide ((b8 left:Int)<(left.length:Int)))=decide (b8 left<n):=by
     have:=I.len;by_cases h:b8 left<n
     .rw[aL h,aL ()]
     .rw[bh h,bh ()]
   simp[fQ,D4,this];have:=I.len;rfl'
 rw[E8,hc,v4];by_cases hn:b8 left<n
 .rw[aL hn,ak rfl];rcases z0y S (b8 left)with no|⟨S1,r,S2,rfl,hr⟩
  .right;have ht:=Qg (n:=n) (q:=0) left I.len hn;generalize et:(if at0 left (b8 left)<0 then gh (-1) left else left)=t at ht;have hne:at0 left (b8 left)≠0:=DB left (by rw[I.len];exact hn)
   have tc:∃ c:Int,(c=1∨c = -1)∧(∀ k,at0 t k=c*at0 left k)∧0<at0 t (b8 left)∧t.length=n:=by
     by_cases h:at0 left (b8 left)<0
     .rw[ak h]at et;subst et;have e1:∀k,at0 (gh (-1) left) k = -1*at0 left k:=λk=>by
       simp only[at0,gh,am,wv];cases left[k]?<;>simp
      exact⟨-1,.inr rfl,e1,by rw[e1];rfl',by rw[A0];exact I.len⟩
     .rw[ao h]at et;subst et;exact⟨1,.inl rfl,λk=>(),(),I.len⟩
   obtain⟨c,hc1,hc2,hc3,hc4⟩:=tc;have th:b8 t=b8 left:=L3 _ _ (λk hk=>by rw[hc2,u5 left k hk];simp) ();have nd:((S++[t]).map b8).Nodup:=by
     rw[vn,w0F];refine⟨(Asc.iff.mp I.asc).2.imp λ{a b}h=>(),by simp,λa ha b hb=>?_⟩;obtain⟨x,hx,rfl⟩:=wj.mp ha;have:=no x hx;have hb:b=b8 t:=by simpa using hb
     rfl'
   obtain⟨fl,ew⟩:=z2e S left t c0 c1 c4 c5 f no ht nd ();refine⟨N7 (S++[t]),fl,by rw[ew];rfl,?_⟩;refine I.new hn no hc4 c hc1 hc2 hc3 ?_ (LN _ nd);exact(Hk _).trans (List.perm_append_comm)
  .have hm:r∈S1++r::S2:=by simp
   have q:=I.asc.mem hm;have hcast:((2^e:Nat):Int)=(2:Int)^e:=by norm_cast
   have hle:m0+b8 left*kk<=m0+n*kk:=by have:=wN kk (vZ hn);rfl'
   obtain⟨g,x,y,ec,hg,ga,gb,hxy,hx,hy⟩:=Uj (n:=n) (e:=eh) (q:=e+3+(m0+b8 left*kk)) r left q.1 I.len q.2.2.1 q.2.2.2 (I.hds r hm) (I.low r hm).1 (I.low r hm).2 z.e90 (I.all r hm) (I.size.mono (wq (by decide) ())) (by have:=z.e33;rfl');have hl2:S1.length+S2.length+1<=20:=by simp at hlen;rfl'
   obtain⟨I',hlt,lb,hds'⟩:=I.step hr hn hg ga gb hxy (wG hx (wq (by decide) (by have:=z.ehe;rfl'))) (wG hy (wq (by decide) (by have:=z.ehe;rfl'))) (by have:=z.m0e;rfl') (by
     have:=z.kke;have:(S1.length+S2.length+1)*(e+1)<=20*(e+1):=wN _ hl2;rfl')
   have el:=CQ (n:=n) (m:=m0+n*kk) (L (G8 r left g)) (G8 r left g) (S1++C0 r left x y::S2) (.inl rfl) () (Hl I'.asc hds' z.e90) (by
     unfold G8;rw[Kk (by rw[I.len,q.1])];exact I.len) lb (by simp;rfl')
   obtain⟨d4,d5,ew⟩:=Uk S1 S2 r left _ _ c0 c1 c4 c5 f hr (Asc.iff.mp I.asc).2 ec _ el;cases k with
   |zero=>rfl'
   | succ k =>
     rcases IH k (vU k) _ _ d4 d5 I' () with⟨S',l',d4',d5',h1,h2⟩|⟨S',fl,h1,h2⟩
     .exact .inl ⟨S',l',d4',d5',by rw[ew];exact h1,h2⟩
     .exact .inr ⟨S',fl,by rw[ew];exact h1,h2⟩
 .rw[bh hn];exact .inl ⟨S,left,c4,c5,rfl,I.done hn⟩
theorem RZ{n e eh m0 kk:Nat}(z:Sz n e eh m0 kk)(S:aA)(d:Dt)(v:aH)(hd:iG d v)(A:Asc n 0 S)(hv:v.length=n)(h0:∀r∈S,Lt (2^e) r)(hh:∀r∈S,St.hd r<2^eh)(hs:Lt (2^e) v)(h20:S.length<=20):
   ∃S',U5 [LL S,d]=aa (LL S')/\St.Post n (e+3+(m0+n*kk)) S v S':=by
 have lim:=z.lim;have hm0:=z.m0e;have hml:e+S.length*(e+1)<=m0:=by have:S.length*(e+1)<=20*(e+1):=wN _ h20;rfl'
 obtain⟨I,lb⟩:=St.Wi.start (n:=n) (e:=e) (eh:=eh) (s:=e) (m0:=m0) (kk:=kk) A hv h0 hh hs hml ();have el:=CQ (n:=n) (m:=m0) d v S hd () (Hl A I.hds z.e90) hv lb ();have el:D8 [d,.lst (S.map L)]=aa (L (m6 v S)):=el;have fl:∃f:Bool,∀d0:Dt,sOwn 2 (fBlt bLst (b7 (fN 0) fNil)) [.sh ab (LL S),.sh ab d0,.no,.no,.no,.no]=aa (.nx [.sh ab (LL S),.sh ab d0,.ow f (S.map L),.no,.no,.no]):=by
   cases S with
   |nil=>exact⟨af,λd0=>by simp[fQ]⟩
   |cons r S=>exact⟨ab,λd0=>by simp[fQ,gM,ji]⟩
 obtain⟨f,hf⟩:=fl;have hb:∀o,Bm WC WF [.sh ab (LL S),.sh ab d,.ow f (S.map L),.sh af (L (m6 v S)),.no,.no]=aa o->(∃S' fl,seqO (sRet (fN 2)) o=aa (.rt fl (LL S'))/\St.Post n (e+3+(m0+n*kk)) S v S')->∃S',U5 [LL S,d]=aa (LL S')/\St.Post n (e+3+(m0+n*kk)) S v S':=by
   rintro o ho ⟨S',fl,h1,h2⟩;refine⟨S',?_,h2⟩;have e2:V8 3 (i0 af D8 (b7 (fN 1) (b7 (fN 2) fNil))) [.sh ab (LL S),.sh ab d,.ow f (S.map L),.no,.no,.no]=aa (.nx [.sh ab (LL S),.sh ab d,.ow f (S.map L),.sh af (L (m6 v S)),.no,.no]):=by
    rcases hd with rfl|rfl<;>simp[fQ,el]
   have q:Av [.sh ab (LL S),.sh ab d,.no,.no,.no,.no]=aa (.rt fl (LL S')):=by
    unfold Av;refine run (hf d) (run e2 ?_);show(Bm WC WF _).bind (seqO (sRet (fN 2)))=_;rw[ho];exact h1
   unfold U5 fQ;rw[ak (show[LL S,d].length=2 from rfl)];show(Av [.sh ab (LL S),.sh ab d,.no,.no,.no,.no]).bind _=_;rw[q];rfl
 rcases z5h z S v h20 (.sh ab (LL S)) (.sh ab d) f (n-b8 (m6 v S)) S (m6 v S) .no .no I (wt _) with⟨S',l',d4',d5',h1,h2⟩|⟨S',fl,h1,h2⟩
 .exact hb _ (Ez h1) ⟨S',flOf f,rfl,h2⟩
 .exact hb _ (Ez h1) ⟨S',fl,rfl,h2⟩
theorem JH:∀(A T:aA),∃A',even (A++T)=A'++even T
 |[],T=>⟨[],rfl⟩
 |r::A,T=>by
  obtain⟨A',e⟩:=JH A T;exact⟨m6 r (even (A++T))::A',by rw[w0k,even,e];rfl⟩
theorem LP{n:Nat}:∀{f:Nat}{A T:aA},Asc n f (A++T)->Asc n 0 T
 |f,[],T,h=>h.weak (vh _)
 |f,r::A,T,h=>LP (A:=A) h.2.2.2.2
abbrev EF:FS:=sWrA Lc 1 (i0 af D8 (b7 (fN 2) (b7 (fN 1) fNil)))
theorem Zh{n e eh u:Nat}(he:eh<=8990)(he3:e<=33000)(hu:u<=17000000)(c0:Cell)(S:aA)(A:Asc n 0 S)(hs:∀r∈S,Lt (2^u) r)(hE:∀r∈even S,Lt (2^e) r)(hH:∀r∈even S,hd r<2^eh)(h20:S.length<=21)(heu:e<=u):
  ∀(R T:aA)(c2:Cell),S=R.reverse++T->∃c2',gk (Tg.one 2) EF (R.map L) [c0,.ow af ((even T).map L),c2]=aa (.nx [c0,.ow af ((even S).map L),c2'])
 |[],T,c2,h=>⟨c2,by rw[h];rfl⟩
 | r::R,T,c2,h=>by
  have h':S=R.reverse++(r::T):=by rw[h];simp
  obtain⟨c2',ih⟩:=Zh he he3 hu c0 S A hs hE hH h20 heu R (r::T) (.sh ab (L r)) h';refine⟨c2',?_⟩;rw[wx,F0];have hlen:T.length+1<=21:=by have:=bv dg h';simp at this;rfl'
  have rm:r∈S:=by rw[h'];simp
  have AT:Asc n 0 T:=LP (A:=R.reverse++[r]) (by rw[ut];show Asc n 0 (R.reverse++(r::T));rw[<-h'];exact A);have AE:=(Y9 AT).1;obtain⟨A',ea⟩:=JH (R.reverse++[r]) T;have sub:∀x∈even T,x∈even S:=λx hx=>by
   rw[h',show R.reverse++(r::T)=(R.reverse++[r])++T by simp,ea];exact ww.mpr (.inr hx)
  have hE':∀x∈even T,Lt (2^e) x:=λx hx=>hE x (sub x hx);have hel:(even T).length<=20:=by rw[Ap];rfl'
  have hmul:(even T).length*(e+1)<=20*(e+1):=wN _ hel;obtain⟨_,lb⟩:=Q3 (n:=n) (t:=0) (s:=u) (e:=e) (m:=u+20*(e+1)) (S:=even T) (left:=r) (λx hx=>⟨(AE.mem hx).1,(AE.mem hx).2.2.2⟩) (A.mem rm).1 (λk hk=>()) (λx hx _=>hE' x hx) (hs r rm) () ();have el:=CQ (n:=n) (m:=u+20*(e+1)) (L r) r (even T) (.inl rfl) () (Hl AE (λx hx=>hH x (sub x hx)) he) (A.mem rm).1 lb ();have el:D8 [L r,.lst ((even T).map L)]=aa (L (m6 r (even T))):=el;have e1:(Tg.put (Tg.one 2) (L r) [c0,.ow af ((even T).map L),c2]).bind EF=aa (.nx [c0,.ow af (L (m6 r (even T))::(even T).map L),.sh ab (L r)]):=by
   simp[fQ,el,show(even T).length<1000000 by rfl']
  rw[e1];exact ih
theorem z0z{n e eh u:Nat}(S:aA)(he:eh<=8990)(he3:e<=33000)(hu:u<=17000000)(A:Asc n 0 S)(hs:∀r∈S,Lt (2^u) r)(hE:∀r∈even S,Lt (2^e) r)(hH:∀r∈even S,hd r<2^eh)(h20:S.length<=21)(heu:e<=u):DR [LL S]=aa (LL (even S)):=by
 obtain⟨c2,q⟩:=Zh he he3 hu (.sh ab (LL S)) S A hs hE hH h20 heu S.reverse [] .no (by simp);have q:gk (Tg.one 2) EF (S.map L).reverse [.sh ab (LL S),.ow af [],.no]=aa (.nx [.sh ab (LL S),.ow af ((even S).map L),c2]):=by rw[<-List.map_reverse];exact q
 unfold DR LC;simp[fQ,q]
abbrev CF:FS:=sSet [] 1 (i0 af DR (b7 (i0 ab U5 (b7 (fN 1) (b7 (fN 2) fNil))) fNil))
theorem LQ{n e eh B:Nat}(ed:aH->Dt)(hed:∀r,iG (ed r) r)(hn:n<=20)(he:eh<=8990)(hee:eh<=e)(he3:e<=33000)(all:aA)(hl:∀r∈all,r.length=n)(hb:∀r∈all,Lt B r)(hB:0<B)(hBe:B<=2^e)(hbn:∀k,k<=all.length->gR k B+1<=2^e)(hH:∀k S,k<=all.length->St.Good n B (all.take k) S->∀r∈S,hd r<2^eh)(h20:all.length<=20)(c0:Cell):
  ∀(todo done:aA)(S:aA)(c2:Cell),all=done++todo->St.Good n B done S->∃S' c2',gk (Tg.one 2) CF (todo.map ed) [c0,.sh af (LL S),c2]=aa (.nx [c0,.sh af (LL S'),c2'])/\St.Good n B all S'
 |[],done,S,c2,h,G=>⟨S,c2,rfl,by rw[h,w02];exact G⟩
 | v::todo,done,S,c2,h,G=>by
  have z:Sz n e eh (e+20*(e+1)) (2*e+3+20*(e+1)):=⟨hn,he,hee,he3,rfl,rfl⟩;have hdn:all.take done.length=done:=by rw[h];simp
  have hdv:all.take (done.length+1)=done++[v]:=by rw[h,List.take_append,uv ()];simp
  have hld:done.length+1+todo.length=all.length:=by rw[h];simp;rfl'
  have hv:v∈all:=by rw[h];simp
  have sub:∀r∈done,r∈all:=λr hr=>by rw[h];exact ww.mpr (.inl hr)
  have small:=G.small (λr hr=>hb r (sub r hr)) hB;have len:=G.len;have small:∀r∈S,Lt (2^e) r:=λr hr=>(small r hr).mono (hbn _ ());obtain⟨S1,e1,P⟩:=RZ z S (ed v) v (hed v) G.asc (hl v hv) small (hH done.length S () (by rw[hdn];exact G)) ((hb v hv).mono hBe) ();have G':=G.step P;have small':=G'.small (λr hr=>by
   rcases ww.mp hr with hr|hr
   .exact hb r (sub r hr)
   .rw[ve.mp hr];exact hb v hv) hB
  have len':=G'.len;have len2:(done++[v]).length=done.length+1:=by simp
  have small':∀r∈even S1,Lt (2^e) r:=λr hr=>(small' r hr).mono (hbn _ ());have lim:=z.lim;have e2:=z0z (n:=n) (e:=e) (u:=e+3+(e+20*(e+1)+n*(2*e+3+20*(e+1)))) S1 he he3 () P.asc P.size small' (hH (done.length+1) _ () (by rw[hdv];exact G')) (by rw[<-Ap];rfl') ();obtain⟨S',c2',ih,GG⟩:=LQ ed hed hn he hee he3 all hl hb hB hBe hbn hH h20 c0 todo (done++[v]) (even S1) (.sh ab (ed v)) (by rw[h];simp) G';refine⟨S',c2',?_,GG⟩;rw[wx,F0];have st:(Tg.put (Tg.one 2) (ed v) [c0,.sh af (LL S),c2]).bind CF=aa (.nx [c0,.sh af (LL (even S1)),.sh ab (ed v)]):=by
   have sn:∀f,(nrm f (ed v)).2=ed v:=λf=>rfl;simp[fQ,sn,e1,e2]
  rw[st];exact ih
theorem Ea{n e eh B:Nat}(ed:aH->Dt)(hed:∀r,iG (ed r) r)(hn:n<=20)(he:eh<=8990)(hee:eh<=e)(he3:e<=33000)(rows:aA)(d:Dt)(hd:d=.lst (rows.map ed)\/d=.tup (rows.map ed))(hl:∀r∈rows,r.length=n)(hb:∀r∈rows,Lt B r)(hB:0<B)(hBe:B<=2^e)(hbn:∀k,k<=rows.length->gR k B+1<=2^e)(hH:∀k S,k<=rows.length->St.Good n B (rows.take k) S->∀r∈S,St.hd r<2^eh)(h20:rows.length<=20):
   ∃S,Q7 [d]=aa (LL S)/\St.Good n B rows S:=by
 obtain⟨S,c2,q,G⟩:=LQ ed hed hn he hee he3 rows hl hb hB hBe hbn hH h20 (.sh ab d) rows [] [] .no rfl St.Good.nil;refine⟨S,?_,G⟩;have q:gk (Tg.one 2) CF (rows.map ed) [.sh ab d,.sh af (.lst []),.no]=aa (.nx [.sh ab d,.sh af (LL S),c2]):=q;unfold Q7 IQ;rcases hd with rfl|rfl
 .simp[fQ,q]
 .simp[fQ,q]
theorem LR{n e B:Nat}(ed:aH->Dt)(hed:∀r,iG (ed r) r)(hn:n<=20)(he:e<=8990)(rows:aA)(d:Dt)(hd:d=.lst (rows.map ed)\/d=.tup (rows.map ed))(hl:∀r∈rows,r.length=n)(hb:∀r∈rows,Lt B r)(hB:0<B)(hBe:B<=2^e)(hbn:∀k,k<=rows.length->gR k B+1<=2^e)(h20:rows.length<=20):
 ∃S,Q7 [d]=aa (LL S)/\St.Good n B rows S:=Ea (eh:=e) ed hed hn he (wt _) () rows d hd hl hb hB hBe hbn (λk S hk G r hr=>by
 have q:=G.small (λr hr=>hb r (uI hr)) hB r hr (b8 r);have l:=G.len;have b:=hbn S.length (by rw[vy]at l;rfl');have q:(St.hd r).natAbs<gR S.length B+1:=q;have c2:((2^e:Nat):Int)=(2:Int)^e:=by norm_cast
 rfl') h20
theorem z2f{n e B:Nat}(k:Int)(bills:aA)(hn:n<=20)(he:e<=8990)(hl:∀r∈bills,r.length=n)(hb:∀r∈bills,Lt B r)(hB:0<B)(hBe:B<=2^e)(hbn:∀k,k<=bills.length->gR k B+1<=2^e)(h20:bills.length<=20):
  ∃S,AY [k6 k bills]=aa (LL S)/\St.Good n B bills S:=by
 obtain⟨S,q,G⟩:=LR (n:=n) (e:=e) (B:=B) T (λr=>.inr rfl) hn he bills (oX bills) (.inr rfl) hl hb hB hBe hbn h20;refine⟨S,?_,G⟩;unfold AY PV;simp[fQ,q]
theorem Ul(d:Dt):N6 [d]=aa (.bl (isWh d)):=by
 unfold N6 ES;cases d<;>simp[fQ,isWh,Dt.flat,nrm]<;>simp[tyN,Dt.flat]
theorem Eb(a:aH)(n:Int):P8 [L a,.int n]=aa (.bl (decide ((a.length:Int)=n))):=by
 unfold P8 Gj;obtain⟨j,q⟩:=BG (g:=Tg.one 2) (F:=sIf (fNot (fTru (i0 af N6 (b7 (fN 2) fNil)))) (sRet (fC (.bl ab))) w8) (e:=Dt.int) (R:=λ(_:Unit)(c:Cell)=>[.sh ab (L a),.sh ab (.int n),c]) (step:=λ_ _=>.unit) a .unit .no
   (λb x j hx=>⟨.sh ab (.int x),by simp[fQ,Tg.put,Ul,isWh]⟩)
 have q:gk (Tg.one 2) (sIf (fNot (fTru (i0 af N6 (b7 (fN 2) fNil)))) (sRet (fC (.bl ab))) w8) (a.map Dt.int) [.sh ab (L a),.sh ab (.int n),.no]=aa (.nx [.sh ab (L a),.sh ab (.int n),j]):=q;by_cases h:(a.length:Int)=n
 .simp[fQ,A7,h,q]
 .simp[fQ,A7,h]
theorem Ol(a b:aH)(k:Int)(hl:a.length=b.length)(hs:a.length<=1000)(h:∀x∈b,E4 k x=af):DW [L a,L b,.int k]=aa (L (gy a (gh k b))):=by
 unfold DW LG;have q:j8 1 [0,2,1] (j9 (fBlt bLen (b7 (fN 0) fNil))) (Tg.one 0) fYes (fOp o6 (fAt (fN 1) (fN 0)) (fOp D9 (fN 2) (fAt (fN 3) (fN 0)))) [.sh ab (L a),.sh ab (L b),.sh ab (.int k)]=aa (.nw,L (gy a (gh k b))):=by
  rw[k7 (e:=λ(j:Nat)=>.int (0+(j:Int))) (h:=λ(j:Nat)=>.int (a.getD j 0+k*b.getD j 0)) (xs:=ah a.length) (by simp[fQ,j9,intD,CA (show a.length<=1000000 by rfl'),o9]) (λj hj=>by
   have hj:=wJ.mp hj;have e1:=M0 (xs:=a) 0 hj;have e2:=M0 (xs:=b) (i:=j) 0 ();have e3:=h _ (GR 0 (show j<b.length by rfl'));simp[fQ,Tg.put,sigD,Jz,An,e1,e2,e3,-uD]),pX (λj=>a.getD j 0+k*b.getD j 0),tE a b k hl]
 simp[fQ,q]
theorem LS(n:Nat)(rows:aA)(cs:aH)(hn:n<=1000)(hm:rows.length<=1000)(hw:Wide n rows)(hl:rows.length=cs.length)(h:∀r∈rows,∀c∈cs,∀x∈r,E4 c x=af):T4 [.int n,LL rows,L cs]=aa (L (gB n rows cs)):=by
 unfold T4 Qc;have z:j8 1 [] (j9 (fN 0)) (Tg.one 0) fYes (fC (.int 0)) [.sh ab (.int n),.sh ab (LL rows),.sh ab (L cs),.no,.no]=aa (.nw,L (l9 n)):=by
  rw[k7 (e:=λ(k:Nat)=>.int (0+(k:Int))) (h:=λ_=>.int 0) (xs:=ah n) (by simp[fQ,j9,intD,CA (show n<=1000000 by rfl'),o9]) (λx _=>by simp[fQ,Tg.put])];simp[L,l9,w1U]
 obtain⟨hl2,j,q⟩:=FY (g:=Tg.one 4) (F:=sSet [] 3 (j8 1 [3,2,4,1] (j9 (fN 0)) (Tg.one 0) fYes (fOp o6 (fAt (fN 1) (fN 0)) (fOp D9 (fAt (fN 2) (fN 3)) (fAt (fAt (fN 4) (fN 3)) (fN 0))))))
  (e:=λ(j:Nat)=>.int (0+(j:Int))) (R:=λ(t:aH)(c:Cell)=>[.sh ab (.int n),.sh ab (LL rows),.sh ab (L cs),.sh af (L t),c]) (step:=λt j=>gy t (gh (cs.getD j 0) (rows.getD j []))) (P:=λt=>t.length=n) (ah rows.length) (l9 n) .no C4
  (fun t j c hj ht=>by
   have hj:=wJ.mp hj;have hr:=GR [] hj;have hlr:=hw _ hr;refine⟨by rw[S6 (by rw[A0,ht,hlr])];exact ht,.sh ab (.int (0+(j:Int))),?_⟩;have q:j8 1 [3,2,4,1] (j9 (fN 0)) (Tg.one 0) fYes (fOp o6 (fAt (fN 1) (fN 0)) (fOp D9 (fAt (fN 2) (fN 3)) (fAt (fAt (fN 4) (fN 3)) (fN 0)))) [.sh ab (.int n),.sh ab (LL rows),.sh ab (L cs),.sh af (L t),.sh ab (.int (0+(j:Int)))]=aa (.nw,L (gy t (gh (cs.getD j 0) (rows.getD j [])))):=by
    rw[k7 (e:=λ(k:Nat)=>.int (0+(k:Int))) (h:=λ(k:Nat)=>.int (t.getD k 0+cs.getD j 0*(rows.getD j []).getD k 0)) (xs:=ah n) (by simp[fQ,j9,intD,CA (show n<=1000000 by rfl'),o9]) (λk hk=>by
     have hk:=wJ.mp hk;have e1:=M0 (xs:=t) (i:=k) 0 ();have e2:=M0 (xs:=cs) (i:=j) 0 ();have e3:=M0 (xs:=rows) (i:=j) [] hj;have e4:=M0 (xs:=rows.getD j []) (i:=k) 0 ();have e5:=h _ hr _ (GR 0 (show j<cs.length by rfl')) _ (GR 0 (show k<(rows.getD j []).length by rfl'));simp only[w0u]at *;simp[fQ,Tg.put,sigD,Jz,An,e1,e2,e3,e4,e5,-uD]),pX (λk=>t.getD k 0+cs.getD j 0*(rows.getD j []).getD k 0),<-ht,tE t _ _ (by rw[ht,hlr])]
   simp only[w0u]at *;simp[fQ,Tg.put,q,-uD])
 have q:gk (Tg.one 4) (sSet [] 3 (j8 1 [3,2,4,1] (j9 (fN 0)) (Tg.one 0) fYes (fOp o6 (fAt (fN 1) (fN 0)) (fOp D9 (fAt (fN 2) (fN 3)) (fAt (fAt (fN 4) (fN 3)) (fN 0)))))) (L9 0 rows.length) [.sh ab (.int n),.sh ab (LL rows),.sh ab (L cs),.sh af (L (l9 n)),.no]=aa (.nx [.sh ab (.int n),.sh ab (LL rows),.sh ab (L cs),.sh af (L (gB n rows cs)),j]):=by
  rw[o9,<-TQ n rows cs hl];exact q
 simp[fQ,z,j9,intD,CA (show rows.length<=1000000 by rfl'),q]
theorem Bc(m j:Nat)(hm:m<=1000):E7 [.int m,.int j]=aa (L (k8 m j)):=by
 unfold E7 Gg;have q:j8 1 [1] (j9 (fN 0)) (Tg.one 0) fYes (fIf (n4 (fOp opEq (fN 0) (fN 1))) (fC (.int 1)) (fC (.int 0))) [.sh ab (.int m),.sh ab (.int j)]=aa (.nw,L (k8 m j)):=by
  rw[k7 (e:=λ(k:Nat)=>.int (0+(k:Int))) (h:=λk=>.int (if k=j then 1 else 0)) (xs:=ah m) (by simp[fQ,iN m (),o9]) (λk _=>by
   by_cases h:k=j
   .simp[fQ,v6,h]
   .simp[fQ,v6,h,show ¬(k:Int)=(j:Int) by rfl'])]
  rw[pX (λk=>if k=j then 1 else 0)];rfl
 simp[fQ,q]
theorem Qh(m:Nat):∀(s:Nat)(bs:aA),(bs.zip ((w1L s bs.length).map (k8 m))).map (λp=>p.1++p.2)=St.tagF m s bs
 |s,[]=>rfl
 |s,b::bs=>by rw[wu,w0Q,wx,uN,wx,Qh m (s+1) bs,St.tagF]
theorem Kh{n e B:Nat}(hn:n<=20)(he:e<=8990)(bills tags:aA)(hlt:bills.length=tags.length)(hl:∀p∈bills.zip tags,(p.1++p.2).length=n)(hb:∀p∈bills.zip tags,Lt B (p.1++p.2))(hB:0<B)(hBe:B<=2^e)(hbn:∀k,k<=bills.length->gR k B+1<=2^e)(h20:bills.length<=20):
  ∃S,B6 [oX bills,LL tags]=aa (LL S)/\St.Good n B ((bills.zip tags).map λp=>p.1++p.2) S:=by
 have hlz:((bills.zip tags).map λp=>p.1++p.2).length=bills.length:=by simp;rfl'
 obtain⟨S,q,G⟩:=LR (n:=n) (e:=e) (B:=B) L (λr=>.inl rfl) hn he ((bills.zip tags).map λp=>p.1++p.2) (LL ((bills.zip tags).map λp=>p.1++p.2)) (.inl rfl) (λr hr=>by
  obtain⟨p,hp,rfl⟩:=wj.mp hr;exact hl p hp) (λr hr=>by
  obtain⟨p,hp,rfl⟩:=wj.mp hr;exact hb p hp) hB hBe (λk hk=>hbn k ()) ()
 refine⟨S,?_,G⟩;unfold B6 T0;have z:j8 2 [] (iZip (fN 0) (fN 1)) (Tg.many [0,1]) fYes (fOp o6 (fBlt bLst (b7 (fN 0) fNil)) (fBlt bLst (b7 (fN 1) fNil))) [.sh ab (oX bills),.sh ab (LL tags)]=aa (.nw,LL ((bills.zip tags).map λp=>p.1++p.2)):=by
  rw[k7 (e:=λp:aH×aH=>.tup [T p.1,L p.2]) (h:=λp=>L (p.1++p.2)) (xs:=bills.zip tags) (by simp[fQ,hlt,Am]) (λp hp=>by
   have h1:=hl p hp;have c:=GS p.1 p.2 (by simp at h1;rfl');simp[fQ,c])]
  simp[LL]
 simp[fQ,z,q]
theorem Gp{n e B:Nat}(k:Int)(bills:aA)(hn:n+bills.length<=20)(he:e<=8990)(hl:∀r∈bills,r.length=n)(hb:∀r∈bills,Lt B r)(hB:1<B)(hBe:B<=2^e)(hbn:∀k,k<=bills.length->gR k B+1<=2^e):
  ∃S,B5 [k6 k bills]=aa (LL S)/\St.Good (n+bills.length) B (N9 bills) S:=by
 have ht:((ah bills.length).map (k8 bills.length)).length=bills.length:=by simp
 have hz:∀p∈bills.zip ((ah bills.length).map (k8 bills.length)),p.1∈bills/\∃j,p.2=k8 bills.length j:=λp hp=>by
  refine⟨(vR hp).1,?_⟩;obtain⟨j,_,e⟩:=wj.mp (vR hp).2;exact⟨j,e.symm⟩
 obtain⟨S,q,G⟩:=Kh (n:=n+bills.length) (e:=e) (B:=B) hn he bills ((ah bills.length).map (k8 bills.length)) ht.symm (λp hp=>by
  obtain⟨h1,j,h2⟩:=hz p hp;rw[wF,h2,E1,hl _ h1]) (λp hp=>by
  obtain⟨h1,j,h2⟩:=hz p hp;intro i;rw[X7 (hl _ h1),h2,v7];split
  .exact hb _ h1 i
  .split<;>simp<;>rfl') () hBe hbn ()
 have e0:=Qh bills.length 0 bills;rw[<-uS]at e0;rw[e0]at G;refine⟨S,?_,G⟩;have z:j8 1 [1] (j9 (fN 1)) (Tg.one 0) fYes (i0 af E7 (b7 (fN 1) (b7 (fN 0) fNil))) [.sh ab (k6 k bills),.sh af (.int bills.length)]=aa (.nw,LL ((ah bills.length).map (k8 bills.length))):=by
  rw[k7 (e:=λ(k:Nat)=>.int (0+(k:Int))) (h:=λk=>L (k8 bills.length k)) (xs:=ah bills.length) (by simp[fQ,iN bills.length (),o9]) (λj _=>by
    have u:=Bc bills.length j ();simp[fQ,u])]
  simp[LL]
 unfold B5 T1;simp[fQ,z,q]
theorem IW(S:aA)(n:Nat):P0 [LL S,.int n]=aa (LL ((S.filter λr=>decide (b8 r<n)).map (·.drop n))):=by
 have q:j8 1 [1] (iSeq (fN 0)) (Tg.one 0) (n4 (fOp opLt (i0 af n9 (b7 (fN 0) fNil)) (fN 1))) (ic (fN 0) (G6 (fN 1)) A4) [.sh ab (LL S),.sh ab (.int n)]=aa (.nw,.lst ((S.filter λr=>decide (b8 r<n)).map λr=>L (r.drop n))):=
  S5 (e:=L) (h:=λr=>L (r.drop n)) (p:=λr=>decide (b8 r<n)) (xs:=S) (by simp[fQ]) (λr hr=>by
   simp[fQ,D4]) (λr hr _=>by
   simp[fQ,W0,E5])
 unfold P0 X2;simp[fQ,q]
theorem Hm(S:aA)(n:Nat):D3 [LL S,.int n]=aa (LL (gH n S)):=by
 have q:j8 1 [1] (iSeq (fN 0)) (Tg.one 0) (n4 (fOp opGe (i0 af n9 (b7 (fN 0) fNil)) (fN 1))) (ic (fN 0) (G6 (fN 1)) A4) [.sh ab (LL S),.sh ab (.int n)]=aa (.nw,.lst ((S.filter λr=>!decide (b8 r<n)).map λr=>L (r.drop n))):=
  S5 (e:=L) (h:=λr=>L (r.drop n)) (p:=λr=>!decide (b8 r<n)) (xs:=S) (by simp[fQ]) (λr hr=>by
   by_cases h:b8 r<n
   .simp[fQ,D4,h]
   .simp[fQ,D4,h];rfl') (λr hr _=>by
   simp[fQ,W0,E5])
 unfold D3 U6;simp[fQ,q,gH]
structure Hall(n:Nat)(bills:aA):Prop where
 n1:1<=n
 n6:n<=6
 m8:bills.length<=8
 wide:∀r∈bills,r.length=n
 small:∀r∈bills,∀x∈r,x.natAbs<10^30
theorem Hall.lt{n:Nat}{bills:aA}(H:Hall n bills):∀r∈bills,Lt (10^30) r:=λr hr=>BL (by decide) (H.small r hr)
theorem LU{n:Nat}{bills:aA}(H:Hall n bills):∃S,AY [k6 n bills]=aa (LL S)/\St.Good n (10^30) bills S/\∀r∈S,Lt (2^900) r:=by
 have m8:=H.m8;have n6:=H.n6;obtain⟨S,es,G⟩:=z2f (n:=n) (e:=900) (B:=10^30) n bills () () H.wide H.lt (by decide) (by decide) (λk hk=>YR k ()) ();have:=G.len;exact⟨S,es,G,λr hr=>(G.small H.lt (by decide) r hr).mono (YR _ ())⟩
theorem kB{n:Nat}{bills:aA}(H:Hall n bills):∀r∈N9 bills,Lt (10^30) r:=λr hr=>by
 obtain⟨b,hb,j,rfl⟩:=Lp _ hr;intro i;rw[X7 (H.wide b hb),v7];split
 .exact H.lt b hb i
 .split<;>simp
theorem z0A{n:Nat}{bills:aA}(H:Hall n bills):∃S,B5 [k6 n bills]=aa (LL S)/\St.Tag n bills S/\∀r∈S,Lt (2^900) r:=by
 have m8:=H.m8;have n6:=H.n6;obtain⟨S,es,G⟩:=Gp (n:=n) (e:=900) (B:=10^30) n bills () () H.wide H.lt (by decide) (by decide) (λk hk=>YR k ());have:=G.len;rw[BM]at this;exact⟨S,es,G.tag H.wide,λr hr=>(G.small (kB H) (by decide) r hr).mono (YR _ ())⟩
theorem pL{n e:Nat}{S:aA}(A:Asc n 0 S)(h:∀r∈S,Lt (2^e) r):∀r∈S,hd r<2^e:=λr hr=>by
 have h1:=h r hr (b8 r);have h3:(hd r).natAbs<2^e:=h1;have:((2^e:Nat):Int)=(2:Int)^e:=by norm_cast
 rfl'
theorem tf{n e s:Nat}{S:aA}{v:aH}(A:Asc n 0 S)(h:∀r∈S,Lt (2^e) r)(he:e<=8990)(hv:v.length=n)(hs:Lt (2^s) v)(h20:S.length<=20)(hsl:s<=1000000):
  (∀r∈S,r.length=n/\b8 r<n/\0<hd r/\hd r<2^9000)/\St.LowB (s+20*(e+1)) v S/\2*(s+20*(e+1))<=134217728/\S.length<=1000/\Lt (2^(s+20*(e+1))) (m6 v S):=by
 have hm:S.length*(e+1)<=20*(e+1):=wN _ h20;obtain⟨z1,z2⟩:=Q3 (n:=n) (t:=0) (s:=s) (e:=e) (m:=s+20*(e+1)) (S:=S) (left:=v) (λr hr=>⟨(A.mem hr).1,(A.mem hr).2.2.2⟩) hv (λk hk=>()) (λr hr _=>h r hr) hs () ();exact⟨Hl A (pL A h) he,z2,(),(),z1.mono (wq (by decide) ())⟩
theorem Um(n:Nat)(bills:aA)(one other uses:aH)(hn:n<=1000)(hm:bills.length<=1000)(h1:one.length=n)(hw:Wide n bills)(hl:bills.length=uses.length)(h:∀r∈bills,∀c∈uses,∀x∈r,E4 c x=af):BV [LL bills,L one,L other,L uses]=aa (.bl (decide (gy one (gB n bills uses)=other))):=by
 have e1:=Eb uses uses.length;have e2:=LS n bills uses hn hm hw hl h;have hml:(gB n bills uses).length=n:=BJ hw;have e3:=Ol one (gB n bills uses) 1 () () (λx _=>S4 (by decide));rw[z5c]at e3;have e4:=Ir (gy one (gB n bills uses)) other;unfold BV IU;simp[fQ,e1,hl,h1,e2,e3,e4]
theorem Qi:∀(R:aA)(c:aH)(k:Nat),St.mix R (gh (-1) c) k = -(St.mix R c k)
 |[],c,k=>by simp[St.mix]
 |r::R,[],k=>by simp[St.mix,gh]
 |r::R,x::c,k=>by
  have ih:=Qi R c k;show(-1*x)*at0 r k+St.mix R (gh (-1) c) k = -(x*at0 r k+St.mix R c k);rw[ih,uq,Int.one_mul,uq];rfl'
theorem CS{n:Nat}{a b:aH}(h:a.length=n)(k:Nat):at0 (a++b) k=if k<n then at0 a k else at0 b (k-n):=X7 h k
theorem td{n:Nat}{bills U:aA}(t:St.Tag n bills U){u c:aH}(hu:u.length=n+bills.length)(hc:u.drop n=gh (-1) c):Lat.Span (fP U) (λk=>at0 u k)↔∀k,k<n->at0 u k = -(St.mix bills c k):=by
 rw[t.span.iff,DJ t.wide hu,hc];constructor
 .intro h k hk;rw[h k hk,Qi]
 .intro h k hk;rw[h k hk,Qi]
theorem Sa{n m:Nat}{back w:aH}(hb:back.length=n)(hw:w.length=n+m):(St.sub (back++l9 m) 1 w).drop n=gh (-1) (w.drop n):=by
 have hv:(back++l9 m).length=n+m:=by rw[wF,hb,C4]
 refine St.ext0 (by rw[wR,O9 (),A0,wR];rfl') λk=>?_;rw[B8,N4 (),AW,B8,CS hb,ao (),F3];rfl'
theorem z0B{n:Nat}{bills U:aA}(t:St.Tag n bills U){back:aH}(hb:back.length=n)(hz:(m6 (back++l9 bills.length) U).take n=l9 n):∀k,k<n->at0 back k = -(St.mix bills ((m6 (back++l9 bills.length) U).drop n) k):=by
 have hv:(back++l9 bills.length).length=n+bills.length:=by rw[wF,hb,C4]
 have hw:=M3 t.asc hv;have sp:=J9 t.asc hv;generalize m6 (back++l9 bills.length) U=w at *;have hs:(St.sub (back++l9 bills.length) 1 w).length=n+bills.length:=by rw[O9 ()];exact hv
 have q:=(td t hs (Sa hb hw)).mp (Lat.Span.congr (λk=>by rw[N4 ()];rfl') sp);intro k hk;have h1:=q k hk;have h2:at0 w k=0:=by
  have:=bv (λr=>at0 r k) hz;simp only[J2,ak hk,F3]at this;exact this
 rw[N4 (),CS hb,ak hk,h2]at h1;rfl'
theorem z2j{n:Nat}{bills U:aA}(t:St.Tag n bills U){back:aH}(hb:back.length=n)(hs:Lat.Span (fP bills) (λk=> -(at0 back k))):(m6 (back++l9 bills.length) U).take n=l9 n:=by
 have hv:(back++l9 bills.length).length=n+bills.length:=by rw[wF,hb,C4]
 obtain⟨c,hc,ec⟩:=W1 hs;have hzl:(l9 n:aH).length=n:=C4;have hz:(l9 n++c).length=n+bills.length:=by rw[wF,hzl,hc]
 have hd:(St.sub (back++l9 bills.length) 1 (l9 n++c)).drop n=gh (-1) c:=by
   rw[Sa hb hz];congr 1;rw[uX,hzl];simp[w0b (show(l9 n).length<=n by rw[C4];exact wt n)]
 have hl:(St.sub (back++l9 bills.length) 1 (l9 n++c)).length=n+bills.length:=by rw[O9 ()];exact hv
 have sp:=(td t hl hd).mpr (λk hk=>by
   have:=ec k;rw[N4 (),CS hb,ak hk,CS hzl,ak hk,F3];rfl')
 have e:=Rz t.asc hv hz (Lat.Span.congr (λk=>by rw[N4 ()];rfl') sp);have z:=(DE (n:=n+bills.length) (t:=n) (S:=U) (left:=l9 n++c) (λr hr=>(t.asc.mem hr).1) hz (λk hk=>by rw[CS hzl,ak hk,F3])).1;rw[e];refine St.ext0 (by rw[vy,M3 t.asc hz,C4];rfl') λk=>?_;rw[J2,F3];split
 .exact z k ‹_›
 .rfl
theorem Sb{n s e:Nat}{bills U:aA}(n6:n<=6)(m8:bills.length<=8)(eu:B5 [k6 n bills]=aa (LL U))(t:St.Tag n bills U)(sU:∀r∈U,Lt (2^e) r)(he:e<=8990)(one other:aH)(h1:one.length=n)(h2:other.length=n)(s1:Lt (2^s) one)(s2:Lt (2^s) other)(hs:s<=100000):
   ER [k6 n bills,L one,L other]=aa (if(m6 (gh (-1) (gq other one)++l9 bills.length) U).take n=l9 n then L ((m6 (gh (-1) (gq other one)++l9 bills.length) U).drop n) else .non):=by
 have hsb:(gq other one).length=n:=by rw[BH ()];exact h2
 have ap:=RV n bills one other h1 h2;have sc:=J4 (gq other one) (-1) (λx _=>S4 (by decide));have hb:(gh (-1) (gq other one)).length=n:=by rw[A0];exact hsb
 have sb:Lt (2^(s+1)) (gh (-1) (gq other one)):=λk=>by
   rw[AW,W4 (),vX];have:=s1 k;have:=s2 k;rfl'
 generalize gh (-1) (gq other one)=back at *;have hv:(back++l9 bills.length).length=n+bills.length:=by rw[wF,hb,C4]
 have sv:Lt (2^(s+1)) (back++l9 bills.length):=λk=>by
   rw[CS hb];split
   .exact sb k
   .rw[F3];exact w1J (by decide)
 have full:=t.full;obtain⟨o1,o2,o3,o4,_⟩:=tf t.asc sU he hv sv () ();have lw:=CQ (L (back++l9 bills.length)) (back++l9 bills.length) U (.inl rfl) o3 o1 hv o2 o4;have no:=CP bills.length ();have nt:=z0v n bills ();have cat:o6 (L back) (L (l9 bills.length))=aa (.nw,L (back++l9 bills.length)):=GS back (l9 bills.length) (by rw[hb,C4];rfl');generalize m6 (back++l9 bills.length) U=w at *;have ct:=Lj (w.map Dt.int) n;have cf:=W0 (w.map Dt.int) n;have ne:=Iu (w.take n) (l9 n);have t1:gM ((w.map Dt.int).take n)=(.nw,L (w.take n)):=Ao w n;have t2:gM ((w.map Dt.int).drop n)=(.nw,L (w.drop n)):=E5 w n;unfold ER IR;by_cases h:w.take n=l9 n
 .rw[h]at ne t1;simp[fQ,ap,sc,no,cat,eu,lw,nt,ct,cf,t1,t2,ne,h]
 .rw[bh h]at ne;simp[fQ,ap,sc,no,cat,eu,lw,nt,ct,cf,t1,t2,ne,h]
theorem Sc{n s e:Nat}{bills U:aA}{one other:aH}(n6:n<=6)(m8:bills.length<=8)(wd:Wide n bills)(lt:∀r∈bills,∀x∈r,x.natAbs<2^900)(eu:B5 [k6 n bills]=aa (LL U))(t:St.Tag n bills U)(sU:∀r∈U,Lt (2^e) r)(he:e<=8990)(l1:one.length=n)(l2:other.length=n)(s1:Lt (2^s) one)(s2:Lt (2^s) other)(hs:s<=100000):
   (∃us,IS [k6 n bills,L one,L other]=aa (L us)/\BV [LL bills,L one,L other,L us]=aa (.bl af)/\Lat.Span (fP bills) (λk=>at0 other k-at0 one k)) \/
   (IS [k6 n bills,L one,L other]=aa .non/\¬Lat.Span (fP bills) (λk=>at0 other k-at0 one k)):=by
 have se:=Sb (s:=s) n6 m8 eu t sU he one other l1 l2 s1 s2 hs;have hsb:(gq other one).length=n:=by rw[BH ()];exact l2
 have hb:(gh (-1) (gq other one)).length=n:=by rw[A0];exact hsb
 have hv:(gh (-1) (gq other one)++l9 bills.length).length=n+bills.length:=by rw[wF,hb,C4]
 have hw:=M3 t.asc hv;have full:=t.full;have sv:Lt (2^(s+1)) (gh (-1) (gq other one)++l9 bills.length):=λk=>by
   rw[CS hb];split
   .rw[AW,W4 (),vX];have:=s1 k;have:=s2 k;rfl'
   .rw[F3];exact w1J (by decide)
 obtain⟨_,_,_,_,o5⟩:=tf t.asc sU he hv sv () ();have ld0:=λhz=>z0B t hb hz;have so:=λhs=>z2j t hb hs;have hk:∀k,at0 (gh (-1) (gq other one)) k = -(at0 other k-at0 one k):=λk=>by rw[AW,W4 ()];rfl'
 generalize gh (-1) (gq other one)=back at *;generalize m6 (back++l9 bills.length) U=w at *;by_cases hz:w.take n=l9 n
 .rw[ak hz]at se;have lu:(w.drop n).length=bills.length:=by rw[wR];rfl'
  have su:Lt (2^(s+1+20*(e+1))) (w.drop n):=λk=>by rw[B8];exact o5 _
  have ld:=Um n bills one other (w.drop n) () () l1 wd lu.symm (λr hr c hc x hx=>V0 (Au su c hc) (lt r hr x hx) ());have hml:(gB n bills (w.drop n)).length=n:=BJ wd;have sp:∀k,k<n->at0 other k-at0 one k=St.mix bills (w.drop n) k:=λk hkn=>by
    have:=ld0 hz k hkn;rw[hk]at this;rfl'
  have ho:gy one (gB n bills (w.drop n))=other:=St.ext0 (by rw[S6 ()];rfl') λk=>by
    rw[Hc (),Ar wd];by_cases hkn:k<n
    .have:=sp k hkn;rfl'
    .rw[CG wd k (),u7 (),u7 ()];rfl
  rw[aL ho]at ld;refine .inl ⟨w.drop n,?_,ld,Lat.Span.congr (λk=>?_) (St.IA (w.drop n))⟩
  .generalize w.drop n=us at *;unfold IS PZ;simp[fQ,se]
  .by_cases hkn:k<n
   .exact(sp k hkn).symm
   .rw[CG wd k (),u7 (),u7 ()];rfl
 .rw[ao hz]at se;refine .inr ⟨?_,λhs=>hz (so (Lat.Span.congr (λk=>by rw[hk];rfl') hs))⟩;unfold IS PZ;simp[fQ,se]
theorem Qj(a p:Int)(hp:0<p):Bs [.int a,.int p]=aa (.int (a.fmod p)):=by
 unfold Bs PU;simp[fQ,v6,show ¬p=0 by rfl',U2 hp]
def gz(p:Int)(r:aH):aH:=r.map (·.fmod p)
theorem Hn(p:Int)(r:aH):(gz p r).length=r.length:=by simp[gz]
theorem Kq(p:Int)(r:aH)(k:Nat):at0 (gz p r) k=at0 r k-p*(at0 r k).fdiv p:=by
 have e:at0 (gz p r) k=(at0 r k).fmod p:=by
  unfold at0 gz;by_cases h:k<r.length
  .simp[am,wa h]
  .simp[am,wW (ug h)]
 rw[e,Int.fmod_def]
theorem Uo{p:Int}(hp:0<p){r:aH}:∀x∈gz p r,0<=x/\x<p:=λx hx=>by
 obtain⟨y,_,rfl⟩:=wj.mp hx;exact⟨ud y hp,uC y hp⟩
theorem Ho(r:aH)(p:Int)(hp:0<p):V5 [L r,.int p]=aa (L (gz p r)):=by
 unfold V5 PX;have q:j8 1 [1] (iSeq (fN 0)) (Tg.one 0) fYes (i0 af Bs (b7 (fN 0) (b7 (fN 1) fNil))) [.sh ab (L r),.sh ab (.int p)]=aa (.nw,L (gz p r)):=by
  rw[k7 (e:=Dt.int) (h:=λx=>.int (x.fmod p)) (xs:=r) (by simp[fQ]) (λx _=>by
   have:=Qj x p hp;simp[fQ,this])]
  simp[gz,L]
 simp[fQ,q]
theorem IX(A:aA)(m:Nat)(h:∀r∈A,r.length=m)(hm:m<=1000):W5 [LL A,.int m]=aa (LL (gx m A)):=by
 unfold W5 LD
 have q:j8 1 [0] (j9 (fN 1)) (Tg.one 0) fYes (j8 1 [0] (iSeq (fN 1)) (Tg.one 0) fYes (fAt (fN 0) (fN 1))) [.sh false (LL A),.sh false (.int m)]=some (.nw,LL (gx m A)):=by
  rw[k7 (e:=λ(k:Nat)=>.int (0+(k:Int))) (h:=λk=>L (A.map λr=>at0 r k)) (xs:=ah m) (by simp[fQ,iN m (),o9]) (λk hk=>by
   have hk:=wJ.mp hk;have i:j8 1 [0] (iSeq (fN 1)) (Tg.one 0) fYes (fAt (fN 0) (fN 1)) [.sh ab (.int (k:Int)),.sh ab (LL A)]=aa (.nw,L (A.map λr=>at0 r k)):=by
    rw[k7 (e:=L) (h:=λr=>.int (at0 r k)) (xs:=A) (by simp[fQ]) (λr hr=>by
     have e:gJ (r.map Dt.int) ((k:Nat):Int)=aa (.int (at0 r k)):=by
      rw[An,M0 0 (by rw[h r hr];exact hk)];rfl
     simp[fQ,e])]
    simp[L]
   simp[fQ,i])]
  simp[gx,LL]
 simp[fQ,q]
abbrev SF:FS:=(sIf (fOr (n4 (fOp opNe (i0 af n9 (b7 (fN 2) fNil)) (fN 1))) (fTru (fBlt bAny (b7 (j8 1 [] (iSeq (ic (fN 2) (G6 (fOp o6 (fN 1) (fC (.int 1)))) A4)) (Tg.one 0) fYes (fOp opNe (fN 0) (fC (.int 0)))) fNil)))) (sRet (fC (.bl ab))) w8)
def Fy(p:Nat×aH):Prop:=b8 p.2=p.1/\∀x∈p.2.drop (p.1+1),x=0
theorem qD{α:Type}(xs:List α)(j:Nat):iA xs (aa ((j:Int)+1)) aj=xs.drop (j+1):=by
 have:=W0 xs (j+1)
 rwa [show(((j+1:Nat)):Int)=(j:Int)+1 by rfl']at this
theorem LV(c0 c1 c2:Cell)(p:Nat×aH):(¬Fy p->(Tg.put (Tg.many [1,2]) (.tup [.int p.1,L p.2]) [c0,c1,c2]).bind SF=aa (.rt .nw (.bl ab)))/\(Fy p->(Tg.put (Tg.many [1,2]) (.tup [.int p.1,L p.2]) [c0,c1,c2]).bind SF=aa (.nx [c0,.sh ab (.int p.1),.sh ab (L p.2)])):=by
 obtain⟨j,r⟩:=p;have cm:j8 1 [] (iSeq (ic (fN 2) (G6 (fOp o6 (fN 1) (fC (.int 1)))) A4)) (Tg.one 0) fYes (fOp opNe (fN 0) (fC (.int 0))) [c0,.sh ab (.int j),.sh ab (L r)]=aa (.nw,.lst ((r.drop (j+1)).map λx=>.bl (!decide (x=0)))):=by
   rw[k7 (e:=Dt.int) (h:=λx=>.bl (!decide (x=0))) (xs:=r.drop (j+1)) (by
    simp[fQ,qD,E5,w0K]) (λx _=>by simp[fQ,A7])]
 have e:=EB (λx:Int=>!decide (x=0)) (r.drop (j+1));have q:Fy (j,r)↔b8 r=j/\((r.drop (j+1)).map λx=>!decide (x=0)).any id=ab:=by
   unfold Fy;refine and_congr_right λ_=>?_;rw[List.any_map,w1m];simp
 generalize (r.drop (j+1)).map (λx=>Dt.bl (!decide (x=0)))=D at cm e;generalize (r.drop (j+1)).map (λx=>!decide (x=0))=bs at e q;rw[q];by_cases hh:b8 r=j
 .cases hb:bs.any id with
  |true=>exact⟨λ_=>by simp[fQ,D4,A7,hh,cm,bAny,e,hb],λh=>by cases h.2⟩
  |false=>exact⟨λh=>aM ⟨hh,rfl⟩ h,λ_=>by simp[fQ,D4,A7,hh,cm,bAny,e,hb]⟩
 .exact⟨λ_=>by simp[fQ,D4,A7,show ¬((b8 r:Int)=(j:Int)) by rfl'],λh=>aM h.1 hh⟩
theorem Ec(A:aA):((∀p∈J5 0 A,Fy p)->P7 [LL A]=aa (.bl af))/\((∃p∈J5 0 A,¬Fy p)->P7 [LL A]=aa (.bl ab)):=by
 have key:=EI (g:=Tg.many [1,2]) (F:=SF) (λp:Nat×aH=>.tup [.int p.1,L p.2]) (λp=>¬Fy p) (λj:Cell×Cell=>[.sh ab (LL A),j.1,j.2]) .nw (.bl ab) (J5 0 A) (.no,.no)
   (λp _ j hb=>(LV _ _ _ p).1 hb) (λp _ j hb=>⟨(.sh ab (.int p.1),.sh ab (L p.2)),(LV _ _ _ p).2 (Classical.not_not.mp hb)⟩)
 rw[<-BX]at key;constructor
 .intro h;obtain⟨j,e⟩:=key.2 λp hp(k:¬Fy p)=>k (h p hp);unfold P7 CM;simp[fQ,e]
 .intro h;have e:=key.1 h;unfold P7 CM;simp[fQ,e]
theorem LW(A W:aA):pair A W=(A.zip W).map λp=>p.1++p.2:=by
 unfold pair
 induction A generalizing W with
 |nil=>rfl
 |cons a A ih=>
  cases W with
  |nil=>rfl
  |cons b W=>rw[List.zipWith_cons_cons,uN,wx,ih]
theorem Gq{n e eh B:Nat}(hn:n<=20)(he:eh<=8990)(hee:eh<=e)(he3:e<=33000)(A W:aA)(hlt:A.length=W.length)(hl:∀x∈pair A W,x.length=n)(hb:∀x∈pair A W,Lt B x)(hB:0<B)(hBe:B<=2^e)(hbn:∀k,k<=A.length->gR k B+1<=2^e)
  (hH:∀k S,k<=A.length->St.Good n B ((pair A W).take k) S->∀r∈S,hd r<2^eh) (h20:A.length<=20):∃S,B6 [LL A,LL W]=aa (LL S)/\St.Good n B (pair A W) S:=by
 have hlz:(pair A W).length=A.length:=S9 hlt;obtain⟨S,q,G⟩:=Ea (n:=n) (e:=e) (eh:=eh) (B:=B) L (λr=>.inl rfl) hn he hee he3 (pair A W) (LL (pair A W)) (.inl rfl) hl hb hB hBe (λk hk=>hbn k ()) (λk S hk=>hH k S ()) ();refine⟨S,?_,G⟩;unfold B6 T0;have z:j8 2 [] (iZip (fN 0) (fN 1)) (Tg.many [0,1]) fYes (fOp o6 (fBlt bLst (b7 (fN 0) fNil)) (fBlt bLst (b7 (fN 1) fNil))) [.sh ab (LL A),.sh ab (LL W)]=aa (.nw,LL (pair A W)):=by
  rw[k7 (e:=λp:aH×aH=>.tup [L p.1,L p.2]) (h:=λp=>L (p.1++p.2)) (xs:=A.zip W) (by simp[fQ,hlt,Am]) (λp hp=>by
   have h1:=hl (p.1++p.2) (by rw[LW];exact wj.mpr ⟨p,hp,rfl⟩);have c:=GS p.1 p.2 (by simp at h1;rfl');simp[fQ,c])]
  rw[LW];simp[LL]
 simp[fQ,z,q]
theorem Z8:∀{j:Nat}{A:aA}{p:Nat×aH},p∈J5 j A↔∃i,i<A.length/\p=(j+i,A.getD i [])
 |j,[],p=>by simp[J5]
 |j,r::A,p=>by
  rw[J5,wB,Z8];constructor
  .rintro(rfl|⟨i,hi,rfl⟩)
   .exact⟨0,by simp,rfl⟩
   .exact⟨i+1,by simpa using hi,by rw[show j+1+i=j+(i+1) by rfl'];rfl⟩
  .rintro⟨i,hi,rfl⟩;cases i with
   |zero=>exact .inl rfl
   |succ i=>exact .inr ⟨i,by simpa using hi,by rw[show j+1+i=j+(i+1) by rfl'];rfl⟩
theorem IY{r:Nat}{A:aA}(q:St.Sq r A):(∀p∈J5 0 A,Fy p)↔St.Clean r A:=by
 constructor
 .intro h i hi k hn;have:=(h (0+i,A.getD i []) (Z8.mpr ⟨i,by rw[q.len];exact hi,rfl⟩)).2;rcases uM hn with x|x
  .exact q.low x
  .by_cases hk:k<r
   .have hl:(A.getD i []).length=r:=q.rows _ (D6 (by rw[q.len];exact hi));refine this (fW A i k) (vN (i:=k-(0+i+1)) ?_);show((A.getD i []).drop (0+i+1))[k-(0+i+1)]?=_;rw[w04,show 0+i+1+(k-(0+i+1))=k by rfl',wa (show k<(A.getD i []).length by rw[hl];exact hk)];have e:fW A i k=(A.getD i []).getD k 0:=rfl;rw[e];simp[am,wa (show k<((A[i]?).getD []).length by have:=hl;simp only[am]at this;rw[this];exact hk)]
   .exact q.far ()
 .intro c p hp;obtain⟨i,hi,rfl⟩:=Z8.mp hp;rw[q.len]at hi;refine⟨by show b8 (A.getD i [])=0+i;rw[q.head hi];rfl',λx hx=>?_⟩;obtain⟨j,hj,rfl⟩:=wI hx;rw[List.getElem_drop];have:=c i hi (0+i+1+j) ();unfold fW at0 at this;rw[wR]at hj;have hj:0+i+1+j<(A.getD i []).length:=by have hj:j<(A.getD i []).length-(0+i+1):=hj;rfl'
  rw[am,wa hj]at this;exact this
theorem oN(k:Nat)(h:k<=6):gR k (2^5461)+1<=2^32900:=by
 have h1:=DG (r:=k) (s:=6) (B:=2^5461) h (wK _) (by decide);have h2:gR 6 (2^5461)<=2^32826:=by
  unfold gR;have a:2*6*2^5461<=2^5465:=by
   rw[show(5465:Nat)=4+5461 from rfl,vB];exact wN _ (by decide)
  have b:=uZ a 6;rw[<-Nat.pow_mul]at b;have c:(2:Nat)^32826=2^(5465*6)*2^(6*6):=by rw[<-vB]
  rw[c];exact wN _ b
 have h3:(2:Nat)^32826<2^32900:=uT (by decide) (by decide);rfl'
structure Mb(r n:Nat)(w:Int):Prop where
 r6:r<=6
 n6:n<=6
 wp:0<w
 wb:w<2^5400
theorem Mb.lt{r n:Nat}{w x:Int}(b:Mb r n w)(h0:0<=x)(h1:x<=w):x.natAbs<2^5461:=by
 have:=b.wb;have h:(2:Nat)^5400<=2^5461:=wq (by decide) (by decide);have c:((2^5400:Nat):Int)=(2:Int)^5400:=by norm_cast
 rfl'
theorem Mb.hd{r n:Nat}{w x:Int}(b:Mb r n w)(h:x∣w):x<2^5400:=by
 have:=uj b.wp h;have:=b.wb;rfl'
abbrev GC:FT:=fNot (fTru (i0 af P7 (b7 (fN 4) fNil)))
abbrev GF:FS:=(sSeq (sSet [] 6 (i0 af W5 (b7 (i0 af Q7 (b7 (i0 af W5 (b7 (fN 4) (b7 (fN 3) fNil))) fNil)) (b7 (fN 3) fNil))))
 (sSeq (sSet [] 7 (i0 af B6 (b7 (fN 6) (b7 (fN 5) fNil))))
 (sSeq (sSet [] 4 (j8 1 [3] (iSeq (fN 7)) (Tg.one 0) fYes (ic (fN 0) A4 (G6 (fN 1)))))
 (sSet [] 5 (j8 1 [3,2] (iSeq (fN 7)) (Tg.one 0) fYes (i0 af V5 (b7 (ic (fN 0) (G6 (fN 1)) A4) (b7 (fN 2) fNil))))))))
structure Mw(r n:Nat)(w:Int)(G K A W:aA):Prop where
 m:St.Mst r n w G K A W
 wb:∀x∈W,Lt (2^5461) x
theorem Up{r n:Nat}{w:Int}{G K A W:aA}(b:Mb r n w)(I:Mw r n w G K A W)(c0 c1 c6 c7:Cell)(f2 f3 f4 f5:Bool):
   ∃T A' W' f4' f5' c6' c7',GF [c0,c1,.sh f2 (.int w),.sh f3 (.int r),.sh f4 (LL A),.sh f5 (LL W),c6,c7]=aa (.nx [c0,c1,.sh f2 (.int w),.sh f3 (.int r),.sh f4' (LL A'),.sh f5' (LL W'),c6',c7'])/\Mw r n w G K A' W'/\St.Sq r T/\Lat.SameSpan (fP T) (fP (gx r A))/\Lat.SameSpan (fP A') (fP (gx r T)):=by
 have r6:=b.r6;have n6:=b.n6;have q:=I.m.sq;have wC:=I.m.whole;have eA:=λi k=>q.entryC wC b.wp i k;have tl:(gx r A).length=r:=D7 _ _;have tr:∀x∈gx r A,x.length=r:=λx hx=>by rw[X8 hx,q.len]
 have B1:=q.below wC;have mem_lt:∀{P:aA}{E:Nat},(∀i k,(fW P i k).natAbs<E)->∀x∈P,Lt E x:=λ{P E}h x hx k=>by
   obtain⟨i,hi,rfl⟩:=wI hx;have:=h i k;unfold fW at this
   rwa [show P.getD i []=P[i] by simp[am,wa hi]]at this
 have t1:=IX A r q.rows ();obtain⟨T,e1,G1⟩:=Ea (n:=r) (e:=32900) (eh:=5400) (B:=2^5461) L (λr=>.inl rfl) () (by decide) (by decide) (by decide) (gx r A) (LL (gx r A)) (.inl rfl) tr
   (mem_lt λi k=>by rw[K5 q.rows];exact b.lt (eA k i).1 (eA k i).2) (wK _) (wq (by decide) (by decide)) (λk hk=>oN k ())
   (λk S hk G x hx=>b.hd (B1.heads () G.asc G.span hx).2) ()
 obtain⟨l1,_⟩:=G1.sq B1;have sT:St.Sq r T:=⟨G1.asc,G1.form,l1⟩;have wT:S8 r w T:=λi hi=>G1.span.iff.mpr (wC i hi);have eT:=λi k=>sT.entry wT b.wp i k;have t2:=IX T r sT.rows ();have wT2:=sT.comm wT;have B2:=sT.below_pair wT2 I.m.wl I.m.wr;obtain⟨S,e2,G2⟩:=Gq (n:=r+n) (e:=32900) (eh:=5400) (B:=2^5461) () (by decide) (by decide) (by decide) (gx r T) W (by rw[D7,I.m.wl]) B2.rows
   (λx hx k=>by
     obtain⟨i,hi,rfl⟩:=wI hx;have hi':i<r:=by rw[B2.len]at hi;exact hi
     have e:at0 ((pair (gx r T) W)[i]) k=fW (pair (gx r T) W) i k:=by unfold fW;simp[am,wa hi]
     rw[e,DK (n:=n) (r:=r) (λx hx=>by rw[X8 hx,sT.len]) (by rw[D7];exact hi') (by rw[I.m.wl];exact hi')];split
     .rw[K5 sT.rows];exact b.lt (eT k i).1 (eT k i).2
     .exact I.wb _ (D6 (by rw[I.m.wl];exact hi')) _)
   (wK _) (wq (by decide) (by decide)) (λk hk=>oN k (by rw[D7]at hk;rfl'))
   (λk S hk G x hx=>b.hd (B2.heads (by rw[D7]at hk;rfl') G.asc G.span hx).2) (by rw[D7];rfl')
 obtain⟨l2,h2⟩:=G2.sq B2;have M':=I.m.step sT G1.span G2.asc G2.form l2 h2 G2.span;have hs:=EE (r:=r) G2.span;rw[EG (λx hx=>by rw[X8 hx,sT.len]) (by rw[D7,I.m.wl])]at hs;have len:∀x∈S,x.length=r+n:=λx hx=>(G2.asc.mem hx).1;have k3:∀d0 d1:Cell,j8 1 [3] (iSeq (fN 7)) (Tg.one 0) fYes (ic (fN 0) A4 (G6 (fN 1))) [d0,d1,.sh f2 (.int w),.sh f3 (.int r),.sh f4 (LL A),.sh f5 (LL W),.sh af (LL (gx r T)),.sh af (LL S)]=aa (.nw,LL (S.map (·.take r))):=λd0 d1=>by
   rw[k7 (e:=L) (h:=λx=>L (x.take r)) (xs:=S) (by simp[fQ]) (λx hx=>by simp[fQ,Lj,Ao])];simp[LL]
 have k4:∀d0 d1:Cell,j8 1 [3,2] (iSeq (fN 7)) (Tg.one 0) fYes (i0 af V5 (b7 (ic (fN 0) (G6 (fN 1)) A4) (b7 (fN 2) fNil))) [d0,d1,.sh f2 (.int w),.sh f3 (.int r),.sh af (LL (S.map (·.take r))),.sh f5 (LL W),.sh af (LL (gx r T)),.sh af (LL S)]=aa (.nw,LL (S.map λx=>gz w (x.drop r))):=λd0 d1=>by
   rw[k7 (e:=L) (h:=λx=>L (gz w (x.drop r))) (xs:=S) (by simp[fQ]) (λx hx=>by
     have:=Ho (x.drop r) w b.wp;simp[fQ,W0,E5,this])]
   simp[LL]
 refine⟨T,S.map (·.take r),S.map λx=>gz w (x.drop r),af,af,.sh af (LL (gx r T)),.sh af (LL S),?_,⟨?_,?_⟩,sT,G1.span,hs⟩
 .refine run (ρ':=[c0,c1,.sh f2 (.int w),.sh f3 (.int r),.sh f4 (LL A),.sh f5 (LL W),.sh af (LL (gx r T)),c7]) ?_ (run (ρ':=[c0,c1,.sh f2 (.int w),.sh f3 (.int r),.sh f4 (LL A),.sh f5 (LL W),.sh af (LL (gx r T)),.sh af (LL S)]) ?_ (run (ρ':=[c0,c1,.sh f2 (.int w),.sh f3 (.int r),.sh af (LL (S.map (·.take r))),.sh f5 (LL W),.sh af (LL (gx r T)),.sh af (LL S)]) ?_ ?_))
  .simp[fQ,t1,e1,t2]
  .simp[fQ,e2]
  .simp[fQ,k3]
  .simp[fQ,k4]
 .refine M'.rest (W':=S.map λx=>gz w (x.drop r)) (by rw[wn,l2]) (λx hx=>?_) (λi k=>(fW (S.map (·.drop r)) i k).fdiv w) λi k hi=>?_
  .obtain⟨y,hy,rfl⟩:=wj.mp hx;rw[Hn,wR,len y hy];rfl'
  .have hi:i<S.length:=()
   have x1:fW (S.map λx=>gz w (x.drop r)) i k=at0 (gz w ((S.getD i []).drop r)) k:=by unfold fW;simp[am,wa hi]
   have x2:fW (S.map (·.drop r)) i k=at0 ((S.getD i []).drop r) k:=by unfold fW;simp[am,wa hi]
   rw[x1,x2,Kq]
 .intro x hx k;obtain⟨y,hy,rfl⟩:=wj.mp hx;by_cases hk:k<(gz w (y.drop r)).length
  .have:=Uo b.wp (r:=y.drop r) (at0 (gz w (y.drop r)) k) (by unfold at0;rw[am,wa hk];exact vx _);exact b.lt this.1 ()
  .rw[u7 ()];exact wK _
theorem Uq{r n:Nat}{w:Int}{G K:List (List Int)}(b:Mb r n w)(c0 c1:Cell)(f2 f3:Bool):∀(d t:Nat),t+d=r→∀(a:Nat) (A W:List (List Int)) (f4 f5:Bool) (c6 c7:Cell),Mw r n w G K A W→St.Clean t A→(t<r→fW A t t=(a:Int)) →
  ∃k A' W' f4' f5' c6' c7',E8 GC GF k [c0,c1,.sh f2 (.int w),.sh f3 (.int r),.sh f4 (LL A),.sh f5 (LL W),c6,c7]=aa (.nx [c0,c1,.sh f2 (.int w),.sh f3 (.int r),.sh f4' (LL A'),.sh f5' (LL W'),c6',c7'])/\Mw r n w G K A' W'/\St.Clean r A':=by
 intro d
 induction d with
 |zero=>
  intro t ht a A W f4 f5 c6 c7 I c _;have hc:St.Clean r A:=by rw[<-ht];exact c
  have:=(Ec A).1 ((IY I.m.sq).mpr hc);refine⟨1,A,W,f4,f5,c6,c7,?_,I,hc⟩;have hc:GC [c0,c1,.sh f2 (.int w),.sh f3 (.int r),.sh f4 (LL A),.sh f5 (LL W),c6,c7]=aa ab:=by simp[fQ,this]
  rw[E8,hc];rfl
 | succ d ihd =>
  intro t ht a
  induction a using uP with
  | ind a iha =>
   intro A W f4 f5 c6 c7 I c ha;have htr:t<r:=()
   by_cases hc:St.Clean r A
   .have:=(Ec A).1 ((IY I.m.sq).mpr hc);refine⟨1,A,W,f4,f5,c6,c7,?_,I,hc⟩;have hc:GC [c0,c1,.sh f2 (.int w),.sh f3 (.int r),.sh f4 (LL A),.sh f5 (LL W),c6,c7]=aa ab:=by simp[fQ,this]
    rw[E8,hc];rfl
   .have no:∃p∈J5 0 A,¬Fy p:=eY fun k=>hc ((IY I.m.sq).mp fun p hp=>eY fun q=>k ⟨p,hp,q⟩)
    have:=(Ec A).2 no;have hl:GC [c0,c1,.sh f2 (.int w),.sh f3 (.int r),.sh f4 (LL A),.sh f5 (LL W),c6,c7]=aa af:=by simp[fQ,this]
    obtain⟨T,A',W',f4',f5',c6',c7',e,I',sT,s1,s2⟩:=Up b I c0 c1 c6 c7 f2 f3 f4 f5;obtain⟨cl,alt⟩:=RE I.m.sq sT I'.m.sq s1 s2 c htr
    have fin:(∃k A'' W'' f4'' f5'' c6'' c7'',E8 GC GF k [c0,c1,.sh f2 (.int w),.sh f3 (.int r),.sh f4' (LL A'),.sh f5' (LL W'),c6',c7']=aa (.nx [c0,c1,.sh f2 (.int w),.sh f3 (.int r),.sh f4'' (LL A''),.sh f5'' (LL W''),c6'',c7''])∧Mw r n w G K A'' W''∧St.Clean r A''):=by
     rcases alt with h|h
     .by_cases ht2:t+1<r
      .have p:=I'.m.sq.pos ht2;exact ihd (t+1) () (fW A' (t+1) (t+1)).toNat A' W' f4' f5' c6' c7' I' h λ_=>()
      .exact ihd (t+1) () 0 A' W' f4' f5' c6' c7' I' h λh=>aM h ht2
     .have p:=I'.m.sq.pos htr;have ha:=ha htr;exact iha (fW A' t t).toNat () A' W' f4' f5' c6' c7' I' cl λ_=>()
    obtain⟨k,A2,W2,f42,f52,c62,c72,e2,I2,h2⟩:=fin;refine⟨k+1,A2,W2,f42,f52,c62,c72,?_,I2,h2⟩;rw[E8,hl,v4,ak rfl,e];exact e2
def MD(M:gc):Dt:=.lst (M.map λx=>.tup [L x.1,.int x.2])
def Q9(A W:aA):gc:=(J5 0 W).map λp=>(p.2,fW A p.1 p.1)
theorem IZ:∀(j:Nat)(A:aA),(J5 j A).length=A.length
 |j,[]=>rfl
 |j,r::A=>by rw[J5,wu,wu,IZ]
theorem Ja:∀(j:Nat)(A:aA)(i:Nat),i<A.length->(J5 j A)[i]?=aa (j+i,A.getD i [])
 |j,r::A,0,_=>rfl
 |j,r::A,i+1,h=>by
  rw[J5,List.getElem?_cons_succ,Ja (j+1) A i (by simpa using h),show j+1+i=j+(i+1) by rfl'];rfl
theorem LX(A W:aA){i:Nat}(h:i<W.length):mw (Q9 A W) i=W.getD i []/\mp (Q9 A W) i=fW A i i:=by
 unfold mw mp Q9;rw[am,wv,Ja 0 W i h,uu];exact⟨rfl,rfl⟩
theorem Ed{r:aH}{k:Nat}(h:k<r.length):gJ (r.map Dt.int) (k:Int)=aa (.int (at0 r k)):=by
 rw[An,M0 0 h];rfl
theorem Ur{r n:Nat}{w:Int}{G K A W:aA}(b:Mb r n w)(I:Mw r n w G K A W):∃A' W',EO [LL A,LL W,.int w]=aa (MD (Q9 A' W'))/\Mw r n w G K A' W'/\St.Clean r A':=by
 have al:=I.m.sq.len;obtain⟨k,A',W',f4,f5,c6,c7,e,I',hc⟩:=Uq b (.sh ab (LL A)) (.sh ab (LL W)) ab af r 0 () (fW A 0 0).toNat A W ab ab .no .no I (λi hi=>()) λh=>by have:=I.m.sq.pos h;rfl'
 have e:=Ez e;refine⟨A',W',?_,I',hc⟩;have cm:∀d0 d1 d2 d3 d6 d7:Cell,∃f,j8 2 [4] (Ak (fN 5)) (Tg.many [0,1]) fYes (fTup (b7 (fN 1) (b7 (fAt (fAt (fN 2) (fN 0)) (fN 0)) fNil))) [d0,d1,d2,d3,.sh f4 (LL A'),.sh f5 (LL W'),d6,d7]=aa (f,MD (Q9 A' W')):=λd0 d1 d2 d3 d6 d7=>by
  have key:=Li (nt:=2) (js:=[4]) (Fi:=Ak (fN 5)) (g:=Tg.many [0,1]) (Fe:=fTup (b7 (fN 1) (b7 (fAt (fAt (fN 2) (fN 0)) (fN 0)) fNil))) (ρ:=[d0,d1,d2,d3,.sh f4 (LL A'),.sh f5 (LL W'),d6,d7]) (e:=λp:Nat×aH=>.tup [.int p.1,L p.2]) (h:=λp=>(.sh,.tup [L p.2,.int (fW A' p.1 p.1)])) (xs:=J5 0 W') (by simp[fQ,BX]) (λp hp=>by
   obtain⟨i,hi,rfl⟩:=Z8.mp hp;rw[I'.m.wl]at hi;rw[uu];have h1:=lR A' (k:=i) (by rw[I'.m.sq.len];rfl');have h2:=Ed (r:=A'.getD i []) (k:=i) (by rw[I'.m.sq.rows _ (D6 (by rw[I'.m.sq.len];rfl'))];rfl');have x:fW A' i i=at0 (A'.getD i []) i:=rfl;rw[x];generalize A'.getD i []=ra at h1 h2|-;generalize W'.getD i []=rb;simp[fQ,h1,h2];rfl)
  have x:MD (Q9 A' W')=.lst ((J5 0 W').map λp=>.tup [L p.2,.int (fW A' p.1 p.1)]):=by
   unfold MD Q9;rw[wM];rfl
  rw[x];exact⟨_,key⟩
 obtain⟨f,cm⟩:=cm (.sh ab (LL A)) (.sh ab (LL W)) (.sh ab (.int w)) (.sh af (.int r)) c6 c7;have q:BR [.sh ab (LL A),.sh ab (LL W),.sh ab (.int w),.no,.no,.no,.no,.no]=aa (.rt f (MD (Q9 A' W'))):=by
  unfold BR;refine run (ρ':=[.sh ab (LL A),.sh ab (LL W),.sh ab (.int w),.sh af (.int r),.no,.no,.no,.no]) (by simp[fQ,al]) (run (ρ':=[.sh ab (LL A),.sh ab (LL W),.sh ab (.int w),.sh af (.int r),.sh ab (LL A),.no,.no,.no]) (by simp[fQ];rfl) (run (ρ':=[.sh ab (LL A),.sh ab (LL W),.sh ab (.int w),.sh af (.int r),.sh ab (LL A),.sh ab (LL W),.no,.no]) (by simp[fQ];rfl) (run e ?_)));unfold sRet;rw[cm];rfl
 unfold EO fQ;rw[ak (show[LL A,LL W,Dt.int w].length=3 from rfl)];show(BR [.sh ab (LL A),.sh ab (LL W),.sh ab (.int w),.no,.no,.no,.no,.no]).bind _=_;rw[q];rfl
theorem z0C{n:Nat}(w1 w2:aH)(a b:Int)(h1:w1.length=n)(h2:w2.length=n)(ha:0<a)(hb:0<b)(ba:a<2^5400)(bb:b<2^5400)(l1:Lt (2^5461) w1)(l2:Lt (2^5461) w2):
  ∃g x y a' b' lc,Aw [.tup [L w1,.int a],.tup [L w2,.int b]]=aa (.tup [.tup [L (gz g (gy w1 w2)),.int g],.tup [L (gz lc (gy (gh (-y*b') w1) (gh (x*a') w2))),.int lc]])/\St.Bz g x y a b a' b'/\lc=a'*b/\0<lc/\g∣a:=by
 have cast:((2^5400:Nat):Int)=(2:Int)^5400:=by norm_cast
 have a1:a.natAbs<2^5400:=()
 have a2:b.natAbs<2^5400:=()
 obtain⟨x,y,eb,exy,bx,bY⟩:=Oh a b 5400 (by decide) a1 a2;have g0:0<uQ a b:=w0v _ ();have d1:(uQ a b:Int)∣a:=w1F _ _;have d2:(uQ a b:Int)∣b:=w1t _ _;generalize eg:(uQ a b:Int)=g at *;have g0:0<g:=()
 have z:=St.Bz.of (f1:=x) (f2:=y) g0 d1 d2 (by rw[wU x,wU y];exact exy);have p2:2^5403=8*2^5400:=by rw[show(5403:Nat)=3+5400 from rfl,vB]
 have x1:x.natAbs<2^5403:=()
 have y1:y.natAbs<2^5403:=()
 have gle:g<=a:=uj ha d1;have g9:g<2^9000:=by
  have h9:(2:Nat)^5400<=2^9000:=wq (by decide) (by decide);have:((2^9000:Nat):Int)=(2:Int)^9000:=by norm_cast
  rfl'
 have dv1:K9 a g=af:=BW g0 g9;have dv2:K9 b g=af:=BW g0 g9;have f1:a.fdiv g=a/g:=w0z _ ();have f2:b.fdiv g=b/g:=w0z _ ();have k1:(a/g).natAbs<2^5400:=by rw[<-f1];have:=BK a g0;rfl'
 have k2:(b/g).natAbs<2^5400:=by rw[<-f2];have:=BK b g0;rfl'
 have ap:0<a/g:=Int.ediv_pos_of_pos_of_dvd ha () d1;have lp:0<a/g*b:=w1K ap hb;refine⟨g,x,y,a/g,b/g,a/g*b,?_,z,rfl,lp,d1⟩;have m1:E4 (a/g) b=af:=K4 k1 a2 (by decide);have m2:E4 (-y) (b/g)=af:=K4 (by rw[w0e];exact y1) k2 (by decide);have m3:E4 x (a/g)=af:=K4 x1 k1 (by decide);have s1:(-y*(b/g)).natAbs<2^(5403+5400):=by
  rw[vq,vB,w0e];exact uW y1 k2
 have s2:(x*(a/g)).natAbs<2^(5403+5400):=by
  rw[vq,vB];exact uW x1 k1
 have e1:=J4 w1 (-y*(b/g)) (ET s1 l1 (by decide));have e2:=J4 w2 (x*(a/g)) (ET s2 l2 (by decide));have e3:=Hj (gh (-y*(b/g)) w1) (gh (x*(a/g)) w2) (by rw[A0,A0,h1,h2]);have e4:=Hj w1 w2 (by rw[h1,h2]);have e5:=Ho (gy w1 w2) g g0;have e6:=Ho (gy (gh (-y*(b/g)) w1) (gh (x*(a/g)) w2)) (a/g*b) lp;have eb:DP [.int a,.int b]=aa (.tup [.int g,.int x,.int y]):=eb;generalize gy (gh (-y*(b/g)) w1) (gh (x*(a/g)) w2)=u at *;generalize gh (-y*(b/g)) w1=u1 at *;generalize gh (x*(a/g)) w2=u2 at *;generalize gy w1 w2=u3 at *;have q:DS [.sh ab (.tup [L w1,.int a]),.sh ab (.tup [L w2,.int b]),.no,.no,.no,.no,.no]=aa (.rt .nw (.tup [.tup [L (gz g u3),.int g],.tup [L (gz (a/g*b) u),.int (a/g*b)]])):=by
  unfold DS;refine run (by simp[fQ,eb];rfl) ?_;refine run (by simp[fQ];rfl) ?_;refine run (by simp[fQ,dv1,f1,m1];rfl) ?_;refine run (by simp[fQ,e4];rfl) ?_;refine run (by simp[fQ,dv1,dv2,f1,f2,m2,m3,e1,e2,e3];rfl) ?_;simp[fQ,e5,e6]
 unfold Aw fQ;rw[ak (show[Dt.tup [L w1,.int a],.tup [L w2,.int b]].length=2 from rfl)];show(DS [.sh ab (.tup [L w1,.int a]),.sh ab (.tup [L w2,.int b]),.no,.no,.no,.no,.no]).bind _=_;rw[q];rfl
theorem Ee{γ:Type}{g:Tg}{F:FS}(R:γ->gI)(P:Nat->γ->Prop):∀(n k:Nat)(j:γ),P k j->(∀i j,k<=i->i<k+n->P i j->∃j',(g.put (.int (i:Int)) (R j)).bind F=aa (.nx (R j'))/\P (i+1) j')->∃j',gk g F (L9 (k:Int) n) (R j)=aa (.nx (R j'))/\P (k+n) j'
 |0,k,j,p,_=>⟨j,rfl,p⟩
 |n+1,k,j,p,h=>by
  obtain⟨j1,h1,p1⟩:=h k j (wt _) () p;obtain⟨j2,h2,p2⟩:=Ee R P n (k+1) j1 p1 λi j hi hl=>h i j () ();refine⟨j2,?_,by rw[show k+(n+1)=k+1+n by rfl'];exact p2⟩;rw[o9,w0a,wx,F0,show Dt.int ((k:Int)+((0:Nat):Int))=.int (k:Int) by simp,h1,wM];rw[<-h2,o9];show gk g F _ (R j1)=gk g F _ (R j1);congr 1;apply vI;intro i _;show Dt.int ((k:Int)+((i+1:Nat):Int))=Dt.int (((k+1:Nat):Int)+(i:Int));congr 1;rfl'
structure Cs(n r:Nat)(w:Int)(G:aA)(K0:gc)(t s:Nat)(M:gc):Prop where
 ms:St.Ms n G (M++K0)
 ch:St.Chn w t s M
 len:M.length=r
 lt:∀x∈M,Lt (2^5461) x.1
theorem Us{p:Int}(hp:0<p)(hb:p<2^5400)(r:aH):Lt (2^5461) (gz p r):=λk=>by
 have c:((2^5400:Nat):Int)=(2:Int)^5400:=by norm_cast
 have h:(2:Nat)^5400<=2^5461:=wq (by decide) (by decide);by_cases hk:k<(gz p r).length
 .have:=Uo hp (r:=r) (at0 (gz p r) k) (by unfold at0;rw[am,wa hk];exact vx _);rfl'
 .rw[u7 ()];exact wK _
abbrev KF:FS:=(sSeq (V8 4 (i0 af Aw (b7 (fAt (fN 1) (fN 2)) (b7 (fAt (fN 1) (fN 3)) fNil))))
 (sSeq (sPut 1 (fN 2) (fAt (fN 4) (fC (.int 0))))
 (sPut 1 (fN 3) (fAt (fN 4) (fC (.int 1))))))
abbrev tD(x:aH×Int):Dt:=.tup [L x.1,.int x.2]
theorem z0D{n r:Nat}{w:Int}{G:aA}{K0:gc}{t s:Nat}{M:gc}(b:Mb r n w)(I:Cs n r w G K0 t s M)(hts:t<s)(hs:s<r)(c0 c4:Cell)(f:Bool):
   ∃M' c4' f',KF [c0,.ow f (M.map tD),.sh ab (.int t),.sh ab (.int s),c4]=aa (.nx [c0,.ow f' (M'.map tD),.sh ab (.int t),.sh ab (.int s),c4'])/\Cs n r w G K0 t (s+1) M':=by
 have lM:=I.len;have get:∀i,i<r->M[i]?=aa (mw M i,mp M i):=λi hi=>by
   unfold mw mp;rw[am,wa (show i<M.length by rfl')];rfl
 have mem:∀i,i<r->(mw M i,mp M i)∈M:=λi hi=>vN (get i hi);have rows:∀i,i<r->(mw M i).length=n:=λi hi=>I.ms.rows _ (ww.mpr (.inl (mem i hi)));have bd:∀i,i<r->mp M i<2^5400:=λi hi=>b.hd (I.ch.whole i ());obtain⟨g,x,y,a',b',lc,e,z,hlc,lp,gd⟩:=z0C (n:=n) (mw M t) (mw M s) (mp M t) (mp M s) (rows t ()) (rows s hs) (I.ch.pos t ()) (I.ch.pos s ()) (bd t ()) (bd s hs) (I.lt _ (mem t ())) (I.lt _ (mem s hs));have ch':=I.ch.link (u:=gz g (gy (mw M t) (mw M s))) (l:=gz lc (gy (gh (-y*b') (mw M t)) (gh (x*a') (mw M s)))) hts () z hlc;have lu:(gz g (gy (mw M t) (mw M s))).length=n:=by rw[Hn,S6 (by rw[rows t (),rows s hs]),rows t ()]
 have ll:(gz lc (gy (gh (-y*b') (mw M t)) (gh (x*a') (mw M s)))).length=n:=by rw[Hn,S6 (by rw[A0,A0,rows t (),rows s hs]),A0,rows t ()]
 have ms':=z5b (u:=gz g (gy (mw M t) (mw M s))) (l:=gz lc (gy (gh (-y*b') (mw M t)) (gh (x*a') (mw M s)))) I.ms hlc () () () z lu ll
   (λk=>by rw[Kq,Hc (by rw[rows t (),rows s hs])]) (λk=>by rw[Kq,Hc (by rw[A0,A0,rows t (),rows s hs]),AW,AW,uq])
 have gb:g<2^5400:=by have:=uj (I.ch.pos t ()) gd;have:=bd t ();rfl'
 have lb:lc<2^5400:=b.hd (by
   have:=ch'.whole s (by simp;rfl');unfold mp at this;rw[Lv () () (),ak rfl]at this;exact this)
 have u2:=Us z.gp gb (gy (mw M t) (mw M s));have l2:=Us lp lb (gy (gh (-y*b') (mw M t)) (gh (x*a') (mw M s)));generalize gz g (gy (mw M t) (mw M s))=u at *;generalize gz lc (gy (gh (-y*b') (mw M t)) (gh (x*a') (mw M s)))=l at *;have at1:gJ (M.map tD) (t:Int)=aa (tD (mw M t,mp M t)):=X6 (by rw[wv,get t ()];rfl);have at2:gJ (M.map tD) (s:Int)=aa (tD (mw M s,mp M s)):=X6 (by rw[wv,get s hs];rfl);have mlen:(M.map tD).length=r:=by rw[wn,lM]
 have st:((M.set t (u,g)).set s (l,lc)).map tD=((M.map tD).set t (tD (u,g))).set s (tD (l,lc)):=by rw[w1u,w1u]
 generalize M.map tD=D at *;have x1:iD D.length (t:Int)=aa t:=PL ();have x2:iD D.length (s:Int)=aa s:=PL ();have e1:V8 4 (i0 af Aw (b7 (fAt (fN 1) (fN 2)) (b7 (fAt (fN 1) (fN 3)) fNil))) [c0,.ow f D,.sh ab (.int t),.sh ab (.int s),c4]=aa (.nx [c0,.ow f D,.sh ab (.int t),.sh ab (.int s),.sh af (.tup [tD (u,g),tD (l,lc)])]):=by
   have e:Aw [tD (mw M t,mp M t),tD (mw M s,mp M s)]=aa (.tup [tD (u,g),tD (l,lc)]):=e;generalize tD (mw M t,mp M t)=y1 at *;generalize tD (mw M s,mp M s)=y2 at *;have sn:∀(f:Fl)(d:Dt),(nrm f d).2=d:=λ_ _=>rfl;simp[fQ,at1,at2,sn,e]
 have e2:∃f1,sPut 1 (fN 2) (fAt (fN 4) (fC (.int 0))) [c0,.ow f D,.sh ab (.int t),.sh ab (.int s),.sh af (.tup [tD (u,g),tD (l,lc)])]=aa (.nx [c0,.ow f1 (D.set t (tD (u,g))),.sh ab (.int t),.sh ab (.int s),.sh af (.tup [tD (u,g),tD (l,lc)])]):=by
   generalize tD (u,g)=y1;generalize tD (l,lc)=y2;have sn:∀(f:Fl)(d:Dt),(nrm f d).2=d:=λ_ _=>rfl;refine⟨f&&(nrm (if y1.flat=af/\y2.flat=af then Fl.nw else Fl.fr).item y1).1.isFr,?_⟩;simp[fQ,x1,sn]
 obtain⟨f1,e2⟩:=e2;have e3:∃f2,sPut 1 (fN 3) (fAt (fN 4) (fC (.int 1))) [c0,.ow f1 (D.set t (tD (u,g))),.sh ab (.int t),.sh ab (.int s),.sh af (.tup [tD (u,g),tD (l,lc)])]=aa (.nx [c0,.ow f2 ((D.set t (tD (u,g))).set s (tD (l,lc))),.sh ab (.int t),.sh ab (.int s),.sh af (.tup [tD (u,g),tD (l,lc)])]):=by
   have x2:iD (D.set t (tD (u,g))).length (s:Int)=aa s:=by rw[vS];exact x2
   generalize D.set t (tD (u,g))=E at *;generalize tD (u,g)=y1;generalize tD (l,lc)=y2;have sn:∀(f:Fl)(d:Dt),(nrm f d).2=d:=λ_ _=>rfl;refine⟨f1&&(nrm (if y1.flat=af/\y2.flat=af then Fl.nw else Fl.fr).item y2).1.isFr,?_⟩;simp[fQ,x2,sn]
 obtain⟨f2,e3⟩:=e3;refine⟨(M.set t (u,g)).set s (l,lc),.sh af (.tup [tD (u,g),tD (l,lc)]),f2,run e1 (run e2 (by rw[st];exact e3)),⟨ms',ch',by simp[lM],λx hx=>?_⟩⟩;rcases uE hx with hx|rfl
 .rcases uE hx with hx|rfl
  .exact I.lt x hx
  .exact u2
 .exact l2
theorem Ut{n r:Nat}{w:Int}{G:aA}{K0:gc}{t:Nat}{M:gc}(b:Mb r n w)(I:Cs n r w G K0 t (t+1) M)(ht:t<r)(c0 c3 c4:Cell)(f:Bool):
  ∃M' c3' c4' f',gk (Tg.one 3) KF (L9 ((t+1:Nat):Int) (r-(t+1))) [c0,.ow f (M.map tD),.sh ab (.int t),c3,c4]=aa (.nx [c0,.ow f' (M'.map tD),.sh ab (.int t),c3',c4'])/\Cs n r w G K0 (t+1) (t+2) M':=by
 obtain⟨j,e,p⟩:=Ee (g:=Tg.one 3) (F:=KF) (λj:gc×Cell×Cell×Bool=>[c0,.ow j.2.2.2 (j.1.map tD),.sh ab (.int t),j.2.1,j.2.2.1]) (λs j=>Cs n r w G K0 t s j.1) (r-(t+1)) (t+1) (M,c3,c4,f) I λs j h1 h2 p=>by
  obtain⟨M',c4',f',e,p'⟩:=z0D b p () () c0 j.2.2.1 j.2.2.2;exact⟨(M',.sh ab (.int s),c4',f'),e,p'⟩
 exact⟨j.1,j.2.1,j.2.2.1,j.2.2.2,e,⟨p.ms,p.ch.next (by rw[p.len];rfl'),p.len,p.lt⟩⟩
theorem lS(M:gc):∃f,sOwn 1 (fBlt bLst (b7 (fN 0) fNil)) [.sh ab (MD M),.no,.no,.no,.no]=aa (.nx [.sh ab (MD M),.ow f (M.map tD),.no,.no,.no]):=by
 cases M with
 |nil=>exact⟨af,by simp[fQ,MD]⟩
 |cons x M=>exact⟨ab,by simp[fQ,MD,gM,ji,Dt.flat,L8]⟩
abbrev RA:FI:=j9 (fBlt bLen (b7 (fN 1) fNil))
abbrev RB:FI:=Cv (fOp o6 (fN 2) (fC (.int 1))) (fBlt bLen (b7 (fN 1) fNil))
theorem oJ(c0:Cell)(D:fK)(f:Bool)(h:D.length<=1000):RA [c0,.ow f D,.no,.no,.no]=aa (L9 0 D.length):=by
 have ok2:Ah (D.length:Int)=af:=CA ();cases f<;>simp[fQ,ok2]
theorem oI(c0 d3 d4:Cell)(D:fK)(f:Bool)(t:Nat)(h:D.length<=1000)(ht:t<=1000):RB [c0,.ow f D,.sh ab (.int t),d3,d4]=aa (L9 ((t+1:Nat):Int) (D.length-(t+1))):=by
 have ok1:Ah ((t:Int)+1)=af:=by have:=CA (n:=t+1) ();rwa [show((t+1:Nat):Int)=(t:Int)+1 by rfl']at this
 have ok2:Ah (D.length:Int)=af:=CA ();have rg:((D.length:Int)-((t:Int)+1)).toNat=D.length-(t+1):=()
 have h1:fOp o6 (fN 2) (fC (.int 1)) [c0,.ow f D,.sh ab (.int t),d3,d4]=aa (.nw,.int ((t:Int)+1)):=by simp[fQ]
 have h2:fBlt bLen (b7 (fN 1) fNil) [c0,.ow f D,.sh ab (.int t),d3,d4]=aa (.nw,.int (D.length:Int)):=by cases f<;>simp[fQ]
 rw[show((t+1:Nat):Int)=(t:Int)+1 by rfl'];unfold RB Cv;rw[h1,v4,h2,v4];have i1:intD ((Fl.nw,Dt.int ((t:Int)+1)):Dv).2=aa ((t:Int)+1):=rfl;have i2:intD ((Fl.nw,Dt.int (D.length:Int)):Dv).2=aa (D.length:Int):=rfl;rw[i1,v4,i2,v4,ok1,ok2,rg];rfl
theorem z5i{n r:Nat}{w:Int}{G:aA}{K0:gc}{M:gc}{t:Nat}(b:Mb r n w)(I:Cs n r w G K0 t (t+1) M)(ht:t<r)(c0 d2 d3 d4:Cell)(f:Bool):
  ∃M' c3' c4' f',(Tg.put (Tg.one 2) (.int t) [c0,.ow f (M.map tD),d2,d3,d4]).bind (JB RB (Tg.one 3) KF)=aa (.nx [c0,.ow f' (M'.map tD),.sh ab (.int t),c3',c4'])/\Cs n r w G K0 (t+1) (t+2) M':=by
 have r6:=b.r6;obtain⟨M',c3',c4',f',e,p'⟩:=Ut b I ht c0 d3 d4 f;refine⟨M',c3',c4',f',?_,p'⟩;have pl:(M.map tD).length=r:=by rw[wn,I.len]
 have it:=oI c0 d3 d4 (M.map tD) f t () ();rw[pl]at it;have pt:Tg.put (Tg.one 2) (.int t) [c0,.ow f (M.map tD),d2,d3,d4]=aa [c0,.ow f (M.map tD),.sh ab (.int t),d3,d4]:=rfl;rw[pt,v4,tK,it,v4];exact e
theorem z5j{n r:Nat}{w:Int}{G:aA}{K0:gc}{M:gc}(b:Mb r n w)(I:Cs n r w G K0 0 1 M)(c0:Cell)(f:Bool):∃M' f' c2 c3 c4,JB RA (Tg.one 2) (JB RB (Tg.one 3) KF) [c0,.ow f (M.map tD),.no,.no,.no]=aa (.nx [c0,.ow f' (M'.map tD),c2,c3,c4])/\Cs n r w G K0 r (r+1) M':=by
 have r6:=b.r6;generalize hF:JB RB (Tg.one 3) KF=F;obtain⟨j,e,p⟩:=Ee (g:=Tg.one 2) (F:=F) (λj:gc×Cell×Cell×Cell×Bool=>[c0,.ow j.2.2.2.2 (j.1.map tD),j.2.1,j.2.2.1,j.2.2.2.1]) (λs j=>Cs n r w G K0 s (s+1) j.1) r 0 (M,.no,.no,.no,f) I λt j h1 h2 p=>by
  obtain⟨M',c3',c4',f',e,p'⟩:=z5i b p () c0 j.2.1 j.2.2.1 j.2.2.2.1 j.2.2.2.2;rw[hF]at e;exact⟨(M',.sh ab (.int t),c3',c4',f'),e,p'⟩
 have pl:(M.map tD).length=r:=by rw[wn,I.len]
 have it:=oJ c0 (M.map tD) f ();rw[pl]at it;refine⟨j.1,j.2.2.2.2,j.2.1,j.2.2.1,j.2.2.2.1,?_,by rw[uu]at p;exact p⟩;rw[tK,it,v4];exact e
theorem z5k(M1:gc)(pos:∀x∈M1,0<x.2)(c0 c2 c3 c4:Cell)(f1:Bool):j8 2 [] (iSeq (fN 1)) (Tg.many [0,1]) fYes (fTup (b7 (i0 af V5 (b7 (fN 0) (b7 (fN 1) fNil))) (b7 (fN 1) fNil))) [c0,.ow f1 (M1.map tD),c2,c3,c4]=aa (.nw,MD (M1.map λx=>(gz x.2 x.1,x.2))):=by
 rw[k7 (e:=tD) (h:=λx=>tD (gz x.2 x.1,x.2)) (xs:=M1) (by cases f1<;>simp[fQ]) (λx hx=>by
  have:=Ho x.1 x.2 (pos x hx);simp[fQ,tD,this])]
 unfold MD;rw[wM];rfl
theorem z5l{n r:Nat}{w:Int}{G:aA}{K0 M1:gc}(b:Mb r n w)(p:Cs n r w G K0 r (r+1) M1)(pos:∀x∈M1,0<x.2):Cs n r w G K0 r (r+1) (M1.map λx=>(gz x.2 x.1,x.2)):=by
 have get:∀i,i<r->M1[i]?=aa (mw M1 i,mp M1 i):=λi hi=>by
   have hi:i<M1.length:=by rw[p.len];exact hi
   unfold mw mp;rw[am,wa hi];rfl
 have gm:∀i,i<r->mp (M1.map λx=>(gz x.2 x.1,x.2)) i=mp M1 i/\mw (M1.map λx=>(gz x.2 x.1,x.2)) i=gz (mp M1 i) (mw M1 i):=λi hi=>by
   have e:=get i hi;unfold mp mw at e|-;rw[am,wv,e];exact⟨rfl,rfl⟩
 have lm:(M1.map λx=>(gz x.2 x.1,x.2)).length=r:=by rw[wn,p.len]
 have pl:=p.len;refine⟨p.ms.rest (λx hx=>?_) (by rw[wF,wF,lm,pl]) (λi hi=>?_) (λi hi v=>?_),⟨λi hi=>?_,λi hi=>?_,λi j h1 h2 h3=>?_,λj h1 h2 h3=>?_⟩,lm,λx hx=>?_⟩
 .rcases ww.mp hx with hx|hx
  .obtain⟨y,hy,rfl⟩:=wj.mp hx;show(gz y.2 y.1).length=n;rw[Hn];exact p.ms.rows y (ww.mpr (.inl hy))
  .exact p.ms.rows x (ww.mpr (.inr hx))
 .by_cases h:i<r
  .rw[(X1 ()).1,(X1 ()).1,(gm i h).1]
  .unfold mp;rw[AV,AV,lm,pl,ao h,ao h]
 .by_cases h:i<r
  .rw[(X1 ()).1,(X1 ()).2,(X1 ()).2,(gm i h).2];exact z5a (q:=λk=>(at0 (mw M1 i) k).fdiv (mp M1 i)) (λk=>Kq _ _ k) v
  .unfold mw;rw[AV,AV,lm,pl,ao h,ao h];exact⟨0,()⟩
 .rw[(gm i ()).1];exact p.ch.pos i ()
 .rw[(gm i ()).1];exact p.ch.whole i ()
 .rw[(gm i ()).1,(gm j ()).1];exact p.ch.all i j h1 h2 ()
 .rfl'
 .obtain⟨y,hy,rfl⟩:=wj.mp hx;obtain⟨i,hi,rfl⟩:=wI hy;have w1:=p.ch.whole i hi;unfold mp at w1;rw[am,wa hi]at w1;exact Us (pos _ hy) (b.hd w1) _
theorem Uu{n r:Nat}{w:Int}{G:aA}{K0:gc}{M:gc}(b:Mb r n w)(I:Cs n r w G K0 0 1 M):
   ∃M',Z6 [MD M]=aa (MD M')/\Cs n r w G K0 r (r+1) M'/\∀x∈M',∀y∈x.1,0<=y/\y<x.2:=by
 obtain⟨f,own⟩:=lS M;obtain⟨M1,f1,c2,c3,c4,e1,p⟩:=z5j b I (.sh ab (MD M)) f;have pos:∀x∈M1,0<x.2:=λx hx=>by
   obtain⟨i,hi,rfl⟩:=wI hx;have:=p.ch.pos i hi;unfold mp at this;rw[am,wa hi]at this;exact this
 have cm:=z5k M1 pos (.sh ab (MD M)) c2 c3 c4 f1;have cr:=z5l b p pos;refine⟨M1.map λx=>(gz x.2 x.1,x.2),?_,cr,λx hx=>?_⟩
 .generalize M1.map (λx=>(gz x.2 x.1,x.2))=M2 at *;generalize M1.map tD=D1 at *;generalize M.map tD=D at *;have q:BS [.sh ab (MD M),.no,.no,.no,.no]=aa (.rt .nw (MD M2)):=by
   unfold BS;refine run own (run e1 ?_);unfold sRet;rw[cm];rfl
  unfold Z6 fQ;rw[ak (show[MD M].length=1 from rfl)];show(BS [.sh ab (MD M),.no,.no,.no,.no]).bind _=_;rw[q];rfl
 .obtain⟨y,hy,rfl⟩:=wj.mp hx;exact Uo (pos y hy)
theorem lW(k:Nat)(h:k<=8):gR k (10^30)+1<=2^899:=by
 have:=DG (B:=10^30) h (by decide) (by decide);have e:gR 8 (10^30)+1<=2^899:=by unfold gR;decide
 rfl'
theorem Qk(k:Nat)(h:k<=6):gR k (2^900)+1<=2^5461:=by
 have h1:=DG (r:=k) (s:=6) (B:=2^900) h (wK _) (by decide);have h2:gR 6 (2^900)<=2^5460:=by
  unfold gR;have a:2*6*2^900<=2^904:=by
   rw[show(904:Nat)=4+900 from rfl,vB];exact wN _ (by decide)
  have b:=uZ a 6;rw[<-Nat.pow_mul]at b;have c:(2:Nat)^5460=2^(904*6)*2^(6*6):=by rw[<-vB]
  rw[c];exact wN _ b
 have h3:(2:Nat)^5460<2^5461:=uT (by decide) (by decide);rfl'
def Zi(xs:aH):Int:=xs.foldl (λt x=>t*x) 1
theorem Uv{e:Nat}(xs:aH)(h:∀x∈xs,x.natAbs<2^e)(he:e*(xs.length+1)<=1000000):EN [L xs]=aa (.int (Zi xs)):=by
 have key:∀(ys:aH)(t:Int)(k:Nat)(c0 c2:Cell)(f:Bool),(∀x∈ys,x.natAbs<2^e)->t.natAbs<2^k->k+e*(ys.length+1)<=2000000->∃f' c2',gk (Tg.one 2) (sSet [] 1 (fOp D9 (fN 1) (fN 2))) (ys.map Dt.int) [c0,.sh f (.int t),c2]=aa (.nx [c0,.sh f' (.int (ys.foldl (λt x=>t*x) t)),c2']):=by
  intro ys
  induction ys with
  |nil=>intro t k c0 c2 f _ _ _;exact⟨f,c2,rfl⟩
  | cons y ys ih =>
   intro t k c0 c2 f hy ht hk;have e1:e*(ys.length+1+1)=e*(ys.length+1)+e:=Nat.mul_succ _ _;rw[wu,e1]at hk;have m:E4 t y=af:=K4 ht (hy y wf) ();have b:(t*y).natAbs<2^(k+e):=by rw[vq,vB];exact uW ht (hy y wf)
   obtain⟨f',c2',q⟩:=ih (t*y) (k+e) c0 (.sh ab (.int y)) af (λx hx=>hy x (wc _ hx)) b ();refine⟨f',c2',?_⟩;rw[wx,F0,w13,<-q];have s:(Tg.put (Tg.one 2) (.int y) [c0,.sh f (.int t),c2]).bind (sSet [] 1 (fOp D9 (fN 1) (fN 2)))=aa (.nx [c0,.sh af (.int (t*y)),.sh ab (.int y)]):=by
    simp[fQ,m]
   rw[s];rfl
 obtain⟨f',c2',q⟩:=key xs 1 1 (.sh ab (L xs)) .no af h (by decide) ();unfold EN IM;have q:gk (Tg.one 2) (sSet [] 1 (fOp D9 (fN 1) (fN 2))) (xs.map Dt.int) [.sh ab (L xs),.sh af (.int 1),.no]=aa (.nx [.sh ab (L xs),.sh f' (.int (Zi xs)),c2']):=q;simp[fQ,q]
theorem z2k(A:aA)(r:Nat):Zi ((ah r).map λi=>fW A i i)=St.pr A r:=by
 unfold Zi
 induction r with
 |zero=>rfl
 |succ r ih=>rw[uO,vn,w1v,ih];rfl
theorem LY(P:aA){n:Nat}(h:P.length=n):pair P (units n)=N9 P:=by
 have e0:=Qh P.length 0 P;rw[<-uS]at e0;rw[LW];unfold units;rw[<-h];exact e0
structure Mz(n r:Nat)(G:aA)(M:gc):Prop where
 ms:St.Ms n G M
 len:M.length=n
 rn:r<=n
 pos:∀i,i<r->0<mp M i
 dvd:∀i j,i<j->j<r->mp M i∣mp M j
 zero:∀i,r<=i->i<n->mp M i=0
 big:∀x∈M,x.2<2^5400/\∀y∈x.1,y.natAbs<2^5461
abbrev zB(r:Nat)(S:aA):gc:=(gH r S).map λx=>(x,(0:Int))
theorem Hq{n g:Nat}{bills G:aA}(n6:n<=6)(hg:g<=899)(es:AY [k6 n bills]=aa (LL G))(Ga:Asc n 0 G)(gg:∀x∈G,Lt (2^g) x):∃M,r8 [k6 n bills]=aa (MD M)/\Mz n G.length G M/\∀x∈M,(0<x.2->x.2<=2^(g*G.length)/\∀y∈x.1,0<=y/\y<x.2)/\(x.2=0->∀y∈x.1,y.natAbs<gR n (2^(g+1))+1):=by
 have g899:∀x∈G,Lt (2^899) x:=λx hx=>(gg x hx).mono (wq (by decide) hg);have gl:=CD Ga (vh _);generalize hr:G.length=r at *;have rn:r<=n:=()
 have gr:∀x∈G,x.length=n:=λx hx=>(Ga.mem hx).1;have t1:=IX G n gr ();have pl:(gx n G).length=n:=D7 _ _;have tr:∀x∈gx n G,x.length=r:=λx hx=>by rw[X8 hx,hr]
 have pltq:∀q:Nat,(∀x∈G,Lt (2^q) x)->∀x∈pair (gx n G) (units n),Lt (2^(q+1)) x:=λq hq x hx k=>by
   obtain⟨i,hi,rfl⟩:=wI hx;have hi':i<n:=by rw[S9 (by rw[pl,E2]),pl]at hi;exact hi
   have e:at0 ((pair (gx n G) (units n))[i]) k=fW (pair (gx n G) (units n)) i k:=by unfold fW;simp[am,wa hi]
   rw[e,DK (n:=n) (r:=r) tr (by rw[pl];exact hi') (by rw[E2];exact hi')];have p2:(1:Nat)<2^(q+1):=w05 ();split
   .rw[K5 gr];by_cases hi:k<G.length
    .have:=hq _ (D6 hi) i;have:(fW G k i).natAbs<2^q:=this;rw[vX];rfl'
    .rw[C6 ()];simp only[Int.natAbs_zero];rfl'
   .rw[IE hi'];split<;>simp<;>rfl'
 have plt:∀x∈pair (gx n G) (units n),Lt (2^900) x:=pltq 899 g899;obtain⟨S,e2,G2⟩:=Gq (n:=r+n) (e:=5461) (eh:=5461) (B:=2^900) () (by decide) (wt _) (by decide) (gx n G) (units n) (by rw[pl,E2]) (NY tr (NZ n)) plt (wK _) (wq (by decide) (by decide)) (λk hk=>Qk k ())
   (λk S hk G0 x hx=>by
     have q:=G0.small (λr hr=>plt r (uI hr)) (wK _) x hx (b8 x);have l:=G0.len;have b:=Qk S.length (by rw[vy]at l;rfl');have q:(hd x).natAbs<gR S.length (2^900)+1:=q;have c2:((2^5461:Nat):Int)=(2:Int)^5461:=by norm_cast
     rfl') ()
 have sl:S.length=n:=by
   have:=G2.full (by rw[LY _ pl];exact Lr tr);rw[this,S9 (by rw[pl,E2]),pl]
 have s5461:∀x∈S,Lt (2^5461) x:=λx hx=>(G2.small plt (wK _) x hx).mono (Qk _ ());obtain⟨W,tk,eW,bl,m0,te,_⟩:=St.start Ga hr G2.asc G2.form sl G2.span;have sq:=m0.sq;have wp:0<St.pr (gu r S) r:=St.TW λi hi=>sq.pos hi;have hs:=EE (r:=r) G2.span;rw[EG tr (by rw[pl,E2])]at hs;have sb:∀e,(∀x∈G,hd x<2^e)->St.pr (gu r S) r<=2^(e*r):=λe he=>RL Ga hr sq (λx hx=>by
   have:=hs.iff.mpr (m9 hx);refine Lat.Span.trans (λv hv=>?_) this;obtain⟨y,hy,rfl⟩:=wj.mp hv;obtain⟨z,hz,rfl⟩:=wj.mp hy;exact Lat.Span.congr (λk=>by simp only[gZ];rw[J2]) (ID (n:=r) G2.asc (m9 hz))) he
 have wb:=sb 899 (pL Ga g899);have wg:=sb g (pL Ga gg);have b:Mb r n (St.pr (gu r S) r):=⟨(),n6,wp,by
   have h1:(2:Nat)^(899*r)<=2^5394:=wq (by decide) ();have h2:(2:Nat)^5394<2^5400:=uT (by decide) (by decide);have c1:((2^(899*r):Nat):Int)=(2:Int)^(899*r):=by norm_cast
   have c2:((2^5400:Nat):Int)=(2:Int)^5400:=by norm_cast
   rfl'⟩
 generalize hw:St.pr (gu r S) r=w at *;have wl:=m0.wl;have mw0:Mw r n w G (gH r S) (gu r S) W:=⟨m0,λx hx k=>by
   rw[eW]at hx;obtain⟨y,hy,rfl⟩:=wj.mp hx;rw[B8];exact s5461 y (uI hy) _⟩
 obtain⟨A',W',e3,I',hc⟩:=Ur b mw0;have br:∀x∈gH r S,x.length=n:=λx hx=>by
   unfold gH at hx;obtain⟨y,hy,rfl⟩:=wj.mp hx;rw[wR,(G2.asc.mem (wQ.mp hy).1).1];rfl'
 have dl:(Q9 A' W').length=r:=by unfold Q9;rw[wn,IZ,I'.m.wl]
 have kl:(zB r S).length=n-r:=by rw[wn,bl]
 have k0:∀j,j<n-r->(zB r S).getD j ([],0)=((gH r S).getD j [],0):=λj hj=>by
   simp[am,wv,wa (show j<(gH r S).length by rfl')]
 have ms0:St.Ms n G (Q9 A' W'++zB r S):=I'.m.meas hc br _ (by rw[wF,dl,kl,bl])
   (λi hi=>by
     have:=LX A' W' (i:=i) (by rw[I'.m.wl];exact hi);rw[(X1 ()).1,(X1 ()).2];exact this)
   (λj hj=>by
     unfold mw mp;rw[AV,dl,ao (),show r+j-r=j by rfl',k0 j ()];exact⟨rfl,rfl⟩)
 have cs:Cs n r w G (zB r S) 0 1 (Q9 A' W'):=⟨ms0,St.Chn.first (λi hi=>by
     rw[(LX A' W' (i:=i) (by rw[I'.m.wl];rfl')).2];exact I'.m.sq.pos ()) (λi hi=>by
     rw[(LX A' W' (i:=i) (by rw[I'.m.wl];rfl')).2];exact I'.m.sq.whole_col I'.m.whole ()),dl,λx hx=>by
     unfold Q9 at hx;obtain⟨q,hq,rfl⟩:=wj.mp hx;obtain⟨i,hi,rfl⟩:=Z8.mp hq;exact I'.wb _ (D6 hi)⟩
 obtain⟨M',e4,c',lt'⟩:=Uu b cs;have e5:=Hm S r;refine⟨M'++zB r S,?_,⟨c'.ms,by rw[wF,c'.len,kl];rfl',rn,λi hi=>?_,λi j h1 h2=>?_,λi h1 h2=>?_,λx hx=>?_⟩,λx hx=>?_⟩
 .have u1:∀d0 d2 d3 d4 d5 d6 d7:Cell,∀f1,j8 1 [1] (j9 (fN 1)) (Tg.one 0) fYes (i0 af E7 (b7 (fN 1) (b7 (fN 0) fNil))) [d0,.sh f1 (.int n),d2,d3,d4,d5,d6,d7]=aa (.nw,LL (units n)):=λd0 d2 d3 d4 d5 d6 d7 f1=>by
    rw[k7 (e:=λ(k:Nat)=>.int (0+(k:Int))) (h:=λk=>L (k8 n k)) (xs:=ah n) (by simp[fQ,iN n (),o9]) (λj _=>by
      have u:=Bc n j ();simp[fQ,u])]
    simp[LL,units]
  have ntk:gM ((S.map L).take r)=gM ((S.take r).map L):=by rw[w0L]
  have c1:∀d0 d1 d2 d5 d6 d7:Cell,∀f3 f4,j8 1 [3] (iSeq (ic (fN 4) A4 (G6 (fN 3)))) (Tg.one 0) fYes (ic (fN 0) A4 (G6 (fN 1))) [d0,d1,d2,.sh f3 (.int r),.sh f4 (LL S),d5,d6,d7]=aa (.nw,LL (gu r S)):=λd0 d1 d2 d5 d6 d7 f3 f4=>by
    rw[te,k7 (e:=L) (h:=λx=>L (x.take r)) (xs:=S.take r) (by cases f4<;>simp[fQ,Lj,gM,w0L]) (λx hx=>by simp[fQ,Lj,Ao])];unfold LL;rw[wM];rfl
  have c2:∀d0 d1 d2 d5 d6 d7:Cell,∀f3 f4,j8 1 [3] (iSeq (ic (fN 4) A4 (G6 (fN 3)))) (Tg.one 0) fYes (ic (fN 0) (G6 (fN 1)) A4) [d0,d1,d2,.sh f3 (.int r),.sh f4 (LL S),d5,d6,d7]=aa (.nw,LL W):=λd0 d1 d2 d5 d6 d7 f3 f4=>by
    rw[eW,k7 (e:=L) (h:=λx=>L (x.drop r)) (xs:=S.take r) (by cases f4<;>simp[fQ,Lj,gM,w0L]) (λx hx=>by simp[fQ,W0,E5])];unfold LL;rw[wM];rfl
  have tl:=sq.len;have c3:∀d0 d1 d2 d3 d4 d6 d7:Cell,∀f5,j8 2 [] (Ak (fN 5)) (Tg.many [0,1]) fYes (fAt (fN 1) (fN 0)) [d0,d1,d2,d3,d4,.sh f5 (LL (gu r S)),d6,d7]=aa (.nw,L ((ah r).map λi=>fW (gu r S) i i)):=λd0 d1 d2 d3 d4 d6 d7 f5=>by
    rw[k7 (e:=λp:Nat×aH=>.tup [.int p.1,L p.2]) (h:=λp=>.int (fW (gu r S) p.1 p.1)) (xs:=J5 0 (gu r S)) (by simp[fQ,BX]) (λp hp=>by
      obtain⟨i,hi,rfl⟩:=Z8.mp hp;rw[uu];have h2:=Ed (r:=(gu r S).getD i []) (k:=i) (by rw[sq.rows _ (D6 hi)];rfl');have x:fW (gu r S) i i=at0 ((gu r S).getD i []) i:=rfl;rw[x];generalize (gu r S).getD i []=ra at h2|-;simp[fQ,h2])]
    have x:(J5 0 (gu r S)).map (λp=>Dt.int (fW (gu r S) p.1 p.1))=((ah r).map λi=>fW (gu r S) i i).map Dt.int:=by
      refine List.ext_getElem? λi=>?_;rw[wv,wv,wv];by_cases hi:i<r
      .rw[Ja 0 _ i (),vC hi,uu];rfl
      .rw[wW (by rw[IZ];rfl'),wW (by simp;rfl')];rfl
    rw[x]
  have pe:=Uv (e:=5400) ((ah r).map λi=>fW (gu r S) i i) (λx hx=>by
    obtain⟨i,hi,rfl⟩:=wj.mp hx;have hi:=wJ.mp hi;have h1:=b.hd (sq.whole_col m0.whole hi);have h2:=sq.pos hi;have c2:((2^5400:Nat):Int)=(2:Int)^5400:=by norm_cast
    rfl') (by rw[wn,vJ];have:=b.r6;rfl')
  rw[z2k,hw]at pe;have k1:∀d0 d1 d2 d5 d6 d7:Cell,∀f3 f4,∃fl,j8 1 [] (iSeq (i0 af D3 (b7 (fN 4) (b7 (fN 3) fNil)))) (Tg.one 0) fYes (fTup (b7 (fN 0) (b7 (fC (.int 0)) fNil))) [d0,d1,d2,.sh f3 (.int r),.sh f4 (LL S),d5,d6,d7]=aa (fl,MD (zB r S)):=λd0 d1 d2 d5 d6 d7 f3 f4=>by
    have key:=Li (nt:=1) (js:=[]) (Fi:=iSeq (i0 af D3 (b7 (fN 4) (b7 (fN 3) fNil)))) (g:=Tg.one 0) (Fe:=fTup (b7 (fN 0) (b7 (fC (.int 0)) fNil))) (ρ:=[d0,d1,d2,.sh f3 (.int r),.sh f4 (LL S),d5,d6,d7]) (e:=L) (h:=λx=>(.sh,.tup [L x,.int 0])) (xs:=gH r S) (by simp[fQ,e5]) (λx hx=>by simp[fQ];rfl);have x:MD (zB r S)=.lst ((gH r S).map λx=>.tup [L x,.int 0]):=by
      unfold MD;rw[wM];rfl
    rw[x];exact⟨_,key⟩
  have cat:∀fa fb,∃fl,fOp o6 (λ_=>aa (fa,MD M')) (λ_=>aa (fb,MD (zB r S))) []=aa (fl,MD (M'++zB r S)):=λfa fb=>by
    have l1:(M'.map λx=>Dt.tup [L x.1,.int x.2]).length<=6:=by rw[wn,c'.len];exact b.r6
    have l2:((zB r S).map λx=>Dt.tup [L x.1,.int x.2]).length<=6:=by rw[wn,kl];rfl'
    have x:MD (M'++zB r S)=.lst ((M'.map λx=>Dt.tup [L x.1,.int x.2])++((zB r S).map λx=>Dt.tup [L x.1,.int x.2])):=by unfold MD;rw[vn]
    rw[x];unfold MD;generalize M'.map (λx=>Dt.tup [L x.1,.int x.2])=D1 at *;generalize (zB r S).map (λx=>Dt.tup [L x.1,.int x.2])=D2 at *;have y:o6 (.lst D1) (.lst D2)=Ds (.lst D1) (.lst D2):=rfl;refine⟨ji (D1++D2),?_⟩;show o6 (.lst D1) (.lst D2)=_;rw[y,Ds,ak ()];rfl
  have fin:∀d0 d1 d2 d5 d6:Cell,∀f3 f4 f7,∃fl,fOp o6 (i0 af Z6 (b7 (fN 7) fNil)) (j8 1 [] (iSeq (i0 af D3 (b7 (fN 4) (b7 (fN 3) fNil)))) (Tg.one 0) fYes (fTup (b7 (fN 0) (b7 (fC (.int 0)) fNil)))) [d0,d1,d2,.sh f3 (.int r),.sh f4 (LL S),d5,d6,.sh f7 (MD (Q9 A' W'))]=aa (fl,MD (M'++zB r S)):=λd0 d1 d2 d5 d6 f3 f4 f7=>by
    obtain⟨fb,k1⟩:=k1 d0 d1 d2 d5 d6 (.sh f7 (MD (Q9 A' W'))) f3 f4;have k2:∃fa,i0 af Z6 (b7 (fN 7) fNil) [d0,d1,d2,.sh f3 (.int r),.sh f4 (LL S),d5,d6,.sh f7 (MD (Q9 A' W'))]=aa (fa,MD M'):=by
      generalize MD (Q9 A' W')=Y at *;generalize MD M'=Z at *;have sn:∀(f:Fl)(d:Dt),(nrm f d).2=d:=λ_ _=>rfl;refine⟨(nrm .nw Z).1,?_⟩;simp[fQ,sn,e4]
    obtain⟨fa,k2⟩:=k2;obtain⟨fl,q⟩:=cat fa fb;refine⟨fl,?_⟩;unfold fOp at q|-;rw[k1,k2];exact q
  obtain⟨fl,fin⟩:=fin (.sh ab (k6 n bills)) (.sh af (.int n)) (.sh af (LL G)) (.sh af (LL (gu r S))) (.sh af (.int w)) af af ab;have nf:∀f,nrm f (MD (Q9 A' W'))=(f,MD (Q9 A' W')):=λf=>rfl;have q:Ax [.sh ab (k6 n bills),.no,.no,.no,.no,.no,.no,.no]=aa (.rt fl (MD (M'++zB r S))):=by
    unfold Ax;generalize (ah r).map (λi=>fW (gu r S) i i)=xs at *;generalize MD (Q9 A' W')=Y at *;refine run (by simp[fQ];rfl) ?_;refine run (by simp[fQ,es];rfl) ?_;refine run (by simp[fQ,hr];rfl) ?_;refine run (by simp[fQ,t1,u1,e2];rfl) ?_;refine run (by simp[fQ,c1];rfl) ?_;refine run (by simp[fQ,c3,pe];rfl) ?_;refine run (by simp[fQ,c2,e3,nf];rfl) ?_;exact bv (Option.map λx=>Oc.rt x.1 x.2) fin
  unfold r8 fQ;rw[ak (show[k6 n bills].length=1 from rfl)];show(Ax [.sh ab (k6 n bills),.no,.no,.no,.no,.no,.no,.no]).bind _=_;rw[q];rfl
 .rw[(X1 (by rw[c'.len];exact hi)).1];exact c'.ch.pos i (by rw[c'.len];exact hi)
 .rw[(X1 (by rw[c'.len];rfl')).1,(X1 (by rw[c'.len];rfl')).1];exact c'.ch.all i j () h1 (by rw[c'.len];rfl')
 .unfold mp;rw[AV,c'.len,ao (),k0 _ ()]
 .rcases ww.mp hx with hx|hx
  .obtain⟨i,hi,rfl⟩:=wI hx;have w1:=c'.ch.whole i hi;unfold mp at w1;rw[am,wa hi]at w1;have h1:=b.hd w1;refine⟨h1,λy hy=>?_⟩;have h2:=lt' _ hx y hy;have h3:(2:Nat)^5400<=2^5461:=wq (by decide) (by decide);have c2:((2^5400:Nat):Int)=(2:Int)^5400:=by norm_cast
   have h1:M'[i].2<2^5400:=h1;rfl'
  .obtain⟨z,hz,rfl⟩:=wj.mp hx;refine⟨Int.pow_pos (by decide),λy hy=>?_⟩;unfold gH at hz;obtain⟨u,hu,rfl⟩:=wj.mp hz;obtain⟨k,hk⟩:=BP hy;rw[<-hk];show(at0 (u.drop r) k).natAbs<_;rw[B8];exact s5461 u (wQ.mp hu).1 _
 .rcases ww.mp hx with hx|hx
  .refine⟨λ_=>⟨?_,lt' x hx⟩,λz=>?_⟩
   .obtain⟨i,hi,rfl⟩:=wI hx;have w1:=c'.ch.whole i hi;unfold mp at w1;rw[am,wa hi]at w1;have:=uj wp w1;have:M'[i].2<=w:=this;rfl'
   .obtain⟨i,hi,rfl⟩:=wI hx;have:=c'.ch.pos i hi;unfold mp at this;rw[am,wa hi]at this;have:0<M'[i].2:=this;rfl'
  .obtain⟨z,hz,rfl⟩:=wj.mp hx;refine⟨λq=>aM q (by simp),λ_ y hy=>?_⟩;unfold gH at hz;obtain⟨u,hu,rfl⟩:=wj.mp hz;obtain⟨k,hk⟩:=BP hy;rw[<-hk];show(at0 (u.drop r) k).natAbs<_;rw[B8];have G3:St.Good (r+n) (2^(g+1)) (pair (gx n G) (units n)) S:=⟨G2.asc,G2.form,G2.span,G2.ind,G2.len,G2.full⟩;have q:=G3.small (pltq g gg) (wK _) u (wQ.mp hu).1 (r+k);rw[sl]at q;exact q
theorem Ql{n:Nat}{bills G:aA}(n6:n<=6)(es:AY [k6 n bills]=aa (LL G))(Ga:Asc n 0 G)(g899:∀x∈G,Lt (2^899) x):∃M,r8 [k6 n bills]=aa (MD M)/\Mz n G.length G M:=by
 obtain⟨M,h1,h2,_⟩:=Hq n6 (wt _) es Ga g899;exact⟨M,h1,h2⟩
theorem z0E{n:Nat}{bills:aA}{M:gc}(h:r8 [k6 n bills]=aa (MD M)):T2 [k6 n bills]=aa (MD (M.filter λx=>!decide (x.2=1))):=by
 have key:∃f,j8 2 [] (iSeq (i0 ab r8 (b7 (fN 0) fNil))) (Tg.many [0,1]) (n4 (fOp opNe (fN 1) (fC (.int 1)))) (fTup (b7 (fN 0) (b7 (fN 1) fNil))) [.sh ab (k6 n bills)]=aa (f,MD (M.filter λx=>!decide (x.2=1))):=by
  unfold j8;have nf:nrm .sh (MD M)=(.sh,MD M):=rfl;have it:iSeq (i0 ab r8 (b7 (fN 0) fNil)) [.sh ab (k6 n bills)]=aa (M.map tD):=by
   have e:seqD (MD M)=aa (M.map tD):=rfl;generalize MD M=Y at *;simp[fQ,h,nf,e]
  rw[it,v4,Cz tD (λx=>(.sh,tD x)) (λx=>!decide (x.2=1)) M (λx _=>by simp[fQ,tD,A7]) (λx _ _=>by simp[fQ,tD];rfl),v4,Dz];exact⟨_,rfl⟩
 obtain⟨f,key⟩:=key;have q:DT [.sh ab (k6 n bills)]=aa (.rt f (MD (M.filter λx=>!decide (x.2=1)))):=by
  unfold DT sRet;rw[key];rfl
 unfold T2 fQ;rw[ak (show[k6 n bills].length=1 from rfl)];show(DT [.sh ab (k6 n bills)]).bind _=_;rw[q];rfl
def gE(w r:aH):Int:=(ah r.length).foldl (λt k=>t+at0 w k*at0 r k) 0
theorem Hr(w r:aH):gE w r=dt r.length w (gZ r):=by
 unfold gE dt;have key:∀(n:Nat)(f:Nat->Int)(t:Int),(ah n).foldl (λt k=>t+f k) t=t+sm n f:=by
  intro n
  induction n with
  |zero=>intro f t;simp[sm]
  |succ n ih=>
   intro f t;rw[w0a,w13,w1Y,sm];have:=ih (λk=>f (k+1)) (t+f 0);rw[this];rfl'
 rw[key r.length (λk=>at0 w k*at0 r k) 0,w0u]
theorem LZ{e:Nat}(w r:aH)(h:w.length=r.length)(h1:∀x∈w,x.natAbs<2^e)(h2:∀x∈r,x.natAbs<2^e)(he:e<=60000000)(hr:r.length<=1000):U9 [L w,L r]=aa (.int (gE w r)):=by
 obtain⟨j,q⟩:=FZ (g:=Tg.one 3) (F:=sSet [] 2 (fOp o6 (fN 2) (fOp D9 (fAt (fN 0) (fN 3)) (fAt (fN 1) (fN 3))))) (R:=λi(c:Cell)=>[.sh ab (L w),.sh ab (L r),.sh af (.int ((ah i).foldl (λt k=>t+at0 w k*at0 r k) 0)),c]) r.length .no (λi c hi=>⟨.sh ab (.int i),by
  have a1:=Ed (r:=w) (k:=i) ();have a2:=Ed (r:=r) (k:=i) hi;have m:E4 (at0 w i) (at0 r i)=af:=K4 (BL (wK e) h1 i) (BL (wK e) h2 i) ();rw[uO,w1v];generalize (ah i).foldl (λt k=>t+at0 w k*at0 r k) 0=t;simp[fQ,a1,a2,m]⟩)
 unfold U9 IT;have q:gk (Tg.one 3) (sSet [] 2 (fOp o6 (fN 2) (fOp D9 (fAt (fN 0) (fN 3)) (fAt (fN 1) (fN 3))))) (L9 0 r.length) [.sh ab (L w),.sh ab (L r),.sh af (.int 0),.no]=aa (.nx [.sh ab (L w),.sh ab (L r),.sh af (.int (gE w r)),j]):=q;simp[fQ,iN r.length (),q]
def okS(d:aH)(x:aH×Int):Bool:=if x.2=0 then decide (gE x.1 d=0) else decide ((gE x.1 d).fmod x.2=0)
theorem Qm{d:aH}{x:aH×Int}:okS d x=af↔x.2∣gE x.1 d:=by
 unfold okS;by_cases h:x.2=0
 .rw[ak h,h,decide_eq_true_iff];exact w0g.symm
 .rw[ao h,decide_eq_true_iff];exact⟨w06,w0T⟩
theorem z2l{n r:Nat}{G bills:aA}{M:gc}{d:aH}(Z:Mz n r G M)(hs:Lat.SameSpan (fP G) (fP bills))(hd:d.length=n):
   ((M.filter λx=>!decide (x.2=1)).all (okS d)=af)↔Lat.Span (fP bills) (λk=>at0 d k):=by
 rw[<-hs.iff,Z.ms.ker _ (λk hk=>u7 ()),uU];constructor
 .intro h i hi;have m:(mw M i,mp M i)∈M:=by
    unfold mw mp;rw[am,wa hi];exact vx hi
  by_cases h1:mp M i=1
  .rw[h1];exact w1d _
  .have:=Qm.mp (h _ (wQ.mpr ⟨m,by simp[h1]⟩));rw[Hr,hd]at this;exact this
 .intro h x hx;obtain⟨i,hi,rfl⟩:=wI (wQ.mp hx).1;have:=h i hi;unfold mw mp at this;rw[am,wa hi]at this;refine Qm.mpr ?_;rw[Hr,hd];exact this
theorem Sd(a:Int):Bs [.int a,.int 0]=aa (.int a):=by
 unfold Bs PU;simp[fQ,v6]
theorem z5m(w r:aH)(h:r.length=w.length):((r.zip w).map λp=>p.1*p.2).sum=gE w r:=by
 rw[Hr];unfold dt
 induction r generalizing w with
 |nil=>cases w with
  |nil=>rfl
  |cons x w=>cases h
 | cons y r ih=>cases w with
  |nil=>cases h
  |cons x w=>
   rw[uN,wx,List.sum_cons,wu,sm,ih w (by simpa using h),wU];rfl
theorem Ma{e:Nat}(dd:Dt)(r w:aH)(hdd:iG dd r)(h:r.length=w.length)(h1:∀x∈w,x.natAbs<2^e)(h2:∀x∈r,x.natAbs<2^e)(he:e<=60000000):Z3 [dd,L w]=aa (.int (gE w r)):=by
 have q:j8 2 [] (iZip (fN 0) (fN 1)) (Tg.many [0,1]) fYes (fOp D9 (fN 0) (fN 1)) [.sh ab dd,.sh ab (L w)]=aa (.nw,.lst ((r.zip w).map λp=>.int (p.1*p.2))):=by
  rw[k7 (e:=λp:Int×Int=>.tup [.int p.1,.int p.2]) (h:=λp=>.int (p.1*p.2)) (xs:=r.zip w) (by rcases hdd with rfl|rfl<;>simp[fQ,h,Am]) (λp hp=>by
   have m:E4 p.1 p.2=af:=K4 (h2 _ (vR hp).1) (h1 _ (vR hp).2) ();simp[fQ,m])]
 have e2:Cr ((r.zip w).map λp=>Dt.int (p.1*p.2))=aa ((r.zip w).map λp=>p.1*p.2):=by
  have:=JE ((r.zip w).map λp=>p.1*p.2);rw[wM]at this;exact this
 have s:=z5m w r h;unfold Z3 IG;generalize (r.zip w).map (λp=>Dt.int (p.1*p.2))=D at *;generalize (r.zip w).map (λp=>p.1*p.2)=D2 at *;rcases hdd with rfl|rfl<;>simp[fQ,q,bSum,e2,s]
def lG(d:aH)(x:aH×Int):aH×Int:=(x.1,if x.2=0 then((gE x.1 d).natAbs:Int)+1 else x.2)
theorem z5n{e:Nat}{dd:Dt}{d:aH}{x:aH×Int}(hdd:iG dd d)(h:d.length=x.1.length)(h1:∀y∈x.1,y.natAbs<2^e)(h2:∀y∈d,y.natAbs<2^e)(he:e<=60000000)(hp:0<=x.2):
   DU [dd,tD x]=aa (.int (if x.2=0 then gE x.1 d else(gE x.1 d).fmod x.2)):=by
 obtain⟨w,p⟩:=x;have e1:=Ma dd d w hdd h h1 h2 he;have sn:∀(f:Fl)(d:Dt),(nrm f d).2=d:=λ_ _=>rfl;clear hdd;unfold DU Ug tD;by_cases hp0:p=0
 .subst hp0;have:=Sd (gE w d);simp[fQ,sn,e1,this]
 .have:=Qj (gE w d) p (by dsimp only at hp;rfl');simp[fQ,sn,e1,this,hp0]
theorem Se(d:aH)(x:aH×Int):J3 [tD x,.int (if x.2=0 then gE x.1 d else(gE x.1 d).fmod x.2)]=aa (tD (lG d x)):=by
 obtain⟨w,p⟩:=x;unfold J3 U7 tD lG;by_cases hp0:p=0
 .subst hp0;simp[fQ,v6,bAbs];split<;>rfl'
 .simp[fQ,v6,hp0]
abbrev DF:FS:=(sSeq (sSet [] 5 (i0 af DU (b7 (fN 3) (b7 (fN 4) fNil))))
 (sIf (n4 (fOp opNe (fN 5) (fC (.int 0)))) (sRet (i0 ab J3 (b7 (fN 4) (b7 (fN 5) fNil)))) w8))
theorem Sf{d:aH}(c0 c1 c2:Cell):∀(Q:gc)(c4 c5:Cell),(∀x∈Q,DU [L d,tD x]=aa (.int (if x.2=0 then gE x.1 d else(gE x.1 d).fmod x.2))) ->
  (Q.all (okS d)=af/\∃c4' c5',gk (Tg.one 4) DF (Q.map tD) [c0,c1,c2,.sh af (L d),c4,c5]=aa (.nx [c0,c1,c2,.sh af (L d),c4',c5'])) \/
  (Q.all (okS d)=ab/\∃x∈Q,¬okS d x=af/\∃f,gk (Tg.one 4) DF (Q.map tD) [c0,c1,c2,.sh af (L d),c4,c5]=aa (.rt f (tD (lG d x))))
 |[],c4,c5,_=>.inl ⟨rfl,c4,c5,rfl⟩
 |x::Q,c4,c5,h=>by
  have e1:=h x wf;have e2:=Se d x;have hok:okS d x=decide ((if x.2=0 then gE x.1 d else(gE x.1 d).fmod x.2)=0):=by unfold okS;split<;>rfl
  rw[wx,F0,List.all_cons];have sn:∀(f:Fl)(d:Dt),(nrm f d).2=d:=λ_ _=>rfl;generalize (if x.2=0 then gE x.1 d else(gE x.1 d).fmod x.2)=v at *;by_cases hv:v=0
  .have ok:okS d x=af:=by rw[hok,aL hv]
   have st:(Tg.put (Tg.one 4) (tD x) [c0,c1,c2,.sh af (L d),c4,c5]).bind DF=aa (.nx [c0,c1,c2,.sh af (L d),.sh ab (tD x),.sh af (.int v)]):=by
     generalize tD x=X at *;simp[fQ,sn,e1,A7,hv]
   rw[st,ok,Bool.true_and];rcases Sf c0 c1 c2 Q (.sh ab (tD x)) (.sh af (.int v)) (λy hy=>h y (wc _ hy)) with⟨a,c4',c5',q⟩|⟨a,y,hy,ny,f,q⟩
   .exact .inl ⟨a,c4',c5',q⟩
   .exact .inr ⟨a,y,wc _ hy,ny,f,q⟩
  .have no:okS d x=ab:=by rw[hok,bh hv]
   have st:∃f,(Tg.put (Tg.one 4) (tD x) [c0,c1,c2,.sh af (L d),c4,c5]).bind DF=aa (.rt f (tD (lG d x))):=by
     generalize tD (lG d x)=Y at *;generalize tD x=X at *;refine⟨(nrm .sh Y).1,?_⟩;simp[fQ,sn,e1,e2,A7,hv]
   obtain⟨f,st⟩:=st;rw[st,no];exact .inr ⟨rfl,x,wf,by rw[no];exact vi,f,rfl⟩
theorem Qn{n:Nat}{bills:aA}{Q:gc}{one other:aH}(ec:T2 [k6 n bills]=aa (MD Q))(h1:one.length=n)(h2:other.length=n)(ht:∀x∈Q,DU [L (gq other one),tD x]=aa (.int (if x.2=0 then gE x.1 (gq other one) else(gE x.1 (gq other one)).fmod x.2))):
   (Q.all (okS (gq other one))=af/\Az [k6 n bills,L one,L other]=aa .non)\/(Q.all (okS (gq other one))=ab/\∃x∈Q,¬okS (gq other one) x=af/\Az [k6 n bills,L one,L other]=aa (tD (lG (gq other one) x))):=by
 have ap:=RV n bills one other h1 h2;generalize gq other one=d at *;have e0:sSet [] 3 (i0 af EM (b7 (fN 0) (b7 (fN 1) (b7 (fN 2) fNil)))) [.sh ab (k6 n bills),.sh ab (L one),.sh ab (L other),.no,.no,.no]=aa (.nx [.sh ab (k6 n bills),.sh ab (L one),.sh ab (L other),.sh af (L d),.no,.no]):=by simp[fQ,ap]
 have it:iSeq (i0 ab T2 (b7 (fN 0) fNil)) [.sh ab (k6 n bills),.sh ab (L one),.sh ab (L other),.sh af (L d),.no,.no]=aa (Q.map tD):=by
   have nf:nrm .sh (MD Q)=(.sh,MD Q):=rfl;have e:seqD (MD Q)=aa (Q.map tD):=rfl;generalize MD Q=Y at *;simp[fQ,ec,nf,e]
 have fin:∀o,gk (Tg.one 4) DF (Q.map tD) [.sh ab (k6 n bills),.sh ab (L one),.sh ab (L other),.sh af (L d),.no,.no]=aa o->sFor [] (iSeq (i0 ab T2 (b7 (fN 0) fNil))) (Tg.one 4) DF [.sh ab (k6 n bills),.sh ab (L one),.sh ab (L other),.sh af (L d),.no,.no]=aa o:=λo h=>by
   show(iSeq (i0 ab T2 (b7 (fN 0) fNil)) [.sh ab (k6 n bills),.sh ab (L one),.sh ab (L other),.sh af (L d),.no,.no]).bind _=_;rw[it];exact h
 have out:∀f v,BU [.sh ab (k6 n bills),.sh ab (L one),.sh ab (L other),.no,.no,.no]=aa (.rt f v)->Az [k6 n bills,L one,L other]=aa v:=λf v q=>by
   unfold Az fQ;rw[ak (show[k6 n bills,L one,L other].length=3 from rfl)];show(BU [.sh ab (k6 n bills),.sh ab (L one),.sh ab (L other),.no,.no,.no]).bind _=_;rw[q];rfl
 rcases Sf (.sh ab (k6 n bills)) (.sh ab (L one)) (.sh ab (L other)) Q .no .no ht with⟨a,c4,c5,q⟩|⟨a,x,hx,nx,f,q⟩
 .refine .inl ⟨a,out .nw .non ?_⟩;unfold BU;refine run e0 (run (fin _ q) ?_);simp[fQ]
 .refine .inr ⟨a,x,hx,nx,out f _ ?_⟩;unfold BU;refine run e0 ?_;show(sFor [] (iSeq (i0 ab T2 (b7 (fN 0) fNil))) (Tg.one 4) DF [.sh ab (k6 n bills),.sh ab (L one),.sh ab (L other),.sh af (L d),.no,.no]).bind (seqO _)=_;rw[fin _ q];rfl
theorem Qo{n:Nat}{bills:aA}{one other d w:aH}{m:Int}(n6:n<=6)(wd:Wide n bills)(lt:∀r∈bills,∀x∈r,x.natAbs<2^900)(h1:one.length=n)(h2:other.length=n)(hd:gy other (gh (-1) one)=d)(hw:w.length=n)(hm:2<=m)(b1:∀x∈w,x.natAbs<2^8000)(b2:∀x∈d,x.natAbs<2^8000)
  (ev:∀b∈bills,(gE w b).fmod m=0) (od:¬(gE w d).fmod m=0):AB [LL bills,L one,L other,tD (w,m)]=aa (.bl af):=by
 have p1:=Ol other one (-1) () () (λx _=>S4 (by decide));have hdl:d.length=n:=by rw[<-hd,S6 (by rw[A0];rfl')];exact h2
 rw[hd]at p1;have hv:=LZ (e:=8000) w d (by rw[hw,hdl]) b1 b2 (by decide) ();have ir:=Eb w n;rw[hw,aL rfl]at ir;have iw:N6 [.int m]=aa (.bl af):=by unfold N6 ES;simp[fQ]
 obtain⟨j,q⟩:=BG (g:=Tg.one 4) (F:=(sIf (n4 (fOp opNe (fOp F8 (i0 af U9 (b7 (fAt (fN 3) (fC (.int 0))) (b7 (fN 4) fNil))) (fAt (fN 3) (fC (.int 1)))) (fC (.int 0)))) (sRet (fC (.bl ab))) w8)) (e:=L) (R:=λ(_:Unit)(c:Cell)=>[.sh ab (LL bills),.sh ab (L one),.sh ab (L other),.sh ab (tD (w,m)),c]) (step:=λ_ _=>.unit) bills .unit .no
  (fun _ b c hb=>⟨.sh false (L b),by
   have e:=LZ (e:=8000) w b (by rw[hw,wd b hb]) b1 (λx hx=>wG (lt b hb x hx) (wq (by decide) (by decide))) (by decide) (by rw[wd b hb];rfl');have z:=ev b hb;unfold tD;simp[fQ,e,U2 (show 0<m by rfl'),z,A7]⟩)
 unfold AB Gk;have q:gk (Tg.one 4) (sIf (n4 (fOp opNe (fOp F8 (i0 af U9 (b7 (fAt (fN 3) (fC (.int 0))) (b7 (fN 4) fNil))) (fAt (fN 3) (fC (.int 1)))) (fC (.int 0)))) (sRet (fC (.bl ab))) w8) (bills.map L) [.sh ab (LL bills),.sh ab (L one),.sh ab (L other),.sh ab (.tup [L w,.int m]),.no]=aa (.nx [.sh ab (LL bills),.sh ab (L one),.sh ab (L other),.sh ab (.tup [L w,.int m]),j]):=q;unfold tD;simp[fQ,h1,ir,iw,show ¬m<2 by rfl',q,p1,hv,U2 (show 0<m by rfl'),A7,od]
theorem sZ{n:Nat}{S:aA}{M:gc}(Z:Mz n S.length S M):∀x∈M,0<=x.2:=λx hx=>by
 obtain⟨i,hi,rfl⟩:=wI hx;have e:M[i].2=mp M i:=by unfold mp;rw[am,wa hi];rfl
 rw[e];by_cases q:i<S.length
 .have:=Z.pos i q;rfl'
 .rw[Z.zero i () (by rw[<-Z.len];exact hi)];rfl'
theorem z5o{n:Nat}{bills S:aA}{M:gc}(wd:∀b∈bills,b.length=n)(hs:Lat.SameSpan (fP S) (fP bills))(Z:Mz n S.length S M):∀x∈M,∀bl∈bills,x.2∣gE x.1 bl:=λx hx bl hb=>by
 obtain⟨i,hi,rfl⟩:=wI hx;have sp:Lat.Span (fP S) (λk=>at0 bl k):=hs.iff.mpr (m9 hb);have:=(Z.ms.ker _ (λk hk=>u7 (by rw[wd bl hb];exact hk))).mp sp i hi;unfold mw mp at this;rw[am,wa hi]at this;rw[Hr,wd bl hb];exact this
theorem z2n{n:Nat}{one other:aH}(l1:one.length=n)(l2:other.length=n):gy other (gh (-1) one)=gq other one:=St.ext0 (by rw[S6 (by rw[A0];rfl'),BH ()]) λk=>by rw[Hc (by rw[A0];rfl'),AW,W4 ()];rfl'
theorem z5p{n:Nat}{bills S:aA}{M:gc}{one other:aH}(n6:n<=6)(wd:Wide n bills)(lt:∀r∈bills,∀x∈r,x.natAbs<2^900)(span:Lat.SameSpan (fP S) (fP bills))(em:r8 [k6 n bills]=aa (MD M))(Z:Mz n S.length S M)(l1:one.length=n)(l2:other.length=n)(sb:Lt (2^8000) (gq other one))(sp:¬Lat.Span (fP bills) (λk=>at0 other k-at0 one k)):
   ∃Y,Az [k6 n bills,L one,L other]=aa Y/\AB [LL bills,L one,L other,Y]=aa (.bl af)/\NF Y .non=aa (.nw,.bl ab)/\∀f,nrm f Y=(f,Y):=by
 have ec:=z0E em;have hsl:(gq other one).length=n:=by rw[BH ()];exact l2
 have ae:=z2l Z span hsl;have hsp:(λk=>at0 (gq other one) k)=λk=>at0 other k-at0 one k:=funext λk=>W4 () k;rw[hsp]at ae;have hrow:∀x∈M.filter (λx=>!decide (x.2=1)),x∈M/\x.2≠1:=λx hx=>by
   obtain⟨hm,h1⟩:=wQ.mp hx;exact⟨hm,by simpa using h1⟩
 have sbt:=Au sb;have ht:∀x∈M.filter (λx=>!decide (x.2=1)),DU [L (gq other one),tD x]=aa (.int (if x.2=0 then gE x.1 (gq other one) else(gE x.1 (gq other one)).fmod x.2)):=λx hx=>
   z5n (e:=8000) (.inl rfl) (by rw[Z.ms.rows x (hrow x hx).1,hsl]) (λy hy=>wG ((Z.big x (hrow x hx).1).2 y hy) (wq (by decide) (by decide))) sbt (by decide) (sZ Z x (hrow x hx).1)
 rcases Qn ec l1 l2 ht with⟨a,_⟩|⟨a,x,hx,nx,dn⟩
 .exact aM (ae.mp a) sp
 .have hm:=(hrow x hx).1;have h1:=(hrow x hx).2;have h0:=sZ Z x hm;have hno:¬x.2∣gE x.1 (gq other one):=λq=>nx (Qm.mpr q);refine⟨_,dn,?_,rfl,λf=>rfl⟩;unfold lG;refine Qo n6 wd lt l1 l2 (z2n l1 l2) (Z.ms.rows x hm) ?_ (λy hy=>wG ((Z.big x hm).2 y hy) (wq (by decide) (by decide))) sbt (λbl hbl=>?_) ?_
  .split
   .rename_i h0;rw[h0]at hno;have:gE x.1 (gq other one)≠0:=λq=>hno (by rw[q];exact w0f 0);rfl'
   .rfl'
  .have:=z5o wd span Z x hm bl hbl;split
   .rename_i h0;rw[h0]at this;rw[w0g.mp this];simp
   .exact w0T this
  .split
   .rename_i h0;rw[h0]at hno;intro q;have q:=w06 q;have nz:gE x.1 (gq other one)≠0:=λq=>hno (by rw[q];exact w0f 0);have:=w0j.mpr q;have:=Nat.le_of_dvd () this;rfl'
   .exact λq=>hno (w06 q)
theorem z2o{n:Nat}{bills:aA}{M:gc}(h:r8 [k6 n bills]=aa (MD M)):EQ [k6 n bills]=aa (L (M.map (·.2))):=by
 have it:iSeq (i0 ab r8 (b7 (fN 0) fNil)) [.sh ab (k6 n bills)]=aa (M.map tD):=by
  have nf:nrm .sh (MD M)=(.sh,MD M):=rfl;have e:seqD (MD M)=aa (M.map tD):=rfl;generalize MD M=Y at *;simp[fQ,h,nf,e]
 have key:j8 2 [] (iSeq (i0 ab r8 (b7 (fN 0) fNil))) (Tg.many [0,1]) fYes (fN 1) [.sh ab (k6 n bills)]=aa (.nw,L (M.map (·.2))):=by
  rw[k7 (e:=tD) (h:=λx=>.int x.2) (xs:=M) it (λx _=>by simp[fQ,tD])];simp[L]
 unfold EQ PY;simp[fQ,key]
def ib(b:aH)(x:aH×Int):Int:=if x.2=0 then gE x.1 b else(gE x.1 b).fmod x.2
theorem JI{n e:Nat}{M:gc}{b:aH}{dd:Dt}(hdd:iG dd b)(hb:b.length=n)(hr:∀x∈M,x.1.length=n)(hp:∀x∈M,0<=x.2)(h1:∀x∈M,∀y∈x.1,y.natAbs<2^e)(h2:∀y∈b,y.natAbs<2^e)(he:e<=60000000):M4 [MD M,dd]=aa (L (M.map (ib b))):=by
 have it:iSeq (fN 0) [.sh ab (MD M),.sh ab dd]=aa (M.map tD):=by
  have nf:nrm .sh (MD M)=(.sh,MD M):=rfl;have e:seqD (MD M)=aa (M.map tD):=rfl;generalize MD M=Y at *;simp[fQ,nf,e]
 have key:j8 2 [1] (iSeq (fN 0)) (Tg.many [0,1]) fYes (i0 af Bs (b7 (i0 af Z3 (b7 (fN 2) (b7 (fN 0) fNil))) (b7 (fN 1) fNil))) [.sh ab (MD M),.sh ab dd]=aa (.nw,L (M.map (ib b))):=by
  rw[k7 (e:=tD) (h:=λx=>.int (ib b x)) (xs:=M) it (λx hx=>by
   have w:=Ma (e:=e) dd b x.1 hdd (by rw[hb,hr x hx]) (h1 x hx) h2 he;have p0:=hp x hx;obtain⟨w0,p⟩:=x;have sn:∀(f:Fl)(d:Dt),(nrm f d).2=d:=λ_ _=>rfl;unfold ib tD;dsimp only at *;clear hdd;by_cases hp0:p=0
   .subst hp0;have:=Sd (gE w0 b);simp[fQ,sn,w,this]
   .have:=Qj (gE w0 b) p ();simp[fQ,sn,w,this,hp0])]
  simp[L]
 unfold M4 Gi;generalize MD M=Y at *;simp[fQ,key]
theorem Mz.nn{n r:Nat}{G:aA}{M:gc}(Z:Mz n r G M):∀x∈M,0<=x.2:=λx hx=>by
 obtain⟨i,hi,rfl⟩:=wI hx;have e:M[i].2=mp M i:=by unfold mp;rw[am,wa hi];rfl
 rw[e];by_cases q:i<r
 .have:=Z.pos i q;rfl'
 .rw[Z.zero i () (by rw[<-Z.len];exact hi)];rfl'
theorem Sg{n r:Nat}{G:aA}{M:gc}{b:aH}(Z:Mz n r G M)(hb:b.length=n){k:Nat}(hk:k<n):at0 (M.map (ib b)) k=if mp M k=0 then dt n (mw M k) (gZ b) else(dt n (mw M k) (gZ b)).fmod (mp M k):=by
 have hk':k<M.length:=by rw[Z.len];exact hk
 unfold at0 mp mw;rw[am,am,wa hk',wv,wa hk'];show ib b M[k]=_;unfold ib;rw[Hr,hb];rfl
theorem z0F(n:Nat)(rows:aA)(cs:aH)(d:Dt)(hd:iG d cs)(hn:n<=1000)(hw:Wide n rows)(hl:rows.length=cs.length)(h:∀r∈rows,∀c∈cs,∀x∈r,E4 c x=af):EJ [LL rows,d,.int n]=aa (L (gB n rows cs)):=by
 unfold EJ PQ;have z:=CP n hn;obtain⟨hl2,j,q⟩:=FY (g:=Tg.many [4,5]) (F:=sSet [] 3 (i0 af X9 (b7 (fN 3) (b7 (i0 af C9 (b7 (fN 4) (b7 (fN 5) fNil))) fNil))))
   (e:=λp:aH×Int=>.tup [L p.1,.int p.2]) (R:=λ(t:aH)(j:Cell×Cell)=>[.sh ab (LL rows),.sh ab d,.sh ab (.int n),.sh af (L t),j.1,j.2]) (step:=λt p=>gy t (gh p.2 p.1)) (P:=λt=>t.length=n) (rows.zip cs) (l9 n) (.no,.no) C4
   (fun b p j hp hb=>by
    have h1:=hw _ (vR hp).1;have e1:=J4 p.1 p.2 (λx hx=>h _ (vR hp).1 _ (vR hp).2 x hx);have e2:=Hj b (gh p.2 p.1) (by rw[A0,hb,h1]);refine⟨by rw[S6 (by rw[A0,hb,h1])];exact hb,(.sh ab (L p.1),.sh ab (.int p.2)),?_⟩;simp[fQ,Tg.put,Ai,e1,e2])
 have q2:gk (Tg.many [4,5]) (sSet [] 3 (i0 af X9 (b7 (fN 3) (b7 (i0 af C9 (b7 (fN 4) (b7 (fN 5) fNil))) fNil)))) (zipD (rows.map L) (cs.map .int)) [.sh ab (LL rows),.sh ab d,.sh ab (.int n),.sh af (L (l9 n)),.no,.no]=aa (.nx [.sh ab (LL rows),.sh ab d,.sh ab (.int n),.sh af (L (gB n rows cs)),j.1,j.2]):=by
   rw[Am];exact q
 rcases hd with rfl|rfl
 .simp[fQ,z,iZip,hl,q2]
 .simp[fQ,z,iZip,hl,q2]
theorem kK(ns:aH)(a:Int)(k:Nat)(m:Int)(h0:0<=m)(h:m<2):Lt 31 (A8 ns a k m):=λi=>by
 by_cases hi:i<k
 .have e:at0 (A8 ns a k m) i=Fx (u9 ns (a+(i:Int))) m:=by unfold A8 at0;simp[am,hi]
  rw[e];rcases(show m=0\/m=1 by rfl')with h|h
  .have:=JF (u9 ns (a+(i:Int))) m h;rfl'
  .have:=z0c (u9 ns (a+(i:Int))) m h;rfl'
 .rw[u7 (by rw[Y8];rfl')];decide
theorem Uw(a b:aA)(h:a.length+b.length<=1000):∃f,o6 (LL a) (LL b)=aa (f,LL (a++b)):=by
 have e1:(a.map L).length+(b.map L).length<=1000000:=by simp;rfl'
 have:o6 (.lst (a.map L)) (.lst (b.map L))=Ds (.lst (a.map L)) (.lst (b.map L)):=rfl;show ∃f,o6 (.lst (a.map L)) (.lst (b.map L))=_;rw[this];unfold Ds;simp only[ak e1,<-vn];exact⟨_,rfl⟩
theorem EU{k j B e:Nat}(h:k<=j)(hj:0<j)(hB:0<B)(he:gR j B+1<=2^e):gR k B+1<=2^e:=by
 have m:=DG (B:=B) h () ();rfl'
theorem Ux{M:gc}{i:Nat}(h:i<M.length):(mw M i,mp M i)∈M:=by
 unfold mw mp;rw[am,wa h];exact vx h
theorem Zj{n i:Nat}(w:aH)(hi:i<n):dt n w (gZ (k8 n i))=at0 w i:=by
 unfold dt;rw[O0 (i:=i) hi λk _ hne=>by show at0 w k*at0 (k8 n i) k=0;rw[v7,ao (),uw]];show at0 w i*at0 (k8 n i) i=_;rw[v7,ak ⟨rfl,hi⟩,w0C]
def gT(n:Nat)(M:gc):aA:=(units n).map λu=>M.map (ib u)
theorem Uy{n r:Nat}{G:aA}{M:gc}(Z:Mz n r G M):St.Plc n M (gT n M):=by
 refine⟨by unfold gT;rw[wn,E2],λx hx=>?_,λi k hi hk=>?_⟩
 .obtain⟨u,_,rfl⟩:=wj.mp hx;rw[wn,Z.len]
 .have e:(gT n M).getD i []=M.map (ib (k8 n i)):=by
    unfold gT units;rw[am,wv,wv,vC hi];rfl
  rw[e,Sg Z (E1 n i) hk,Zj _ hi];split
  .rename_i h;rw[h];rw[Int.sub_self];exact w0h _
  .rename_i h;have hp:0<mp M k:=by
    by_cases q:k<r
    .exact Z.pos k q
    .exact aM (Z.zero k () hk) h
   have:=w16 (at0 (mw M k) i) (mp M k);exact⟨-(at0 (mw M k) i).fdiv (mp M k),by rw[w0m];rfl'⟩
structure Ml(n w:Nat)(M:gc):Prop where
 part:∀x∈M,0<=x.2/\x.2<2^w
 row:∀x∈M,∀y∈x.1,y.natAbs<2^w
 rest:∀x∈M,0<x.2->∀y∈x.1,0<=y/\y<x.2
theorem Uz{n r w:Nat}{G:aA}{M:gc}(Z:Mz n r G M)(l:Ml n w M):∀x∈gT n M,Lt (2^w) x:=λx hx k=>by
 obtain⟨u,hu,rfl⟩:=wj.mp hx;obtain⟨i,hi,rfl⟩:=wj.mp hu;have hi:=wJ.mp hi;by_cases hk:k<n
 .rw[Sg Z (E1 n i) hk,Zj _ hi];have mm:=Ux (M:=M) (i:=k) (by rw[Z.len];exact hk);have pp:=l.part _ mm;have pp:0<=mp M k/\mp M k<2^w:=pp;split
  .by_cases hi':i<(mw M k).length
   .refine l.row _ mm _ ?_;unfold at0;rw[am,wa hi'];exact vx hi'
   .rw[u7 ()];exact wK _
  .rename_i h;obtain⟨a,b⟩:=B4 (at0 (mw M k) i) (show 0<mp M k by rfl');have c2:((2^w:Nat):Int)=(2:Int)^w:=by norm_cast
   rfl'
 .rw[u7 (by rw[wn,Z.len];rfl')];exact wK _
theorem z5q{n w:Nat}{M:gc}(lM:M.length=n)(l:Ml n w M):∀x∈Q4 n M,Lt (2^w) x:=λx hx k=>by
 obtain⟨j,hj,rfl⟩:=wj.mp hx;have hj:=wJ.mp hj;have pp:=l.part _ (Ux (M:=M) (i:=j) ());have pp:0<=mp M j/\mp M j<2^w:=pp;rw[Lw,v7];have c2:((2^w:Nat):Int)=(2:Int)^w:=by norm_cast
 split
 .rw[w0C];rfl'
 .rw[uw];exact wK _
theorem Nl{n r w e:Nat}{G:List (List Int)}{M:gc}(n1:1≤n)(n6:n≤6)(Z:Mz n r G M)(l:Ml n w M)(w0:0<w)(hwe:w≤e)(he:e≤8990)(hb:gR (n+n) (2 ^ w)+1≤2 ^ e):
   ∃T,Y4 [MD M]=aa (LL T)/\T.length=n/\(∀x∈T,x.length=n/\Lt (2^e) x)/\(∀c:aH,c.length=n->∀k,k<n->mp M k∣dt n (mw M k) (St.mix T c)-at0 c k)/\(Asc n 0 G->Lat.Form 0 (u6 G)->∀t∈T,∀g∈G,0<=at0 t (b8 g)/\at0 t (b8 g)<hd g):=by
 have lM:=Z.len;have pk:=Uy Z;have lP:=pk.len;have one2:1<2^w:=w05 ();have bP:=Uz Z l;have bW:=z5q lM l;have wlen:(Q4 n M).length=n:=by unfold Q4;rw[wn,vJ]
 have hp:pair (gT n M++Q4 n M) (units n++(ah n).map λ_=>l9 n)=BO (gT n M) (Q4 n M):=by
   unfold BO pair;rw[List.zipWith_append (by rw[lP,E2])];congr 1
   .exact LY _ lP
   .rw[lP];refine vz (by rw[uf,wn,wn,vJ,wlen];rfl') λi h1 h2=>?_;simp[l9]
 have rows:∀x∈BO (gT n M) (Q4 n M),x.length=n+n/\Lt (2^w) x:=λx hx=>by
   unfold BO at hx;rcases ww.mp hx with h|h
   .obtain⟨r,hr,j,rfl⟩:=Lp _ h;refine⟨by rw[wF,pk.rows r hr,E1,lP],λk=>?_⟩;rw[CI (pk.rows r hr),v7];split
    .exact bP r hr k
    .split<;>simp<;>rfl'
   .obtain⟨r,hr,rfl⟩:=wj.mp h;refine⟨by rw[wF,Hb n M r hr,vW,lP],λk=>?_⟩;rw[CI (Hb n M r hr)];split
    .exact bW r hr k
    .rw[YU];rfl'
 have bm:∀k,k<=n+n->gR k (2^w)+1<=2^e:=λk hk=>EU hk () (wK _) hb;obtain⟨U,eU,GU⟩:=Gq (n:=n+n) (e:=e) (eh:=e) (B:=2^w) () he (wt _) () (gT n M++Q4 n M) (units n++(ah n).map λ_=>l9 n) (by simp[E2,lP,wlen]) (λx hx=>(rows x (by rw[<-hp];exact hx)).1) (λx hx=>(rows x (by rw[<-hp];exact hx)).2) (wK _) (wq (by decide) hwe) (λk hk=>bm k (by simpa[lP,wlen]using hk))
   (λk S hk G r hr=>by
     have q:=G.small (λr hr=>(rows r (by rw[<-hp];exact uI hr)).2) (wK _) r hr (b8 r);have l:=G.len;have b:=bm S.length (by rw[vy]at l;simp[lP,wlen]at hk;rfl');have q:(hd r).natAbs<gR S.length (2^w)+1:=q;have c2:((2^e:Nat):Int)=(2:Int)^e:=by norm_cast
     rfl') (by simp[lP,wlen];rfl')
 rw[hp]at GU;have lU:U.length<=n+n:=by have:=GU.len;unfold BO at this;rw[wF,BM,wn,lP,wlen]at this;exact this
 have sU:=GU.small (λr hr=>(rows r hr).2) (wK _);obtain⟨t1,t2,t3⟩:=Ub pk Z.ms lM GU.asc GU.form GU.span (T:=(U.filter λr=>decide (b8 r<n)).map (·.drop n)) rfl;refine⟨_,?_,t1,λx hx=>⟨t2 x hx,λk=>?_⟩,t3,λaG fG t ht g hg=>z0t GU.asc GU.form (z0s pk Z.ms lM aG fG GU.asc GU.form GU.span) ht hg⟩
 .have tg:=IW U n
  have ng:=CP n ();obtain⟨f1,k1⟩:=Uw (gT n M) (Q4 n M) ();obtain⟨f2,k2⟩:=Uw (units n) ((ah n).map λ_=>l9 n) (by rw[E2];simp;rfl');have nf:∀f,nrm f (MD M)=(f,MD M):=λf=>rfl;have bl:bLen [MD M]=aa (.nw,.int n):=by
    have:bLen [MD M]=aa (.nw,.int ((M.map tD).length:Int)):=rfl;rw[this,wn,lM]
  have at_:∀j,j<n->gJ (M.map tD) (j:Int)=aa (tD (mw M j,mp M j)):=λj hj=>X6 (by
    rw[wv];unfold mw mp;rw[am,wa (show j<M.length by rfl')];rfl)
  have mdl:MD M=.lst (M.map tD):=rfl;have u1:j8 1 [1] (j9 (fN 1)) (Tg.one 0) fYes (i0 af E7 (b7 (fN 1) (b7 (fN 0) fNil))) [.sh ab (MD M),.sh af (.int n),.no,.no,.no,.no]=aa (.nw,LL (units n)):=by
    rw[k7 (e:=λ(k:Nat)=>.int (0+(k:Int))) (h:=λk=>L (k8 n k)) (xs:=ah n) (by simp[fQ,iN n (),o9]) (λj _=>by
      have u:=Bc n j ();simp[fQ,u])]
    simp[LL,units]
  have u2:j8 1 [0] (iSeq (fN 2)) (Tg.one 0) fYes (i0 true M4 (b7 (fN 1) (b7 (fN 0) fNil))) [.sh false (MD M),.sh true (.int n),.sh true (LL (units n)),.no,.no,.no]=some (.nw,LL (gT n M)):=by
    rw[k7 (e:=L) (h:=λu=>L (M.map (ib u))) (xs:=units n) (by simp[fQ]) (λu hu=>by
      have pe:=JI (e:=w) (dd:=L u) (.inl rfl) (NZ n u hu) Z.ms.rows (λx hx=>(l.part x hx).1) l.row (λy hy=>by
       obtain⟨i,_,rfl⟩:=wj.mp hu;obtain⟨k,hk⟩:=BP hy;rw[<-hk,v7];split<;>simp<;>rfl') ()
      have sn:∀(f:Fl)(d:Dt),(nrm f d).2=d:=λ_ _=>rfl;generalize MD M=Y at *;simp[fQ,sn,pe])]
    unfold gT LL;rw[wM];rfl
  have u3:j8 1 [2,0] (j9 (fN 1)) (Tg.one 0) fYes (i0 true C9 (b7 (fAt (fN 1) (fN 0)) (b7 (fAt (fAt (fN 2) (fN 0)) (fC (.int 1))) fNil))) [.sh false (MD M),.sh true (.int n),.sh true (LL (units n)),.sh true (LL (gT n M)),.no,.no]=some (.nw,LL (Q4 n M)):=by
    rw[k7 (e:=λ(k:Nat)=>.int (0+(k:Int))) (h:=λj=>L (gh (mp M j) (k8 n j))) (xs:=ah n) (by simp[fQ,iN n (),o9]) (λj hj=>by
      have hj:=wJ.mp hj;have a1:=at_ j hj;have a2:gJ ((units n).map L) (j:Int)=aa (L (k8 n j)):=X6 (by
       rw[wv];unfold units;rw[wv,vC hj];rfl)
      have pp:=l.part _ (Ux (M:=M) (i:=j) ());have pp:0<=mp M j/\mp M j<2^w:=pp;have c2:((2^w:Nat):Int)=(2:Int)^w:=by norm_cast
      have sc:=J4 (k8 n j) (mp M j) (λx hx=>by
       obtain⟨k,hk⟩:=BP hx;rw[<-hk,v7];exact V0 (m:=w) (k:=1) () (by split<;>simp) ())
      have sn:∀(f:Fl)(d:Dt),(nrm f d).2=d:=λ_ _=>rfl;rw[mdl];generalize M.map tD=D at *;have b1:gJ [L (mw M j),Dt.int (mp M j)] 1=aa (.int (mp M j)):=rfl;unfold tD at a1;dsimp only at a1;simp[fQ,sn,a1,a2,b1,sc])]
    unfold Q4 LL;rw[wM];rfl
  have u4:j8 1 [1] (j9 (fN 1)) (Tg.one 0) fYes (i0 af Q5 (b7 (fN 1) fNil)) [.sh ab (MD M),.sh af (.int n),.sh af (LL (units n)),.sh af (LL (gT n M)),.sh af (LL (Q4 n M)),.no]=aa (.nw,LL ((ah n).map λ_=>l9 n)):=by
    rw[k7 (e:=λ(k:Nat)=>.int (0+(k:Int))) (h:=λ_=>L (l9 n)) (xs:=ah n) (by simp[fQ,iN n (),o9]) (λj _=>by simp[fQ,ng])];simp[LL]
  have sn:∀(f:Fl)(d:Dt),(nrm f d).2=d:=λ_ _=>rfl;refine I0 (f:=.nw) rfl ?_ rfl;unfold CN;clear mdl;generalize MD M=Y at *;refine run (by simp[fQ,sn,bl];rfl) ?_;refine run (by simp[fQ,u1];rfl) ?_;refine run (by simp[fQ,u2];rfl) ?_;refine run (by simp[fQ,u3];rfl) ?_;generalize (ah n).map (λ_=>l9 n)=Zs at *;generalize units n=V at *;generalize gT n M=Q at *;generalize Q4 n M=W at *;have k1:o6 (.lst (Q.map L)) (.lst (W.map L))=aa (f1,LL (Q++W)):=k1;have k2:o6 (.lst (V.map L)) (.lst (Zs.map L))=aa (f2,LL (V++Zs)):=k2;refine run (by simp[fQ,k1,u4,k2,eU];rfl) ?_;generalize (U.filter λr=>decide (b8 r<n)).map (·.drop n)=T at *;simp[fQ,tg]
 .obtain⟨u,hu,rfl⟩:=wj.mp hx;have hu:=(wQ.mp hu).1;have:=(sU u hu).mono (bm U.length lU) (n+k);rw[B8];exact this
structure Hs(n:Nat)(bills S:aA):Prop where
 n1:1<=n
 n6:n<=6
 m8:bills.length<=8
 wide:Wide n bills
 lt:∀r∈bills,∀x∈r,x.natAbs<2^900
 es:AY [k6 n bills]=aa (LL S)
 asc:Asc n 0 S
 form:Lat.Form 0 (u6 S)
 span:Lat.SameSpan (fP S) (fP bills)
 sS:∀r∈S,Lt (2^899) r
 us:∃U,B5 [k6 n bills]=aa (LL U)/\St.Tag n bills U/\∀r∈U,Lt (2^8990) r
theorem Hall.hs{n:Nat}{bills:aA}(H:Hall n bills):∃S,Hs n bills S/\St.Good n (10^30) bills S:=by
 obtain⟨S,es,G,_⟩:=LU H;obtain⟨U,eu,t,sU⟩:=z0A H;have n6:=H.n6;have gl:=CD G.asc (vh _);exact⟨S,⟨H.n1,n6,H.m8,H.wide,λr hr x hx=>uF (qy (H.small r hr x hx)) (uT (by decide) (by decide)),es,G.asc,G.form,G.span,λx hx=>(G.small H.lt (by decide) x hx).mono (lW _ ()),U,eu,t,λr hr=>(sU r hr).mono (wq (by decide) (by decide))⟩,G⟩
theorem z5r{n:Nat}{bills S:aA}{one other:aH}(h:Hs n bills S)(l1:one.length=n)(l2:other.length=n)(s1:Lt (2^7999) one)(s2:Lt (2^7999) other):
   (Lat.Span (fP bills) (λk=>at0 other k-at0 one k)->M5 [k6 n bills,LL bills,L one,L other]=aa (.bl af))/\(¬Lat.Span (fP bills) (λk=>at0 other k-at0 one k)->M5 [k6 n bills,LL bills,L one,L other]=aa (.bl ab)):=by
 obtain⟨U,eu,t,sU⟩:=h.us;have pl:=Sc (s:=7999) h.n6 h.m8 h.wide h.lt eu t sU (by decide) l1 l2 s1 s2 (by decide);have sn:∀(f:Fl)(d:Dt),(nrm f d).2=d:=λ_ _=>rfl;constructor
 .intro sp;rcases pl with⟨us,pl,ld,_⟩|⟨_,no⟩
  .have i3:Du (L us) .non=aa (.nw,.bl af):=rfl;have n2:bInt [.bl af]=aa (.nw,.int 1):=rfl;have n7:gJ [Dt.non,Dt.bl af] 1=aa (.bl af):=rfl;generalize k6 n bills=hd at *;unfold M5 Hg;simp[fQ,sn,pl,i3,ld,n2,n7]
  .exact aM sp no
 .intro sp;rcases pl with⟨_,_,_,q⟩|⟨pl,_⟩
  .exact aM q sp
  .obtain⟨M,em,Z⟩:=Ql h.n6 h.es h.asc h.sS;have sb:Lt (2^8000) (gq other one):=(show Lt (2^(7999+1)) (gq other one)from λk=>by
    rw[W4 (),vX];have:=s1 k;have:=s2 k;rfl').mono (wq (by decide) (by decide))
   obtain⟨Y,dn,dd,i5,nf⟩:=z5p h.n6 h.wide h.lt h.span em Z l1 l2 sb sp;have i4:Du .non .non=aa (.nw,.bl ab):=rfl;generalize k6 n bills=hd at *;refine I0 (f:=.nw) rfl ?_ rfl;unfold Hg;refine run (by simp[fQ,sn,pl];rfl) ?_;refine run (by simp[fQ,i4];rfl) ?_;refine run (ρ':=[.sh ab hd,.sh ab (LL bills),.sh ab (L one),.sh ab (L other),.sh af .non,.sh ab Y]) (by simp[fQ,sn,dn,nf];rfl) ?_;refine run (by simp[fQ,sn,i5,dd];rfl) ?_;simp[fQ]
theorem mr{a b:aA}(h:LL a=LL b):a=b:=by
 have h:a.map L=b.map L:=by injection h
 exact w1k (λx y e=>by
  have e:x.map Dt.int=y.map Dt.int:=by injection e
  exact w1k (λp q z=>by injection z) |>.mp e) |>.mp h
theorem Mc{rows:aA}{n:Nat}{c:Int}(h:TurnOk rows n c):K6 [LL rows,.int n,.int c]=aa (LL (rows.map (Q8 ((c.fdiv 3).fmod n).toNat ((c.fdiv 17).fmod n).toNat c))):=by
 have ex:∃(rows':aA)(n':Nat)(c':Int),[LL rows,Dt.int n,Dt.int c]=[LL rows',.int n',.int c']/\TurnOk rows' n' c':=⟨rows,n,c,rfl,h⟩;unfold K6;rw[dif_pos ex];have e:=(wE (wE (wE ex))).1;generalize vd (wE (wE ex))=c' at *;generalize vd (wE ex)=n' at *;generalize vd ex=r' at *;injection e with e1 e2
 injection e2 with e2 e3
 injection e3 with e3 _
 have:=mr e1;subst this;have e2:(n:Int)=n':=by injection e2
 have e3:c=c':=by injection e3
 subst e3;rw[e2]
def gL(M:gc):aH:=(M.map (·.2)).filter λp=>decide (p≠1)
theorem BY(M:gc):AZ [MD M]=aa (L (gL M)):=by
 have key:j8 2 [] (iSeq (fN 0)) (Tg.many [0,1]) (n4 (fOp opNe (fN 1) (fC (.int 1)))) (fN 1) [.sh ab (MD M)]=aa (.nw,L (gL M)):=by
  have nf:nrm .sh (MD M)=(.sh,MD M):=rfl;have it:iSeq (fN 0) [.sh ab (MD M)]=aa (M.map tD):=by
   have e:seqD (MD M)=aa (M.map tD):=rfl;generalize MD M=Y at *;simp[fQ,nf,e]
  rw[S5 (e:=tD) (h:=λx=>.int x.2) (p:=λx=>decide (x.2≠1)) (xs:=M) it (λx _=>by simp[fQ,tD,A7]) (λx _ _=>by simp[fQ,tD])];have:(M.filter λx=>decide (x.2≠1)).map (λx=>Dt.int x.2)=(gL M).map Dt.int:=by
   unfold gL;rw[w1V,wM];rfl
  rw[this]
 have key2:Ko [.sh ab (MD M)]=aa (.rt .nw (L (gL M))):=by
  unfold Ko sRet;rw[key];rfl
 unfold AZ;exact I0 (f:=.nw) rfl key2 rfl
theorem Qp{n1 n2:Nat}{b1 b2:aA}{M1 M2:gc}(e1:r8 [k6 n1 b1]=aa (MD M1))(e2:r8 [k6 n2 b2]=aa (MD M2)):Bb [k6 n1 b1,k6 n2 b2]=aa (.bl (decide (gL M1=gL M2))):=by
 have s1:=BY M1;have s2:=BY M2;have nf:∀(f:Fl)(M:gc),nrm f (MD M)=(f,MD M):=λ_ _=>rfl;have nh:∀(f:Fl)n(b:aA),nrm f (k6 n b)=(nrm f (k6 n b)):=λ_ _ _=>rfl;have oe:=Ir (gL M1) (gL M2);have q:Ba [.sh ab (k6 n1 b1),.sh ab (k6 n2 b2)]=aa (.rt .nw (.bl (decide (gL M1=gL M2)))):=by
  unfold Ba;have sn:∀(f:Fl)(d:Dt),(nrm f d).2=d:=λ_ _=>rfl;generalize k6 n1 b1=h1 at *;generalize k6 n2 b2=h2 at *;generalize MD M1=Y1 at *;generalize MD M2=Y2 at *;generalize L (gL M1)=S1 at *;generalize L (gL M2)=S2 at *;simp[fQ,sn,e1,e2,s1,s2,oe]
 unfold Bb;exact I0 (f:=.nw) rfl q rfl
theorem Kr(M:gc):(gL M).length<=M.length:=by
 unfold gL;exact wO (List.length_filter_le _ _) (by rw[wn];exact wt _)
def iF(n1 n2 k:Nat)(M1:gc)(T:aA):aA:=(ah n1).map λs=>gB n2 (T.drop (n2-k)) ((M1.map (ib (k8 n1 s))).drop (n1-k))
theorem UA{n1 n2:Nat}{b1 b2:aA}{M1 M2:gc}(e1:r8 [k6 n1 b1]=aa (MD M1))(e2:r8 [k6 n2 b2]=aa (MD M2))(ne:gL M1≠gL M2):Ay [k6 n1 b1,k6 n2 b2]=aa .non:=by
 have s1:=BY M1;have s2:=BY M2;have nf1:∀(f:Fl),nrm f (MD M1)=(f,MD M1):=λ_=>rfl;have nf2:∀(f:Fl),nrm f (MD M2)=(f,MD M2):=λ_=>rfl;have oe:=Iu (gL M1) (gL M2);rw[bh ne]at oe;have sn:∀(f:Fl)(d:Dt),(nrm f d).2=d:=λ_ _=>rfl;refine I0 (f:=.nw) rfl ?_ rfl;unfold CO;generalize k6 n1 b1=h1 at *;generalize k6 n2 b2=h2 at *;generalize MD M1=Y1 at *;generalize MD M2=Y2 at *;generalize L (gL M1)=S1 at *;generalize L (gL M2)=S2 at *;simp[fQ,sn,e1,e2,s1,s2,oe,nf1,nf2]
theorem Zk{n s:Nat}{M:gc}(hs:s<n):M.map (ib (k8 n s))∈gT n M:=wj.mpr ⟨k8 n s,wj.mpr ⟨s,wJ.mpr hs,rfl⟩,rfl⟩
theorem UB{n1 n2 r1 w e:Nat}{b1 b2 G1 T:aA}{M1 M2:gc}(e1:r8 [k6 n1 b1]=aa (MD M1))(e2:r8 [k6 n2 b2]=aa (MD M2))(eq:gL M1=gL M2)(eb:Y4 [MD M2]=aa (LL T))(lT:T.length=n2)(hT:∀x∈T,x.length=n2/\Lt (2^e) x)(Z1:Mz n1 r1 G1 M1)(l1:Ml n1 w M1)(w0:0<w)(lM2:M2.length=n2)(n16:n1<=6)(n26:n2<=6)(he:e+w<=60000):
  Ay [k6 n1 b1,k6 n2 b2]=aa (LL (iF n1 n2 (gL M1).length M1 T)):=by
 have lM1:=Z1.len;have s1:=BY M1;have s2:=BY M2;have nf1:∀(f:Fl),nrm f (MD M1)=(f,MD M1):=λ_=>rfl;have nf2:∀(f:Fl),nrm f (MD M2)=(f,MD M2):=λ_=>rfl;have oe:=Iu (gL M1) (gL M2);rw[aL eq]at oe;have k1:=Kr M1;have k2:=Kr M2;rw[<-eq]at k2;have sn:∀(f:Fl)(d:Dt),(nrm f d).2=d:=λ_ _=>rfl;have bl:bLen [L (gL M1)]=aa (.nw,.int (gL M1).length):=by
  have:bLen [L (gL M1)]=aa (.nw,.int (((gL M1).map Dt.int).length:Int)):=rfl;rw[this,wn]
 generalize hk:(gL M1).length=k at *;have i1:(n1:Int)-(k:Int)=((n1-k:Nat):Int):=()
 have i2:(n2:Int)-(k:Int)=((n2-k:Nat):Int):=()
 have ct:iA (T.map L) (aa ((n2-k:Nat):Int)) aj=(T.drop (n2-k)).map L:=by rw[W0,w0K]
 have lLL:LL T=.lst (T.map L):=rfl;have pe:∀s,s<n1->M4 [MD M1,L (k8 n1 s)]=aa (L (M1.map (ib (k8 n1 s)))):=λs hs=>JI (e:=w) (dd:=L (k8 n1 s)) (.inl rfl) (E1 _ _) Z1.ms.rows (λx hx=>(l1.part x hx).1) l1.row (λy hy=>by
  obtain⟨i,hi⟩:=BP hy;have:=w05 (n:=w) ();rw[<-hi,v7];split<;>simp<;>rfl') ()
 have pl:∀s,s<n1->∀c∈M1.map (ib (k8 n1 s)),c.natAbs<2^w:=λs hs c hc=>Au (Uz Z1 l1 _ (Zk hs)) c hc;have mx:∀s,s<n1->EJ [LL (T.drop (n2-k)),L ((M1.map (ib (k8 n1 s))).drop (n1-k)),.int n2]=aa (L (gB n2 (T.drop (n2-k)) ((M1.map (ib (k8 n1 s))).drop (n1-k)))):=λs hs=>
  z0F n2 (T.drop (n2-k)) ((M1.map (ib (k8 n1 s))).drop (n1-k)) _ (.inl rfl) () (λr hr=>(hT r (vP hr)).1) (by rw[wR,wR,wn,lT,lM1];rfl') (λr hr c hc x hx=>K4 (pl s hs c (vP hc)) (Au (hT r (vP hr)).2 x hx) ())
 have u1:∀c5,j8 1 [2,0] (j9 (fAt (fN 0) (fC (.int 0)))) (Tg.one 0) fYes (i0 af M4 (b7 (fN 1) (b7 (i0 af E7 (b7 (fAt (fN 2) (fC (.int 0))) (b7 (fN 0) fNil))) fNil))) [.sh ab (k6 n1 b1),.sh ab (k6 n2 b2),.sh ab (MD M1),.sh ab (MD M2),.sh af (.int k),c5,.no]=aa (.nw,LL ((ah n1).map λs=>M1.map (ib (k8 n1 s)))):=λc5=>by
  rw[k7 (e:=λ(k:Nat)=>.int (0+(k:Int))) (h:=λs=>L (M1.map (ib (k8 n1 s)))) (xs:=ah n1) (by simp[fQ,iN n1 (),o9]) (λj hj=>by
   have hj:=wJ.mp hj;have u:=Bc n1 j ();have p:=pe j hj;generalize MD M1=Y1 at *;simp[fQ,u,p,sn])]
  unfold LL;rw[wM];rfl
 have u2:∀f5,j8 1 [5,0,4,1] (iSeq (fN 6)) (Tg.one 0) fYes (i0 af EJ (b7 (fN 1) (b7 (ic (fN 0) (G6 (fOp Ae (fAt (fN 2) (fC (.int 0))) (fN 3))) A4) (b7 (fAt (fN 4) (fC (.int 0))) fNil)))) [.sh ab (k6 n1 b1),.sh ab (k6 n2 b2),.sh ab (MD M1),.sh ab (MD M2),.sh af (.int k),.sh f5 (LL (T.drop (n2-k))),.sh af (LL ((ah n1).map λs=>M1.map (ib (k8 n1 s))))]=aa (.nw,LL (iF n1 n2 k M1 T)):=λf5=>by
  rw[k7 (e:=λs=>L (M1.map (ib (k8 n1 s)))) (h:=λs=>L (gB n2 (T.drop (n2-k)) ((M1.map (ib (k8 n1 s))).drop (n1-k)))) (xs:=ah n1) (by simp[fQ,LL]) (λs hs=>by
   have hs:=wJ.mp hs;have m:=mx s hs;have cf:=W0 ((M1.map (ib (k8 n1 s))).map Dt.int) (n1-k);have t2:=E5 (M1.map (ib (k8 n1 s))) (n1-k);generalize M1.map (ib (k8 n1 s))=pr at *;generalize LL (T.drop (n2-k))=TD at *;simp[fQ,i1,cf,t2,m,sn])]
  unfold iF LL;rw[wM];rfl
 refine I0 (f:=.nw) rfl ?_ rfl;unfold CO;rw[lLL]at eb;generalize MD M1=Y1 at *;generalize MD M2=Y2 at *;generalize L (gL M1)=S1 at *;generalize L (gL M2)=S2 at *;refine run (by simp[fQ,sn,e1,nf1];rfl) ?_;refine run (by simp[fQ,sn,e2,nf2];rfl) ?_;refine run (by simp[fQ,sn,s1,s2,oe];rfl) ?_;refine run (by simp[fQ,sn,s1,bl];rfl) ?_;refine run (ρ':=[.sh ab (k6 n1 b1),.sh ab (k6 n2 b2),.sh ab Y1,.sh ab Y2,.sh af (.int k),.sh (gM ((T.drop (n2-k)).map L)).1.isFr (LL (T.drop (n2-k))),.no]) (by
  simp[fQ,sn,eb,i2,ct];refine⟨rfl,?_⟩;show Dt.lst _=Dt.lst _;rw[w0K]) ?_
 generalize (gM ((T.drop (n2-k)).map L)).1.isFr=f5;refine run (by simp[fQ,u1];rfl) ?_;exact bv (Option.map λx=>Oc.rt x.1 x.2) (u2 f5)
theorem Ht{n r:Nat}{G:aA}{M:gc}(Z:Mz n r G M):St.Chain n M where
 nn:=λi hi=>by
  by_cases h:i<r
  .exact w1s (Z.pos i h)
  .rw[Z.zero i () hi];exact Int.le_refl 0
 dvd:=λi j hij hj=>by
  by_cases h:j<r
  .by_cases e:i=j
   .rw[e];exact w0f _
   .exact Z.dvd i j () h
  .rw[Z.zero j () hj];exact w0h _
theorem kG{n:Nat}{M:gc}(h:M.length=n):M.map (·.2)=(ah n).map (mp M):=by
 apply vz
 .simp[h]
 .intro i h1 h2;simp at h1 h2;simp[mp,am,wa h1]
theorem Qq{n:Nat}{M:gc}(h:M.length=n):gL M=((ah n).map (mp M)).filter (λp=>decide (p≠1)):=by
 unfold gL;rw[kG h]
theorem z0G{n1 n2:Nat}{S1 S2 G1 G2:aA}{φ ψ:Lat.Vec->Lat.Vec}(I:Iso n1 S1 n2 S2 φ ψ)(h1:Lat.SameSpan (fP G1) (fP S1))(h2:Lat.SameSpan (fP G2) (fP S2)):Iso n1 G1 n2 G2 φ ψ where
 lf:=I.lf
 lb:=I.lb
 sf:=I.sf
 sb:=I.sb
 f:=λx s h=>Lat.Span.trans h2.2 (I.f x s (Lat.Span.trans h1.1 h))
 b:=λy s h=>Lat.Span.trans h1.2 (I.b y s (Lat.Span.trans h2.1 h))
 fb:=λx s=>Lat.Span.trans h1.2 (I.fb x s)
 bf:=λy s=>Lat.Span.trans h2.2 (I.bf y s)
theorem z2p{n1 n2 r1 r2:Nat}{G1 G2:aA}{M1 M2:gc}{φ ψ:Lat.Vec->Lat.Vec}(Z1:Mz n1 r1 G1 M1)(Z2:Mz n2 r2 G2 M2)(I:Iso n1 G1 n2 G2 φ ψ):gL M1=gL M2:=by
 rw[Qq Z1.len,Qq Z2.len];exact Uc Z1.ms Z1.len (Ht Z1) Z2.ms Z2.len (Ht Z2) I
theorem z2q{n1 n2 r1 r2:Nat}{G1 G2:aA}{M1 M2:gc}(Z1:Mz n1 r1 G1 M1)(Z2:Mz n2 r2 G2 M2)(eq:gL M1=gL M2):St.Alike n1 n2 (n1-(gL M1).length) (n2-(gL M1).length) M1 M2:=by
 obtain⟨o1,a1,a2,a3⟩:=(Ht Z1).ones;obtain⟨o2,b1,b2,b3⟩:=(Ht Z2).ones;have e1:=(Qq Z1.len).trans (St.Chain.shape a1 a2 a3);have e2:=(Qq Z2.len).trans (St.Chain.shape b1 b2 b3);have l1:(gL M1).length=n1-o1:=by rw[e1];simp
 have l2:(gL M1).length=n2-o2:=by rw[eq,e2];simp
 have q1:n1-(gL M1).length=o1:=()
 have q2:n2-(gL M1).length=o2:=()
 rw[q1,q2];refine⟨a1,b1,(),a2,b2,λj hj=>?_⟩;have:=eq;rw[e1,e2]at this;have:=bv (λl=>l[j]?) this;simp only[wv]at this;rw[vC hj,vC ()]at this;simpa using this
theorem kx{n1 n2 k:Nat}{M1:gc}{T:aA}(hT:∀x∈T,x.length=n2)(lT:T.length=n2)(lM:M1.length=n1)(hk1:k<=n1)(hk2:k<=n2){s:Nat}(hs:s<n1)(i:Nat):at0 ((iF n1 n2 k M1 T).getD s []) i=St.mix (T.drop (n2-k)) (((gT n1 M1).getD s []).drop (n1-k)) i:=by
 have e1:(iF n1 n2 k M1 T).getD s []=gB n2 (T.drop (n2-k)) ((M1.map (ib (k8 n1 s))).drop (n1-k)):=by
  unfold iF;simp[am,vC hs]
 have e2:(gT n1 M1).getD s []=M1.map (ib (k8 n1 s)):=by
  unfold gT units;simp[am,vC hs]
 rw[e1,e2];exact Ar (λx hx=>hT x (vP hx)) i
structure Known(n:Nat)(bills:aA)(M:gc)(G:aA)(w e:Nat):Prop where
 em:r8 [k6 n bills]=aa (MD M)
 Z:Mz n G.length G M
 ml:Ml n w M
 w0:0<w
 we:w<=e
 e9:e<=8990
 w6:w<=600
 e6:e<=6000
 bd:gR (n+n) (2^w)+1<=2^e
 span:Lat.SameSpan (fP G) (fP bills)
theorem Md{n:Nat}{bills:aA}(H:Hall n bills)(B j0 j g w e:Nat)(bb:∀r∈bills,Lt B r)(B0:0<B)(nj:n<=j)(j0p:0<j0)(l0:n<=j0\/bills.length<=j0)(c1:gR j0 B+1<=2^g)(g9:g<=899)(gw:g*j0<=w)(c2:gR j (2^(g+1))+1<=2^w)(we:w+1<=e)(e9:e<=8990)(w6:w+1<=600)(e6:e<=6000)(c3:gR (j+j) (2^(w+1))+1<=2^e):
   ∃(M:gc)(G:aA),Known n bills M G (w+1) e:=by
 obtain⟨G,es,Gd,_⟩:=LU H;have n1:=H.n1;have n6:=H.n6;have gl:=CD Gd.asc (vh _);have gl2:=Gd.len;have gj:G.length<=j0:=()
 have gg:∀x∈G,Lt (2^g) x:=λx hx=>((⟨Gd.asc,Gd.form,Gd.span,Gd.ind,Gd.len,Gd.full⟩:St.Good n B bills G).small bb B0 x hx).mono (EU gj j0p B0 c1);obtain⟨M,em,Z,hx⟩:=Hq n6 g9 es Gd.asc gg;have pw:(2:Nat)^(g*G.length)<=2^w:=wq (by decide) (wO (vw _ gj) gw);have pc:((2^(g*G.length):Nat):Int)=(2:Int)^(g*G.length):=by norm_cast
 have pd:((2^w:Nat):Int)=(2:Int)^w:=by norm_cast
 have pe:((2^(w+1):Nat):Int)=(2:Int)^(w+1):=by norm_cast
 have p2:(2:Nat)^(w+1)=2^w*2:=vX _ _;have p1:=wK w;have nn:=Z.nn;refine⟨M,G,em,Z,⟨λx h=>⟨nn x h,?_⟩,λx h y hy=>?_,λx h p=>((hx x h).1 p).2⟩,(),(),e9,w6,e6,?_,Gd.span⟩
 .by_cases q:x.2=0
  .rw[q];rfl'
  .have:=((hx x h).1 (by have:=nn x h;rfl')).1;rfl'
 .by_cases q:x.2=0
  .have a:=(hx x h).2 q y hy;have:=EU (k:=n) nj () (wK _) c2;rfl'
  .have p0:0<x.2:=by have:=nn x h;rfl'
   have a:=((hx x h).1 p0).1;have b:=((hx x h).1 p0).2 y hy;rfl'
 .exact EU (show n+n<=j+j by rfl') () (wK _) c3
def Sm(n:Nat)(bills:aA):Prop:=(n<=5/\∀r∈bills,Lt (2^13) r)\/(bills.length<=3/\∀r∈bills,Lt 1000 r)
theorem Sh{n:Nat}{bills:aA}(H:Hall n bills)(s:Sm n bills):∃(M:gc)(G:aA)(w e:Nat),Known n bills M G w e:=by
 rcases s with⟨h5,hb⟩|⟨h3,hb⟩
 .obtain⟨M,G,k⟩:=Md H (2^13) 5 5 107 582 5974 hb (by decide) h5 (by decide) (.inl h5) (by unfold gR;decide) (by decide) (by decide) (by unfold gR;decide) (by decide) (by decide) (by decide) (by decide) (by unfold gR;decide);exact⟨M,G,_,_,k⟩
 .obtain⟨M,G,k⟩:=Md H 1000 3 6 47 346 4364 hb (by decide) H.n6 (by decide) (.inr h3) (by unfold gR;decide) (by decide) (by decide) (by unfold gR;decide) (by decide) (by decide) (by decide) (by decide) (by unfold gR;decide);exact⟨M,G,_,_,k⟩
structure TabOk(n1 n2:Nat)(b1 b2 tb:aA):Prop where
 len:tb.length=n1
 rows:∀r∈tb,r.length=n2
 lt:∀r∈tb,Lt (2^6603) r
 kept:∀x:aH,x.length=n1->(Lat.Span (fP b1) (λk=>at0 x k)↔Lat.Span (fP b2) (St.mix tb x))
 onto:∀y:Lat.Vec,St.Supp n2 y->∃x:aH,x.length=n1/\Lat.Span (fP b2) (λk=>St.mix tb x k-y k)
theorem Ks{e w:Nat}:∀{R:aA}{cs:aH}{N:Nat},(∀r∈R,Lt (2^e) r)->(∀c∈cs,c.natAbs<2^w)->R.length<=N->∀k,(St.mix R cs k).natAbs<=N*2^(e+w)
 |[],_,N,_,_,_,k=>by show(0:Int).natAbs<=_;simp
 |_::_,[],N,_,_,_,k=>by show(0:Int).natAbs<=_;simp
 | r::R,c::cs,N,hr,hc,hN,k=>by
  have hN':R.length+1<=N:=hN;have ih:=Ks (N:=N-1) (λx hx=>hr x (wc _ hx)) (λx hx=>hc x (wc _ hx)) () k (R:=R) (cs:=cs);show(c*at0 r k+St.mix R cs k).natAbs<=_;have h1:=hr r wf k;have h2:=hc c wf;have h3:(c*at0 r k).natAbs<=2^(e+w):=by
   rw[vq,vB,uG];exact ue (vZ h1) (vZ h2)
  have h4:N*2^(e+w)=(N-1)*2^(e+w)+2^(e+w):=by
   obtain⟨m,rfl⟩:∃m,N=m+1:=⟨N-1,()⟩;rw[uV];rfl
  rfl'
theorem kC{n1 n2 w1 e1 w2 e2:Nat}{b1 b2 G1 G2:aA}{M1 M2:gc}(k1:Known n1 b1 M1 G1 w1 e1)(k2:Known n2 b2 M2 G2 w2 e2)(n11:1<=n1)(n16:n1<=6)(n21:1<=n2)(n26:n2<=6)(eq:gL M1=gL M2):
   ∃tb,Ay [k6 n1 b1,k6 n2 b2]=aa (LL tb)/\TabOk n1 n2 b1 b2 tb:=by
 obtain⟨T,eb,lT,hT,mk,_⟩:=Nl n21 n26 k2.Z k2.ml k2.w0 k2.we k2.e9 k2.bd;have ts:=UB k1.em k2.em eq eb lT hT k1.Z k1.ml k1.w0 k2.Z.len n16 n26 (by have:=k1.w6;have:=k2.e6;rfl');have s1:=Kr M1;have s2:=Kr M2;rw[<-eq]at s2;rw[k1.Z.len]at s1;rw[k2.Z.len]at s2;have A:=z2q k1.Z k2.Z eq;generalize (gL M1).length=k at *;have lt:(iF n1 n2 k M1 T).length=n1:=by unfold iF;simp
 have rw2:∀r∈iF n1 n2 k M1 T,r.length=n2:=λr hr=>by
   obtain⟨s,_,rfl⟩:=wj.mp hr;exact BJ λx hx=>(hT x (vP hx)).1
 have ha:∀s,s<n1->∀i,at0 ((iF n1 n2 k M1 T).getD s []) i=St.mix (T.drop (n2-k)) (((gT n1 M1).getD s []).drop (n1-k)) i:=λs hs i=>kx (λx hx=>(hT x hx).1) lT k1.Z.len s1 s2 hs i;refine⟨_,ts,lt,rw2,λr hr i=>?_,λx lx=>?_,λy sy=>?_⟩
 .obtain⟨s,hs,rfl⟩:=wj.mp hr;have hs:=wJ.mp hs;rw[Ar λx hx=>(hT x (vP hx)).1];have m:=Ks (R:=T.drop (n2-k)) (cs:=(M1.map (ib (k8 n1 s))).drop (n1-k)) (N:=6) (λr hr=>(hT r (vP hr)).2) (λc hc=>Au (Uz k1.Z k1.ml _ (Zk hs)) c (vP hc)) (by rw[wR];rfl') i;have p:6*2^(e2+w1)<2^6603:=by
   have h1:2^(e2+w1)<=2^6600:=wq (by decide) (by have:=k1.w6;have:=k2.e6;rfl');have h2:(2:Nat)^6603=2^6600*8:=by rw[show(6603:Nat)=6600+3 from rfl,vB]
   have h3:=wK 6600;rfl'
  rfl'
 .rw[<-k1.span.iff,<-k2.span.iff];exact Ue A k1.Z.ms k1.Z.len k2.Z.ms k2.Z.len rw2 lT mk (Uy k1.Z) lt ha x lx
 .obtain⟨x,lx,sp⟩:=St.Uf A k1.Z.ms k1.Z.len k2.Z.ms k2.Z.len rw2 lT mk (Uy k1.Z) lt ha y sy;exact⟨x,lx,k2.span.iff.mp sp⟩
theorem jB(ns:aH)(m a:Int)(k n:Nat)(ρ:List Cell)(jk jn:Nat)(f1 f2 f4:Bool)(h0:0<=m)(h3:m<3)(hk:k<=100)(hn:n<=100)(ha:0<=a)
  (p0:ρ[0]?=aa (.sh ab (.scr ns))) (pk:ρ[jk]?=aa (.sh f2 (.int k))) (p1:ρ[1]?=aa (.sh f1 (.int m))) (pn:ρ[jn]?=aa (.sh f4 (.int n))) :
  (j8 1 [0,jk,1] (j9 (fN jn)) (Tg.one 0) fYes (i0 true T3 (b7 (fN 1) (b7 (fOp o6 (fC (.int a)) (fOp D9 (fN 2) (fN 0))) (b7 (fN 2) (b7 (fN 3) fNil)))))) ρ =
   aa (.nw,LL ((ah n).map λ(j:Nat)=>A8 ns (a+(k:Int)*(j:Int)) k m)):=by
 rw[k7 (e:=λ(j:Nat)=>.int (0+(j:Int))) (h:=λ(j:Nat)=>L (A8 ns (a+(k:Int)*(j:Int)) k m)) (xs:=ah n)
  (by simp[fQ,j9,intD,Ah,o9,pn,show(n:Int)<=1000000 by rfl',show -1000000<=(n:Int) by rfl'])
  (fun j hj=>by
   have hj:=wJ.mp hj;have hm:E4 (k:Int) (j:Int)=af:=JD (by
    have:(j:Int).natAbs=j:=()
    rfl')
   have hp:(0:Int)<=a+(k:Int)*(j:Int):=by have:=w19 (show(0:Int)<=k by rfl') (show(0:Int)<=j by rfl');rfl'
   have e:=Hi ns (a+(k:Int)*(j:Int)) k m hp () h0 h3;simp[fQ,Tg.put,sigD,Jz,hm,e,p0,pk,p1])]
 simp[LL]
theorem pK(ns:aH)(a:Int)(k:Nat):Lt 5 (A8 ns a k 0):=λi=>by
 by_cases hi:i<k
 .have e:at0 (A8 ns a k 0) i=Fx (u9 ns (a+(i:Int))) 0:=by unfold A8 at0;simp[am,hi]
  rw[e];have:=JF (u9 ns (a+(i:Int))) 0 rfl;rfl'
 .rw[u7 (by rw[Y8];rfl')];decide
structure Drw(n m:Nat)(X Y:aA):Prop where
 n1:1<=n
 n3:n<=3\/(n=6/\∀r∈X,Lt 5 r)
 m1:1<=m
 m3:m<=3
 wX:∀r∈X,r.length=n
 wY:∀r∈Y,r.length=m
 lX:X.length<=3
 lY:Y.length<=3
 bX:∀r∈X,Lt 31 r
 bY:∀r∈Y,Lt 31 r
theorem z2s(ns:aH):∃(n m:Nat)(X Y:aA),Qd [.scr ns]=aa (.tup [.int n,LL X,.int m,LL Y])/\Drw n m X Y:=by
 have c0:=C3 ns 0 (by decide);have c1:=C3 ns 1 (by decide);have c2:=C3 ns 2 (by decide);have c3:=C3 ns 3 (by decide);have c4:=C3 ns 4 (by decide);have r0:=B4 (u9 ns 0) (show(0:Int)<3 by decide);have r1:=B4 (u9 ns 1) (show(0:Int)<4 by decide);have r2:=B4 (u9 ns 2) (show(0:Int)<4 by decide);have r3:=B4 (u9 ns 3) (show(0:Int)<4 by decide);have r4:=B4 (u9 ns 4) (show(0:Int)<3 by decide);have mo:∀(c:Int)(k:Nat),X3 c ((k+1:Nat):Int)=af:=λc k=>by unfold X3;exact aL ()
 have mo3:=λc=>mo c 2;have mo4:=λc=>mo c 3;have mo7:=λc=>mo c 6;simp only[Nat.reduceAdd,w1l]at mo3 mo4 mo7;have lk:∃m0:Int,gJ [Dt.int 0,Dt.int 0,Dt.int 0,Dt.int 1] ((u9 ns 2).fmod 4)=aa (.int m0)/\0<=m0/\m0<2:=by
  have hr2:(u9 ns 2).fmod 4=0\/(u9 ns 2).fmod 4=1\/(u9 ns 2).fmod 4=2\/(u9 ns 2).fmod 4=3:=by omega +splitDisjunctions
  rcases hr2 with h2|h2|h2|h2<;>rw[h2]
  .exact⟨0,rfl,by decide⟩
  .exact⟨0,rfl,by decide⟩
  .exact⟨0,rfl,by decide⟩
  .exact⟨1,rfl,by decide⟩
 obtain⟨m0,lk,l0,l2⟩:=lk;obtain⟨z,hz⟩:=vF (show 0<=1+(u9 ns 4).fmod 3 by rfl');obtain⟨u,hu⟩:=vF (show 0<=(u9 ns 1).fmod 4 by rfl');obtain⟨v,hv⟩:=vF (show 0<=(u9 ns 3).fmod 4 by rfl');have len:∀(a md:Int)(k q:Nat),∀r∈(ah q).map (λ(j:Nat)=>A8 ns (a+(k:Int)*(j:Int)) k md),r.length=k:=λa md k q r hr=>by
  obtain⟨j,_,rfl⟩:=wj.mp hr;exact Y8 _ _ _ _
 have b31:∀(a md:Int)(k q:Nat),0<=md->md<2->∀r∈(ah q).map (λ(j:Nat)=>A8 ns (a+(k:Int)*(j:Int)) k md),Lt 31 r:=λa md k q h1 h2 r hr=>by
  obtain⟨j,_,rfl⟩:=wj.mp hr;exact kK _ _ _ _ h1 h2
 have fin:∀(md:Int)(k:Nat),0≤md→md<2→1≤k→k≤3∨(k=6∧md=0)→∃X Y,(sSeq (sSet [] 4 (fOp F8 (i0 af o0 (b7 (fN 0) (b7 (fC (.int 1)) fNil))) (fC (.int 4))))
    (sSeq (sSet [] 5 (fOp F8 (i0 af o0 (b7 (fN 0) (b7 (fC (.int 3)) fNil))) (fC (.int 4))))
    (sSeq (sSet [] 6 (j8 1 [0,2,1] (j9 (fN 4)) (Tg.one 0) fYes (i0 af T3 (b7 (fN 1) (b7 (fOp o6 (fC (.int 8)) (fOp D9 (fN 2) (fN 0))) (b7 (fN 2) (b7 (fN 3) fNil)))))))
    (sSeq (sSet [] 7 (j8 1 [0,3,1] (j9 (fN 5)) (Tg.one 0) fYes (i0 af T3 (b7 (fN 1) (b7 (fOp o6 (fC (.int 27)) (fOp D9 (fN 2) (fN 0))) (b7 (fN 2) (b7 (fN 3) fNil)))))))
    (sRet (fTup (b7 (fN 2) (b7 (fN 6) (b7 (fN 3) (b7 (fN 7) fNil)))))))))) [.sh ab (.scr ns),.sh af (.int md),.sh af (.int k),.sh af (.int z),.no,.no,.no,.no]=aa (.rt .fr (.tup [.int k,LL X,.int z,LL Y]))/\Drw k z X Y:=by
  intro md k a1 a2 a3 a4;refine⟨_,_,?_,a3,?_,(),(),len 8 md k u,len 27 md z v,by simp;rfl',by simp;rfl',b31 8 md k u a1 a2,b31 27 md z v a1 a2⟩
  rotate_left
  .rcases a4 with h|⟨h,h'⟩
   .exact .inl h
   .refine .inr ⟨h,λr hr=>?_⟩;obtain⟨j,_,rfl⟩:=wj.mp hr;rw[h'];exact pK _ _ _
  refine run (by simp[fQ,c1,mo4,hu];rfl) ?_;refine run (by simp[fQ,c3,mo4,hv];rfl) ?_;have e1:=jB ns md 8 k u [.sh ab (.scr ns),.sh af (.int md),.sh af (.int k),.sh af (.int z),.sh af (.int u),.sh af (.int v),.no,.no] 2 4 af af af a1 () () () (by decide) rfl rfl rfl rfl;generalize (ah u).map (λ(j:Nat)=>A8 ns (8+(k:Int)*(j:Int)) k md)=X at *;refine run (by simp[fQ,e1];rfl) ?_;have e2:=jB ns md 27 z v [.sh ab (.scr ns),.sh af (.int md),.sh af (.int k),.sh af (.int z),.sh af (.int u),.sh af (.int v),.sh af (LL X),.no] 3 5 af af af a1 () () () (by decide) rfl rfl rfl rfl;generalize (ah v).map (λ(j:Nat)=>A8 ns (27+(z:Int)*(j:Int)) z md)=Y at *;refine run (by simp[fQ,e2];rfl) ?_;simp[fQ,LL]
 have key:∃(n m:Nat)(X Y:aA),Kp [.sh ab (.scr ns),.no,.no,.no,.no,.no,.no,.no]=aa (.rt .fr (.tup [.int n,LL X,.int m,LL Y]))/\Drw n m X Y:=by
  unfold Kp;obtain⟨k,hk⟩:=vF (show 0<=1+(u9 ns 0).fmod 3 by rfl');by_cases h4:(u9 ns 4).fmod 7=6
  .obtain⟨X,Y,e,d⟩:=fin 0 6 (by decide) (by decide) (by decide) (.inr ⟨rfl,rfl⟩);refine⟨6,z,X,Y,?_,d⟩;refine run (by simp[fQ,c2,lk,mo4];rfl) ?_;refine run (by simp[fQ,c0,mo3,hk];rfl) ?_;refine run (by simp[fQ,c4,mo3,hz];rfl) ?_;exact run (ρ':=[.sh ab (.scr ns),.sh af (.int 0),.sh af (.int (6:Nat)),.sh af (.int z),.no,.no,.no,.no]) (by simp[fQ,c4,h4,v6,mo7]) e
  .obtain⟨X,Y,e,d⟩:=fin m0 k l0 l2 () (.inl ());refine⟨k,z,X,Y,?_,d⟩;refine run (by simp[fQ,c2,lk,mo4];rfl) ?_;refine run (by simp[fQ,c0,mo3,hk];rfl) ?_;refine run (by simp[fQ,c4,mo3,hz];rfl) ?_;exact run (ρ':=[.sh ab (.scr ns),.sh af (.int m0),.sh af (.int k),.sh af (.int z),.no,.no,.no,.no]) (by simp[fQ,c4,h4,v6,mo7]) e
 obtain⟨n,m,X,Y,e,d⟩:=key;exact⟨n,m,X,Y,I0 (f:=.fr) rfl e rfl,d⟩
def AD(n m:Nat)(X:aA):aA:=X.map (·++l9 (m-n))++(ah (m-n)).map λj=>k8 m (n+j)
theorem Me(n m:Nat)(X:List (List Int))(hn:n≤m)(hm:m≤100)(hX:X.length≤100)(wX:∀ r∈X,r.length=n):Bu [LL X,.int n,.int m]=some (LL (AD n m X)):=by
 have i1:(m:Int)-(n:Int)=((m-n:Nat):Int):=()
 have bi:∀b:Bool,bInt [.bl b]=aa (.nw,.int (if b then 1 else 0)):=λb=>by cases b<;>rfl
 have z0:∀(c:Cell),j8 1 [] (j9 (fOp Ae (fN 1) (fN 2))) (Tg.one 0) fYes (fC (.int 0)) [c,.sh ab (.int m),.sh ab (.int n)]=aa (.nw,L (l9 (m-n))):=λc=>by
  rw[k7 (e:=λ(j:Nat)=>.int (0+(j:Int))) (h:=λ_=>.int 0) (xs:=ah (m-n)) (by simp[fQ,i1,iN (m-n) (),o9]) (λj _=>by simp[fQ])];have:(ah (m-n)).map (λ_=>Dt.int 0)=(l9 (m-n)).map Dt.int:=by
   apply vz
   .simp[l9]
   .intro i h1 h2;simp[l9]
  rw[this]
 have e0:j8 1 [2,1] (iSeq (fN 0)) (Tg.one 0) fYes (fOp o6 (fBlt bLst (b7 (fN 0) fNil)) (j8 1 [] (j9 (fOp Ae (fN 1) (fN 2))) (Tg.one 0) fYes (fC (.int 0)))) [.sh ab (LL X),.sh ab (.int n),.sh ab (.int m),.no,.no]=aa (.nw,LL (X.map (·++l9 (m-n)))):=by
  rw[k7 (e:=L) (h:=λr=>L (r++l9 (m-n))) (xs:=X) (by simp[fQ,LL]) (λr hr=>by
   have ct:o6 (L r) (L (l9 (m-n)))=aa (.nw,L (r++l9 (m-n))):=GS r (l9 (m-n)) (by rw[wX r hr,C4];rfl');have nl:bLst [L r]=aa (.nw,L r):=by
     have:bLst [L r]=aa (gM (r.map Dt.int)):=rfl;rw[this,Q1]
   have z:=z0 (.sh ab (L r));generalize L (l9 (m-n))=Z at *;simp[fQ,nl,z,ct])]
  unfold LL;rw[wM];rfl
 have loop:∃ c4,gk (Tg.one 4) (sWr wApp 3 (j8 1 [4] (j9 (fN 2)) (Tg.one 0) fYes (fBlt bInt (b7 (fOp opEq (fN 0) (fN 1)) fNil)))) ((List.range (m-n)).map fun(i:Nat) => .int ((n:Int)+(i:Int))) [.sh false (LL X),.sh false (.int n),.sh false (.int m),.ow true ((X.map (·++l9 (m-n))).map L),.no]=some (.nx [.sh false (LL X),.sh false (.int n),.sh false (.int m),.ow true ((AD n m X).map L),c4]):=by
  obtain⟨j,q⟩:=DA (g:=Tg.one 4) (F:=sWr wApp 3 (j8 1 [4] (j9 (fN 2)) (Tg.one 0) fYes (fBlt bInt (b7 (fOp opEq (fN 0) (fN 1)) fNil)))) (R:=λi(c:Cell)=>[.sh ab (LL X),.sh ab (.int n),.sh ab (.int m),.ow af ((X.map (·++l9 (m-n))++(ah (i-n)).map λj=>k8 m (n+j)).map L),c]) (m-n) n .no (λi c h1 h2=>⟨.sh ab (.int i),by
   have e1:j8 1 [4] (j9 (fN 2)) (Tg.one 0) fYes (fBlt bInt (b7 (fOp opEq (fN 0) (fN 1)) fNil)) [.sh false (LL X),.sh false (.int n),.sh false (.int m),.no,.sh false (.int i)]=some (.nw,L (k8 m i)):=by
     rw[k7 (e:=λ(j:Nat)=>.int (0+(j:Int))) (h:=λ(j:Nat)=>.int (if j=i then 1 else 0)) (xs:=ah m) (by simp[fQ,iN m (),o9]) (λj _=>by
      by_cases z:j=i
      .subst z;simp[fQ,v6,bi]
      .have z':¬(j:Int)=(i:Int):=()
       simp[fQ,v6,bi,z,z'])]
     unfold k8 L;rw[wM];rfl
   have e2:(X.map (·++l9 (m-n))++(ah (i+1-n)).map λj=>k8 m (n+j))=(X.map (·++l9 (m-n))++(ah (i-n)).map λj=>k8 m (n+j))++[k8 m i]:=by
     rw[show i+1-n=(i-n)+1 by rfl',uO,vn,ut];simp[show n+(i-n)=i by rfl']
   have ln:((X.map (·++l9 (m-n))++(ah (i-n)).map λj=>k8 m (n+j)).map L).length<1000000:=by simp;rfl'
   rw[e2,vn];generalize (X.map (·++l9 (m-n))++(ah (i-n)).map λj=>k8 m (n+j)).map L=A at *;simp[fQ,e1,ln];rfl'⟩)
  refine⟨j,?_⟩;have a0:(X.map (·++l9 (m-n))++(ah (n-n)).map λj=>k8 m (n+j))=X.map (·++l9 (m-n)):=by simp
  have a1:(X.map (·++l9 (m-n))++(ah (n+(m-n)-n)).map λj=>k8 m (n+j))=AD n m X:=by unfold AD;rw[show n+(m-n)-n=m-n by rfl']
  simp only[a0,a1]at q;have e4:((ah (m-n)).map λ(i:Nat)=>Dt.int (((n+i:Nat):Int)))=(ah (m-n)).map λ(i:Nat)=>Dt.int ((n:Int)+(i:Int)):=vI λi _=>by congr 1
  rw[e4]at q;exact q
 obtain⟨c4,loop⟩:=loop;have rg:=o9 (n:Int) (m-n);have rt:((m:Int)-(n:Int)).toNat=m-n:=()
 refine I0 (f:=.fr) rfl ?_ rfl;unfold Bt;refine run (ρ':=[.sh ab (LL X),.sh ab (.int n),.sh ab (.int m),.ow af ((X.map (·++l9 (m-n))).map L),.no]) (by
  have l0:LL (X.map (·++l9 (m-n)))=.lst ((X.map (·++l9 (m-n))).map L):=rfl;rw[l0]at e0;simp[fQ,e0]) ?_
 refine run (ρ':=[.sh ab (LL X),.sh ab (.int n),.sh ab (.int m),.ow af ((AD n m X).map L),c4]) (by
  generalize (X.map (·++l9 (m-n))).map L=A at *;simp[fQ,Cv,iN n (),iN m (),rt,rg,loop]) ?_
 simp[fQ]
theorem Kt{r:aH}{i:Nat}{v:Int}(h:i<r.length)(k:Nat):at0 (r.set i v) k=if k=i then v else at0 r k:=by
 unfold at0;simp only[uD,vK];by_cases e:k=i
 .subst e;simp[h]
 .rw[ao e,ao (bR e)]
theorem z2t(a b:Nat)(c:Int)(r:aH):(Q8 a b c r).length=r.length:=by
 unfold Q8;split
 .simp
 .split<;>simp
def Om(a b:Nat)(c:Int):Lat.Vec->Lat.Vec:=if c.fmod 3=0 then BQ a b else if a≠b then St.addV a b ((c.fdiv 61).fmod 5-2) else St.negV a
theorem Zl{n a b:Nat}{r:aH}(c:Int)(h:r.length=n)(ha:a<n)(hb:b<n)(k:Nat):at0 (Q8 a b c r) k=Om a b c (λk=>at0 r k) k:=by
 have g:∀i,r.getD i 0=at0 r i:=λ_=>rfl;unfold Q8 Om;by_cases h1:c.fmod 3=0
 .rw[ak h1,ak h1,Kt (by simp;rfl'),Kt ()];unfold BQ;rw[g,g];by_cases e1:k=b
  .subst e1;rw[ak rfl];by_cases e2:k=a
   .subst e2;rw[ak rfl]
   .rw[ao e2,ak rfl]
  .rw[ao e1];by_cases e2:k=a
   .rw[ak e2,ak e2]
   .rw[ao e2,ao e2,ao e1]
 .rw[ao h1,ao h1];by_cases h2:a≠b
  .rw[ak h2,ak h2,Kt ()];rfl
  .rw[ao h2,ao h2,Kt ()];rfl
theorem z0H{n a b:Nat}{Y:aA}(c:Int)(w:∀r∈Y,r.length=n)(ha:a<n)(hb:b<n):fP (Y.map (Q8 a b c))=(fP Y).map (Om a b c):=by
 show((Y.map (Q8 a b c)).map gZ)=(Y.map gZ).map (Om a b c);rw[wM,wM];refine vI λr hr=>funext λk=>?_;exact Zl c (w r hr) ha hb k
theorem z2u{n a b:Nat}{Y:aA}(c:Int)(w:∀r∈Y,r.length=n)(ha:a<n)(hb:b<n):∃φ ψ,Iso n Y n (Y.map (Q8 a b c)) φ ψ:=by
 have e:=z0H c w ha hb;unfold Om at e;by_cases h1:c.fmod 3=0
 .rw[ak h1]at e;exact⟨_,_,z27 ha hb e⟩
 .rw[ao h1]at e;by_cases h2:a≠b
  .rw[ak h2]at e;exact⟨_,_,z5d ha h2 e⟩
  .rw[ao h2]at e;exact⟨_,_,z5e ha e⟩
theorem z5s{n a b B:Nat}{r:aH}(c:Int)(h:r.length=n)(ha:a<n)(hb:b<n)(l:Lt (B+1) r):Lt (3*B+1) (Q8 a b c r):=λk=>by
 rw[Zl c h ha hb];have la:=l a;have lb:=l b;have lk:=l k;unfold Om;by_cases h1:c.fmod 3=0
 .rw[ak h1];unfold BQ;by_cases e1:k=a
  .rw[ak e1];show(at0 r b).natAbs<_;rfl'
  .rw[ao e1];by_cases e2:k=b
   .rw[ak e2];show(at0 r a).natAbs<_;rfl'
   .rw[ao e2];show(at0 r k).natAbs<_;rfl'
 .rw[ao h1];by_cases h2:a≠b
  .rw[ak h2];unfold St.addV;by_cases e1:k=a
   .rw[ak e1];have r5:=B4 (c.fdiv 61) (show(0:Int)<5 by decide);show(at0 r a+((c.fdiv 61).fmod 5-2)*at0 r b).natAbs<_;generalize (c.fdiv 61).fmod 5=t at *;have:t=0\/t=1\/t=2\/t=3\/t=4:=()
    rcases this with rfl|rfl|rfl|rfl|rfl<;>rfl'
   .rw[ao e1];show(at0 r k).natAbs<_;rfl'
  .rw[ao h2];unfold St.negV;by_cases e1:k=a
   .rw[ak e1];show(-(at0 r a)).natAbs<_;rfl'
   .rw[ao e1];show(at0 r k).natAbs<_;rfl'
def Bd(ns:aH)(n:Nat)(Y:aA):Nat->aA
 |0=>Y
 |i+1=>(Bd ns n Y i).map (Q8 (((u9 ns (40+(i:Int))).fdiv 3).fmod n).toNat (((u9 ns (40+(i:Int))).fdiv 17).fmod n).toNat (u9 ns (40+(i:Int))))
def jp(B:Nat):Nat->Nat
 |0=>B
 |i+1=>3*jp B i
theorem Hu(ns:aH){n B:Nat}{Y:aA}(n1:1<=n)(w:∀r∈Y,r.length=n)(l:∀r∈Y,Lt (B+1) r):∀i,(Bd ns n Y i).length=Y.length/\(∀r∈Bd ns n Y i,r.length=n/\Lt (jp B i+1) r)/\∃φ ψ,Iso n Y n (Bd ns n Y i) φ ψ
 |0=>⟨rfl,λr hr=>⟨w r hr,l r hr⟩,_,_,RS n Y⟩
 |i+1=>by
  obtain⟨h1,h2,φ,ψ,h3⟩:=Hu ns n1 w l i;have ra:=B4 ((u9 ns (40+(i:Int))).fdiv 3) (show(0:Int)<n by rfl');have rb:=B4 ((u9 ns (40+(i:Int))).fdiv 17) (show(0:Int)<n by rfl');have ha:(((u9 ns (40+(i:Int))).fdiv 3).fmod n).toNat<n:=()
  have hb:(((u9 ns (40+(i:Int))).fdiv 17).fmod n).toNat<n:=()
  refine⟨by show(ce _ _).length=_;rw[wn];exact h1,λr hr=>?_,?_⟩
  .obtain⟨q,hq,rfl⟩:=wj.mp hr;exact⟨by rw[z2t];exact(h2 q hq).1,z5s _ (h2 q hq).1 ha hb (h2 q hq).2⟩
  .obtain⟨φ',ψ',h4⟩:=z2u (u9 ns (40+(i:Int))) (λr hr=>(h2 r hr).1) ha hb;exact⟨_,_,h3.trans h4⟩
theorem Qr(B:Nat):∀i,i<=5->jp B i<=243*B:=by
 intro i hi;have:i=0\/i=1\/i=2\/i=3\/i=4\/i=5:=()
 rcases this with rfl|rfl|rfl|rfl|rfl|rfl<;>simp only[jp]<;>rfl'
theorem z2v{n m:Nat}{X:aA}(hn:n<=m)(wX:∀r∈X,r.length=n):Iso n X m (AD n m X) id (λy k=>if k<n then y k else 0):=by
 refine z28 hn (λv hv k hk=>?_) ?_
 .obtain⟨r,hr,rfl⟩:=wj.mp hv;exact u7 (by rw[wX r hr];exact hk)
 .unfold AD;show ce gZ _=ce gZ X++_;rw[vn,wM,wM];congr 1
  .refine vI λr hr=>funext λk=>?_;show at0 (r++l9 (m-n)) k=at0 r k;rw[X7 (wX r hr)];split
   .rfl
   .rw[F3,u7 (by rw[wX r hr];rfl')]
  .refine vI λj hj=>funext λk=>?_;show at0 (k8 m (n+j)) k=_;have:=wJ.mp hj;rw[v7];by_cases c:k=n+j
   .rw[ak c,ak ⟨c,()⟩]
   .rw[ao c];split
    .rename_i h;exact aM h.1 c
    .rfl
structure Other(n:Nat)(X:aA)(n2:Nat)(Y:aA)(b:Bool):Prop where
 n1:1<=n2
 n6:n2<=6
 wY:∀r∈Y,r.length=n2
 lY:Y.length<=5
 bY:∀r∈Y,Lt (2^13) r
 sm:Sm n2 Y
 iso:b=af->∃φ ψ,Iso n X n2 Y φ ψ
theorem z0I(ns:aH){s t:Nat}{Z:aA}(D:Dt)(wy:Int)(f:Bool)(s1:1<=s)(s6:s<=6)(wZ:∀r∈Z,r.length=s)(lZ:Z.length<=5)(bZ:∀r∈Z,Lt 31 r)(t5:t<=5)(t0:1<=t):
  ∃c,gk (Tg.one 5) (sSet [] 3 (i0 af K6 (b7 (fN 3) (b7 (fN 4) (b7 (i0 af o0 (b7 (fN 0) (b7 (fOp o6 (fC (.int 40)) (fN 5)) fNil))) fNil))))) (L9 0 t) [.sh ab (.scr ns),.sh ab D,.sh af (.int wy),.sh f (LL Z),.sh af (.int s),.no]=aa (.nx [.sh ab (.scr ns),.sh ab D,.sh af (.int wy),.sh af (LL (Bd ns s Z t)),.sh af (.int s),c]):=by
 obtain⟨c,q⟩:=FZ (g:=Tg.one 5) (F:=sSet [] 3 (i0 af K6 (b7 (fN 3) (b7 (fN 4) (b7 (i0 af o0 (b7 (fN 0) (b7 (fOp o6 (fC (.int 40)) (fN 5)) fNil))) fNil))))) (R:=λi(c:Cell)=>[.sh ab (.scr ns),.sh ab D,.sh af (.int wy),.sh (if i=0 then f else af) (LL (Bd ns s Z i)),.sh af (.int s),c]) t .no (λi c hi=>⟨.sh ab (.int i),by
  obtain⟨h1,h2,_⟩:=Hu ns (B:=30) s1 wZ bZ i;have p3:=Qr 30 i ();have pw:(7291:Nat)<2^900:=wG (by decide:7291<2^13) (wq (by decide) (by decide));have tk:TurnOk (Bd ns s Z i) s (u9 ns (40+(i:Int))):=⟨s1,s6,λr hr=>(h2 r hr).1,(),λr hr x hx=>by
   have:=Au (h2 r hr).2 x hx;rfl'⟩
  have tv:=Mc tk;have cv:=C3 ns (40+(i:Int)) ();have es:Bd ns s Z (i+1)=(Bd ns s Z i).map (Q8 (((u9 ns (40+(i:Int))).fdiv 3).fmod s).toNat (((u9 ns (40+(i:Int))).fdiv 17).fmod s).toNat (u9 ns (40+(i:Int)))):=rfl;rw[<-es]at tv;generalize Bd ns s Z (i+1)=V at *;generalize Bd ns s Z i=U at *;have sn:∀(f:Fl)(d:Dt),(nrm f d).2=d:=λ_ _=>rfl;have nV:∀f,nrm f (LL V)=(f,LL V):=λ_=>rfl;generalize LL V=VV at *;generalize LL U=UU at *;simp[fQ,sn,tv,cv,nV]⟩)
 refine⟨c,?_⟩;simp only[ao (show ¬t=0 by rfl'),if_true]at q;exact q
theorem z0J(ns:aH){n s t:Nat}{X Z:aA}(s1:1<=s)(s6:s<=6)(wZ:∀r∈Z,r.length=s)(lZ:Z.length<=5)(bZ:∀r∈Z,Lt 31 r)(hs:s<=5\/(Z.length<=3/\∀r∈Z,Lt 5 r))(t5:t<=5)(iso:∃φ ψ,Iso n X s Z φ ψ):Other n X s (Bd ns s Z t) af:=by
 have p13:(2:Nat)^13=8192:=by decide
 obtain⟨h1,h2,φ',ψ',h3⟩:=Hu ns (B:=30) s1 wZ bZ t;obtain⟨φ,ψ,I⟩:=iso;have p3:=Qr 30 t t5;have b13:∀r∈Bd ns s Z t,Lt (2^13) r:=λr hr=>(h2 r hr).2.mono ();refine⟨s1,s6,λr hr=>(h2 r hr).1,(),b13,?_,λ_=>⟨_,_,I.trans h3⟩⟩;rcases hs with h|⟨h,hb⟩
 .exact .inl ⟨h,b13⟩
 .obtain⟨g1,g2,_⟩:=Hu ns (B:=4) s1 wZ hb t;have p4:=Qr 4 t t5;exact .inr ⟨(),λr hr=>(g2 r hr).2.mono ()⟩
theorem z0K{n m:Nat}{X:aA}(hn:n<=m)(wX:∀r∈X,r.length=n)(bX:∀r∈X,Lt 31 r):∀r∈AD n m X,r.length=m/\Lt 31 r:=λr hr=>by
 rcases ww.mp hr with h|h
 .obtain⟨q,hq,rfl⟩:=wj.mp h;refine⟨by rw[wF,wX q hq,C4];rfl',λk=>?_⟩;rw[X7 (wX q hq)];split
  .exact bX q hq k
  .rw[F3];decide
 .obtain⟨j,hj,rfl⟩:=wj.mp h;refine⟨E1 _ _,λk=>?_⟩;rw[v7];split<;>decide
theorem Si{np n:Nat}{F:FS}{ds:fK}{f:Fl}{d:Dt}(hl:ds.length=np)(h:F (rho0 n ds)=aa (.rt f d)):fQ np n ab F ds=aa d:=by
 unfold fQ;rw[ak hl,h];rfl
theorem UC(ns:aH){n m:Nat}{X Y:aA}(d:Drw n m X Y):∃(n2:Nat)(Y2:aA)(b:Bool),IV [.scr ns,.tup [.int n,LL X,.int m,LL Y]]=aa (.tup [.int n2,LL Y2,.bl b])/\Other n X n2 Y2 b:=by
 have c5:=C3 ns 5 (by decide);have c6:=C3 ns 6 (by decide);have c7:=C3 ns 7 (by decide);have r5:=B4 (u9 ns 5) (show(0:Int)<3 by decide);have r6:=B4 (u9 ns 6) (show(0:Int)<4 by decide);have r7:=B4 (u9 ns 7) (show(0:Int)<2 by decide);have mo:∀(c:Int)(k:Nat),X3 c ((k+1:Nat):Int)=af:=λc k=>by unfold X3;exact aL ()
 have mo2:=λc=>mo c 1;have mo3:=λc=>mo c 2;have mo4:=λc=>mo c 3;simp only[Nat.reduceAdd,w1l]at mo2 mo3 mo4;have n1:=d.n1;have p13:(2:Nat)^13=8192:=by decide
 have a0:∀k:Int,gJ [Dt.int n,LL X,.int m,LL Y] k=gJ [Dt.int n,LL X,.int m,LL Y] k:=λ_=>rfl;have t3:gJ [Dt.int n,LL X,.int m,LL Y] 3=aa (LL Y):=rfl;by_cases w0:(u9 ns 5).fmod 3=0
 .refine⟨m,Y,ab,?_,d.m1,by have:=d.m3;rfl',d.wY,by have:=d.lY;rfl',λr hr=>(d.bY r hr).mono (),.inl ⟨by have:=d.m3;rfl',λr hr=>(d.bY r hr).mono ()⟩,λh=>by cases h⟩;have q:∃fl,Z7 [.sh ab (.scr ns),.sh ab (.tup [.int n,LL X,.int m,LL Y]),.no,.no,.no,.no]=aa (.rt fl (.tup [.int m,LL Y,.bl ab])):=by
   unfold Z7;refine⟨.sh,?_⟩;refine run (by simp[fQ,c5,mo3,w0];rfl) ?_;have nV:∀f,nrm f (LL Y)=(f,LL Y):=λ_=>rfl;have t2:gJ [Dt.int n,LL X,.int m,LL Y] 2=aa (.int m):=rfl;have fY:(LL Y).flat=ab:=kq _;generalize LL Y=YY at *;generalize LL X=XX at *;simp[fQ,v6,t3,t2,nV,fY];rfl
  obtain⟨fl,q⟩:=q;exact Si rfl q
 .have w0':¬(u9 ns 5).fmod 3=(0:Int):=w0;generalize hw:(u9 ns 5).fmod 3=wy at *;obtain⟨t,ht⟩:=vF (show 0<=2+(u9 ns 6).fmod 4 by rfl');have t5:t<=5:=()
  have t1:1<=t:=()
  have t0:gJ [Dt.int n,LL X,.int m,LL Y] 0=aa (.int n):=rfl;have t1':gJ [Dt.int n,LL X,.int m,LL Y] 1=aa (LL X):=rfl;have sn:∀(f:Fl)(d:Dt),(nrm f d).2=d:=λ_ _=>rfl;have rest:∀(s:Nat)(f:Bool)(Z:aA),1<=s->s<=6->(∀r∈Z,r.length=s)->Z.length<=5->(∀r∈Z,Lt 31 r)->(s<=5\/(Z.length<=3/\∀r∈Z,Lt 5 r))->(∃φ ψ,Iso n X s Z φ ψ)->∃(n2:Nat)(Y2:aA)(b:Bool)(fl:Fl),(sSeq (sFor [] (j9 (fOp o6 (fC (.int 2)) (fOp F8 (i0 af o0 (b7 (fN 0) (b7 (fC (.int 6)) fNil))) (fC (.int 4))))) (Tg.one 5)
     (sSet [] 3 (i0 af K6 (b7 (fN 3) (b7 (fN 4) (b7 (i0 af o0 (b7 (fN 0) (b7 (fOp o6 (fC (.int 40)) (fN 5)) fNil))) fNil))))))
     (sRet (fTup (b7 (fN 4) (b7 (fN 3) (b7 (fC (.bl af)) fNil)))))) [.sh ab (.scr ns),.sh ab (.tup [.int n,LL X,.int m,LL Y]),.sh af (.int wy),.sh f (LL Z),.sh af (.int s),.no]=aa (.rt fl (.tup [.int n2,LL Y2,.bl b]))/\Other n X n2 Y2 b:=by
   intro s f Z s1 s6 wZ lZ bZ hs iso;obtain⟨c,lp⟩:=z0I ns (.tup [.int n,LL X,.int m,LL Y]) wy f s1 s6 wZ lZ bZ t5 t1;have of:=z0J ns s1 s6 wZ lZ bZ hs t5 iso;generalize Bd ns s Z t=V at *;refine⟨s,V,af,.fr,?_,of⟩;refine run (ρ':=[.sh ab (.scr ns),.sh ab (.tup [.int n,LL X,.int m,LL Y]),.sh af (.int wy),.sh af (LL V),.sh af (.int s),c]) (by
     generalize Dt.tup [.int n,LL X,.int m,LL Y]=DD at *;generalize LL Z=ZZ at *;simp[fQ,c6,mo4,ht,iN t (),lp]) ?_
   have nV:∀f,nrm f (LL V)=(f,LL V):=λ_=>rfl;generalize Dt.tup [.int n,LL X,.int m,LL Y]=DD at *;have fV:(LL V).flat=ab:=kq _;generalize LL V=VV at *;simp[fQ,nV,fV]
  have key:∃(n2:Nat)(Y2:aA)(b:Bool)(fl:Fl),Z7 [.sh ab (.scr ns),.sh ab (.tup [.int n,LL X,.int m,LL Y]),.no,.no,.no,.no]=aa (.rt fl (.tup [.int n2,LL Y2,.bl b]))/\Other n X n2 Y2 b:=by
   unfold Z7;by_cases h2:wy=2/\n<4
   .obtain⟨h2,h4⟩:=h2;have n3:n<=3:=()
    obtain⟨s,hs⟩:=vF (show 0<=(n:Int)+1+(u9 ns 7).fmod 2 by rfl');have s5:s<=5:=()
    have ns':n<=s:=()
    have wo:=Me n s X ns' () (by have:=d.lX;rfl') d.wX;have orr:=z0K ns' d.wX d.bX;have ol:(AD n s X).length<=5:=by unfold AD;simp;have:=d.lX;rfl'
    obtain⟨n2,Y2,b,fl,e,o⟩:=rest s af (AD n s X) () () (λr hr=>(orr r hr).1) ol (λr hr=>(orr r hr).2) (.inl s5) ⟨_,_,z2v ns' d.wX⟩;refine⟨n2,Y2,b,fl,?_,o⟩;have nX:∀f,nrm f (LL X)=(f,LL X):=λ_=>rfl;have fX:(LL X).flat=ab:=kq _;have nO:∀f,nrm f (LL (AD n s X))=(f,LL (AD n s X)):=λ_=>rfl;refine run (by simp[fQ,c5,mo3,hw];rfl) ?_;refine run (by simp[fQ,v6,w0];rfl) ?_;refine run (ρ':=[.sh ab (.scr ns),.sh ab (.tup [.int n,LL X,.int m,LL Y]),.sh af (.int wy),.sh ab (LL X),.no,.no]) (by
     clear e wo;generalize LL Y=YY at *;generalize LL X=XX at *;simp[fQ,t1',nX,fX];rfl) ?_
    refine run (by simp[fQ,t0];rfl) ?_;refine run (ρ':=[.sh ab (.scr ns),.sh ab (.tup [.int n,LL X,.int m,LL Y]),.sh af (.int wy),.sh af (LL (AD n s X)),.sh af (.int s),.no]) (by
     clear e;generalize LL (AD n s X)=ON at *;generalize LL Y=YY at *;generalize LL X=XX at *;simp[fQ,v6,h2,show(n:Int)<4 by rfl',c7,mo2,hs,t0,wo,sn,nX,nO]) ?_
    exact e
   .obtain⟨n2,Y2,b,fl,e,o⟩:=rest n ab X n1 (by rcases d.n3 with h|h<;>rfl') d.wX (by have:=d.lX;rfl') d.bX (by
     rcases d.n3 with h|h
     .exact .inl ()
     .exact .inr ⟨d.lX,h.2⟩) ⟨_,_,RS n X⟩
    refine⟨n2,Y2,b,fl,?_,o⟩;have nX:∀f,nrm f (LL X)=(f,LL X):=λ_=>rfl;have fX:(LL X).flat=ab:=kq _;refine run (by simp[fQ,c5,mo3,hw];rfl) ?_;refine run (by simp[fQ,v6,w0];rfl) ?_;refine run (ρ':=[.sh ab (.scr ns),.sh ab (.tup [.int n,LL X,.int m,LL Y]),.sh af (.int wy),.sh ab (LL X),.no,.no]) (by
     clear e;generalize LL Y=YY at *;generalize LL X=XX at *;simp[fQ,t1',nX,fX];rfl) ?_
    refine run (by simp[fQ,t0];rfl) ?_;refine run (ρ':=[.sh ab (.scr ns),.sh ab (.tup [.int n,LL X,.int m,LL Y]),.sh af (.int wy),.sh ab (LL X),.sh af (.int n),.no]) (by
     clear e;by_cases z:wy=2
     .have:¬(n:Int)<4:=λq=>h2 ⟨z,()⟩;simp[fQ,v6,z,this]
     .simp[fQ,v6,z]) ?_
    exact e
  obtain⟨n2,Y2,b,fl,e,o⟩:=key;exact⟨n2,Y2,b,Si rfl e,o⟩
theorem Drw.hall{n m:Nat}{X Y:aA}(d:Drw n m X Y):Hall n X:=⟨d.n1,by rcases d.n3 with h|h<;>rfl',by have:=d.lX;rfl',d.wX,λr hr x hx=>uF (Au (d.bX r hr) x hx) (by decide)⟩
theorem Other.hall{n n2:Nat}{X Y:aA}{b:Bool}(o:Other n X n2 Y b):Hall n2 Y:=⟨o.n1,o.n6,by have:=o.lY;rfl',o.wY,λr hr x hx=>uF (Au (o.bY r hr) x hx) (by decide)⟩
theorem Drw.sm{n m:Nat}{X Y:aA}(d:Drw n m X Y):Sm n X:=by
 have p13:(2:Nat)^13=8192:=by decide
 rcases d.n3 with h|h
 .exact .inl ⟨(),λr hr=>(d.bX r hr).mono ()⟩
 .exact .inr ⟨d.lX,λr hr=>(d.bX r hr).mono ()⟩
theorem Qs{n:Nat}{bills:aA}{one other:aH}(H:Hall n bills)(l1:one.length=n)(l2:other.length=n)(s1:Lt (2^7999) one)(s2:Lt (2^7999) other)(p:Bool)(hp:p=af↔Lat.Span (fP bills) (λk=>at0 other k-at0 one k)):M5 [k6 n bills,LL bills,L one,L other]=aa (.bl p):=by
 obtain⟨S,hs,_⟩:=H.hs;obtain⟨a,b⟩:=z5r hs l1 l2 s1 s2;cases p with
 |true=>exact a (hp.mp rfl)
 |false=>exact b λq=>by cases hp.mpr q
theorem sY{n2 n:Nat}{tb:aA}{x:aH}(hr:∀r∈tb,r.length=n2)(lt:∀r∈tb,Lt (2^6603) r)(lx:x.length=n)(lb:tb.length=n)(n6:n<=6)(n26:n2<=6)(bx:∀c∈x,c.natAbs<2^10):T4 [.int n2,LL tb,L x]=aa (L (gB n2 tb x))/\Lt (2^7999) (gB n2 tb x):=by
 refine⟨LS n2 tb x () () hr () (λr h c hc y hy=>K4 (bx c hc) (Au (lt r h) y hy) (by decide)),λk=>?_⟩;rw[Ar hr];have m:=Ks (R:=tb) (cs:=x) (N:=6) lt bx () k;have h1:(2:Nat)^(6603+10+3)=2^(6603+10)*8:=vB 2 (6603+10) 3;have h2:(2:Nat)^(6603+10+3)<=2^7999:=wq (by decide) (by decide);have h3:=wK (6603+10);rfl'
theorem lV(P:Prop):∃p:Bool,p=af↔P:=by
 by_cases h:P
 .exact⟨af,by simp[h]⟩
 .exact⟨ab,by simp[h]⟩
theorem z0L{n n2:Nat}{X Y tb:aA}{one other:aH}(t:TabOk n n2 X Y tb)(l1:one.length=n)(l2:other.length=n):Lat.Span (fP X) (λk=>at0 other k-at0 one k)↔Lat.Span (fP Y) (λk=>at0 (gB n2 tb other) k-at0 (gB n2 tb one) k):=by
 have k:=t.kept (gq other one) (by rw[BH ()];exact l2);have e1:(λk=>at0 (gq other one) k)=λk=>at0 other k-at0 one k:=funext λk=>W4 () k;rw[e1]at k;rw[k];have e2:∀k,St.mix tb (gq other one) k=at0 (gB n2 tb other) k-at0 (gB n2 tb one) k:=λk=>by
  rw[Ar t.rows,Ar t.rows,V4 _ _ k (by rw[BH (),t.len];rfl'),V4 _ _ k (by rw[t.len];rfl'),V4 _ _ k (by rw[t.len];rfl'),<-Bp];exact n8 λi _=>by rw[W4 (),w0H]
 exact⟨λh=>Lat.Span.congr e2 h,λh=>Lat.Span.congr (λk=>(e2 k).symm) h⟩
theorem Ku(ns:aH)(a:Int)(k:Nat):∀c∈A8 ns a k 0,c.natAbs<5:=λc hc=>Au (pK ns a k) c hc
theorem z0M(ns:aH){n m n2:Nat}{X Y0 Y tb:aA}{b:Bool}(d:Drw n m X Y0)(o:Other n X n2 Y b)(t:TabOk n n2 X Y tb):LI [.scr ns,.tup [.int n,LL X,.int m,LL Y0],k6 n X,k6 n2 Y,LL Y,LL tb]=aa (.bl af):=by
 have H1:=d.hall;have H2:=o.hall;have n6:=H1.n6;have c7:=C3 ns 7 (by decide);have mo2:∀c:Int,X3 c 2=af:=λc=>U2 (by decide);have rb:=Hi ns 46 n 0 (by decide) () (by decide) (by decide);have rh:=Hi ns 52 n 0 (by decide) () (by decide) (by decide);have ru:=Hi ns 52 X.length 0 (by decide) (by have:=d.lX;rfl') (by decide) (by decide);have lb:(A8 ns 46 n 0).length=n:=Y8 _ _ _ _;have lh:(A8 ns 52 n 0).length=n:=Y8 _ _ _ _;have lu:(A8 ns 52 X.length 0).length=X.length:=Y8 _ _ _ _;have p10:(2:Nat)^10=1024:=by decide
 have p79:(1024:Nat)<=2^7999:=by rw[<-p10];exact wq (by decide) (by decide)
 have sm:T4 [.int n,LL X,L (A8 ns 52 X.length 0)]=aa (L (gB n X (A8 ns 52 X.length 0))):=LS n X _ () (by have:=d.lX;rfl') d.wX (by rw[lu]) (λr h c hc y hy=>K4 (p:=3) (q:=5) (uF (Ku ns 52 X.length c hc) (by decide)) (wG (Au (d.bX r h) y hy) (by decide)) (by decide));have lm:(gB n X (A8 ns 52 X.length 0)).length=n:=BJ d.wX;have bm:∀k,(at0 (gB n X (A8 ns 52 X.length 0)) k).natAbs<=3*2^(5+3):=λk=>by
   rw[Ar d.wX];exact Ks (e:=5) (w:=3) (λr hr=>(d.bX r hr).mono (by decide)) (λc hc=>uF (Ku ns 52 X.length c hc) (by decide)) d.lX k
 have t1:gJ [Dt.int n,LL X,.int m,LL Y0] 1=aa (LL X):=rfl;have sn:∀(f:Fl)(d:Dt),(nrm f d).2=d:=λ_ _=>rfl;have a3:∀f,opAt (f,k6 n2 Y) (.nw,.int 0)=aa (.nw,.int n2):=λf=>rfl;have fin:∀(be:aH),be.length=n->(∀c∈be,c.natAbs<2^10)->∀(f8:Bool)(c0 c6 c9 c10:Cell),(sSeq (sSet [] 11 (i0 af M5 (b7 (fN 2) (b7 (fAt (fN 1) (fC (.int 1))) (b7 (fN 7) (b7 (fN 8) fNil))))))
    (sSeq (sSet [] 12 (i0 af T4 (b7 (fAt (fN 3) (fC (.int 0))) (b7 (fN 5) (b7 (fN 7) fNil)))))
    (sSeq (sSet [] 13 (i0 af M5 (b7 (fN 3) (b7 (fN 4) (b7 (fN 12) (b7 (i0 af T4 (b7 (fAt (fN 3) (fC (.int 0))) (b7 (fN 5) (b7 (fN 8) fNil)))) fNil))))))
    (sRet (vAnd (fOp Du (fN 11) (fC .non)) (fOp opEq (fN 11) (fN 13))))))) [c0,.sh ab (.tup [.int n,LL X,.int m,LL Y0]),.sh ab (k6 n X),.sh ab (k6 n2 Y),.sh ab (LL Y),.sh ab (LL tb),c6,.sh af (L (A8 ns 46 n 0)),.sh f8 (L be),c9,c10,.no,.no,.no]=aa (.rt .nw (.bl af)):=by
   intro be lbe bbe f8 c0 c6 c9 c10;have bb:∀c∈A8 ns 46 n 0,c.natAbs<2^10:=λc hc=>uF (Ku ns 46 n c hc) (by decide);obtain⟨q1,g1⟩:=sY t.rows t.lt lb t.len n6 H2.n6 bb;obtain⟨q2,g2⟩:=sY t.rows t.lt lbe t.len n6 H2.n6 bbe;obtain⟨p,hp⟩:∃p:Bool,p=af↔Lat.Span (fP X) (λk=>at0 be k-at0 (A8 ns 46 n 0) k):=lV _;have w1:=Qs H1 lb lbe (BL (wK _) λc hc=>wG (bb c hc) ()) (BL (wK _) λc hc=>wG (bbe c hc) ()) p hp;have w2:=Qs H2 (BJ t.rows) (BJ t.rows) g1 g2 p (hp.trans (z0L t lb lbe));have nb:Du (.bl p) .non=aa (.nw,.bl af):=rfl;have oe:opEq (.bl p) (.bl p)=aa (.nw,.bl af):=by cases p<;>rfl
   generalize A8 ns 46 n 0=ba at *;generalize gB n2 tb ba=v1 at *;generalize gB n2 tb be=v2 at *;generalize LL X=XX at *;generalize LL Y=YZ at *;generalize LL Y0=YY at *;generalize LL tb=TT at *;generalize k6 n X=A1 at *;refine run (by simp[fQ,t1,sn,w1];rfl) ?_;refine run (by simp[fQ,a3,q1,sn];rfl) ?_;refine run (by simp[fQ,a3,q2,w2,sn];rfl) ?_;simp[fQ,nb,oe]
 refine I0 (f:=.nw) rfl ?_ rfl;unfold LH;have t0:gJ [Dt.int n,LL X,.int m,LL Y0] 0=aa (.int n):=rfl;have ln:bLen [LL X]=aa (.nw,.int X.length):=by
   have:bLen [LL X]=aa (.nw,.int ((X.map L).length:Int)):=rfl;rw[this,wn]
 have nX:∀f,nrm f (LL X)=(f,LL X):=λ_=>rfl;have cp:∀c0 c1 c2 c3 c4 c5 c8 c9 c11 c12 c13:Cell,j8 1 [7,10] (j9 (fN 6)) (Tg.one 0) fYes (fOp o6 (fAt (fN 1) (fN 0)) (fAt (fN 2) (fN 0))) [c0,c1,c2,c3,c4,c5,.sh af (.int n),.sh af (L (A8 ns 46 n 0)),c8,c9,.sh af (L (gB n X (A8 ns 52 X.length 0))),c11,c12,c13]=aa (.nw,L ((ah n).map λk=>at0 (A8 ns 46 n 0) k+at0 (gB n X (A8 ns 52 X.length 0)) k)):=λ_ _ _ _ _ _ _ _ _ _ _=>by
   rw[k7 (e:=λ(k:Nat)=>.int (0+(k:Int))) (h:=λk=>.int (at0 (A8 ns 46 n 0) k+at0 (gB n X (A8 ns 52 X.length 0)) k)) (xs:=ah n) (by simp[fQ,iN n (),o9]) (λj hj=>by
    have hj:=wJ.mp hj;have a1:=Ed (r:=A8 ns 46 n 0) (k:=j) ();have a2:=Ed (r:=gB n X (A8 ns 52 X.length 0)) (k:=j) ();simp[fQ,a1,a2])]
   unfold L;rw[wM];rfl
 have bc:∀c∈(ah n).map λk=>at0 (A8 ns 46 n 0) k+at0 (gB n X (A8 ns 52 X.length 0)) k,c.natAbs<2^10:=λc hc=>by
   obtain⟨k,_,rfl⟩:=wj.mp hc;have h1:=pK ns 46 n k;have h2:=bm k;rfl'
 have lc:((ah n).map λk=>at0 (A8 ns 46 n 0) k+at0 (gB n X (A8 ns 52 X.length 0)) k).length=n:=by simp
 have b2:∀c∈A8 ns 52 n 0,c.natAbs<2^10:=λc hc=>uF (Ku ns 52 n c hc) (by decide);have i1:∀(F G:FS)(ρ:List Cell),(n4 (fOp opEq (fOp F8 (i0 af o0 (b7 (fN 0) (b7 (fC (.int 7)) fNil))) (fC (.int 2))) (fC (.int 1)))) ρ=aa af->sIf (n4 (fOp opEq (fOp F8 (i0 af o0 (b7 (fN 0) (b7 (fC (.int 7)) fNil))) (fC (.int 2))) (fC (.int 1)))) F G ρ=F ρ:=λF G ρ h=>by unfold sIf;rw[h];rfl
 have f1:=fin _ lc bc;have f2:=fin _ lh b2;clear fin;generalize (ah n).map (λk=>at0 (A8 ns 46 n 0) k+at0 (gB n X (A8 ns 52 X.length 0)) k)=be at *;generalize LL X=XX at *;generalize LL Y=YZ at *;generalize LL Y0=YY at *;generalize LL tb=TT at *;generalize k6 n X=A1 at *;generalize k6 n2 Y=A2 at *;refine run (by simp[fQ,t0];rfl) ?_;refine run (by simp[fQ,rb];rfl) ?_;refine run (by simp[fQ,rh];rfl) ?_;by_cases h7:(u9 ns 7).fmod 2=1
 .refine run ?_ (f1 af (.sh ab (.scr ns)) (.sh af (.int n)) (.sh af (L (A8 ns 52 X.length 0))) (.sh af (L (gB n X (A8 ns 52 X.length 0)))));show(sIf _ _ _) _=_;rw[i1 _ _ _ (by simp[fQ,c7,mo2,h7,v6])];refine run (by simp[fQ,t1,nX,ln,ru];rfl) ?_;refine run (by simp[fQ,t1,nX,sm];rfl) ?_;simp[fQ,cp]
 .refine run ?_ (f2 af (.sh ab (.scr ns)) (.sh af (.int n)) .no .no);simp[fQ,c7,mo2,h7,v6]
theorem Ef(R:aA):AC [LL R]=aa (LL R):=by
 have key:j8 1 [] (iSeq (fN 0)) (Tg.one 0) fYes (fBlt bLst (b7 (fN 0) fNil)) [.sh ab (LL R)]=aa (.nw,LL R):=by
  rw[k7 (e:=L) (h:=L) (xs:=R) (by simp[fQ,LL]) (λr hr=>by
   have nl:bLst [L r]=aa (.nw,L r):=by
    have:bLst [L r]=aa (gM (r.map Dt.int)):=rfl;rw[this,Q1]
   simp[fQ,nl])]
 refine I0 (f:=.nw) rfl ?_ rfl;unfold Gm sRet;show(j8 1 [] (iSeq (fN 0)) (Tg.one 0) fYes (fBlt bLst (b7 (fN 0) fNil)) [.sh ab (LL R)]).map _=_;rw[key];rfl
abbrev scB:FS:=(sIf (n4 (fOp opGe (fBlt bAbs (b7 (fN 4) fNil)) (fOp Jw (fC (.int 10)) (fC (.int 30))))) (sRet (fC (.bl af))) w8)
theorem Sj(d0 d1 d2:Dt)(r:aH)(c:Cell):((∃x∈r,10^30<=x.natAbs)->gk (Tg.one 4) scB (r.map Dt.int) [.sh ab d0,.sh ab d1,.sh ab d2,.sh ab (L r),c,.no,.no,.no,.no]=aa (.rt .nw (.bl af)))/\((∀x∈r,¬10^30<=x.natAbs)->∃c',gk (Tg.one 4) scB (r.map Dt.int) [.sh ab d0,.sh ab d1,.sh ab d2,.sh ab (L r),c,.no,.no,.no,.no]=aa (.nx [.sh ab d0,.sh ab d1,.sh ab d2,.sh ab (L r),c',.no,.no,.no,.no])):=by
 have p30:GL 10 30=af:=by unfold GL;decide
 have ba:∀x:Int,bAbs [.int x]=aa (.nw,.int x.natAbs):=λx=>by
  show aa (Fl.nw,Dt.int (if x<0 then -x else x))=_;have:(if x<0 then -x else x)=(x.natAbs:Int):=by split<;>rfl'
  rw[this]
 exact EI (g:=Tg.one 4) (F:=scB) Dt.int (λx=>10^30<=x.natAbs) (λ(c:Cell)=>[.sh ab d0,.sh ab d1,.sh ab d2,.sh ab (L r),c,.no,.no,.no,.no]) .nw (.bl af) r c
  (fun x _ j hb=>by
   have:((1000000000000000000000000000000:Int)<=(x.natAbs:Int)):=()
   simp[fQ,ba,p30,this])
  (fun x _ j hb=>⟨.sh false (.int x),by
   have:¬((1000000000000000000000000000000:Int)<=(x.natAbs:Int)):=()
   simp[fQ,ba,p30,this]⟩)
theorem Sk(d0 d1:Dt)(tb:aA):((∃r∈tb,∃x∈r,10^30<=x.natAbs)->gk (Tg.one 3) (sFor [] (iSeq (fN 3)) (Tg.one 4) scB) (tb.map L) [.sh ab d0,.sh ab d1,.sh ab (LL tb),.no,.no,.no,.no,.no,.no]=aa (.rt .nw (.bl af)))/\((∀r∈tb,¬∃x∈r,10^30<=x.natAbs)->∃c:Cell×Cell,gk (Tg.one 3) (sFor [] (iSeq (fN 3)) (Tg.one 4) scB) (tb.map L) [.sh ab d0,.sh ab d1,.sh ab (LL tb),.no,.no,.no,.no,.no,.no]=aa (.nx [.sh ab d0,.sh ab d1,.sh ab (LL tb),c.1,c.2,.no,.no,.no,.no])):=by
 exact EI (g:=Tg.one 3) (F:=(sFor [] (iSeq (fN 3)) (Tg.one 4) scB)) L (λr=>∃x∈r,10^30<=x.natAbs) (λ(c:Cell×Cell)=>[.sh ab d0,.sh ab d1,.sh ab (LL tb),c.1,c.2,.no,.no,.no,.no]) .nw (.bl af) tb (.no,.no)
  (fun r _ j hb=>by
   have q:=(Sj d0 d1 (LL tb) r j.2).1 hb;generalize LL tb=TT at *;simp[fQ,q])
  (fun r _ j hb=>by
   obtain⟨c',q⟩:=(Sj d0 d1 (LL tb) r j.2).2 (λx hx h=>hb ⟨x,hx,h⟩);refine⟨(.sh ab (L r),c'),?_⟩;generalize LL tb=TT at *;simp[fQ,q])
theorem IA:∀(R:aA)(cs:aH),Lat.Span (fP R) (St.mix R cs)
 |[],_=>λ_=>rfl
 |_::_,[]=>Lat.Span.zero
 |r::R,c::cs=>⟨c,Lat.Span.congr (λk=>by show St.mix R cs k=c*at0 r k+St.mix R cs k-c*at0 r k;rfl') (IA R cs)⟩
theorem Sl(A B:aA):fP (A++B)=fP A++fP B:=vn
theorem z2x{n n2:Nat}{X Y tb:aA}(t:TabOk n n2 X Y tb)(y:Lat.Vec)(sy:St.Supp n2 y):Lat.Span (fP (Y++tb)) y:=by
 obtain⟨x,lx,sp⟩:=t.onto y sy;have h1:Lat.Span (fP (Y++tb)) (λk=>St.mix tb x k-y k):=Lat.Span.trans (λr hr=>Lat.Span.mem (by rw[Sl];exact ul _ hr)) sp;have h2:Lat.Span (fP (Y++tb)) (St.mix tb x):=Lat.Span.trans (λr hr=>Lat.Span.mem (by rw[Sl];exact wP _ hr)) (IA tb x);exact Lat.Span.congr (λk=>()) (h2.sub h1)
theorem Qt{n n2:Nat}{X Y tb:List (List Int)}{b:Bool}(o:Other n X n2 Y b)(t:TabOk n n2 X Y tb)(n6:n≤6):DY [.int n2,LL Y,LL tb]=some (.bl true):=by
  have H2:=o.hall;have n26:=o.n6;have sn:∀(f:Fl)(d:Dt),(nrm f d).2=d:=λ_ _=>rfl;have sqT:seqD (LL tb)=aa (tb.map L):=rfl;have nT:∀f,nrm f (LL tb)=(f,LL tb):=λ_=>rfl;refine I0 (f:=.nw) rfl ?_ rfl;unfold DX;by_cases h:∃r∈tb,∃x∈r,10^30<=x.natAbs
  .have q:=(Sk (.int n2) (LL Y) tb).1 h;show(sSeq _ _) _=_;unfold sSeq;have e:sFor [] (iSeq (fN 2)) (Tg.one 3) (sFor [] (iSeq (fN 3)) (Tg.one 4) scB) [.sh ab (.int n2),.sh ab (LL Y),.sh ab (LL tb),.no,.no,.no,.no,.no,.no]=aa (.rt .nw (.bl af)):=by
     generalize LL tb=TT at *;generalize LL Y=YY at *;simp[fQ,sqT,nT,q]
   rw[show(rho0 9 [Dt.int n2,LL Y,LL tb])=[.sh ab (.int n2),.sh ab (LL Y),.sh ab (LL tb),.no,.no,.no,.no,.no,.no]from rfl,e];rfl
  .have hs : ∀ r∈tb,¬∃ x∈r,10 ^ 30≤x.natAbs:=fun r hr q=>h ⟨r,hr,q⟩
   obtain⟨⟨c3,c4⟩,q⟩:=(Sk (.int n2) (LL Y) tb).2 hs;refine run (ρ':=[.sh ab (.int n2),.sh ab (LL Y),.sh ab (LL tb),c3,c4,.no,.no,.no,.no]) (by
     generalize LL tb=TT at *;generalize LL Y=YY at *;simp[fQ,sqT,nT,q]) ?_
   obtain⟨f,ct⟩:=Uw Y tb (by have:=o.lY;have:=t.len;rfl');refine run (ρ':=[.sh ab (.int n2),.sh ab (LL Y),.sh ab (LL tb),c3,c4,.sh f.isFr (LL (Y++tb)),.no,.no,.no]) (by
     have nR:∀g,nrm g (LL (Y++tb))=(g,LL (Y++tb)):=λ_=>rfl;generalize LL (Y++tb)=RR at *;generalize LL tb=TT at *;generalize LL Y=YY at *;simp[fQ,sn,ct,nR]) ?_
   have l8:bLen [LL (Y++tb)]=aa (.nw,.int (Y++tb).length):=by
     have:bLen [LL (Y++tb)]=aa (.nw,.int (((Y++tb).map L).length:Int)):=rfl;rw[this,wn]
   by_cases h8:8<(Y++tb).length
   .have h8':(8:Int)<((Y++tb).length:Int):=()
    generalize f.isFr=f5;generalize (Y++tb).length=N at *;generalize LL (Y++tb)=RR at *;simp[fQ,sn,l8,h8']
   .have h8':¬(8:Int)<((Y++tb).length:Int):=()
    have HA:Hall n2 (Y++tb):=⟨o.n1,o.n6,(),λr hr=>by
      rcases ww.mp hr with q|q
      .exact o.wY r q
      .exact t.rows r q,λr hr x hx=>by
      rcases ww.mp hr with q|q
      .exact H2.small r q x hx
      .refine vg λz=>hs r q ⟨x,hx,()⟩⟩
    have sa:∀y,St.Supp n2 y->Lat.Span (fP (Y++tb)) y:=z2x t;have ho:=Gn n2 (Y++tb) o.n1 o.n6 () HA.wide HA.small;have cp:=Ef (Y++tb);have nR:∀g,nrm g (LL (Y++tb))=(g,LL (Y++tb)):=λ_=>rfl;generalize f.isFr=f5;refine run (ρ':=[.sh ab (.int n2),.sh ab (LL Y),.sh ab (LL tb),c3,c4,.sh f5 (LL (Y++tb)),.no,.no,.no]) (by
      generalize (Y++tb).length=N at *;generalize LL (Y++tb)=RR at *;simp[fQ,sn,l8,h8']) ?_
    refine run (ρ':=[.sh ab (.int n2),.sh ab (LL Y),.sh ab (LL tb),c3,c4,.sh f5 (LL (Y++tb)),.sh af (k6 n2 (Y++tb)),.no,.no]) (by
      have nh:∀g,(nrm g (k6 n2 (Y++tb))).2=k6 n2 (Y++tb):=λ_=>rfl;have nh2:(nrm .nw (k6 n2 (Y++tb))).1.isFr=af:=by rw[y4];rfl
      generalize k6 n2 (Y++tb)=HH at *;generalize LL (Y++tb)=RR at *;simp[fQ,sn,cp,ho]) ?_
    have bi:∀b:Bool,bInt [.bl b]=aa (.nw,.int (if b then 1 else 0)):=λb=>by cases b<;>rfl
    have z0:∀ρ:List Cell,ρ[0]?=aa (.sh ab (.int n2))->j8 1 [] (j9 (fN 0)) (Tg.one 0) fYes (fC (.int 0)) ρ=aa (.nw,L (l9 n2)):=λρ h0=>by
      rw[k7 (e:=λ(j:Nat)=>.int (0+(j:Int))) (h:=λ_=>.int 0) (xs:=ah n2) (by simp[fQ,h0,iN n2 (),o9]) (λj _=>by simp[fQ])];have:(ah n2).map (λ_=>Dt.int 0)=(l9 n2).map Dt.int:=by
        apply vz
        .simp[l9]
        .intro i h1 h2;simp[l9]
      rw[this]
    have lp:∃ c:Cell×Cell,gk (Tg.one 7) (sSeq (sSet [] 8 (j8 1 [7] (j9 (fN 0)) (Tg.one 0) fYes (fBlt bInt (b7 (fOp opEq (fN 0) (fN 1)) fNil))))
        (sIf (n4 (fOp Ld (i0 af M5 (b7 (fN 6) (b7 (fN 5) (b7 (j8 1 [] (j9 (fN 0)) (Tg.one 0) fYes (fC (.int 0))) (b7 (fN 8) fNil))))) (fC (.bl af)))) (sRet (fC (.bl ab))) w8)) (L9 0 n2) [.sh ab (.int n2),.sh ab (LL Y),.sh ab (LL tb),c3,c4,.sh f5 (LL (Y++tb)),.sh af (k6 n2 (Y++tb)),.no,.no]=aa (.nx [.sh ab (.int n2),.sh ab (LL Y),.sh ab (LL tb),c3,c4,.sh f5 (LL (Y++tb)),.sh af (k6 n2 (Y++tb)),c.1,c.2]):=
      FZ (g:=Tg.one 7) (R:=fun _ (c:Cell×Cell)=>[.sh false (.int n2),.sh false (LL Y),.sh false (LL tb),c3,c4,.sh f5 (LL (Y++tb)),.sh true (k6 n2 (Y++tb)),c.1,c.2]) n2 (.no,.no) (fun i c hi=>⟨(.sh false (.int i),.sh true (L (k8 n2 i))),by
        have e1:∀d3 d4 d8:Cell,j8 1 [7] (j9 (fN 0)) (Tg.one 0) fYes (fBlt bInt (b7 (fOp opEq (fN 0) (fN 1)) fNil)) [.sh ab (.int n2),.sh ab (LL Y),.sh ab (LL tb),d3,d4,.sh f5 (LL (Y++tb)),.sh af (k6 n2 (Y++tb)),.sh ab (.int i),d8]=aa (.nw,L (k8 n2 i)):=λd3 d4 d8=>by
          rw[k7 (e:=λ(j:Nat)=>.int (0+(j:Int))) (h:=λ(j:Nat)=>.int (if j=i then 1 else 0)) (xs:=ah n2) (by simp[fQ,iN n2 (),o9]) (λj _=>by
            by_cases z:j=i
            .subst z;simp[fQ,v6,bi]
            .have z':¬(j:Int)=(i:Int):=()
             simp[fQ,v6,bi,z,z'])]
          unfold k8 L;rw[wM];rfl
        have p79:(1:Nat)<2^7999:=w05 (by decide);have sm:=Qs HA (one:=l9 n2) (other:=k8 n2 i) C4 (E1 _ _) (λk=>by rw[F3];exact wK _) (λk=>by
          rw[v7];split
          .exact p79
          .exact wK _) af ⟨λ_=>sa _ (λk hk=>by
           show at0 (k8 n2 i) k-at0 (l9 n2) k=0;rw[F3,u7 (by rw[E1];exact hk)];rfl),λ_=>rfl⟩
        have nb:Ld (.bl af) (.bl af)=aa (.nw,.bl ab):=rfl;generalize L (k8 n2 i)=UU at *;generalize L (l9 n2)=ZZ at *;generalize k6 n2 (Y++tb)=HH at *;generalize LL (Y++tb)=RR at *;simp[fQ,e1,z0,sm,sn,nb]⟩)
    obtain⟨⟨c7,c8⟩,lp⟩:=lp;refine run (ρ':=[.sh ab (.int n2),.sh ab (LL Y),.sh ab (LL tb),c3,c4,.sh f5 (LL (Y++tb)),.sh af (k6 n2 (Y++tb)),c7,c8]) (by
      generalize k6 n2 (Y++tb)=HH at *;generalize LL (Y++tb)=RR at *;simp[fQ,iN n2 (),lp]) ?_
    simp[fQ]
theorem Mf{n:Nat}{bills:aA}{M:gc}(em:r8 [k6 n bills]=aa (MD M))(i:Nat)(ρ:List Cell)(f:Bool)(hi:ρ[i]?=aa (.sh f (k6 n bills))):j8 1 [] (iSeq (i0 af EQ (b7 (fN i) fNil))) (Tg.one 0) (n4 (fOp opNe (fN 0) (fC (.int 1)))) (fN 0) ρ=aa (.nw,L (gL M)):=by
 have pe:=z2o em;have sn:∀(f:Fl)(d:Dt),(nrm f d).2=d:=λ_ _=>rfl;rw[S5 (e:=λ(x:aH×Int)=>Dt.int x.2) (h:=λx=>.int x.2) (p:=λx=>decide (x.2≠1)) (xs:=M) (by
  have e:seqD (L (M.map (·.2)))=aa (M.map λx=>Dt.int x.2):=by
   show aa ((M.map (·.2)).map Dt.int)=_;rw[wM];rfl
  have nL:nrm .nw (L (M.map (·.2)))=(.nw,L (M.map (·.2))):=rfl;generalize L (M.map (·.2))=PP at *;generalize k6 n bills=HH at *;simp[fQ,hi,pe,sn,e]) (λx _=>by simp[fQ,A7]) (λx _ _=>by simp[fQ])]
 have:(M.filter λx=>decide (x.2≠1)).map (λx=>Dt.int x.2)=(gL M).map Dt.int:=by
  unfold gL;rw[w1V,wM];rfl
 rw[this]
theorem z2y(ns:aH)(hl:ns.length<=63):Ze [.scr ns]=aa (.bl af):=by
 obtain⟨n,m,X,Y0,e2,d⟩:=z2s ns;obtain⟨n2,Y,b,e3,o⟩:=UC ns d;have H1:=d.hall;have H2:=o.hall;obtain⟨M1,G1,w1,f1,k1⟩:=Sh H1 d.sm;obtain⟨M2,G2,w2,f2,k2⟩:=Sh H2 o.sm;have os:=Qp k1.em k2.em;have ho1:=Gn n X H1.n1 H1.n6 H1.m8 H1.wide H1.small;have ho2:=Gn n2 Y H2.n1 H2.n6 H2.m8 H2.wide H2.small;have cp1:=Ef X;have cp2:=Ef Y;have q1:=λρ=>Mf k1.em 5 ρ af;have q2:=λρ=>Mf k2.em 6 ρ af;have oe:=Ir (gL M1) (gL M2);have sn:∀(f:Fl)(d:Dt),(nrm f d).2=d:=λ_ _=>rfl;have nX:∀f,nrm f (LL X)=(f,LL X):=λ_=>rfl;have nY:∀f,nrm f (LL Y)=(f,LL Y):=λ_=>rfl;have fX:(LL X).flat=ab:=kq _;have fY:(LL Y).flat=ab:=kq _;have fY0:(LL Y0).flat=ab:=kq _;refine I0 (f:=.nw) rfl ?_ rfl;unfold z2b;generalize hX:LL X=XX at *;generalize hY:LL Y=YZ at *;generalize hY0:LL Y0=YY at *;generalize h1:k6 n X=A1 at *;generalize h2:k6 n2 Y=A2 at *;have t0:gJ [Dt.int n,XX,.int m,YY] 0=aa (.int n):=rfl;have t1:gJ [Dt.int n,XX,.int m,YY] 1=aa XX:=rfl;have u0:gJ [Dt.int n2,YZ,.bl b] 0=aa (.int n2):=rfl;have u1:gJ [Dt.int n2,YZ,.bl b] 1=aa YZ:=rfl;have u2:gJ [Dt.int n2,YZ,.bl b] 2=aa (.bl b):=rfl;refine run (by simp[fQ,e2];rfl) ?_;refine run (by simp[fQ,t0];rfl) ?_;refine run (by simp[fQ,e3,sn,fX,fY];rfl) ?_;refine run (by simp[fQ,u1,nY,fY];rfl) ?_;rw[show(if Fl.sh.isFr=af then Fl.fr else Fl.sh).item.isFr=ab from rfl,show Fl.sh.isFr=ab from rfl];refine run (by simp[fQ,t1,nX,cp1,ho1,sn];rfl) ?_;refine run (by simp[fQ,u0,nY,cp2,ho2,sn];rfl) ?_;generalize hp:decide (gL M1=gL M2)=p at *;refine run (by simp[fQ,os,sn];rfl) ?_;generalize hL1:L (gL M1)=S1 at *;generalize hL2:L (gL M2)=S2 at *;refine run (by simp[fQ,q1,q2,oe];rfl) ?_;have onb:opNe (.bl p) (.bl p)=aa (.nw,.bl ab):=by cases p<;>rfl
 cases p with
 | false =>
  have ne:gL M1≠gL M2:=of_decide_eq_false hp;have tn:=UA k1.em k2.em ne;rw[h1,h2]at tn;have bf:b=ab:=by
   cases b with
   |false=>rfl
   |true=>
    obtain⟨φ,ψ,I⟩:=o.iso rfl;exact aM (z2p k1.Z k2.Z (z0G I k1.span k2.span)) ne
  subst bf;refine run (by simp[fQ,tn,sn];rfl) ?_;refine run (by simp[fQ,onb];rfl) ?_;have oi:NF .non .non=aa (.nw,.bl af):=rfl;simp[fQ,oi,u2]
 | true =>
  obtain⟨tb,et,t⟩:=kC k1 k2 H1.n1 H1.n6 H2.n1 H2.n6 (aX hp);have kp:=z0M ns d o t;have rc:=Qt o t H1.n6;have lT:bLen [LL tb]=aa (.nw,.int n):=by
   have:bLen [LL tb]=aa (.nw,.int ((tb.map L).length:Int)):=rfl;rw[this,wn,t.len]
  have nT:∀f,nrm f (LL tb)=(f,LL tb):=λ_=>rfl;have ty:tyN (LL tb) ="list":=rfl;have on:=A7 n n;have sq:seqD (LL tb)=aa (tb.map L):=rfl;have lp:∀c0 c1 c2 c4 c5 c6 c7 c8 c9:Cell,∃c:Cell,gk (Tg.one 10) (sIf (fNot (fTru (i0 af P8 (b7 (fN 10) (b7 (fAt (fN 3) (fC (.int 0))) fNil))))) (sRet (fC (.bl ab))) w8) (tb.map L) [c0,c1,c2,.sh ab (.tup [.int n2,YZ,.bl b]),c4,c5,c6,c7,c8,c9,.no]=aa (.nx [c0,c1,c2,.sh ab (.tup [.int n2,YZ,.bl b]),c4,c5,c6,c7,c8,c9,c]):=λc0 c1 c2 c4 c5 c6 c7 c8 c9=>
   BG (g:=Tg.one 10) (e:=L) (R:=λ(_:Unit)(c:Cell)=>[c0,c1,c2,.sh ab (.tup [.int n2,YZ,.bl b]),c4,c5,c6,c7,c8,c9,c]) (step:=λ_ _=>⟨⟩) tb ⟨⟩ .no (λ_ r c hr=>⟨.sh ab (L r),by
    have ir:=Eb r n2;rw[aL (by rw[t.rows r hr])]at ir;simp[fQ,u0,ir]⟩)
  rw[h1,h2]at et;simp only[hX,hY,hY0,h1,h2]at kp rc;generalize LL tb=TT at *;refine run (by simp[fQ,et,sn];rfl) ?_;refine run (by simp[fQ,onb];rfl) ?_;refine run (by simp[fQ];rfl) ?_;refine run (by simp[fQ,sn,ty,lT,on];rfl) ?_;obtain⟨c10,lp⟩:=lp (.sh ab (.scr ns)) (.sh af (.tup [.int n,XX,.int m,YY])) (.sh af (.int n)) (.sh ab YZ) (.sh af A1) (.sh af A2) (.sh af (.bl af)) (.sh af (.bl af)) (.sh af TT);refine run (by simp[fQ,nT,sq,lp];rfl) ?_;simp[fQ,kp,rc,sn,u0]
abbrev qA(j:Int):FE:=fOp F8 (fOp Af (fN 2) (fC (.int j))) (fN 1)
abbrev qC0:FT:=n4 (fOp opEq (fOp F8 (fN 2) (fC (.int 3))) (fC (.int 0)))
abbrev qC1:FT:=n4 (fOp opNe (fN 3) (fN 4))
abbrev qAd:FE:=fOp o6 (fAt (fN 6) (fN 3)) (fOp D9 (fOp Ae (fOp F8 (fOp Af (fN 2) (fC (.int 61))) (fC (.int 5))) (fC (.int 2))) (fAt (fN 6) (fN 4)))
abbrev tU(X:Cx):TS:=(kE (mI X qC0) (iI (ie (io X (fAt (fN 6) (fN 4))) (je (hG 6) (io X (fN 3)) NB)) (ie (io X (fN 7)) (je (hG 6) (io X (fN 4)) NB)))
 (kE (mI X qC1) (ie (io X qAd) (je (hG 6) (io X (fN 3)) NB)) (ie (io X (fNeg (fN 7))) (je (hG 6) (io X (fN 3)) NB))))
abbrev mL(X:Cx):TS:=iI (ie (io X (fAt (fN 6) (fN 3))) (Ad 7)) (tU X)
abbrev tTurn(X:Cx):TS:=iI (ie (io X (qA 3)) (Ad 3)) (iI (ie (io X (qA 17)) (Ad 4))
 (iI (ie (Jv 1 [] (mB X (iSeq (fN 0))) ((Tg.one 0).low X.K) (mC λH1=>iH ⟨X.K,H1⟩ fYes) (oF λH1=>my ⟨X.K,H1⟩ (fBlt bLst (b7 (fN 0) fNil)))) (Ad 5))
 (iI (jl (Yw X.K (hG 5)) (Ad 6) (mL X)) (jj (hG 5)))))
section
variable {X:Cx}{H:Hp}{D:Ends}
theorem jv{σ:St}{Q:St->Hp->Prop}{v:V}{b6:Addr}{xs:fL}{i:Nat}{ρ:gI}{F:FE}(rs:RepS X.ky H ρ σ)(h6:σ[6]?=aa (aa (.ref b6)))(hx:H b6=aa (.lst xs))(e:F ρ=aa (.nw,.int i))(hi:i<xs.length)(q:∀H',Same H H'->Q σ (upd H' b6 (.lst (xs.set i v)))):je (hG 6) (io X F) NB v σ H Q:=
 ⟨.ref b6,h6,ρ,.nw,.int i,rs,e,λw H' s r=>⟨b6,xs,i,i,rfl,Rp.int_.mp r.sh,s _ _ hx,PL hi,q H' s⟩⟩
theorem qi{v0:V}{rows:aA}{n c a b:Int}{x5 x7:Option V}{b6:Addr}{r:aH}(s0:Same X.H₀ H)(r0:Rp X.K emp (LL rows) H v0)(h6:H b6=aa (.lst (r.map V.int))):RepS X.ky H [.sh ab (LL rows),.sh ab (.int n),.sh ab (.int c),.sh af (.int a),.sh af (.int b),.no,.sh ab (L r),.no] [aa v0,aa (.int n),aa (.int c),aa (.int a),aa (.int b),x5,aa (.ref b6),x7]:=
 ⟨rfl,s0,fun i c e=>by
  match i,e with
  |0,e=>cases e;exact⟨_,rfl,_,rfl,r0⟩
  |1,e=>cases e;exact⟨_,rfl,_,rfl,Rp.int_.mpr rfl⟩
  |2,e=>cases e;exact⟨_,rfl,_,rfl,Rp.int_.mpr rfl⟩
  |3,e=>cases e;exact⟨_,rfl,_,rfl,Rp.int_.mpr rfl⟩
  |4,e=>cases e;exact⟨_,rfl,_,rfl,Rp.int_.mpr rfl⟩
  |5,e=>cases e;exact⟨_,rfl,trivial⟩
  |6,e=>cases e;exact⟨_,rfl,_,rfl,Rp.lst_.mpr ⟨b6,_,rfl,rfl,h6,Rps.ints.mpr rfl⟩⟩
  |7,e=>cases e;exact⟨_,rfl,trivial⟩⟩
theorem nA{v0:V}{rows:aA}{n c a b q:Int}{x5:Option V}{b6:Addr}{r:aH}(s0:Same X.H₀ H)(r0:Rp X.K emp (LL rows) H v0)(h6:H b6=aa (.lst (r.map V.int))):RepS X.ky H [.sh ab (LL rows),.sh ab (.int n),.sh ab (.int c),.sh af (.int a),.sh af (.int b),.no,.sh ab (L r),.sh af (.int q)] [aa v0,aa (.int n),aa (.int c),aa (.int a),aa (.int b),x5,aa (.ref b6),aa (.int q)]:=
 ⟨rfl,s0,fun i c e=>by
  match i,e with
  |0,e=>cases e;exact⟨_,rfl,_,rfl,r0⟩
  |1,e=>cases e;exact⟨_,rfl,_,rfl,Rp.int_.mpr rfl⟩
  |2,e=>cases e;exact⟨_,rfl,_,rfl,Rp.int_.mpr rfl⟩
  |3,e=>cases e;exact⟨_,rfl,_,rfl,Rp.int_.mpr rfl⟩
  |4,e=>cases e;exact⟨_,rfl,_,rfl,Rp.int_.mpr rfl⟩
  |5,e=>cases e;exact⟨_,rfl,trivial⟩
  |6,e=>cases e;exact⟨_,rfl,_,rfl,Rp.lst_.mpr ⟨b6,_,rfl,rfl,h6,Rps.ints.mpr rfl⟩⟩
  |7,e=>cases e;exact⟨_,rfl,_,rfl,Rp.int_.mpr rfl⟩⟩
theorem Hv(r:aH)(i:Nat)(y:Int):(r.map V.int).set i (.int y)=(r.set i y).map V.int:=by rw[w1u]
theorem kM{v0:V}{rows:aA}{n:Nat}{c:Int}{a b:Nat}{x5 x7:Option V}{b6:Addr}{r:aH}{N:St->Hp->Prop}(s0:Same X.H₀ H)(r0:Rp X.K emp (LL rows) H v0)(h6:H b6=aa (.lst (r.map V.int)))(nb:X.H₀ b6=aj)(hr:∀H',Same X.H₀ H'->(∀z o,z≠b6->H z=aa o->H' z=aa o)->Rp X.K emp (LL rows) H' v0)(ha:a<r.length)(hb:b<r.length)(sm:∀x∈r,x.natAbs<2^900)
   (hD:D.nx=N) (q:∀q7 H',(∀z o,z≠b6->H z=aa o->H' z=aa o)->H' b6=aa (.lst ((Q8 a b c r).map V.int))->N [aa v0,aa (.int n),aa (.int c),aa (.int a),aa (.int b),x5,aa (.ref b6),q7] H') :
   mL X D [aa v0,aa (.int n),aa (.int c),aa (.int a),aa (.int b),x5,aa (.ref b6),x7] H:=by
 have g:∀i,r.getD i 0=at0 r i:=λ_=>rfl;have a1:=Ed (r:=r) (k:=a) ha;have a2:=Ed (r:=r) (k:=b) hb;have m3:X3 c 3=af:=U2 (by decide);have m5:X3 (c.fdiv 61) 5=af:=U2 (by decide);have d61:K9 c 61=af:=by unfold K9;decide
 have keepB:∀(H' H'':Hp)(ys:fL),Same H H'->(∀z o,z≠b6->H z=aa o->upd H' b6 (.lst ys) z=aa o):=λH' H'' ys s z o hz ho=>by rw[v8 hz];exact s _ _ ho
 refine⟨_,.nw,.int (at0 r a),qi s0 r0 h6,by simp[fQ,a1],λv1 H1 s1 r1=>?_⟩;have ev:=Rp.int_.mp r1.sh;subst ev;have rp1:=nA (X:=X) (n:=n) (c:=c) (a:=a) (b:=b) (q:=at0 r a) (x5:=x5) (s0.trans s1) (Rp.mono _ s1 r0) (s1 _ _ h6)
 suffices key:tU X D [aa v0,aa (.int n),aa (.int c),aa (.int a),aa (.int b),x5,aa (.ref b6),aa (.int (at0 r a))] H1 from key
 by_cases h3:c.fmod 3=0
 .refine⟨_,af,rp1,by simp[fQ,m3,h3,v6],λH2 s2=>?_⟩;show(if af=af then _ else _);rw[ak rfl];have s12:=s1.trans s2;have rp2:=rp1.mono s2;refine⟨_,.nw,.int (at0 r b),rp2,by simp[fQ,a2],λv3 H3 s3 r3=>?_⟩;have ev:=Rp.int_.mp r3.sh;subst ev;have s13:=s12.trans s3;refine jv (i:=a) (rp2.mono s3) rfl (s13 _ _ h6) (by simp[fQ]) (by rw[wn];exact ha) λH4 s4=>?_;have s14:=s13.trans s4;rw[Hv];have kz:∀z o,z≠b6->H z=aa o->upd H4 b6 (.lst ((r.set a (at0 r b)).map V.int)) z=aa o:=λz o hz ho=>by rw[v8 hz];exact s14 _ _ ho
  have s04:Same X.H₀ (upd H4 b6 (.lst ((r.set a (at0 r b)).map V.int))):=λz o ho=>kz z o (λe=>by rw[e,nb]at ho;cases ho) (s0 _ _ ho);have rp4:=nA (X:=X) (n:=n) (c:=c) (a:=a) (b:=b) (q:=at0 r a) (x5:=x5) (r:=r.set a (at0 r b)) s04 (hr _ s04 kz) B3;refine⟨_,.nw,.int (at0 r a),rp4,by simp[fQ],λv5 H5 s5 r5=>?_⟩;have ev:=Rp.int_.mp r5.sh;subst ev;refine jv (i:=b) (rp4.mono s5) rfl (s5 _ _ B3) (by simp[fQ]) (by simp;exact hb) λH6 s6=>?_;rw[Hv];have s46:=s5.trans s6;show D.nx _ _;rw[hD];refine q _ _ (λz o hz ho=>by rw[v8 hz];exact s46 _ _ (kz z o hz ho)) ?_;rw[B3];unfold Q8;rw[ak h3];rfl
 .refine⟨_,ab,rp1,by simp[fQ,m3,h3,v6],λH2 s2=>?_⟩;show(if ab=af then _ else _);rw[ao (by decide)];have s12:=s1.trans s2;have rp2:=rp1.mono s2;by_cases hab:a≠b
  .have hab':¬(a:Int)=(b:Int):=()
   refine⟨_,af,rp2,by simp[fQ,A7,hab'],λH3 s3=>?_⟩;show(if af=af then _ else _);rw[ak rfl];have s13:=s12.trans s3;have rp3:=rp2.mono s3;have mu:E4 ((c.fdiv 61).fmod 5-2) (at0 r b)=af:=S4 (by
    have:=B4 (c.fdiv 61) (show(0:Int)<5 by decide);rfl')
   refine⟨_,.nw,.int (at0 r a+((c.fdiv 61).fmod 5-2)*at0 r b),rp3,by simp[fQ,a1,a2,d61,m5,mu],λv5 H5 s5 r5=>?_⟩;have ev:=Rp.int_.mp r5.sh;subst ev;have s15:=s13.trans s5;refine jv (i:=a) (rp3.mono s5) rfl (s15 _ _ h6) (by simp[fQ]) (by rw[wn];exact ha) λH6 s6=>?_;rw[Hv];show D.nx _ _;rw[hD];refine q _ _ (λz o hz ho=>by rw[v8 hz];exact s6 _ _ (s15 _ _ ho)) ?_;rw[B3];unfold Q8;rw[ao h3,ak hab];rfl
  .have hab':(a:Int)=(b:Int):=()
   refine⟨_,ab,rp2,by simp[fQ,A7,hab'],λH3 s3=>?_⟩;show(if ab=af then _ else _);rw[ao (by decide)];have s13:=s12.trans s3;have rp3:=rp2.mono s3;refine⟨_,.nw,.int (-(at0 r a)),rp3,by simp[fQ],λv5 H5 s5 r5=>?_⟩;have ev:=Rp.int_.mp r5.sh;subst ev;have s15:=s13.trans s5;refine jv (i:=a) (rp3.mono s5) rfl (s15 _ _ h6) (by simp[fQ]) (by rw[wn];exact ha) λH6 s6=>?_;rw[Hv];show D.nx _ _;rw[hD];refine q _ _ (λz o hz ho=>by rw[v8 hz];exact s6 _ _ (s15 _ _ ho)) ?_;rw[B3];unfold Q8;rw[ao h3,ao hab];rfl
end
section
variable {X:Cx}{H:Hp}{D:Ends}
theorem kL{v0:V}{rows:aA}{n c:Int}{x3 x4 x5 x6 x7:Option V}(s0:Same X.H₀ H)(r0:Rp X.K emp (LL rows) H v0):RepS X.ky H [.sh ab (LL rows),.sh ab (.int n),.sh ab (.int c),.no,.no,.no,.no,.no] [aa v0,aa (.int n),aa (.int c),x3,x4,x5,x6,x7]:=
 ⟨rfl,s0,fun i c e=>by
  match i,e with
  |0,e=>cases e;exact⟨_,rfl,_,rfl,r0⟩
  |1,e=>cases e;exact⟨_,rfl,_,rfl,Rp.int_.mpr rfl⟩
  |2,e=>cases e;exact⟨_,rfl,_,rfl,Rp.int_.mpr rfl⟩
  |3,e=>cases e;exact⟨_,rfl,trivial⟩
  |4,e=>cases e;exact⟨_,rfl,trivial⟩
  |5,e=>cases e;exact⟨_,rfl,trivial⟩
  |6,e=>cases e;exact⟨_,rfl,trivial⟩
  |7,e=>cases e;exact⟨_,rfl,trivial⟩⟩
theorem Sn{K:aD}{B H':Hp}:∀{as:ft}{rs:aA},as.length=rs.length->(∀(j:Nat)(a:Addr)(r:aH),as[j]?=aa a->rs[j]?=aa r->B a=aj/\H' a=aa (.lst (r.map V.int)))->Rps K B (rs.map L) H' (as.map V.ref)
 |[],[],_,_=>Rps.nil_.mpr rfl
 |[],_::_,h,_=>by cases h
 |_::_,[],h,_=>by cases h
 |a::as,r::rs,h,q=>Rps.cons_.mpr ⟨_,_,rfl,Rp.lst_.mpr ⟨a,_,rfl,(q 0 a r rfl rfl).1,(q 0 a r rfl rfl).2,Rps.ints.mpr rfl⟩,Sn (by simpa using h) λj b s e1 e2=>q (j+1) b s (by simpa using e1) (by simpa using e2)⟩
theorem z5t{v0:V}{rows:aA}{n:Nat}{c:Int}(h0:X.H₀=H)(r0:Rp X.K emp (LL rows) H v0)(ok:TurnOk rows n c)
  (fin:∀v H',Same H H'->Rp X.K H (LL (rows.map (Q8 ((c.fdiv 3).fmod n).toNat ((c.fdiv 17).fmod n).toNat c))) H' v->D.rt v H') :
  tTurn X D [aa v0,aa (.int n),aa (.int c),aj,aj,aj,aj,aj] H:=by
 have n1:=ok.n1;have n6:=ok.n6;have ra:=B4 (c.fdiv 3) (show(0:Int)<n by rfl');have rb:=B4 (c.fdiv 17) (show(0:Int)<n by rfl');obtain⟨a,ea⟩:=vF ra.1;obtain⟨b,eb⟩:=vF rb.1;rw[ea,eb]at fin;have fin:∀v H',Same H H'->Rp X.K H (LL (rows.map (Q8 a b c))) H' v->D.rt v H':=fin;have ha:a<n:=()
 have hb:b<n:=()
 have sm0:Same X.H₀ H:=by rw[h0];exact Same.refl H
 have d3:K9 c 3=af:=by unfold K9;decide
 have d17:K9 c 17=af:=by unfold K9;decide
 have mn:∀z:Int,X3 z n=af:=λz=>U2 ();refine⟨_,.nw,.int a,kL sm0 r0,by simp[fQ,d3,mn,ea],λv1 H1 s1 r1=>?_⟩;have ev:=Rp.int_.mp r1.sh;subst ev;refine⟨_,.nw,.int b,kL (x3:=aa (.int a)) (sm0.trans s1) (Rp.mono _ s1 r0),by simp[fQ,d17,mn,eb],λv2 H2 s2 r2=>?_⟩;have ev:=Rp.int_.mp r2.sh;subst ev;have s12:=s1.trans s2;have nl:∀r:aH,bLst [L r]=aa (.nw,L r):=λr=>by
  have:bLst [L r]=aa (gM (r.map Dt.int)):=rfl;rw[this,Q1]
 suffices key:Jv 1 [] (mB X (iSeq (fN 0))) ((Tg.one 0).low X.K) (mC λH1=>iH ⟨X.K,H1⟩ fYes) (oF λH1=>my ⟨X.K,H1⟩ (fBlt bLst (b7 (fN 0) fNil))) [aa v0,aa (.int n),aa (.int c),aa (.int a),aa (.int b),aj,aj,aj] H2 (λx H3=>iI (jl (Yw X.K (hG 5)) (Ad 6) (mL X)) (jj (hG 5)) D [aa v0,aa (.int n),aa (.int c),aa (.int a),aa (.int b),aa x,aj,aj] H3)from key
 refine z29 (X:=X) (nt:=1) (js:=[]) (Fi:=iSeq (fN 0)) (g:=Tg.one 0) (Fe:=fBlt bLst (b7 (fN 0) fNil)) (ρ:=[.sh ab (LL rows),.sh ab (.int n),.sh ab (.int c),.no,.no,.no,.no,.no]) (rows:=rows) (by simp) (kL (x3:=aa (.int a)) (x4:=aa (.int b)) (sm0.trans s12) (Rp.mono _ s12 r0)) (by simp[fQ,LL]) (by have:=ok.few;rfl') (λr _=>by simp[fQ,nl]) λDm ys H3 nD e3 s3⟨as,ey,nd,la,q3⟩=>?_;subst ey;have nDH:H Dm=aj:=s12.free nD;have nH:∀(j:Nat)(z:Addr)(r:aH),as[j]?=aa z->rows[j]?=aa r->H z=aj:=λj z r e1 e2=>s12.free (q3 j z r e1 e2).1;have q3':∀(j:Nat)(z:Addr)(r:aH),as[j]?=aa z->rows[j]?=aa r->z≠Dm/\H3 z=aa (.lst (r.map V.int)):=λj z r e1 e2=>by
  have:=(q3 j z r e1 e2).2;obtain⟨g1,g2⟩:=R6 this;exact⟨by simpa using g1,g2⟩
 have sH3:Same H H3:=s12.trans (s3.trans A9)
 suffices key:jl (Yw X.K (hG 5)) (Ad 6) (mL X) { D with nx:=jj (hG 5) D } [aa v0,aa (.int n),aa (.int c),aa (.int a),aa (.int b),aa (.ref Dm),aj,aj] H3 from key
 refine⟨.ref Dm,rfl,Dm,rfl,⟨_,SqL.of e3⟩,?_⟩;refine z15 (xs:=as.map V.ref) (λj σ H'=>∃x6 x7,σ=[aa v0,aa (.int n),aa (.int c),aa (.int a),aa (.int b),aa (.ref Dm),x6,x7]/\Same H H'/\H' Dm=aa (.lst (as.map V.ref))/\∀(i:Nat)(z:Addr)(r:aH),as[i]?=aa z->rows[i]?=aa r->H' z=aa (.lst ((if i<j then Q8 a b c r else r).map V.int)))
  ⟨aj,aj,rfl,sH3,e3,λi z r e1 e2=>by rw[ao (w1T _)];exact(q3' i z r e1 e2).2⟩ (λi σ H' _⟨_,_,_,_,h,_⟩=>SqL.of h) ?step ?done
 case done=>
  rintro σ H' ⟨x6,x7,rfl,s',eD,q'⟩;refine⟨.ref Dm,rfl,fin _ _ s' ?_⟩;refine Rp.lst_.mpr ⟨Dm,_,rfl,nDH,eD,Sn (by rw[wn];exact la) λj z r e1 e2=>?_⟩;rw[wv]at e2;obtain⟨r',e5,e4⟩:=w0Z.mp e2;subst e4;have hj:j<as.length:=(vv.mp e1).1;have:=q' j z r' e1 e5;rw[ak (by rw[wn];exact hj)]at this;exact⟨nH j z r' e1 e5,by rw[r9 (by simpa using(q3' j z r' e1 e5).1)];exact this⟩
 case step =>
  rintro j x σ H' hx ⟨x6,x7,rfl,s',eD,q'⟩;rw[wv]at hx;obtain⟨z,hz,ez⟩:=w0Z.mp hx;subst ez;have hj:j<as.length:=(vv.mp hz).1;obtain⟨r,hr⟩:∃r,rows[j]?=aa r:=⟨_,wa ()⟩;have rl:r.length=n:=ok.wide r (vN hr);have hz6:=q' j z r hz hr;rw[ao (vG _)]at hz6;have zD:z≠Dm:=(q3' j z r hz hr).1;have nz:H z=aj:=nH j z r hz hr
  suffices key:mL X { D with nx:=_,ct:=_,bk:=_ } [aa v0,aa (.int n),aa (.int c),aa (.int a),aa (.int b),aa (.ref Dm),aa (.ref z),x7] H' from key
  refine kM (rows:=rows) (r:=r) (by rw[h0];exact s') (Rp.mono _ s' r0) hz6 (by rw[h0];exact nz) (λH'' sx _=>Rp.mono _ (by rw[h0]at sx;exact sx) r0) () () (ok.small r (vN hr)) rfl λq7 H'' kz h6=>?_;refine⟨_,_,rfl,λy o hy=>kz y o (λe=>by rw[e,nz]at hy;cases hy) (s' _ _ hy),kz _ _ (bR zD) eD,λi y r' e1 e2=>?_⟩;by_cases c:i=j
  .subst c;rw[hz]at e1;rw[hr]at e2;cases e1;cases e2;rw[ak ()];exact h6
  .have yz:y≠z:=λe=>by
     subst e;exact c ((List.getElem?_inj (by exact(vv.mp e1).1) nd).mp (e1.trans hz.symm))
   have:=q' i y r' e1 e2;refine kz y _ yz ?_;by_cases c2:i<j
   .rw[ak c2]at this;rw[ak ()];exact this
   .rw[ao c2]at this;rw[ao ()];exact this
end
theorem Mg{ds:fK}{d:Dt}(e:K6 ds=aa d):∃(rows:aA)(n:Nat)(c:Int),ds=[LL rows,.int n,.int c]/\TurnOk rows n c/\d=LL (rows.map (Q8 ((c.fdiv 3).fmod n).toNat ((c.fdiv 17).fmod n).toNat c)):=by
 by_cases h:∃(rows:aA)(n:Nat)(c:Int),ds=[LL rows,.int n,.int c]/\TurnOk rows n c
 .obtain⟨rows,n,c,rfl,ok⟩:=h;rw[Mc ok]at e;cases e;exact⟨rows,n,c,rfl,ok,rfl⟩
 .unfold K6 at e;rw[dif_neg h]at e;cases e
end
noncomputable section
noncomputable def gf(i:Nat):aJ:=PySem.Challenge.pw_changehall_k27_whole_one_shape.main.body.getD i (.Pass ⟨0,0,0,0⟩)
abbrev Gr:aJ:=gf 5
theorem So:FnScope g1x g1x (f9 Gr):=gC
abbrev Hw:aJ:=gf 6
theorem z0N:FnScope g1k g1k (f9 Hw):=gC
abbrev EV:aJ:=gf 7
theorem UD:FnScope g2o g2o (f9 EV):=gC
abbrev CT:aJ:=gf 8
theorem Sr:FnScope g1i g1i (f9 CT):=gC
abbrev Kv:aJ:=gf 9
theorem z2z:FnScope g0g g0g (f9 Kv):=gC
abbrev Kw:aJ:=gf 10
theorem z2A:FnScope g0g g0g (f9 Kw):=gC
abbrev Hx:aJ:=gf 11
theorem z0O:FnScope g1u g1u (f9 Hx):=gC
abbrev EW:aJ:=gf 12
theorem UE:FnScope g1m g1m (f9 EW):=gC
abbrev Qu:aJ:=gf 13
theorem Eg:FnScope ["rows","counts","length","total","row","often"] g1s (f9 Qu):=gC
abbrev Jb:aJ:=gf 14
theorem Gs:FnScope ["row","spot","number"] g2j (f9 Jb):=gC
abbrev Eh:aJ:=gf 18
theorem Qv:FnScope g1x g1x (f9 Eh):=gC
abbrev EX:aJ:=gf 19
theorem UF:FnScope g1n g1n (f9 EX):=gC
abbrev CU:aJ:=gf 20
theorem Nm:FnScope ["kinds"] ["kinds"] (f9 CU):=gC
abbrev Ei:aJ:=gf 21
theorem Qw:FnScope g2g g2g (f9 Ei):=gC
abbrev EY:aJ:=gf 23
theorem UG:FnScope g1q g1q (f9 EY):=gC
abbrev Jc:aJ:=gf 22
theorem Mh:FnScope ["kinds","bills","bill"] g2m (f9 Jc):=gC
abbrev V1:aJ:=gf 24
theorem Hy:FnScope g1y g1y (f9 V1):=gC
abbrev Bv:aJ:=gf 25
theorem Mi:FnScope g2d g2d (f9 Bv):=gC
abbrev Mj:aJ:=gf 26
theorem z0P:FnScope g0p g0p (f9 Mj):=gC
abbrev Qx:aJ:=gf 27
theorem z2B:FnScope g0f g0f (f9 Qx):=gC
abbrev Ej:aJ:=gf 29
theorem R0:FnScope g0v g1d (f9 Ej):=gC
abbrev UH:aJ:=gf 30
theorem z5u:FnScope g2p g2p (f9 UH):=gC
abbrev Jd:aJ:=gf 31
theorem CV:FnScope ["numbers","found","number"] ["numbers"] (f9 Jd):=gC
abbrev Gu:aJ:=gf 33
theorem M6:FnScope ["row","rungs","left","counts","rung","spot","often"] g1e (f9 Gu):=gC
abbrev Je:aJ:=gf 34
theorem UI:FnScope g1e g1e (f9 Je):=gC
abbrev Jf:aJ:=gf 35
theorem AF:FnScope ["rung","row","spot","found","upper","lower"] g2v (f9 Jf):=gC
abbrev Ek:aJ:=gf 36
theorem Qy:FnScope g2j g2j (f9 Ek):=gC
abbrev CW:aJ:=gf 37
theorem R1:FnScope g1j g2s (f9 CW):=gC
abbrev Mk:aJ:=gf 38
theorem Jg:FnScope ["rungs","found","rung"] ["rungs"] (f9 Mk):=gC
abbrev Jh:aJ:=gf 39
theorem CY:FnScope ["rows","rungs","row"] g2q (f9 Jh):=gC
abbrev T5:aJ:=gf 40
theorem Ki:FnScope g1v g1v (f9 T5):=gC
abbrev P1:aJ:=gf 41
theorem Ji:FnScope g0r g0r (f9 P1):=gC
abbrev N8:aJ:=gf 42
theorem Hz:FnScope g0r g0r (f9 N8):=gC
abbrev Qz:aJ:=gf 43
theorem z2C:FnScope g0p g0p (f9 Qz):=gC
abbrev L7:aJ:=gf 44
theorem AG:FnScope ["hall","many"] g0p (f9 L7):=gC
abbrev HB:aJ:=gf 46
theorem z0Q:FnScope g1r g1r (f9 HB):=gC
abbrev CZ:aJ:=gf 47
theorem El:FnScope ["rows","place","row"] g2q (f9 CZ):=gC
abbrev Kx:aJ:=gf 48
theorem z2D:FnScope g2a g2a (f9 Kx):=gC
abbrev Z9:aJ:=gf 49
theorem M7:FnScope g0h g2b (f9 Z9):=gC
abbrev Mm:aJ:=gf 50
theorem Aa:FnScope ["one","other","found","common","least","upper","lower"] g0g (f9 Mm):=gC
abbrev EZ:aJ:=gf 51
theorem AH:FnScope g1l g0u (f9 EZ):=gC
abbrev M8:aJ:=gf 52
theorem K1:FnScope g0b g0p (f9 M8):=gC
abbrev Kz:aJ:=gf 54
theorem z2E:FnScope g0p g0p (f9 Kz):=gC
abbrev Da:aJ:=gf 55
theorem Ss:FnScope g1f g1f (f9 Da):=gC
abbrev K7:aJ:=gf 56
theorem L4:FnScope g0i g0u (f9 K7):=gC
abbrev KA:aJ:=gf 58
theorem z2F:FnScope g0u g0u (f9 KA):=gC
abbrev Em:aJ:=gf 59
theorem QA:FnScope g0g g0g (f9 Em):=gC
abbrev AI:aJ:=gf 60
theorem R3:FnScope g0q g0g (f9 AI):=gC
abbrev Jj:aJ:=gf 63
theorem Gv:FnScope ["hall","one","other","back","left"] g0f (f9 Jj):=gC
abbrev UJ:aJ:=gf 62
theorem z5v:FnScope g0f g0f (f9 UJ):=gC
abbrev HC:aJ:=gf 65
theorem z0R:FnScope g0p g0p (f9 HC):=gC
abbrev UK:aJ:=gf 66
theorem z5w:FnScope g2i g2i (f9 UK):=gC
abbrev V2:aJ:=gf 67
theorem HD:FnScope g2e g2e (f9 V2):=gC
abbrev Mn:aJ:=gf 68
theorem Fd:FnScope ["hall","one","other","way","scale","found"] g0f (f9 Mn):=gC
abbrev En:aJ:=gf 70
theorem QB:FnScope g1g g1g (f9 En):=gC
abbrev Jk:aJ:=gf 71
theorem UL:FnScope g2k g2k (f9 Jk):=gC
abbrev Gw:aJ:=gf 72
theorem JJ:FnScope ["_law_found","_law_size","_law_number_here"] g1t (f9 Gw):=gC
abbrev Gx:aJ:=gf 73
theorem Be:FnScope ["_law_cell","_law_mode","_law_number_here","_law_wide"] g1w (f9 Gx):=gC
abbrev KB:aJ:=gf 74
theorem z2G:FnScope g0k g0k (f9 KB):=gC
abbrev HE:aJ:=gf 75
theorem HG:FnScope g0z g1b (f9 HE):=gC
abbrev HI:aJ:=gf 76
theorem z0S:FnScope g0o g0o (f9 HI):=gC
abbrev Jl:aJ:=gf 77
theorem Db:FnScope ["_law_weights","_law_row_here","_law_made","_law_k"] g1h (f9 Jl):=gC
abbrev Jm:aJ:=gf 78
theorem UM:FnScope g0m g0m (f9 Jm):=gC
abbrev Gy:aJ:=gf 79
theorem JK:FnScope ["_law_bills","_law_one","_law_other_here","_law_scale","_law_bill"] g0s (f9 Gy):=gC
abbrev HJ:aJ:=gf 80
theorem O6:FnScope g0e g0w (f9 HJ):=gC
abbrev Dc:aJ:=gf 81
theorem Su:FnScope g2f g2f (f9 Dc):=gC
abbrev Mo:aJ:=gf 82
theorem Jn:FnScope ["_law_hall","_law_bills","_law_one","_law_other_here","_law_uses","_law_scale"] g0t (f9 Mo):=gC
abbrev Dd:aJ:=gf 83
theorem R4:FnScope g0l g1c (f9 Dd):=gC
abbrev W6:aJ:=gf 84
theorem K8:FnScope g0d g0x (f9 W6):=gC
abbrev O7:aJ:=gf 85
theorem AJ:FnScope g0y g1a (f9 O7):=gC
abbrev Jo:aJ:=gf 86
theorem M9:FnScope ["_law_script","_law_drawn","_law_way","_law_others","_law_size","_law_k"] g1o (f9 Jo):=gC
abbrev HK:aJ:=gf 87
theorem L5:FnScope g0c g0j (f9 HK):=gC
abbrev Sv:aJ:=gf 88
theorem AK:FnScope g0a g0w (f9 Sv):=gC
set_option genInjectivity false in
structure Adr where
 Mv:Addr
 Mx:aq
 SH:Addr
 SI:aq
 Ou:Addr
 Ov:aq
 My:Addr
 MA:aq
 Zm:Addr
 Zn:aq
 Zo:Addr
 Zp:aq
 SJ:Addr
 SK:aq
 Ow:Addr
 Ox:aq
 Zq:Addr
 Zr:aq
 Oy:Addr
 Oz:aq
 JN:Addr
 JO:aq
 OA:Addr
 OB:aq
 HS:Addr
 HU:aq
 JP:Addr
 JQ:aq
 OC:Addr
 OD:aq
 OE:Addr
 OF:aq
 BZ:Addr
 Ca:aq
 Fz:Addr
 FD:aq
 SL:Addr
 SM:aq
 Zt:Addr
 Zu:aq
 SN:Addr
 SO:aq
 z4m:Addr
 z4n:aq
 OG:Addr
 OH:aq
 MB:Addr
 MC:aq
 OI:Addr
 OJ:aq
 OK:Addr
 OL:aq
 JR:Addr
 JS:aq
 ME:Addr
 MF:aq
 SQ:Addr
 SR:aq
 OM:Addr
 OO:aq
 Eu:Addr
 Ev:aq
 Dl:Addr
 Dn:aq
 Cb:Addr
 Cc:aq
 Zv:Addr
 Zw:aq
 Bg:Addr
 Bh:aq
 SS:Addr
 SU:aq
 MG:Addr
 MH:aq
 Zx:Addr
 Zy:aq
 OP:Addr
 OQ:aq
 SV:Addr
 SW:aq
 OR:Addr
 OS:aq
 MI:Addr
 MJ:aq
 Zz:Addr
 ZA:aq
 MK:Addr
 ML:aq
 HV:Addr
 HW:aq
 ZB:Addr
 ZC:aq
 JT:Addr
 JU:aq
 MM:Addr
 MN:aq
 OT:Addr
 OU:aq
 z4o:Addr
 z4p:aq
 SX:Addr
 SY:aq
 z4q:Addr
 z4r:aq
 Cd:Addr
 Ce:aq
 SZ:Addr
 Ta:aq
 JV:Addr
 JW:aq
 OV:Addr
 OW:aq
 MO:Addr
 MP:aq
 MQ:Addr
 MR:aq
 ZD:Addr
 ZE:aq
 ZF:Addr
 ZG:aq
 Tb:Addr
 Tc:aq
 OX:Addr
 OY:aq
 OZ:Addr
 Pa:aq
 MS:Addr
 MT:aq
 ZH:Addr
 ZI:aq
 MU:Addr
 MV:aq
 Td:Addr
 Te:aq
 MW:Addr
 MX:aq
 JX:Addr
 JY:aq
 FG:Addr
 FH:aq
 Pb:Addr
 Pc:aq
 Tf:Addr
 Th:aq
 a_law:Addr
 ZJ:aq
 Y5:Tok
 Y6:Tok
structure Facts(K:aD)(mg:aE)(A:Adr):Prop where
 z4s:mg "abs"=aj
 n_all:mg "all"=aj
 n_any:mg "any"=aj
 Yr:mg "bool"=aj
 W7:mg "enumerate"=aj
 Ti:mg "int"=aj
 D5:mg "isinstance"=aj
 K2:mg "len"=aj
 N0:mg "list"=aj
 A6:mg "range"=aj
 Ys:mg "reversed"=aj
 z4t:mg "sorted"=aj
 n_sum:mg "sum"=aj
 KC:mg "tuple"=aj
 Tj:mg "zip"=aj
 QJ:mg "MOST_BILLS"=aa (.int 8 A.Y5)
 QK:mg "MOST_KINDS"=aa (.int 6 A.Y6)
 GD:Df K mg "is_whole" Gr g1x A.Mv A.Mx
 MY:Df K mg "is_row" Hw g1k A.SH A.SI
 Cf:Df K mg "noughts" EV g2o A.Ou A.Ov
 AL:Df K mg "unit_row" CT g1i A.My A.MA
 HX:Df K mg "added" Kv g0g A.Zm A.Zn
 KD:Df K mg "taken" Kw g0g A.Zo A.Zp
 L1:Df K mg "scaled" Hx g1u A.SJ A.SK
 Js:Df K mg "weighed" EW g1m A.Ow A.Ox
 ZK:Df K mg "mixed" Qu g1s A.Zq A.Zr
 F5:Df K mg "head_at" Jb g2j A.Oy A.Oz
 JZ:Df K mg "are_kinds" Eh g1x A.JN A.JO
 Pd:Df K mg "is_bill" EX g1n A.OA A.OB
 HY:Df K mg "need_kinds" CU ["kinds"] A.HS A.HU
 Kb:Df K mg "need_bill" Ei g2g A.JP A.JQ
 Pe:Df K mg "hall_by" EY g1q A.OC A.OD
 Ff:Df K mg "hall_of" Jc g2m A.OE A.OF
 Cg:Df K mg "need_basket_of" V1 g1y A.BZ A.Ca
 Bw:Df K mg "need_basket" Bv g2d A.Fz A.FD
 Tk:Df K mg "nought" Mj g0p A.SL A.SM
 QL:Df K mg "apart" Qx g0f A.Zt A.Zu
 MZ:Df K mg "bridge" Ej g1d A.SN A.SO
 QM:Df K mg "rest" UH g2p A.z4m A.z4n
 Pf:Df K mg "product" Jd ["numbers"] A.OG A.OH
 Na:Df K mg "lowering" Gu g1e A.MB A.MC
 Ch:Df K mg "lowered" Je g1e A.OI A.OJ
 Pg:Df K mg "crossed" Jf g2v A.OK A.OL
 Kc:Df K mg "turned_up" Ek g2j A.JR A.JS
 Nb:Df K mg "with_row" CW g2s A.ME A.MF
 Tl:Df K mg "evened" Mk ["rungs"] A.SQ A.SR
 Fg:Df K mg "climbed" Jh g2q A.OM A.OO
 N1:Df K mg "tagged_stair" T5 g1v A.Eu A.Ev
 Dp:Df K mg "tags_of_rungs" P1 g0r A.Dl A.Dn
 Ci:Df K mg "tags_at_nought" N8 g0r A.Cb A.Cc
 ZM:Df K mg "stair" Qz g0p A.Zv A.Zw
 Bi:Df K mg "stair_with_uses" L7 g0p A.Bg A.Bh
 HZ:Df K mg "turned" HB g1r A.SS A.SU
 Nc:Df K mg "is_slant" CZ g2q A.MG A.MH
 Ia:Df K mg "rests" Kx g2a A.Zx A.Zy
 Ph:Df K mg "slanted" Z9 g2b A.OP A.OQ
 Tm:Df K mg "linked" Mm g0g A.SV A.SW
 Pi:Df K mg "chained" EZ g0u A.OR A.OS
 P9:Df K mg "measures" M8 g0p A.MI A.MJ
 QN:Df K mg "parts" Kz g0p A.Zz A.ZA
 GE:Df K mg "place_by" Da g1f A.MK A.ML
 Ib:Df K mg "baskets_by" K7 g0u A.HV A.HW
 Fh:Df K mg "shape" KA g0u A.ZB A.ZC
 Kd:Df K mg "one_shape" Em g0g A.JT A.JU
 Nd:Df K mg "table_to" AI g0g A.MM A.MN
 Pj:Df K mg "settled" Jj g0f A.OT A.OU
 z4u:Df K mg "plan" UJ g0f A.z4o A.z4p
 Tn:Df K mg "scales" HC g0p A.SX A.SY
 z4v:Df K mg "tilt" UK g2i A.z4q A.z4r
 Cj:Df K mg "measured_scale" V2 g2e A.Cd A.Ce
 To:Df K mg "denial" Mn g0f A.SZ A.Ta
 B9:Df K mg "_law_cell_at" En g1g A.JV A.JW
 Jt:Df K mg "_law_whole" Jk g2k A.OV A.OW
 Di:Df K mg "_law_is_row" Gw g1t A.MO A.MP
 Nf:Df K mg "_law_number" Gx g1w A.MQ A.MR
 Fm:Df K mg "_law_row" KB g0k A.ZD A.ZE
 Ic:Df K mg "_law_sum" HE g1b A.ZF A.ZG
 Ng:Df K mg "_law_plus" HI g0o A.Tb A.Tc
 Ju:Df K mg "_law_heavy" Jl g1h A.OX A.OY
 Pk:Df K mg "_law_leads" Jm g0m A.OZ A.Pa
 Nh:Df K mg "_law_denies" Gy g0s A.MS A.MT
 ZN:Df K mg "_law_two" HJ g0w A.ZH A.ZI
 Dj:Df K mg "_law_copied" Dc g2f A.MU A.MV
 Ie:Df K mg "_law_same" Mo g0t A.Td A.Te
 Ni:Df K mg "_law_turned" Dd g1c A.MW A.MX
 Kf:Df K mg "_law_reached" W6 g0x A.JX A.JY
 FJ:Df K mg "_law_with_ones" O7 g1a A.FG A.FH
 Pl:Df K mg "_law_other" Jo g1o A.Pb A.Pc
 Tp:Df K mg "_law_kept" HK g0j A.Tf A.Th
 f_law:Df K mg "law" Sv g0w A.a_law A.ZJ
section
variable {K:aD}{mg:aE}{P:aN}{w:aI}{base:aR}{A:Adr}
section
variable (T:Facts K mg A)
include T
theorem JL:FK P w K mg base 1 A.Mv A.Mx g1x af U3:=
 T.GD.d 0 Gf So (λhr hu=>
  (j6 (k9 (KO (Ft (T :="int") rfl rfl T.D5 rfl T.Ti (by decide +kernel) (b9 0)) (KN (pU (Ft (T :="bool") rfl rfl T.D5 rfl T.Yr (by decide +kernel) (b9 0))))))))
theorem Oo:FK P w K mg base 2 A.SH A.SI g1k af DM:=
 T.MY.d 1 Ly z0N (λhr hu=>
  (i6 (gA (PFW.pt (iE (V6 (T6 (Ft (T := "list") rfl rfl T.D5 rfl T.N0 (by decide +kernel) (b9 0)) (fun _=>rfl))) (GN (gv (gU hu) (gG J8 T.K2 (fT 0 i7)) (b9 1))))) (j6 (k9 gP)) z9)
   (j6 (k9 (gG (kh rfl) T.n_all (i8 (gO g2x 1 [] g1k (f9 Hw).names (C7 (b9 0)) (λ_ _ _ _ _=>(fR (JL T) T.GD hr (fT 0 i7)))) i7))))))
theorem De:FK P w K mg base 1 A.Ou A.Ov g2o af Q5:=
 T.Cf.d 0 IF UD (λhr hu=>
  (j6 (k9 (gO ["spot"] 1 [] g2o (f9 EV).names (x9 rfl T.A6 (b9 0)) (λ_ _ _ _ _=>j3)))))
theorem Bf:FK P w K mg base 1 A.My A.MA g1i af E7:=
 T.AL.d 0 Gg Sr (λhr hu=>
  (j6 (k9 (gO ["spot","one_at"] 1 [1] g1i (f9 CT).names (x9 rfl T.A6 (b9 0)) (λ_ _ _ _ _=>(kY (gv (gX hu) (b9 0) (b9 1)) j3 j3))))))
theorem HL:FK P w K mg base 1 A.Zm A.Zn g0g af X9:=
 T.HX.d 0 PM z2z (λhr hu=>
  (j6 (k9 (K3 (g:=(Tg.many [0,1])) (u8 (N:=g1d) (nt:=2) (js:=[]) g0g (f9 Kv).names rfl rfl rfl (by decide +kernel)) rfl (Rm rfl T.Tj (b9 0) (b9 1)) (λ_ _ _ _ _=>P4 rfl (A3 (v9 (hJ g1d) rfl (ar rfl) (aK rfl)) (A3 (v9 (hJ g1d) rfl (ar rfl) (aK rfl)) P3))) (ia [0,1] 2) (λ_ _ _ _ _=>P5) (λ_ _ _ _ _=>(fZ J1 (b9 0) (b9 1))) (ia [] 2)))))
theorem Mp:FK P w K mg base 1 A.Zo A.Zp g0g af CJ:=
 T.KD.d 0 PN z2A (λhr hu=>
  (j6 (k9 (K3 (g:=(Tg.many [0,1])) (u8 (N:=g1d) (nt:=2) (js:=[]) g0g (f9 Kw).names rfl rfl rfl (by decide +kernel)) rfl (Rm rfl T.Tj (b9 0) (b9 1)) (λ_ _ _ _ _=>P4 rfl (A3 (v9 (hJ g1d) rfl (ar rfl) (aK rfl)) (A3 (v9 (hJ g1d) rfl (ar rfl) (aK rfl)) P3))) (ia [0,1] 2) (λ_ _ _ _ _=>P5) (λ_ _ _ _ _=>(fZ KM (b9 0) (b9 1))) (ia [] 2)))))
theorem J7:FK P w K mg base 1 A.SJ A.SK g1u af C9:=
 T.L1.d 0 Lz z0O (λhr hu=>
  (j6 (k9 (gO ["number","often"] 1 [1] g1u (f9 Hx).names (C7 (b9 0)) (λ_ _ _ _ _=>(fZ AN (b9 1) (b9 0)))))))
theorem Mq:FK P w K mg base 1 A.Ow A.Ox g1m af Z3:=
 T.Js.d 0 IG UE (λhr hu=>
  (j6 (k9 (gG (oK rfl) T.n_sum (i8 (K3 (g:=(Tg.many [0,1])) (u8 (N:=g1d) (nt:=2) (js:=[]) g1m (f9 EW).names rfl rfl rfl (by decide +kernel)) rfl (Rm rfl T.Tj (b9 0) (b9 1)) (λ_ _ _ _ _=>P4 rfl (A3 (v9 (hJ g1d) rfl (ar rfl) (aK rfl)) (A3 (v9 (hJ g1d) rfl (ar rfl) (aK rfl)) P3))) (ia [0,1] 2) (λ_ _ _ _ _=>P5) (λ_ _ _ _ _=>(fZ AN (b9 0) (b9 1))) (ia [] 2)) i7)))))
theorem z2H:FK P w K mg base 2 A.Zq A.Zr g1s af EJ:=
 T.ZK.d 1 PQ Eg (λhr hu=>
  (i6 (gK 3 (fR (De T) T.Cf hr (fT 2 i7)) Eg.nd)
   (i6 (R9 (rels:=[]) (g:=(Tg.many [4,5])) ay rfl (Rm rfl T.Tj (b9 0) (b9 1)) (P4 rfl (A3 (v9 (i:=4) Eg.nd rfl (ar rfl) (ar rfl)) (A3 (v9 (i:=5) Eg.nd rfl (ar rfl) (ar rfl)) P3))) (j6 (gK 3 (fR (HL T) T.HX hr (fT 3 (i8 (fR (J7 T) T.L1 hr (fT 4 (fT 5 i7))) i7))) Eg.nd)))
   (j6 (k9 (b9 3))))))
theorem G5:FK P w K mg base 1 A.Oy A.Oz g2j af n9:=
 T.F5.d 0 II Gs (λhr hu=>
  (i6 (R9 (rels:=[]) (g:=(Tg.many [1,2])) PassesOwn.never rfl (Lb rfl T.W7 (b9 0)) (P4 rfl (A3 (v9 (i:=1) Gs.nd rfl (Or.inl rfl) (Or.inl rfl)) (A3 (v9 (i:=2) Gs.nd rfl (Or.inl rfl) (Or.inl rfl)) P3))) (j6 (gA (gv (gU hu) (b9 2) j3) (j6 (k9 (b9 1))) z9)))
   (j6 (k9 (gG J8 T.K2 (fT 0 i7))))))
theorem QC:FK P w K mg base 2 A.JN A.JO g1x af AX:=
 T.JZ.d 1 DN Qv (λhr hu=>
  (j6 (k9 (KO (fR (JL T) T.GD hr (fT 0 i7)) (KN (z4U o_le o_le j3 (b9 0) (tq rfl T.QK)))))))
theorem UN:FK P w K mg base 3 A.OA A.OB g1n af EK:=
 T.Pd.d 2 IJ UF (λhr hu=>
  (j6 (k9 (KO (fR (Oo T) T.MY hr (fT 0 (fT 1 i7))) (KN (gG (kh rfl) T.n_all (i8 (gO g2x 1 [] g1n (f9 EX).names (C7 (b9 0)) (λ_ _ _ _ _=>(ip o_lt (gG z1u T.z4s (fT 0 i7)) (fZ YC j3 j3)))) i7)))))))
theorem Nn:FK P w K mg base 3 A.HS A.HU ["kinds"] af Y3:=
 T.HY.d 2 CK Nm (λhr hu=>
  (j6 (gA (V6 (T6 (fR (QC T) T.JZ hr (fT 0 i7)) (λ_=>rfl))) (j6 Kj) z9)))
theorem QD:FK P w K mg base 4 A.JP A.JQ g2g af Q6:=
 T.Kb.d 3 DO Qw (λhr hu=>
  (j6 (gA (V6 (T6 (fR (UN T) T.Pd hr (fT 0 (fT 1 i7))) (λ_=>rfl))) (j6 Kj) z9)))
theorem UO:FK P w K mg base 1 A.OC A.OD g1q af EL:=
 T.Pe.d 0 IK UG (λhr hu=>
  (j6 (k9 (@AQ _ _ _ _ _ (@i8 _ _ _ _ _ (b9 0) (@i8 _ _ _ _ _ (gW z1t T.KC (i8 (gO g2j 1 [] g1q (f9 EY).names (C7 (b9 1)) (λ_ _ _ _ _=>(gW z1t T.KC (fT 0 i7)))) i7)) i7 rfl) rfl)))))
theorem Gz:FK P w K mg base 5 A.OE A.OF g2m af Z4:=
 T.Ff.d 4 IL Mh (λhr hu=>
  (i6 (KY (fR (Nn T) T.HY hr (fT 0 i7)))
   (i6 (gA (PFW.pt (iE (V6 (T6 (Ft (T :="list") rfl rfl T.D5 rfl T.N0 (by decide +kernel) (b9 1)) (λ_=>rfl))) (GN (gv o_gt (gG J8 T.K2 (fT 1 i7)) (tq rfl T.QJ))))) (j6 Kj) z9)
   (i6 (R9 (rels:=[]) (g:=(Tg.one 2)) ay rfl (C7 (b9 1)) (G7 Mh.nd rfl (ar rfl) (ar rfl)) (j6 (KY (fR (QD T) T.Kb hr (fT 2 (fT 0 i7))))))
   (j6 (k9 (fR (UO T) T.Pe hr (fT 0 (fT 1 i7)))))))))
theorem HM:FK P w K mg base 3 A.BZ A.Ca g1y af N5:=
 T.Cg.d 2 U4 Hy (λhr hu=>
  (j6 (gA (V6 (T6 (fR (Oo T) T.MY hr (fT 1 (fT 0 i7))) (λ_=>rfl))) (j6 Kj) z9)))
theorem Eo:FK P w K mg base 4 A.Fz A.FD g2d af O3:=
 T.Bw.d 3 Bq Mi (λhr hu=>
  (j6 (KY (fR (HM T) T.Cg hr (i8 (gi (b9 0) j3) (fT 1 i7))))))
theorem z0T:FK P w K mg base 2 A.SL A.SM g0p af Hf:=
 T.Tk.d 1 LA z0P (λhr hu=>
  (j6 (k9 (fR (De T) T.Cf hr (i8 (gi (b9 0) j3) i7)))))
theorem Sw:FK P w K mg base 5 A.Zt A.Zu g0f af EM:=
 T.QL.d 4 PR z2B (λhr hu=>
  (i6 (KY (fR (Eo T) T.Bw hr (fT 0 (fT 1 i7))))
   (i6 (KY (fR (Eo T) T.Bw hr (fT 0 (fT 2 i7))))
   (j6 (k9 (fR (Mp T) T.KD hr (fT 2 (fT 1 i7))))))))
theorem Op:FK P w K mg base 1 A.SN A.SO g1d af DP:=
 T.MZ.d 0 LB R0 (λhr hu=>
  (i6 (C8 (rels:=[]) (o7 (i:=2) (Fp (fT 0 (i8 j3 (i8 j3 i7)))) R0.nd rfl (Or.inr rfl) rfl (Or.inl rfl)))
   (i6 (C8 (rels:=[]) (o7 (i:=3) (Fp (fT 1 (i8 j3 (i8 j3 i7)))) R0.nd rfl (aK rfl) rfl (ar rfl)))
   (i6 (Pz ay (gv (gU hu) (gi (b9 3) j3) j3) (i6 (C8 (rels:=[]) (o7 (i:=4) (fZ W9 (gi (b9 2) j3) (gi (b9 3) j3)) R0.nd rfl (aK rfl) rfl (ar rfl)))
   (i6 (C8 (rels:=[]) (iB 5 R0.nd ["k","upper","often","lower"] 1 [2,4,3] g0v (f9 Ej).names (x9 rfl T.A6 j3) (λ_ _ _ _ _=>(fZ KM (gi (b9 1) (b9 0)) (fZ AN (b9 2) (gi (b9 3) (b9 0)))))))
   (i6 (C8 (rels:=[]) (o7 (i:=2) (b9 3) R0.nd rfl (aK rfl) rfl (ar rfl)))
   (j6 (C8 (rels:=[]) (o7 (i:=3) (b9 5) R0.nd rfl (aK rfl) rfl (ar rfl))))))))
   (i6 (gA (gv o_lt (gi (b9 2) j3) j3) (j6 (C8 (rels:=[]) (o7 (i:=2) (gO g2x 1 [] g0v (f9 Ej).names (C7 (b9 2)) (λ_ _ _ _ _=>(KP (b9 0)))) R0.nd rfl (aK rfl) rfl (ar rfl)))) z9)
   (j6 (k9 (gW z1t T.KC (fT 2 i7)))))))))
theorem QE:FK P w K mg base 1 A.z4m A.z4n g2p af Bs:=
 T.QM.d 0 PU z5u (λhr hu=>
  (i6 (gA (gv (gX hu) (b9 1) j3) (j6 (k9 (b9 0))) z9)
   (j6 (k9 (fZ O1 (b9 0) (b9 1))))))
theorem UP:FK P w K mg base 1 A.OG A.OH ["numbers"] af EN:=
 T.Pf.d 0 IM CV (λhr hu=>
  (i6 (gK 1 j3 CV.nd)
   (i6 (R9 (rels:=[]) (g:=(Tg.one 2)) ay rfl (C7 (b9 0)) (G7 CV.nd rfl (ar rfl) (ar rfl)) (j6 (gK 1 (fZ AN (b9 1) (b9 2)) CV.nd)))
   (j6 (k9 (b9 1))))))
theorem Sx:FK P w K mg base 2 A.MB A.MC g1e af CL:=
 T.Na.d 1 Gh M6 (λhr hu=>
  (i6 (gK 2 (gW BB T.N0 (fT 0 i7)) M6.nd)
   (i6 (Rc (o7 (i:=3) (Fp i7) M6.nd rfl (ar rfl) rfl (ar rfl)))
   (i6 (R9 (rels:=[]) (g:=(Tg.one 4)) ay rfl (C7 (b9 1)) (G7 M6.nd rfl (ar rfl) (ar rfl)) (i6 (gK 5 (fR (G5 T) T.F5 hr (fT 4 i7)) M6.nd)
   (i6 (gK 6 (fZ W9 (gi (b9 2) (b9 5)) (gi (b9 4) (b9 5))) M6.nd)
   (i6 (gA (gv (gU hu) (b9 6) j3) (j6 (gK 2 (fR (Mp T) T.KD hr (fT 2 (i8 (fR (J7 T) T.L1 hr (fT 4 (fT 6 i7))) i7))) M6.nd)) z9)
   (j6 (jA (i:=3) z1J eN F.type_list_append rfl (ar rfl) (b9 6)))))))
   (j6 (k9 (AQ (fT 3 (fT 2 i7)))))))))
theorem Dg:FK P w K mg base 3 A.OI A.OJ g1e af D8:=
 T.Ch.d 2 IN UI (λhr hu=>
  (j6 (k9 (gi (fR (Sx T) T.Na hr (fT 0 (fT 1 i7))) j3))))
theorem UQ:FK P w K mg base 2 A.OK A.OL g2v af Z5:=
 T.Pg.d 1 IP AF (λhr hu=>
  (i6 (gK 2 (fR (G5 T) T.F5 hr (fT 0 i7)) AF.nd)
   (i6 (gK 3 (fR (Op T) T.MZ hr (i8 (gi (b9 0) (b9 2)) (i8 (gi (b9 1) (b9 2)) i7))) AF.nd)
   (i6 (gK 4 (fR (HL T) T.HX hr (i8 (fR (J7 T) T.L1 hr (fT 0 (i8 (gi (b9 3) j3) i7))) (i8 (fR (J7 T) T.L1 hr (fT 1 (i8 (gi (b9 3) j3) i7))) i7))) AF.nd)
   (i6 (gK 5 (fR (Mp T) T.KD hr (i8 (fR (J7 T) T.L1 hr (fT 1 (i8 (fZ W9 (gi (b9 0) (b9 2)) (gi (b9 3) j3)) i7))) (i8 (fR (J7 T) T.L1 hr (fT 0 (i8 (fZ W9 (gi (b9 1) (b9 2)) (gi (b9 3) j3)) i7))) i7))) AF.nd)
   (j6 (k9 (AQ (fT 4 (fT 5 i7))))))))))
theorem QF:FK P w K mg base 2 A.JR A.JS g2j af G4:=
 T.Kc.d 1 DQ Qy (λhr hu=>
  (j6 (k9 (kY (gv o_lt (gi (b9 0) (fR (G5 T) T.F5 hr (fT 0 i7))) j3) (fR (J7 T) T.L1 hr (fT 0 (i8 (KP j3) i7))) (gW BB T.N0 (fT 0 i7))))))
theorem Sy:FK P w K mg base 4 A.ME A.MF g2s ab U5:=
 T.Nb.d 3 Av R1 (λhr hu=>
  (i6 (Rc (o7 (i:=2) (gW BB T.N0 (fT 0 i7)) R1.nd rfl (Or.inl rfl) rfl (Or.inl rfl)))
   (i6 (KZ (o7 (i:=3) (fR (Dg T) T.Ch hr (fT 1 (fT 2 i7))) R1.nd rfl (aK rfl) rfl (ar rfl)))
   (i6 (Pz ay (gv o_lt (fR (G5 T) T.F5 hr (fT 3 i7)) (gG J8 T.K2 (fT 3 i7))) (i6 (KZ (Rb (i:=4) (g:=(Tg.many [0,1])) R1.nd rfl rfl rfl (u8 (N:=g2c) (nt:=2) (js:=[3]) g1j (f9 CW).names rfl rfl rfl (by decide +kernel)) rfl (Lb rfl T.W7 (b9 2)) (λ_ _ _ _ _=>P4 rfl (A3 (v9 (hJ g2c) rfl (ar rfl) (aK rfl)) (A3 (v9 (hJ g2c) rfl (ar rfl) (aK rfl)) P3))) (ia [0,1] 2) (λ_ _ _ _ _=>(FQ (gv (gX hu) (fR (G5 T) T.F5 hr (fT 1 i7)) (fR (G5 T) T.F5 hr (fT 2 i7))))) (λ_ _ _ _ _=>(b9 0)) (ia [3] 6)))
   (i6 (gA (gv (gX hu) (gG J8 T.K2 (fT 4 i7)) j3) (j6 (k9 (z54 (G5 T) (hr.mono (by decide)) rfl T.z4t T.F5.mg rfl T.F5.bd (fZ J1 (b9 2) (@Fp _ _ _ _ (@i8 _ _ _ _ _ (fR (QF T) T.Kc hr (fT 3 i7)) i7 rfl)))))) z9)
   (i6 (KZ (o7 (i:=5) (fR (UQ T) T.Pg hr (i8 (gi (b9 2) (gi (b9 4) j3)) (fT 3 i7))) R1.nd rfl (ar rfl) rfl (ar rfl)))
   (i6 (pY (i:=2) rfl (ar rfl) (gi (b9 4) j3) (gi (b9 5) j3))
   (j6 (KZ (o7 (i:=3) (fR (Dg T) T.Ch hr (i8 (gi (b9 5) j3) (fT 2 i7))) R1.nd rfl (aK rfl) rfl (ar rfl)))))))))
   (j6 (k9 (b9 2)))))))
theorem z0U:FK P w K mg base 4 A.SQ A.SR ["rungs"] af DR:=
 T.Tl.d 3 LC Jg (λhr hu=>
  (i6 (Rc (o7 (i:=1) (Fp i7) Jg.nd rfl (Or.inl rfl) rfl (Or.inl rfl)))
   (i6 (R9 (rels:=[]) (g:=(Tg.one 2)) ay rfl (oA rfl T.Ys (b9 0)) (G7 Jg.nd rfl (ar rfl) (ar rfl)) (j6 (kI (i:=1) rfl (ar rfl) (fR (Dg T) T.Ch hr (fT 2 (fT 1 i7))))))
   (j6 (k9 (b9 1))))))
theorem GA:FK P w K mg base 5 A.OM A.OO g2q af Q7:=
 T.Fg.d 4 IQ CY (λhr hu=>
  (i6 (gK 1 (Fp i7) CY.nd)
   (i6 (R9 (rels:=[]) (g:=(Tg.one 2)) ay rfl (C7 (b9 0)) (G7 CY.nd rfl (ar rfl) (ar rfl)) (j6 (gK 1 (fR (z0U T) T.Tl hr (i8 (fR (Sy T) T.Nb hr (fT 1 (fT 2 i7))) i7)) CY.nd)))
   (j6 (k9 (b9 1))))))
theorem P2:FK P w K mg base 6 A.Eu A.Ev g1v af B6:=
 T.N1.d 5 T0 Ki (λhr hu=>
  (j6 (k9 (fR (GA T) T.Fg hr (i8 (K3 (g:=(Tg.many [0,1])) (u8 (N:=g2y) (nt:=2) (js:=[]) g1v (f9 T5).names rfl rfl rfl (by decide +kernel)) rfl (Rm rfl T.Tj (b9 0) (b9 1)) (λ_ _ _ _ _=>P4 rfl (A3 (v9 (hJ g2y) rfl (ar rfl) (aK rfl)) (A3 (v9 (hJ g2y) rfl (ar rfl) (aK rfl)) P3))) (ia [0,1] 2) (λ_ _ _ _ _=>P5) (λ_ _ _ _ _=>(fZ J1 (gW BB T.N0 (fT 0 i7)) (gW BB T.N0 (fT 1 i7)))) (ia [] 2)) i7)))))
theorem Jp:FK P w K mg base 2 A.Dl A.Dn g0r af P0:=
 T.Dp.d 1 X2 Ji (λhr hu=>
  (j6 (k9 (K3 (g:=(Tg.one 0)) (u8 (N:=g2h) (nt:=1) (js:=[1]) g0r (f9 P1).names rfl rfl rfl (by decide +kernel)) rfl (C7 (b9 0)) (λ_ _ _ _ _=>G7 (hJ g2h) rfl (ar rfl) (aK rfl)) (show 0<1 by decide) (λ_ _ _ _ _=>(FQ (gv o_lt (fR (G5 T) T.F5 hr (fT 0 i7)) (b9 1)))) (λ_ _ _ _ _=>(N2 (b9 0) (T9 (b9 1)) T8)) (ia [1] 2)))))
theorem HN:FK P w K mg base 2 A.Cb A.Cc g0r af D3:=
 T.Ci.d 1 U6 Hz (λhr hu=>
  (j6 (k9 (K3 (g:=(Tg.one 0)) (u8 (N:=g2h) (nt:=1) (js:=[1]) g0r (f9 N8).names rfl rfl rfl (by decide +kernel)) rfl (C7 (b9 0)) (λ_ _ _ _ _=>G7 (hJ g2h) rfl (ar rfl) (aK rfl)) (show 0<1 by decide) (λ_ _ _ _ _=>(FQ (gv o_ge (fR (G5 T) T.F5 hr (fT 0 i7)) (b9 1)))) (λ_ _ _ _ _=>(N2 (b9 0) (T9 (b9 1)) T8)) (ia [1] 2)))))
theorem z2I:FK P w K mg base 6 A.Zv A.Zw g0p af AY:=
 T.ZM.d 5 PV z2C (λhr hu=>
  (j6 (k9 (fR (GA T) T.Fg hr (i8 (gi (b9 0) j3) i7)))))
theorem GB:FK P w K mg base 7 A.Bg A.Bh g0p af B5:=
 T.Bi.d 6 T1 AG (λhr hu=>
  (i6 (C8 (rels:=[]) (o7 (i:=1) (gG J8 T.K2 (i8 (gi (b9 0) j3) i7)) AG.nd rfl (Or.inr rfl) rfl (Or.inl rfl)))
   (j6 (k9 (fR (P2 T) T.N1 hr (i8 (gi (b9 0) j3) (i8 (gO ["place","many"] 1 [1] ["hall","many"] (f9 L7).names (x9 rfl T.A6 (b9 1)) (λ_ _ _ _ _=>(fR (Bf T) T.AL hr (fT 1 (fT 0 i7))))) i7)))))))
theorem Jq:FK P w K mg base 1 A.SS A.SU g1r af W5:=
 T.HZ.d 0 LD z0Q (λhr hu=>
  (j6 (k9 (K3 (g:=(Tg.one 0)) (u8 (N:=g2t) (nt:=1) (js:=[0]) g1r (f9 HB).names rfl rfl rfl (by decide +kernel)) rfl (x9 rfl T.A6 (b9 1)) (λ_ _ _ _ _=>G7 (hJ g2t) rfl (aK rfl) (ar rfl)) (show 0<1 by decide) (λ_ _ _ _ _=>P5) (λ_ _ _ _ _=>(K3 (g:=(Tg.one 0)) (by exact u8 (N:=["row","spot"]) (nt:=1) (js:=[0]) g2t [(".0",.local),("spot",.cell),("rows",.cell)] rfl rfl rfl (by decide +kernel)) rfl (C7 (b9 1)) (λ_ _ _ _ _=>G7 (hJ ["row","spot"]) rfl (ar rfl) (aK rfl)) (show 0<1 by decide) (λ_ _ _ _ _=>P5) (λ_ _ _ _ _=>(gi (b9 0) (b9 1))) (ia [0] 2))) (ia [0] 2)))))
theorem SA:FK P w K mg base 2 A.MG A.MH g2q af P7:=
 T.Nc.d 1 CM El (λhr hu=>
  (i6 (R9 (rels:=[]) (g:=(Tg.many [1,2])) PassesOwn.never rfl (Lb rfl T.W7 (b9 0)) (P4 rfl (A3 (v9 (i:=1) El.nd rfl (Or.inl rfl) (Or.inl rfl)) (A3 (v9 (i:=2) El.nd rfl (Or.inl rfl) (Or.inl rfl)) P3))) (j6 (gA (PFW.pt (iE (gv (gU hu) (fR (G5 T) T.F5 hr (fT 2 i7)) (b9 1)) (GN (T6 (gG (oM rfl) T.n_any (i8 (gO g2x 1 [] ["rows", "place", "row"] (f9 CZ).names (C7 (N2 (b9 2) (T9 (fZ J1 (b9 1) j3)) T8)) (fun _ _ _ _ _=>(ip (gU hu) (b9 0) j3))) i7)) (fun _=>rfl))))) (j6 (k9 gP)) z9)))
   (j6 (k9 gP))))
theorem HP:FK P w K mg base 2 A.Zx A.Zy g2a af V5:=
 T.Ia.d 1 PX z2D (λhr hu=>
  (j6 (k9 (gO ["number","part"] 1 [1] g2a (f9 Kx).names (C7 (b9 0)) (λ_ _ _ _ _=>(fR (QE T) T.QM hr (fT 0 (fT 1 i7))))))))
theorem UR:FK P w K mg base 7 A.OP A.OQ g2b ab EO:=
 T.Ph.d 6 BR M7 (λhr hu=>
  (i6 (C8 (rels:=[]) (o7 (i:=3) (gG J8 T.K2 (fT 0 i7)) M7.nd rfl (Or.inr rfl) rfl (Or.inl rfl)))
   (i6 (C8 (rels:=[]) (o7 (i:=4) (b9 0) M7.nd rfl (aK rfl) rfl (ar rfl)))
   (i6 (gK 5 (b9 1) M7.nd)
   (i6 (Pz ay (V6 (T6 (fR (SA T) T.Nc hr (fT 4 i7)) (λ_=>rfl))) (i6 (gK 6 (fR (Jq T) T.HZ hr (i8 (fR (GA T) T.Fg hr (i8 (fR (Jq T) T.HZ hr (fT 4 (fT 3 i7))) i7)) (fT 3 i7))) M7.nd)
   (i6 (gK 7 (fR (P2 T) T.N1 hr (fT 6 (fT 5 i7))) M7.nd)
   (i6 (C8 (rels:=[]) (o7 (i:=4) (gO g2w 1 [3] g0h (f9 Z9).names (C7 (b9 7)) (λ_ _ _ _ _=>(N2 (b9 0) T8 (T9 (b9 1))))) M7.nd rfl (aK rfl) rfl (ar rfl)))
   (j6 (C8 (rels:=[]) (iB 5 M7.nd ["row","many","whole"] 1 [3,2] g0h (f9 Z9).names (C7 (b9 7)) (λ_ _ _ _ _=>(fR (HP T) T.Ia hr (i8 (N2 (b9 0) (T9 (b9 1)) T8) (fT 2 i7)))))))))))
   (j6 (k9 (K3 (g:=(Tg.many [0,1])) (u8 (N:=g1z) (nt:=2) (js:=[4]) g0h (f9 Z9).names rfl rfl rfl (by decide +kernel)) rfl (Lb rfl T.W7 (b9 5)) (λ_ _ _ _ _=>P4 rfl (A3 (v9 (hJ g1z) rfl (ar rfl) (aK rfl)) (A3 (v9 (hJ g1z) rfl (ar rfl) (aK rfl)) P3))) (ia [0,1] 2) (λ_ _ _ _ _=>P5) (λ_ _ _ _ _=>(AQ (fT 1 (i8 (gi (gi (b9 2) (b9 0)) (b9 0)) i7)))) (ia [4] 8)))))))))
theorem z0V:FK P w K mg base 3 A.SV A.SW g0g af Aw:=
 T.Tm.d 2 DS Aa (λhr hu=>
  (i6 (gK 2 (fR (Op T) T.MZ hr (i8 (gi (b9 0) j3) (i8 (gi (b9 1) j3) i7))) Aa.nd)
   (i6 (gK 3 (gi (b9 2) j3) Aa.nd)
   (i6 (gK 4 (fZ AN (fZ W9 (gi (b9 0) j3) (b9 3)) (gi (b9 1) j3)) Aa.nd)
   (i6 (gK 5 (fR (HL T) T.HX hr (i8 (gi (b9 0) j3) (i8 (gi (b9 1) j3) i7))) Aa.nd)
   (i6 (gK 6 (fR (HL T) T.HX hr (i8 (fR (J7 T) T.L1 hr (i8 (gi (b9 0) j3) (i8 (fZ AN (KP (gi (b9 2) j3)) (fZ W9 (gi (b9 1) j3) (b9 3))) i7))) (i8 (fR (J7 T) T.L1 hr (i8 (gi (b9 1) j3) (i8 (fZ AN (gi (b9 2) j3) (fZ W9 (gi (b9 0) j3) (b9 3))) i7))) i7))) Aa.nd)
   (j6 (k9 (@AQ _ _ _ _ _ (@i8 _ _ _ _ _ (@AQ _ _ _ _ _ (@i8 _ _ _ _ _ (fR (HP T) T.Ia hr (fT 5 (fT 3 i7))) (@i8 _ _ _ _ _ (b9 3) i7 rfl) rfl)) (@i8 _ _ _ _ _ (@AQ _ _ _ _ _ (@i8 _ _ _ _ _ (fR (HP T) T.Ia hr (fT 6 (fT 4 i7))) (@i8 _ _ _ _ _ (b9 4) i7 rfl) rfl)) i7 rfl) rfl))))))))))
theorem US:FK P w K mg base 4 A.OR A.OS g0u af Z6:=
 T.Pi.d 3 BS AH (λhr hu=>
  (i6 (Rc (o7 (i:=1) (gW BB T.N0 (fT 0 i7)) AH.nd rfl (Or.inl rfl) rfl (Or.inl rfl)))
   (i6 (tL (g:=(Tg.one 2)) ay rfl (z08 rfl T.A6 (gG J8 T.K2 (fT 1 i7))) (G7 AH.nd rfl (ar rfl) (ar rfl)) (j6 (tL (g:=(Tg.one 3)) ay rfl (z09 rfl T.A6 (fZ J1 (b9 2) j3) (gG J8 T.K2 (fT 1 i7))) (G7 AH.nd rfl (ar rfl) (ar rfl)) (i6 (KZ (o7 (i:=4) (fR (z0V T) T.Tm hr (i8 (gi (b9 1) (b9 2)) (i8 (gi (b9 1) (b9 3)) i7))) AH.nd rfl (ar rfl) rfl (ar rfl)))
   (i6 (pY (i:=1) rfl (ar rfl) (b9 2) (gi (b9 4) j3))
   (j6 (pY (i:=1) rfl (ar rfl) (b9 3) (gi (b9 4) j3))))))))
   (j6 (k9 (K3 (g:=(Tg.many [0,1])) (u8 (N:=g0n) (nt:=2) (js:=[]) g1l (f9 EZ).names rfl rfl rfl (by decide +kernel)) rfl (C7 (b9 1)) (λ_ _ _ _ _=>P4 rfl (A3 (v9 (hJ g0n) rfl (ar rfl) (aK rfl)) (A3 (v9 (hJ g0n) rfl (ar rfl) (aK rfl)) P3))) (ia [0,1] 2) (λ_ _ _ _ _=>P5) (λ_ _ _ _ _=>(@AQ _ _ _ _ _ (@i8 _ _ _ _ _ (fR (HP T) T.Ia hr (fT 0 (fT 1 i7))) (@i8 _ _ _ _ _ (b9 1) i7 rfl) rfl))) (ia [] 5)))))))
theorem R5:FK P w K mg base 8 A.MI A.MJ g0p ab r8:=
 T.P9.d 7 Ax K1 (λhr hu=>
  (i6 (C8 (rels:=[]) (o7 (i:=1) (gi (b9 0) j3) K1.nd rfl (Or.inr rfl) rfl (Or.inl rfl)))
   (i6 (gK 2 (fR (z2I T) T.ZM hr (fT 0 i7)) K1.nd)
   (i6 (C8 (rels:=[]) (o7 (i:=3) (gG J8 T.K2 (fT 2 i7)) K1.nd rfl (aK rfl) rfl (ar rfl)))
   (i6 (gK 4 (fR (P2 T) T.N1 hr (i8 (fR (Jq T) T.HZ hr (fT 2 (fT 1 i7))) (i8 (gO g2r 1 [1] g0b (f9 M8).names (x9 rfl T.A6 (b9 1)) (λ_ _ _ _ _=>(fR (Bf T) T.AL hr (fT 1 (fT 0 i7))))) i7))) K1.nd)
   (i6 (C8 (rels:=[]) (iB 5 K1.nd g2w 1 [3] g0b (f9 M8).names (C7 (N2 (b9 4) T8 (T9 (b9 3)))) (λ_ _ _ _ _=>(N2 (b9 0) T8 (T9 (b9 1))))))
   (i6 (gK 6 (fR (UP T) T.Pf hr (i8 (K3 (g:=(Tg.many [0,1])) (u8 (N:=g2u) (nt:=2) (js:=[]) g0b (f9 M8).names rfl rfl rfl (by decide +kernel)) rfl (Lb rfl T.W7 (b9 5)) (λ_ _ _ _ _=>P4 rfl (A3 (v9 (hJ g2u) rfl (ar rfl) (aK rfl)) (A3 (v9 (hJ g2u) rfl (ar rfl) (aK rfl)) P3))) (ia [0,1] 2) (λ_ _ _ _ _=>P5) (λ_ _ _ _ _=>(gi (b9 1) (b9 0))) (ia [] 8)) i7)) K1.nd)
   (i6 (gK 7 (fR (UR T) T.Ph hr (fT 5 (i8 (gO g2w 1 [3] g0b (f9 M8).names (C7 (N2 (b9 4) T8 (T9 (b9 3)))) (λ_ _ _ _ _=>(N2 (b9 0) (T9 (b9 1)) T8))) (fT 6 i7)))) K1.nd)
   (j6 (k9 (fZ J1 (fR (US T) T.Pi hr (fT 7 i7)) (gO ["weights"] 1 [] g0b (f9 M8).names (C7 (fR (HN T) T.Ci hr (fT 4 (fT 3 i7)))) (λ_ _ _ _ _=>(AQ (fT 0 (i8 j3 i7))))))))))))))))
theorem SB:FK P w K mg base 9 A.Zz A.ZA g0p af EQ:=
 T.QN.d 8 PY z2E (λhr hu=>
  (j6 (k9 (K3 (g:=(Tg.many [0,1])) (u8 (N:=g0n) (nt:=2) (js:=[]) g0p (f9 Kz).names rfl rfl rfl (by decide +kernel)) rfl (C7 (fR (R5 T) T.P9 hr (fT 0 i7))) (λ_ _ _ _ _=>P4 rfl (A3 (v9 (hJ g0n) rfl (ar rfl) (aK rfl)) (A3 (v9 (hJ g0n) rfl (ar rfl) (aK rfl)) P3))) (ia [0,1] 2) (λ_ _ _ _ _=>P5) (λ_ _ _ _ _=>(b9 1)) (ia [] 1)))))
theorem JM:FK P w K mg base 2 A.MK A.ML g1f af M4:=
 T.GE.d 1 Gi Ss (λhr hu=>
  (j6 (k9 (K3 (g:=(Tg.many [0,1])) (u8 (N:=g1p) (nt:=2) (js:=[1]) g1f (f9 Da).names rfl rfl rfl (by decide +kernel)) rfl (C7 (b9 0)) (λ_ _ _ _ _=>P4 rfl (A3 (v9 (hJ g1p) rfl (ar rfl) (aK rfl)) (A3 (v9 (hJ g1p) rfl (ar rfl) (aK rfl)) P3))) (ia [0,1] 2) (λ_ _ _ _ _=>P5) (λ_ _ _ _ _=>(fR (QE T) T.QM hr (i8 (fR (Mq T) T.Js hr (fT 2 (fT 0 i7))) (fT 1 i7)))) (ia [1] 2)))))
theorem Np:FK P w K mg base 7 A.HV A.HW g0u af Y4:=
 T.Ib.d 6 CN L4 (λhr hu=>
  (i6 (C8 (rels:=[]) (o7 (i:=1) (gG J8 T.K2 (fT 0 i7)) L4.nd rfl (Or.inr rfl) rfl (Or.inl rfl)))
   (i6 (C8 (rels:=[]) (o7 (i:=2) (gO g2r 1 [1] g0i (f9 K7).names (x9 rfl T.A6 (b9 1)) (λ_ _ _ _ _=>(fR (Bf T) T.AL hr (fT 1 (fT 0 i7))))) L4.nd rfl (aK rfl) rfl (ar rfl)))
   (i6 (C8 (rels:=[]) (iB 3 L4.nd ["basket","measured"] 1 [0] g0i (f9 K7).names (C7 (b9 2)) (λ_ _ _ _ _=>(fR (JM T) T.GE hr (fT 1 (fT 0 i7))))))
   (i6 (C8 (rels:=[]) (iB 4 L4.nd ["spot","ones","measured"] 1 [2,0] g0i (f9 K7).names (x9 rfl T.A6 (b9 1)) (λ_ _ _ _ _=>(fR (J7 T) T.L1 hr (i8 (gi (b9 1) (b9 0)) (i8 (gi (gi (b9 2) (b9 0)) j3) i7))))))
   (i6 (gK 5 (fR (P2 T) T.N1 hr (i8 (fZ J1 (b9 3) (b9 4)) (i8 (fZ J1 (b9 2) (gO g2r 1 [1] g0i (f9 K7).names (x9 rfl T.A6 (b9 1)) (λ_ _ _ _ _=>(fR (De T) T.Cf hr (fT 1 i7))))) i7))) L4.nd)
   (j6 (k9 (fR (Jp T) T.Dp hr (fT 5 (fT 1 i7)))))))))))
theorem Ep:FK P w K mg base 1 A.ZB A.ZC g0u af AZ:=
 T.Fh.d 0 Ko z2F (λhr hu=>
  (j6 (k9 (K3 (g:=(Tg.many [0,1])) (u8 (N:=g0n) (nt:=2) (js:=[]) g0u (f9 KA).names rfl rfl rfl (by decide +kernel)) rfl (C7 (b9 0)) (λ_ _ _ _ _=>P4 rfl (A3 (v9 (hJ g0n) rfl (ar rfl) (aK rfl)) (A3 (v9 (hJ g0n) rfl (ar rfl) (aK rfl)) P3))) (ia [0,1] 2) (λ_ _ _ _ _=>(FQ (gv (gU hu) (b9 1) j3))) (λ_ _ _ _ _=>(b9 1)) (ia [] 1)))))
theorem QG:FK P w K mg base 9 A.JT A.JU g0g af Bb:=
 T.Kd.d 8 Ba QA (λhr hu=>
  (j6 (k9 (ip (gX hu) (fR (Ep T) T.Fh hr (i8 (fR (R5 T) T.P9 hr (fT 0 i7)) i7)) (fR (Ep T) T.Fh hr (i8 (fR (R5 T) T.P9 hr (fT 1 i7)) i7))))))
theorem SC:FK P w K mg base 9 A.MM A.MN g0g af Ay:=
 T.Nd.d 8 CO R3 (λhr hu=>
  (i6 (C8 (rels:=[]) (o7 (i:=2) (fR (R5 T) T.P9 hr (fT 0 i7)) R3.nd rfl (Or.inr rfl) rfl (Or.inl rfl)))
   (i6 (gK 3 (fR (R5 T) T.P9 hr (fT 1 i7)) R3.nd)
   (i6 (gA (gv (gU hu) (fR (Ep T) T.Fh hr (fT 2 i7)) (fR (Ep T) T.Fh hr (fT 3 i7))) (j6 (k9 GK)) z9)
   (i6 (C8 (rels:=[]) (o7 (i:=4) (gG J8 T.K2 (i8 (fR (Ep T) T.Fh hr (fT 2 i7)) i7)) R3.nd rfl (aK rfl) rfl (ar rfl)))
   (i6 (C8 (rels:=[]) (o7 (i:=5) (N2 (fR (Np T) T.Ib hr (fT 3 i7)) (T9 (fZ KM (gi (b9 1) j3) (b9 4))) T8) R3.nd rfl (aK rfl) rfl (ar rfl)))
   (i6 (C8 (rels:=[]) (iB 6 R3.nd ["spot","ours","one"] 1 [2,0] g0q (f9 AI).names (x9 rfl T.A6 (gi (b9 0) j3)) (λ_ _ _ _ _=>(fR (JM T) T.GE hr (fT 1 (i8 (fR (Bf T) T.AL hr (i8 (gi (b9 2) j3) (fT 0 i7))) i7))))))
   (j6 (k9 (gO ["numbers","baskets","one","many","other"] 1 [5,0,4,1] g0q (f9 AI).names (C7 (b9 6)) (λ_ _ _ _ _=>(fR (z2H T) T.ZK hr (fT 1 (i8 (N2 (b9 0) (T9 (fZ KM (gi (b9 2) j3) (b9 3))) T8) (i8 (gi (b9 4) j3) i7)))))))))))))))
theorem UT:FK P w K mg base 8 A.OT A.OU g0f af ER:=
 T.Pj.d 7 IR Gv (λhr hu=>
  (i6 (gK 3 (fR (J7 T) T.L1 hr (i8 (fR (Sw T) T.QL hr (fT 0 (fT 1 (fT 2 i7)))) (i8 (KP j3) i7))) Gv.nd)
   (i6 (gK 4 (fR (Dg T) T.Ch hr (i8 (fZ J1 (b9 3) (fR (De T) T.Cf hr (i8 (gG J8 T.K2 (i8 (gi (b9 0) j3) i7)) i7))) (i8 (fR (GB T) T.Bi hr (fT 0 i7)) i7))) Gv.nd)
   (i6 (gA (gv (gU hu) (N2 (b9 4) T8 (T9 (gi (b9 0) j3))) (fR (z0T T) T.Tk hr (fT 0 i7))) (j6 (k9 GK)) z9)
   (j6 (k9 (N2 (b9 4) (T9 (gi (b9 0) j3)) T8)))))))
theorem z5x:FK P w K mg base 9 A.z4o A.z4p g0f af IS:=
 T.z4u.d 8 PZ z5v (λhr hu=>
  (j6 (k9 (fR (UT T) T.Pj hr (fT 0 (fT 1 (fT 2 i7)))))))
theorem z0W:FK P w K mg base 9 A.SX A.SY g0p ab T2:=
 T.Tn.d 8 DT z0R (λhr hu=>
  (j6 (k9 (K3 (g:=(Tg.many [0,1])) (u8 (N:=g0n) (nt:=2) (js:=[]) g0p (f9 HC).names rfl rfl rfl (by decide +kernel)) rfl (C7 (fR (R5 T) T.P9 hr (fT 0 i7))) (λ_ _ _ _ _=>P4 rfl (A3 (v9 (hJ g0n) rfl (ar rfl) (aK rfl)) (A3 (v9 (hJ g0n) rfl (ar rfl) (aK rfl)) P3))) (ia [0,1] 2) (λ_ _ _ _ _=>(FQ (gv (gU hu) (b9 1) j3))) (λ_ _ _ _ _=>(AQ (fT 0 (fT 1 i7)))) (ia [] 1)))))
theorem z5y:FK P w K mg base 2 A.z4q A.z4r g2i af DU:=
 T.z4v.d 1 Ug z5w (λhr hu=>
  (j6 (k9 (fR (QE T) T.QM hr (i8 (fR (Mq T) T.Js hr (fT 0 (i8 (gi (b9 1) j3) i7))) (i8 (gi (b9 1) j3) i7))))))
theorem HQ:FK P w K mg base 1 A.Cd A.Ce g2e ab J3:=
 T.Cj.d 0 U7 HD (λhr hu=>
  (j6 (k9 (@AQ _ _ _ _ _ (@i8 _ _ _ _ _ (gi (b9 0) j3) (@i8 _ _ _ _ _ (kY (gv (gX hu) (gi (b9 0) j3) j3) (fZ J1 (gG z1u T.z4s (fT 1 i7)) j3) (gi (b9 0) j3)) i7 rfl) rfl)))))
theorem z0X:FK P w K mg base 10 A.SZ A.Ta g0f ab Az:=
 T.To.d 9 BU Fd (λhr hu=>
  (i6 (gK 3 (fR (Sw T) T.QL hr (fT 0 (fT 1 (fT 2 i7)))) Fd.nd)
   (i6 (R9 (rels:=[]) (g:=(Tg.one 4)) ay rfl (C7 (fR (z0W T) T.Tn hr (fT 0 i7))) (G7 Fd.nd rfl (ar rfl) (ar rfl)) (i6 (gK 5 (fR (z5y T) T.z4v hr (fT 3 (fT 4 i7))) Fd.nd)
   (j6 (gA (gv (gU hu) (b9 5) j3) (j6 (k9 (fR (HQ T) T.Cj hr (fT 4 (fT 5 i7))))) z9))))
   (j6 (k9 GK)))))
theorem B7:FK P w K mg base 1 A.JV A.JW g1g af o0:=
 T.B9.d 0 DV QB (λhr hu=>
  (i6 (gA (gv o_lt (b9 1) (gG J8 T.K2 (fT 0 i7))) (j6 (k9 (gi (b9 0) (b9 1)))) z9)
   (i6 (gA (gv (gX hu) (b9 0) (Fp i7)) (j6 (k9 j3)) z9)
   (j6 (k9 (fZ J1 (fZ AN (gi (b9 0) (fZ O1 (b9 1) (gG J8 T.K2 (fT 0 i7)))) j3) (b9 1)))))))
theorem Mr:FK P w K mg base 1 A.OV A.OW g2k af N6:=
 T.Jt.d 0 ES UL (λhr hu=>
  (j6 (k9 (KO (Ft (T :="int") rfl rfl T.D5 rfl T.Ti (by decide +kernel) (b9 0)) (KN (pU (Ft (T :="bool") rfl rfl T.D5 rfl T.Yr (by decide +kernel) (b9 0))))))))
theorem Er:FK P w K mg base 2 A.MO A.MP g1t af P8:=
 T.Di.d 1 Gj JJ (λhr hu=>
  (i6 (gA (PFW.pt (iE (V6 (T6 (Ft (T := "list") rfl rfl T.D5 rfl T.N0 (by decide +kernel) (b9 0)) (fun _=>rfl))) (GN (gv (gU hu) (gG J8 T.K2 (fT 0 i7)) (b9 1))))) (j6 (k9 gP)) z9)
   (i6 (R9 (rels:=[]) (g:=(Tg.one 2)) ay rfl (C7 (b9 0)) (G7 JJ.nd rfl (ar rfl) (ar rfl)) (j6 (gA (V6 (T6 (fR (Mr T) T.Jt hr (fT 2 i7)) (λ_=>rfl))) (j6 (k9 gP)) z9)))
   (j6 (k9 gP)))))
theorem SD:FK P w K mg base 1 A.MQ A.MR g1w af U8:=
 T.Nf.d 0 AA Be (λhr hu=>
  (i6 (gA (gv (gX hu) (b9 1) j3) (i6 (gK 2 (fZ O1 (b9 0) (fZ YC j3 j3)) Be.nd)
   (i6 (gA (gv (gX hu) (fZ O1 (fZ W9 (b9 0) (fZ YC j3 j3)) j3) j3) (j6 (k9 (KP (b9 2)))) z9)
   (j6 (k9 (b9 2))))) z9)
   (i6 (gK 3 (gi (Fp (i8 j3 (i8 j3 i7))) (b9 1)) Be.nd)
   (i6 (gK 2 (fZ O1 (b9 0) (b9 3)) Be.nd)
   (i6 (gA (gv o_gt (b9 2) (fZ W9 (b9 3) j3)) (j6 (k9 (fZ KM (b9 2) (b9 3)))) z9)
   (j6 (k9 (b9 2))))))))
theorem Es:FK P w K mg base 2 A.ZD A.ZE g0k af T3:=
 T.Fm.d 1 Qb z2G (λhr hu=>
  (j6 (k9 (gO ["_law_k","_law_script","_law_at","_law_mode"] 1 [0,1,3] g0k (f9 KB).names (x9 rfl T.A6 (b9 2)) (λ_ _ _ _ _=>(fR (SD T) T.Nf hr (i8 (fR (B7 T) T.B9 hr (fT 1 (i8 (fZ J1 (b9 2) (b9 0)) i7))) (fT 3 i7))))))))
theorem HR:FK P w K mg base 1 A.ZF A.ZG g1b af T4:=
 T.Ic.d 0 Qc HG (λhr hu=>
  (i6 (C8 (rels:=[]) (o7 (i:=3) (gO ["_law_k"] 1 [] ["_law_size", "_law_rows", "_law_times", "_law_made", "_law_j"] (f9 HE).names (x9 rfl T.A6 (b9 0)) (fun _ _ _ _ _=>j3)) HG.nd rfl (Or.inr rfl) rfl (Or.inl rfl)))
   (i6 (R9 (rels:=[]) (g:=(Tg.one 4)) ay rfl (x9 rfl T.A6 (gG J8 T.K2 (fT 1 i7))) (G7 HG.nd rfl (aK rfl) (ar rfl)) (j6 (C8 (rels:=[]) (o7 (i:=3) (gO ["_law_k","_law_made","_law_times","_law_j","_law_rows"] 1 [3,2,4,1] g0z (f9 HE).names (x9 rfl T.A6 (b9 0)) (λ_ _ _ _ _=>(fZ J1 (gi (b9 1) (b9 0)) (fZ AN (gi (b9 2) (b9 3)) (gi (gi (b9 4) (b9 3)) (b9 0)))))) HG.nd rfl (aK rfl) rfl (ar rfl)))))
   (j6 (k9 (b9 3))))))
theorem Oq:FK P w K mg base 1 A.Tb A.Tc g0o af DW:=
 T.Ng.d 0 LG z0S (λhr hu=>
  (j6 (k9 (gO ["_law_k","_law_one","_law_times","_law_other_here"] 1 [0,2,1] g0o (f9 HI).names (x9 rfl T.A6 (gG J8 T.K2 (fT 0 i7))) (λ_ _ _ _ _=>(fZ J1 (gi (b9 1) (b9 0)) (fZ AN (b9 2) (gi (b9 3) (b9 0)))))))))
theorem Mt:FK P w K mg base 1 A.OX A.OY g1h af U9:=
 T.Ju.d 0 IT Db (λhr hu=>
  (i6 (gK 2 j3 Db.nd)
   (i6 (R9 (rels:=[]) (g:=(Tg.one 3)) ay rfl (x9 rfl T.A6 (gG J8 T.K2 (fT 1 i7))) (G7 Db.nd rfl (ar rfl) (ar rfl)) (j6 (gK 2 (fZ J1 (b9 2) (fZ AN (gi (b9 0) (b9 3)) (gi (b9 1) (b9 3)))) Db.nd)))
   (j6 (k9 (b9 2))))))
theorem UV:FK P w K mg base 3 A.OZ A.Pa g0m af BV:=
 T.Pk.d 2 IU UM (λhr hu=>
  (i6 (gA (V6 (T6 (fR (Er T) T.Di hr (fT 3 (i8 (gG J8 T.K2 (fT 0 i7)) i7))) (fun _=>rfl))) (j6 (k9 gP)) z9)
   (j6 (k9 (ip (gX hu) (fR (Oq T) T.Ng hr (fT 1 (i8 (fR (HR T) T.Ic hr (i8 (gG J8 T.K2 (fT 1 i7)) (fT 0 (fT 3 i7)))) (i8 j3 i7)))) (b9 2))))))
theorem SE:FK P w K mg base 3 A.MS A.MT g0s af AB:=
 T.Nh.d 2 Gk JK (λhr hu=>
  (i6 (gA (PFW.pt (iE (V6 (T6 (Ft (T := "tuple") rfl rfl T.D5 rfl T.KC (by decide +kernel) (b9 3)) (fun _=>rfl))) (iE (gv (gU hu) (gG J8 T.K2 (fT 3 i7)) j3) (GN (V6 (T6 (fR (Mr T) T.Jt hr (i8 (gi (b9 3) j3) i7)) (fun _=>rfl))))))) (j6 (k9 gP)) z9)
   (i6 (gA (PFW.pt (iE (V6 (T6 (fR (Er T) T.Di hr (i8 (gi (b9 3) j3) (i8 (gG J8 T.K2 (fT 1 i7)) i7))) (λ_=>rfl))) (GN (gv o_lt (gi (b9 3) j3) j3)))) (j6 (k9 gP)) z9)
   (i6 (R9 (rels:=[]) (g:=(Tg.one 4)) ay rfl (C7 (b9 0)) (G7 JK.nd rfl (ar rfl) (ar rfl)) (j6 (gA (gv (gU hu) (fZ O1 (fR (Mt T) T.Ju hr (i8 (gi (b9 3) j3) (fT 4 i7))) (gi (b9 3) j3)) j3) (j6 (k9 gP)) z9)))
   (j6 (k9 (ip (gU hu) (fZ O1 (fR (Mt T) T.Ju hr (i8 (gi (b9 3) j3) (i8 (fR (Oq T) T.Ng hr (fT 2 (fT 1 (i8 (KP j3) i7)))) i7))) (gi (b9 3) j3)) j3)))))))
theorem z2J:FK P w K mg base 3 A.ZH A.ZI g0w af Qd:=
 T.ZN.d 2 Kp O6 (λhr hu=>
  (i6 (C8 (rels:=[]) (o7 (i:=1) (gi (Fp (i8 j3 (i8 j3 (i8 j3 (i8 j3 i7))))) (fZ O1 (fR (B7 T) T.B9 hr (fT 0 (i8 j3 i7))) j3)) O6.nd rfl (Or.inr rfl) rfl (Or.inl rfl)))
   (i6 (C8 (rels:=[]) (o7 (i:=2) (fZ J1 j3 (fZ O1 (fR (B7 T) T.B9 hr (fT 0 (i8 j3 i7))) j3)) O6.nd rfl (aK rfl) rfl (ar rfl)))
   (i6 (C8 (rels:=[]) (o7 (i:=3) (fZ J1 j3 (fZ O1 (fR (B7 T) T.B9 hr (fT 0 (i8 j3 i7))) j3)) O6.nd rfl (aK rfl) rfl (ar rfl)))
   (i6 (gA (gv (gX hu) (fZ O1 (fR (B7 T) T.B9 hr (fT 0 (i8 j3 i7))) j3) j3) (i6 (C8 (rels:=[]) (o7 (i:=2) j3 O6.nd rfl (aK rfl) rfl (ar rfl)))
   (j6 (C8 (rels:=[]) (o7 (i:=1) j3 O6.nd rfl (aK rfl) rfl (ar rfl))))) z9)
   (i6 (gK 4 (fZ O1 (fR (B7 T) T.B9 hr (fT 0 (i8 j3 i7))) j3) O6.nd)
   (i6 (gK 5 (fZ O1 (fR (B7 T) T.B9 hr (fT 0 (i8 j3 i7))) j3) O6.nd)
   (i6 (C8 (rels:=[]) (iB 6 O6.nd ["_law_k","_law_script","_law_kinds","_law_mode"] 1 [0,2,1] g0e (f9 HJ).names (x9 rfl T.A6 (b9 4)) (λ_ _ _ _ _=>(fR (Es T) T.Fm hr (fT 1 (i8 (fZ J1 j3 (fZ AN (b9 2) (b9 0))) (fT 2 (fT 3 i7))))))))
   (i6 (C8 (rels:=[]) (iB 7 O6.nd ["_law_k","_law_script","_law_size","_law_mode"] 1 [0,3,1] g0e (f9 HJ).names (x9 rfl T.A6 (b9 5)) (λ_ _ _ _ _=>(fR (Es T) T.Fm hr (fT 1 (i8 (fZ J1 j3 (fZ AN (b9 2) (b9 0))) (fT 2 (fT 3 i7))))))))
   (j6 (k9 (AQ (fT 2 (fT 6 (fT 3 (fT 7 i7))))))))))))))))
theorem Et:FK P w K mg base 1 A.MU A.MV g2f af AC:=
 T.Dj.d 0 Gm Su (λhr hu=>
  (j6 (k9 (gO g2n 1 [] g2f (f9 Dc).names (C7 (b9 0)) (λ_ _ _ _ _=>(gW BB T.N0 (fT 0 i7)))))))
theorem Jr:FK P w K mg base 11 A.Td A.Te g0t af M5:=
 T.Ie.d 10 Hg Jn (λhr hu=>
  (i6 (gK 4 (fR (z5x T) T.z4u hr (fT 0 (i8 (gW BB T.N0 (fT 2 i7)) (i8 (gW BB T.N0 (fT 3 i7)) i7)))) Jn.nd)
   (i6 (gA (gv z1q (b9 4) GK) (j6 (k9 (gi (Fp (i8 GK (i8 gP i7))) (gW z1v T.Ti (i8 (fR (UV T) T.Pk hr (fT 1 (fT 2 (fT 3 (fT 4 i7))))) i7))))) z9)
   (i6 (gK 5 (fR (z0X T) T.To hr (fT 0 (i8 (gW BB T.N0 (fT 2 i7)) (i8 (gW BB T.N0 (fT 3 i7)) i7)))) Jn.nd)
   (i6 (gA (PFW.pt (iE (gv o_isN (b9 5) GK) (GN (V6 (T6 (fR (SE T) T.Nh hr (fT 1 (fT 2 (fT 3 (fT 5 i7))))) (λ_=>rfl)))))) (j6 (k9 GK)) z9)
   (j6 (k9 gP)))))))
theorem SG:FK P w K mg base 1 A.MW A.MX g1c af K6:=
 T.Ni.fn.ok (k:=0) R4 (λvs H Q E⟨ds,d,r,e,q⟩=>by
   obtain⟨rows,n,c,rfl,ok,_⟩:=Mg e;exact r.length) (λcdv _ outer s H vs Q E hr⟨ds,d,r,e,q⟩=>have hu:=hr.units
  ⟨_,Ac (Po R4.nd (i:=3) rfl (Or.inl rfl) (fZ O1 (fZ W9 (b9 2) j3) (b9 1)))
   (Ac (Po R4.nd (i:=4) rfl (ar rfl) (fZ O1 (fZ W9 (b9 2) j3) (b9 1)))
   (Ac (z2a R4.nd (i:=5) rfl rfl rfl (csc (N:=g2n) (nt:=1) (js:=[]) g0l (f9 Dd).names) rfl (C7 (b9 0)) (λ_ _ _ _ _=>G7 (hJ g2n) rfl (ar rfl) (aK rfl)) (show(0:Nat)<1 by decide) (λ_ _ _ _ _=>(gW BB T.N0 (fT 0 i7))))
   (Ac (Ts PassesOwn.never rfl (z4C (Bj (i:=5) rfl (Or.inl rfl))) (v9 (i:=6) R4.nd rfl (Or.inl rfl))
    (Ac (Po R4.nd (i:=7) rfl (ar rfl) (gi (b9 6) (b9 3)))
    (Cl (pZ (gv (gX hu) (fZ O1 (b9 2) j3) j3)
     (Ac (KG (gi (b9 6) (b9 4)) (KE (Bj (i:=6) rfl (ar rfl)) (b9 3) Dq))
     (Cl (KG (b9 7) (KE (Bj (i:=6) rfl (ar rfl)) (b9 4) Dq))))
     (Cl (pZ (gv (gU hu) (b9 3) (b9 4))
      (Cl (KG (fZ J1 (gi (b9 6) (b9 3)) (fZ AN (fZ KM (fZ O1 (fZ W9 (b9 2) j3) j3) j3) (gi (b9 6) (b9 4)))) (KE (Bj (i:=6) rfl (ar rfl)) (b9 3) Dq)))
      (Cl (KG (KP (b9 7)) (KE (Bj (i:=6) rfl (ar rfl)) (b9 3) Dq)))))))))
   (Cl (tQ (Bj (i:=5) rfl (ar rfl))))))),by
   obtain⟨rows,n,c,rfl,ok,rfl⟩:=Mg e;obtain⟨v0,t1,rfl,r0,r⟩:=Rps.cons_.mp r;obtain⟨v1,t2,rfl,r1,r⟩:=Rps.cons_.mp r;obtain⟨v2,t3,rfl,r2,r⟩:=Rps.cons_.mp r;have r:=Rps.nil_.mp r;have r1:=Rp.int_.mp r1;have r2:=Rp.int_.mp r2;subst r r1 r2;exact z5t rfl r0 ok λv H' sm rv=>q v H' sm rv⟩)
theorem QH:FK P w K mg base 12 A.JX A.JY g0x af DY:=
 T.Kf.d 11 DX K8 (λhr hu=>
  (i6 (R9 (rels:=[]) (g:=(Tg.one 3)) PassesOwn.never rfl (C7 (b9 2)) (G7 K8.nd rfl (Or.inl rfl) (Or.inl rfl)) (j6 (R9 (rels:=[]) (g:=(Tg.one 4)) PassesOwn.never rfl (C7 (b9 3)) (G7 K8.nd rfl (Or.inl rfl) (Or.inl rfl)) (j6 (gA (gv o_ge (gG z1u T.z4s (fT 4 i7)) (fZ YC j3 j3)) (j6 (k9 gP)) z9)))))
   (i6 (gK 5 (fZ J1 (b9 1) (b9 2)) K8.nd)
   (i6 (gA (gv o_gt (gG J8 T.K2 (fT 5 i7)) j3) (j6 (k9 gP)) z9)
   (i6 (gK 6 (fR (Gz T) T.Ff hr (fT 0 (i8 (fR (Et T) T.Dj hr (fT 5 i7)) i7))) K8.nd)
   (i6 (R9 (rels:=[]) (g:=(Tg.one 7)) ay rfl (x9 rfl T.A6 (b9 0)) (G7 K8.nd rfl (aK rfl) (ar rfl)) (i6 (C8 (rels:=[]) (iB 8 K8.nd ["_law_j","_law_k"] 1 [7] g0d (f9 W6).names (x9 rfl T.A6 (b9 0)) (λ_ _ _ _ _=>(gW z1v T.Ti (i8 (ip (gX hu) (b9 0) (b9 1)) i7)))))
   (j6 (gA (gv lg (fR (Jr T) T.Ie hr (fT 6 (fT 5 (i8 (gO ["_law_j"] 1 [] g0d (f9 W6).names (x9 rfl T.A6 (b9 0)) (λ_ _ _ _ _=>j3)) (fT 8 i7))))) gP) (j6 (k9 gP)) z9))))
   (j6 (k9 gP))))))))
theorem Mu:FK P w K mg base 1 A.FG A.FH g1a af Bu:=
 T.FJ.d 0 Bt AJ (λhr hu=>
  (i6 (Rc (iB 3 AJ.nd ["_law_bill", "_law_size", "_law_kinds"] 1 [2,1] ["_law_bills", "_law_kinds", "_law_size", "_law_made", "_law_k"] (f9 O7).names (C7 (b9 0)) (fun _ _ _ _ _=>(fZ J1 (gW BB T.N0 (fT 0 i7)) (K3 (g:=(Tg.one 0)) (by exact u8 (N:=["_law_k"]) (nt:=1) (js:=[]) ["_law_bill", "_law_size", "_law_kinds"] [(".0",.local),("_law_bill",.local),("list",.globalImplicit),("range",.globalImplicit),("_law_kinds",.cell),("_law_size",.cell)] rfl rfl rfl (by decide +kernel)) rfl (x9 rfl T.A6 (fZ KM (b9 1) (b9 2))) (fun _ _ _ _ _=>G7 (hJ ["_law_k"]) rfl (Or.inl rfl) (Or.inr rfl)) (show 0<1 by decide) (fun _ _ _ _ _=>P5) (fun _ _ _ _ _=>j3) (ia [] 3))))))
   (i6 (R9 (rels:=[]) (g:=(Tg.one 4)) ay rfl (z1x rfl T.A6 (b9 1) (b9 2)) (G7 AJ.nd rfl (aK rfl) (ar rfl)) (j6 (jA (i:=3) z1J eN F.type_list_append rfl (ar rfl) (gO ["_law_j","_law_k"] 1 [4] g0y (f9 O7).names (x9 rfl T.A6 (b9 2)) (λ_ _ _ _ _=>(gW z1v T.Ti (i8 (ip (gX hu) (b9 0) (b9 1)) i7)))))))
   (j6 (k9 (b9 3))))))
theorem UW:FK P w K mg base 2 A.Pb A.Pc g1o ab IV:=
 T.Pl.d 1 Z7 M9 (λhr hu=>
  (i6 (gK 2 (fZ O1 (fR (B7 T) T.B9 hr (fT 0 (i8 j3 i7))) j3) M9.nd)
   (i6 (gA (gv (gX hu) (b9 2) j3) (j6 (k9 (AQ (i8 (gi (b9 1) j3) (i8 (gi (b9 1) j3) (i8 gP i7)))))) z9)
   (i6 (gK 3 (gi (b9 1) j3) M9.nd)
   (i6 (gK 4 (gi (b9 1) j3) M9.nd)
   (i6 (gA (PFW.pt (mG (gv (gX hu) (b9 2) j3) (ku (gv o_lt (b9 4) j3)))) (i6 (gK 4 (fZ J1 (fZ J1 (b9 4) j3) (fZ O1 (fR (B7 T) T.B9 hr (fT 0 (i8 j3 i7))) j3)) M9.nd)
   (j6 (gK 3 (fR (Mu T) T.FJ hr (fT 3 (i8 (gi (b9 1) j3) (fT 4 i7)))) M9.nd))) z9)
   (i6 (R9 (rels:=[]) (g:=(Tg.one 5)) ay rfl (x9 rfl T.A6 (fZ J1 j3 (fZ O1 (fR (B7 T) T.B9 hr (fT 0 (i8 j3 i7))) j3))) (G7 M9.nd rfl (ar rfl) (ar rfl)) (j6 (gK 3 (fR (SG T) T.Ni hr (fT 3 (fT 4 (i8 (fR (B7 T) T.B9 hr (fT 0 (i8 (fZ J1 j3 (b9 5)) i7))) i7)))) M9.nd)))
   (j6 (k9 (AQ (fT 4 (fT 3 (i8 gP i7)))))))))))))
theorem z0Y:FK P w K mg base 12 A.Tf A.Th g0j af LI:=
 T.Tp.d 11 LH L5 (λhr hu=>
  (i6 (gK 6 (gi (b9 1) j3) L5.nd)
   (i6 (C8 (rels:=[]) (o7 (i:=7) (fR (Es T) T.Fm hr (fT 0 (i8 j3 (fT 6 (i8 j3 i7))))) L5.nd rfl (aK rfl) rfl (ar rfl)))
   (i6 (gK 8 (fR (Es T) T.Fm hr (fT 0 (i8 j3 (fT 6 (i8 j3 i7))))) L5.nd)
   (i6 (gA (gv (gX hu) (fZ O1 (fR (B7 T) T.B9 hr (fT 0 (i8 j3 i7))) j3) j3) (i6 (gK 9 (fR (Es T) T.Fm hr (fT 0 (i8 j3 (i8 (gG J8 T.K2 (i8 (gi (b9 1) j3) i7)) (i8 j3 i7))))) L5.nd)
   (i6 (C8 (rels:=[]) (o7 (i:=10) (fR (HR T) T.Ic hr (fT 6 (i8 (gi (b9 1) j3) (fT 9 i7)))) L5.nd rfl (aK rfl) rfl (ar rfl)))
   (j6 (C8 (rels:=[]) (iB 8 L5.nd ["_law_k","_law_basket","_law_moved"] 1 [7,10] g0c (f9 HK).names (x9 rfl T.A6 (b9 6)) (λ_ _ _ _ _=>(fZ J1 (gi (b9 1) (b9 0)) (gi (b9 2) (b9 0))))))))) z9)
   (i6 (gK 11 (fR (Jr T) T.Ie hr (fT 2 (i8 (gi (b9 1) j3) (fT 7 (fT 8 i7))))) L5.nd)
   (i6 (gK 12 (fR (HR T) T.Ic hr (i8 (gi (b9 3) j3) (fT 5 (fT 7 i7)))) L5.nd)
   (i6 (gK 13 (fR (Jr T) T.Ie hr (fT 3 (fT 4 (fT 12 (i8 (fR (HR T) T.Ic hr (i8 (gi (b9 3) j3) (fT 5 (fT 8 i7)))) i7))))) L5.nd)
   (j6 (k9 (KO (ip z1q (b9 11) GK) (KN (ip (gX hu) (b9 11) (b9 13))))))))))))))
theorem ok_law:FK P w K mg base 13 A.a_law A.ZJ g0w af Ze:=
 T.f_law.d 12 z2b AK (λhr hu=>
  (i6 (gK 1 (fR (z2J T) T.ZN hr (fT 0 i7)) AK.nd)
   (i6 (gK 2 (gi (b9 1) j3) AK.nd)
   (i6 (gK 3 (fR (UW T) T.Pl hr (fT 0 (fT 1 i7))) AK.nd)
   (i6 (gK 4 (gi (b9 3) j3) AK.nd)
   (i6 (gK 5 (fR (Gz T) T.Ff hr (fT 2 (i8 (fR (Et T) T.Dj hr (i8 (gi (b9 1) j3) i7)) i7))) AK.nd)
   (i6 (gK 6 (fR (Gz T) T.Ff hr (i8 (gi (b9 3) j3) (i8 (fR (Et T) T.Dj hr (fT 4 i7)) i7))) AK.nd)
   (i6 (gK 7 (fR (QG T) T.Kd hr (fT 5 (fT 6 i7))) AK.nd)
   (i6 (gK 8 (ip (gX hu) (K3 (g:=(Tg.one 0)) (u8 (N:=g2l) (nt:=1) (js:=[]) g0a (f9 Sv).names rfl rfl rfl (by decide +kernel)) rfl (C7 (fR (SB T) T.QN hr (fT 5 i7))) (λ_ _ _ _ _=>G7 (hJ g2l) rfl (ar rfl) (aK rfl)) (show 0<1 by decide) (λ_ _ _ _ _=>(FQ (gv (gU hu) (b9 0) j3))) (λ_ _ _ _ _=>(b9 0)) (ia [] 11)) (K3 (g:=(Tg.one 0)) (u8 (N:=g2l) (nt:=1) (js:=[]) g0a (f9 Sv).names rfl rfl rfl (by decide +kernel)) rfl (C7 (fR (SB T) T.QN hr (fT 6 i7))) (λ_ _ _ _ _=>G7 (hJ g2l) rfl (ar rfl) (aK rfl)) (show 0<1 by decide) (λ_ _ _ _ _=>(FQ (gv (gU hu) (b9 0) j3))) (λ_ _ _ _ _=>(b9 0)) (ia [] 11))) AK.nd)
   (i6 (gK 9 (fR (SC T) T.Nd hr (fT 5 (fT 6 i7))) AK.nd)
   (i6 (gA (PFW.pt (iE (V6 (T6 (Ft (T :="bool") rfl rfl T.D5 rfl T.Yr (by decide +kernel) (b9 7)) (λ_=>rfl))) (GN (gv (gU hu) (b9 7) (b9 8))))) (j6 (k9 gP)) z9)
   (i6 (gA (V6 (T6 (b9 7) (λ_=>rfl))) (j6 (k9 (KO (ip o_isN (b9 9) GK) (KN (pU (gi (b9 3) j3)))))) z9)
   (i6 (gA (PFW.pt (iE (V6 (T6 (Ft (T :="list") rfl rfl T.D5 rfl T.N0 (by decide +kernel) (b9 9)) (λ_=>rfl))) (GN (gv (gU hu) (gG J8 T.K2 (fT 9 i7)) (b9 2))))) (j6 (k9 gP)) z9)
   (i6 (R9 (rels:=[]) (g:=(Tg.one 10)) ay rfl (C7 (b9 9)) (G7 AK.nd rfl (ar rfl) (ar rfl)) (j6 (gA (V6 (T6 (fR (Er T) T.Di hr (fT 10 (i8 (gi (b9 3) j3) i7))) (λ_=>rfl))) (j6 (k9 gP)) z9)))
   (j6 (k9 (KO (fR (z0Y T) T.Tp hr (fT 0 (fT 1 (fT 5 (fT 6 (fT 4 (fT 9 i7))))))) (KN (fR (QH T) T.Kf hr (i8 (gi (b9 3) j3) (fT 4 (fT 9 i7))))))))))))))))))))))
end
end
theorem z2K{l:du}{w:aI}{K:aD}{h:aR}{mg:aE}{fa:Addr}(X:K.In h)(G:h.Ns aw mg)(hfa:mg "law"=aa (.ref fa))
  {a0 a1 a2 a3 a4 a5 a6 a7 a8 a9 a10 a11 a12 a13 a14 a15 a16 a17 a18 a19 a20 a21 a22 a23 a24 a25 a26 a27 a28 a29 a30 a31 a32 a33 a34 a35 a36 a37 a38 a39 a40 a41 a42 a43 a44 a45 a46 a47 a48 a49 a50 a51 a52 a53 a54 a55 a56 a57 a58 a59 a60 a61 a62 a63 a64 a65 a66 a67 a68 a69 a70 a71 a72:Addr}
  (h0:Dh K "is_whole" Gr a0)
  (h1:Dh K "is_row" Hw a1)
  (h2:Dh K "noughts" EV a2)
  (h3:Dh K "unit_row" CT a3)
  (h4:Dh K "added" Kv a4)
  (h5:Dh K "taken" Kw a5)
  (h6:Dh K "scaled" Hx a6)
  (h7:Dh K "weighed" EW a7)
  (h8:Dh K "mixed" Qu a8)
  (h9:Dh K "head_at" Jb a9)
  (h10:Dh K "are_kinds" Eh a10)
  (h11:Dh K "is_bill" EX a11)
  (h12:Dh K "need_kinds" CU a12)
  (h13:Dh K "need_bill" Ei a13)
  (h14:Dh K "hall_by" EY a14)
  (h15:Dh K "hall_of" Jc a15)
  (h16:Dh K "need_basket_of" V1 a16)
  (h17:Dh K "need_basket" Bv a17)
  (h18:Dh K "nought" Mj a18)
  (h19:Dh K "apart" Qx a19)
  (h20:Dh K "bridge" Ej a20)
  (h21:Dh K "rest" UH a21)
  (h22:Dh K "product" Jd a22)
  (h23:Dh K "lowering" Gu a23)
  (h24:Dh K "lowered" Je a24)
  (h25:Dh K "crossed" Jf a25)
  (h26:Dh K "turned_up" Ek a26)
  (h27:Dh K "with_row" CW a27)
  (h28:Dh K "evened" Mk a28)
  (h29:Dh K "climbed" Jh a29)
  (h30:Dh K "tagged_stair" T5 a30)
  (h31:Dh K "tags_of_rungs" P1 a31)
  (h32:Dh K "tags_at_nought" N8 a32)
  (h33:Dh K "stair" Qz a33)
  (h34:Dh K "stair_with_uses" L7 a34)
  (h35:Dh K "turned" HB a35)
  (h36:Dh K "is_slant" CZ a36)
  (h37:Dh K "rests" Kx a37)
  (h38:Dh K "slanted" Z9 a38)
  (h39:Dh K "linked" Mm a39)
  (h40:Dh K "chained" EZ a40)
  (h41:Dh K "measures" M8 a41)
  (h42:Dh K "parts" Kz a42)
  (h43:Dh K "place_by" Da a43)
  (h44:Dh K "baskets_by" K7 a44)
  (h45:Dh K "shape" KA a45)
  (h46:Dh K "one_shape" Em a46)
  (h47:Dh K "table_to" AI a47)
  (h48:Dh K "settled" Jj a48)
  (h49:Dh K "plan" UJ a49)
  (h50:Dh K "scales" HC a50)
  (h51:Dh K "tilt" UK a51)
  (h52:Dh K "measured_scale" V2 a52)
  (h53:Dh K "denial" Mn a53)
  (h54:Dh K "_law_cell_at" En a54)
  (h55:Dh K "_law_whole" Jk a55)
  (h56:Dh K "_law_is_row" Gw a56)
  (h57:Dh K "_law_number" Gx a57)
  (h58:Dh K "_law_row" KB a58)
  (h59:Dh K "_law_sum" HE a59)
  (h60:Dh K "_law_plus" HI a60)
  (h61:Dh K "_law_heavy" Jl a61)
  (h62:Dh K "_law_leads" Jm a62)
  (h63:Dh K "_law_denies" Gy a63)
  (h64:Dh K "_law_two" HJ a64)
  (h65:Dh K "_law_copied" Dc a65)
  (h66:Dh K "_law_same" Mo a66)
  (h67:Dh K "_law_turned" Dd a67)
  (h68:Dh K "_law_reached" W6 a68)
  (h69:Dh K "_law_with_ones" O7 a69)
  (h70:Dh K "_law_other" Jo a70)
  (h71:Dh K "_law_kept" HK a71)
  (h72:Dh K "law" Sv a72)
  (z_abs:aU K aw "abs"=aa aj)
  (z_all:aU K aw "all"=aa aj)
  (z_any:aU K aw "any"=aa aj)
  (z_bool:aU K aw "bool"=aa aj)
  (z_enumerate:aU K aw "enumerate"=aa aj)
  (z_int:aU K aw "int"=aa aj)
  (z_isinstance:aU K aw "isinstance"=aa aj)
  (z_len:aU K aw "len"=aa aj)
  (z_list:aU K aw "list"=aa aj)
  (z_range:aU K aw "range"=aa aj)
  (z_reversed:aU K aw "reversed"=aa aj)
  (z_sorted:aU K aw "sorted"=aa aj)
  (z_sum:aU K aw "sum"=aa aj)
  (z_tuple:aU K aw "tuple"=aa aj)
  (z_zip:aU K aw "zip"=aa aj)
  {Y5:Tok} (y_MOST_BILLS:aU K aw "MOST_BILLS"=aa (aa (.int 8 Y5)))
  {Y6:Tok} (y_MOST_KINDS:aU K aw "MOST_KINDS"=aa (aa (.int 6 Y6)))
  : ∃fd:aq,(∀(s:Shared)(u:Value),eS s fd ⟨[u],[]⟩ [("_law_script",u)])/\∀base:aR,K.In base->base.Ns aw mg->FnOk l.prog w K mg base CX0 13 fa fd g0w (iT K af Ze):=by
 have key:∃A:Adr,Facts K mg A/\∀(s:Shared)(u:Value),eS s A.ZJ ⟨[u],[]⟩ [("_law_script",u)]:=⟨⟨_,_,_,_,_,_,_,_,_,_,_,_,_,_,_,_,_,_,_,_,_,_,_,_,_,_,_,_,_,_,_,_,_,_,_,_,_,_,_,_,_,_,_,_,_,_,_,_,_,_,_,_,_,_,_,_,_,_,_,_,_,_,_,_,_,_,_,_,_,_,_,_,_,_,_,_,_,_,_,_,_,_,_,_,_,_,_,_,_,_,_,_,_,_,_,_,_,_,_,_,_,_,_,_,_,_,_,_,_,_,_,_,_,_,_,_,_,_,_,_,_,_,_,_,_,_,_,_,_,_,_,_,_,_,_,_,_,_,_,_,_,_,_,_,_,_,Y5,Y6⟩,⟨aQ X G z_abs,aQ X G z_all,aQ X G z_any,aQ X G z_bool,aQ X G z_enumerate,aQ X G z_int,aQ X G z_isinstance,aQ X G z_len,aQ X G z_list,aQ X G z_range,aQ X G z_reversed,aQ X G z_sorted,aQ X G z_sum,aQ X G z_tuple,aQ X G z_zip,fe X G y_MOST_BILLS,fe X G y_MOST_KINDS,h0.q X G,h1.q X G,h2.q X G,h3.q X G,h4.q X G,h5.q X G,h6.q X G,h7.q X G,h8.q X G,h9.q X G,h10.q X G,h11.q X G,h12.q X G,h13.q X G,h14.q X G,h15.q X G,h16.q X G,h17.q X G,h18.q X G,h19.q X G,h20.q X G,h21.q X G,h22.q X G,h23.q X G,h24.q X G,h25.q X G,h26.q X G,h27.q X G,h28.q X G,h29.q X G,h30.q X G,h31.q X G,h32.q X G,h33.q X G,h34.q X G,h35.q X G,h36.q X G,h37.q X G,h38.q X G,h39.q X G,h40.q X G,h41.q X G,h42.q X G,h43.q X G,h44.q X G,h45.q X G,h46.q X G,h47.q X G,h48.q X G,h49.q X G,h50.q X G,h51.q X G,h52.q X G,h53.q X G,h54.q X G,h55.q X G,h56.q X G,h57.q X G,h58.q X G,h59.q X G,h60.q X G,h61.q X G,h62.q X G,h63.q X G,h64.q X G,h65.q X G,h66.q X G,h67.q X G,h68.q X G,h69.q X G,h70.q X G,h71.q X G,h72.q X G⟩,λs u=>.of_eq (h72.b (ps:=g0w) (λ_ _ _ _ _ _=>tR λ_=>rfl) [u] rfl)⟩;obtain⟨A,FF,hb⟩:=key;have e:=hfa.symm.trans FF.f_law.mg;cases e;exact⟨A.ZJ,hb,λbase _ _=>ok_law FF⟩
end
namespace H
noncomputable section
open PySem PySem.W PySem.Calls PyProof.Rows
abbrev pw:aN:=PySem.Challenge.pw_changehall_k27_whole_one_shape
noncomputable abbrev vs(s:String)(t:Nat):Value:=.str (bo s) t
noncomputable abbrev de(P:aV)(s:String)(t:Nat)(v:Value):bC:=⟨PyData.keyHash P (bo s),.str (bo s) t,v⟩
abbrev N:=BT.node
abbrev E:=BT.nil
noncomputable abbrev ins(t:BT)(l:List (Nat×Obj)):BT:=l.foldl (λt x=>t.ins x.1 x.2) t
def fdT(s:aJ)(g:Addr)(md cd:Value):aq:=match s with
 |.FunctionDef name args body _ _ _ scope _ _ _=>{ name:=name,qualname:=name,params:=args,body:=.stmts body,scope:=scope,globals:=g,closure:=[],defaults:=.none,kwdefaults:=.none,pyModule:=md,code:=cd }
 |_=>default
noncomputable abbrev tu(l:aF):Obj:=⟨.type "tuple",aj,.seq l.toArray 0,#[]⟩
noncomputable abbrev fi(l:aF):Obj:=⟨.none,aj,.fields l.toArray,#[]⟩
noncomputable abbrev fo(c:Value)(i:Nat)(g:Addr)(md cd:Value):Obj:=⟨c,aj,.func (fdT (gf i) g md cd),#[]⟩
noncomputable abbrev co(a f:String)(t0 t1 t2:Nat)(l n z:Int)(r:Addr)(u:Bool)(v:Int)(s:Addr)(p q1 q2 q3:Value)(w:Int)(t3:Nat):Obj:=⟨.type "code",aj,.fields #[vs a t0,vs a t1,vs f t2,.int l 0,.int n 0,.int 0 0,.int 0 0,.int z 0,.ref r,.bool u,.int v 0,.ref s,p,q1,q2,q3,.int w 0,.int l 0,vs f t3],#[]⟩
theorem te_go:@topGo=Fast.tw15667345088766844465:=Fast.te15667345088766844465
theorem te_sr:@segRun=Fast.tw14374325043358763698:=Fast.te14374325043358763698
theorem te_sT:@segRunT=Fast.tw10110043849684766642:=Fast.te10110043849684766642
theorem te_tr:@topRun=Fast.tw14082659384304107361:=Fast.te14082659384304107361
theorem te_tb:bH=Fast.tw14364793385576792824:=Fast.te14364793385576792824
theorem te_im:@importedModules=Fast.tw5923862056798008813:=Fast.te5923862056798008813
theorem te_seen:@seen=Fast.tw5160383126252970620:=Fast.te5160383126252970620
theorem te_recs:@recsOf=Fast.tw3399658132070893891:=Fast.te3399658132070893891
theorem te_owns:@ownsOf=Fast.tw5991557255702980513:=Fast.te5991557255702980513
theorem te_keys:@Heap.keysOk=Fast.tw10880121769531294198:=Fast.te10880121769531294198
theorem te_loose:@looseW=Fast.tw821141287760084731:=Fast.te821141287760084731
theorem te_lits:@litsOf=Fast.tw7409074990110511671:=Fast.te7409074990110511671
theorem te_clss:@clssOf=Fast.tw13664370479719496447:=Fast.te13664370479719496447
theorem te_acc:@Heap.accountedOkI=Fast.tw14722251495701143533:=Fast.te14722251495701143533
theorem te_tabl:@tablesOk=Fast.tw10994771534591457954:=Fast.te10994771534591457954
theorem te_tabs:@tabsOk=Fast.tw479339242167458305:=Fast.te479339242167458305
theorem te_pin:@pinSeenD=Fast.tw16090120013241838585:=Fast.te16090120013241838585
theorem te_drecs:@drecsOf=Fast.tw3247288618530077131:=Fast.te3247288618530077131
theorem te_pE:@plainSeenE=Fast.tw2386780881361962483:=Fast.te2386780881361962483
theorem te_pD:@plainSeenD=Fast.tw11698064438423848299:=Fast.te11698064438423848299
theorem te_wide:@wideSeen=Fast.tw7317090234206586261:=Fast.te7317090234206586261
theorem te_cls:@clsSeenW=Fast.tw7369524293546568484:=Fast.te7369524293546568484
theorem te_den:@denote=Fast.tw11892475500146522536:=Fast.te11892475500146522536
theorem te_ns:@Heap.nsMap=Fast.tw8920871248978507458:=Fast.te8920871248978507458
noncomputable abbrev kc(n:String)(b m:aF)(s:Addr)(z:aF)(i:Addr)(x:fI)(t u:Nat):Obj:=⟨.type "type",aj,.cls { name:=bo n,bases:=b,mro:=m++[.type "ValueError",.type "Exception",.type "BaseException",.type "object"],ns:=s,qualname:=bo n,subclasses:=z },#[aa (.ref i),x,aa (vs n t),aa (vs n u),aa (.builtin "ValueError.__new__"),aa (.bool af)]⟩
noncomputable abbrev fm(a b c:Addr)(v:Value):Obj:=⟨.type "frame",aj,.plain,#[aa (.ref a),aa (.ref b),aa (.ref c),aj,aa v,aj,aa (.ref 0)]⟩
noncomputable abbrev dc(l:fF)(n:Nat):Obj:=⟨.type "dict",aj,.dict l.toArray n,#[]⟩
noncomputable abbrev pf(s:String)(l:aF):Obj:=⟨.type s,aj,.fields l.toArray,#[]⟩
abbrev cf(a:String)(t:Nat)(l n:Int)(r:Addr)(w:Nat):Obj:=co a "/claim/cut.py" t (t+1) (t+2) l n 3 r af 181 (r+1) .none .none .none (.ref (r+2)) w (w+1)
abbrev cg(a:String)(t:Nat)(l n:Int)(r:Addr)(w:Nat):Obj:=co a "/claim/cut.py" t (t+1) (t+2) l n 3 r af 181 (r+1) .none (.ref (r+2)) (.ref (r+3)) (.ref (r+4)) w (w+1)
abbrev cc(a:String)(t:Nat)(l:Int)(r:Addr)(w:Nat):Obj:=co a "/claim/cut.py" t (t+1) (t+2) l 0 0 r ab 181 (r+1) .none .none .none .none w (w+1)
abbrev fn(i:Nat):Obj:=fo .none i 0 .none .none
abbrev ff(i:Nat)(m:Value)(c:Addr):Obj:=fo (.type "function") i 3 m (.ref c)
noncomputable abbrev ju(t:BT)(n:Nat)(l:List Obj):BT:=(l.foldl (λ(x:BT×Nat)o=>(x.1.ins x.2 o,x.2+1)) (t,n)).1
abbrev iz:=vs "changehall.errors" 187
abbrev iu:=vs "changehall.rows" 239
abbrev iq:=vs "changehall.halls" 311
abbrev ig:=vs "changehall.stairs" 417
abbrev lI:=vs "changehall.whole" 392
abbrev jt:=vs "changehall.classes" 565
abbrev iU:=vs "changehall.grids" 514
abbrev gQ:=vs "law_changehall_k27_whole_one_shape" 665
abbrev lH:=vs "changehall.tables" 585
abbrev ox:=vs "changehall.plans" 607
abbrev jr:=vs "changehall.scales" 629
noncomputable abbrev lr(l:List (Nat×Nat)):aF:=l.flatMap λx=>[.int x.1 0,.int 0 0,.ref x.2]
abbrev env:Env:={ scope:=pw.main.scope,locals:=mainNs,globals:=mainNs,cells:=[],code:=.ref 13,frame:=aa 14 }
abbrev cE:Code:=.body (behindTheImports pw) env
abbrev fB:List Frame:=[topFrame ⟨0,0,0,0⟩]
abbrev ann:fI:=aa (.ref 6)
abbrev fO:=tu []
abbrev o12aL:aF:=[]
abbrev nU:=fi o12aL
abbrev lE:=cc "<module>" 182 1 11 185
abbrev o14a:Obj:=fm 13 3 3 (vs "__main__" 164)
abbrev ha(P:aV):aR:=⟨⟨[boot_o_0 P,boot_o_1 P,boot_o_2 P,boot_o_3 P,boot_o_4 P,boot_o_5 P,boot_o_6 P,boot_o_7 P,boot_o_8 P,boot_o_9 P,boot_o_10 P,fO,nU,lE,o14a]⟩,{ }⟩
theorem mU(w:aI)(os:aZ):topGo bH pw w 11 ann 12 ⟨cW w.params,#[],boot_drawn,boot_toks,os⟩ (topStub pw)=aa (⟨ha w.params,#[],{ },187,os⟩,⟨denote bH cE,cE,⟨0,0,0,0⟩,fB⟩):=by
 rewrite[te_go,te_den,te_tb];kernel_rfl
abbrev t0(P:aV):BT:=(N (boot_o_0 P) (N (boot_o_1 P) (N (boot_o_3 P) (N (boot_o_7 P) E E) (N (fO) E E)) (N (boot_o_5 P) (N (boot_o_9 P) E E) (N (lE) E E))) (N (boot_o_2 P) (N (boot_o_4 P) (N (boot_o_8 P) E E) (N (nU) E E)) (N (boot_o_6 P) (N (boot_o_10 P) E E) (N (o14a) E E))))
abbrev s0(w:aI)(os:aZ):dF:=⟨t0 w.params,15,{ },#[],{ },187,os⟩
theorem mT(w:aI)(os:aZ):segRun bH pw w 11 ann 1 1 ⟨ha w.params,#[],{ },187,os⟩ (blockOf (behindTheImports pw) env cE ⟨0,0,0,0⟩ fB)=aa (.next,(s0 w os).abs,cE,⟨0,0,0,0⟩):=by
 rewrite[te_sr,te_tb];kernel_rfl
abbrev jV(P:aV):fF:=[de P "__name__" 165 iz,de P "__doc__" 166 .none,de P "__package__" 167 .none,de P "__loader__" 168 (.builtin "__main__.__loader__#opaque"),de P "__spec__" 169 .none,de P "__annotations__" 170 (.ref 6),de P "__builtins__" 171 (.ref 4),de P "__file__" 173 (vs "/claim/cut.py" 172),de P "__cached__" 174 .none,de P "HallError" 206 (.ref 24)]
abbrev qx(P:aV):Obj:=dc (jV P) 10
abbrev z2L:aF:=o12aL++lr [(2,20)]
abbrev oo:=fi z2L
abbrev pT:=tu [.type "ValueError"]
abbrev Os:Obj:=pf "builtin_function_or_method" [.builtin "type.__prepare__",.type "type"]
abbrev lD(P:aV):fF:=[de P "__module__" 196 iz,de P "__qualname__" 198 (vs "HallError" 197),de P "__firstlineno__" 200 (.int 2 199),de P "__static_attributes__" 201 (.ref 22)]
abbrev jZ(P:aV):Obj:=dc (lD P) 4
abbrev j7:=fi []
abbrev jY:=cc "HallError" 191 2 18 194
abbrev o21_1:Obj:=fm 20 3 17 iz
abbrev lC(P:aV):fF:=[de P "__module__" 196 iz,de P "__firstlineno__" 200 (.int 2 199),de P "__static_attributes__" 201 (.ref 22),de P "__weakref__" 203 (.ref 25),de P "__doc__" 204 .none]
abbrev pS(P:aV):Obj:=dc (lC P) 3
abbrev o24_1:Obj:=kc "HallError" [.type "ValueError"] [.ref 24] 23 [] 15 aj 189 197
abbrev z2O:Obj:=pf "getset_descriptor" [vs "__weakref__" 202,.ref 24,.builtin "ExceptionGroup.__weakref__",.none]
abbrev o26_1:Obj:=pf "super" [.ref 24,.ref 24,.ref 24]
abbrev o27_1:Obj:=pf "builtin_function_or_method" [.builtin "object.__init_subclass__",.ref 24]
abbrev t1(P:aV):BT:=ju (ins (t0 P) [(3,qx P),(12,oo)]) 15 [pT,Os,jZ P,fO,j7,jY,o21_1,fO,pS P,o24_1,z2O,o26_1,o27_1]
abbrev s1(w:aI)(os:aZ):dF:=⟨t1 w.params,28,{ },#[],{ },207,os⟩
abbrev l0:fy:=[gf 0,gf 1]
theorem nv(w:aI)(os:aZ):dW bH pw w 11 ann 1 196 (s0 w os) (dw l0 env cE ⟨0,0,0,0⟩ fB)=aa (.next,s1 w os,cE,⟨2,0,3,8⟩):=by
 rewrite[te_sT,te_tb];kernel_rfl
abbrev jU(P:aV):fF:=de P "__name__" 165 iz::(jV P).tail++[de P "NoHall" 222 (.ref 37)]
abbrev qw(P:aV):Obj:=dc (jU P) 11
abbrev z2P:aF:=z2L++lr [(4,33)]
abbrev om:=fi z2P
abbrev o24_2:Obj:=kc "HallError" [.type "ValueError"] [.ref 24] 23 [.ref 37] 15 aj 189 197
abbrev Ot:=tu [.ref 24]
abbrev lB(P:aV):fF:=[de P "__module__" 214 iz,de P "__qualname__" 216 (vs "NoHall" 215),de P "__firstlineno__" 218 (.int 4 217),de P "__static_attributes__" 219 (.ref 35)]
abbrev jX(P:aV):Obj:=dc (lB P) 4
abbrev jW:=cc "NoHall" 209 4 31 212
abbrev o34_2:Obj:=fm 33 3 30 iz
abbrev lA(P:aV):fF:=[de P "__module__" 214 iz,de P "__firstlineno__" 218 (.int 4 217),de P "__static_attributes__" 219 (.ref 35),de P "__doc__" 220 .none]
abbrev pR(P:aV):Obj:=dc (lA P) 2
abbrev z2R:Obj:=kc "NoHall" [.ref 24] [.ref 37,.ref 24] 36 [] 28 aj 207 215
abbrev o38_2:Obj:=pf "super" [.ref 37,.ref 37,.ref 37]
abbrev o39_2:Obj:=pf "builtin_function_or_method" [.builtin "object.__init_subclass__",.ref 37]
abbrev t2(P:aV):BT:=ju (ins (t1 P) [(3,qw P),(12,om),(24,o24_2)]) 28 [Ot,Os,jX P,fO,j7,jW,o34_2,fO,pR P,z2R,o38_2,o39_2]
abbrev s2(w:aI)(os:aZ):dF:=⟨t2 w.params,40,{ },#[],{ },223,os⟩
abbrev l1:fy:=[gf 2]
theorem nq(w:aI)(os:aZ):dW bH pw w 11 ann 1 214 (s1 w os) (dw l1 env cE ⟨2,0,3,8⟩ fB)=aa (.next,s2 w os,cE,⟨4,0,5,8⟩):=by
 rewrite[te_sT,te_tb];kernel_rfl
abbrev jT(P:aV):fF:=de P "__name__" 165 iu::(jU P).tail++[de P "NoBasket" 238 (.ref 49),de P "is_whole" 247 (.ref 58),de P "is_row" 253 (.ref 63),de P "noughts" 259 (.ref 68),de P "unit_row" 265 (.ref 73),de P "added" 271 (.ref 78),de P "taken" 277 (.ref 83)]
abbrev qt(P:aV):Obj:=dc (jT P) 18
abbrev z2S:aF:=z2P++lr [(6,45),(9,57),(11,62),(15,67),(17,72),(19,77),(21,82)]
abbrev oj:=fi z2S
abbrev z2T:Obj:=kc "HallError" [.type "ValueError"] [.ref 24] 23 [.ref 37,.ref 49] 15 aj 189 197
abbrev lj(P:aV):fF:=[de P "__module__" 230 iz,de P "__qualname__" 232 (vs "NoBasket" 231),de P "__firstlineno__" 234 (.int 6 233),de P "__static_attributes__" 235 (.ref 47)]
abbrev jN(P:aV):Obj:=dc (lj P) 4
abbrev jM:=cc "NoBasket" 225 6 43 228
abbrev o46_3:Obj:=fm 45 3 42 iz
abbrev li(P:aV):fF:=[de P "__module__" 230 iz,de P "__firstlineno__" 234 (.int 6 233),de P "__static_attributes__" 235 (.ref 47),de P "__doc__" 236 .none]
abbrev pQ(P:aV):Obj:=dc (li P) 2
abbrev z2V:Obj:=kc "NoBasket" [.ref 24] [.ref 49,.ref 24] 48 [] 40 aj 223 231
abbrev o50_3:Obj:=pf "super" [.ref 49,.ref 49,.ref 49]
abbrev o51_3:Obj:=pf "builtin_function_or_method" [.builtin "object.__init_subclass__",.ref 49]
abbrev pP:=tu [vs "value" 244]
abbrev jL:=fn 5
abbrev pO:=cg "is_whole" 241 9 1 52 245
abbrev pN:=ff 5 iu 57
abbrev jK:=fn 6
abbrev pM:=cf "is_row" 248 11 2 59 251
abbrev pJ:=ff 6 iu 62
abbrev jJ:=fn 7
abbrev pI:=cf "noughts" 254 15 1 64 257
abbrev pH:=ff 7 iu 67
abbrev jI:=fn 8
abbrev pG:=cf "unit_row" 260 17 2 69 263
abbrev pF:=ff 8 iu 72
abbrev jH:=fn 9
abbrev pE:=cf "added" 266 19 2 74 269
abbrev pD:=ff 9 iu 77
abbrev jG:=fn 10
abbrev pC:=cf "taken" 272 21 2 79 275
abbrev pB:=ff 10 iu 82
abbrev t3(P:aV):BT:=ju (ins (t2 P) [(3,qt P),(12,oj),(24,z2T)]) 40 [Ot,Os,jN P,fO,j7,jM,o46_3,fO,pQ P,z2V,o50_3,o51_3,fO,j7,pP,fO,jL,pO,pN,fO,j7,jK,pM,pJ,fO,j7,jJ,pI,pH,fO,j7,jI,pG,pF,fO,j7,jH,pE,pD,fO,j7,jG,pC,pB]
abbrev s3(w:aI)(os:aZ):dF:=⟨t3 w.params,84,{ },#[],{ },278,os⟩
abbrev l2:fy:=[gf 3,gf 4,gf 5,gf 6,gf 7,gf 8,gf 9,gf 10]
theorem nk(w:aI)(os:aZ):dW bH pw w 11 ann 1 382 (s2 w os) (dw l2 env cE ⟨4,0,5,8⟩ fB)=aa (.next,s3 w os,cE,⟨21,0,22,59⟩):=by
 rewrite[te_sT,te_tb];kernel_rfl
abbrev jS(P:aV):fF:=de P "__name__" 165 iq::(jT P).tail++[de P "scaled" 283 (.ref 88),de P "weighed" 289 (.ref 93),de P "mixed" 301 (.ref 100),de P "head_at" 310 (.ref 107),de P "MOST_KINDS" 314 (.int 6 313),de P "MOST_BILLS" 316 (.int 8 315),de P "are_kinds" 323 (.ref 114),de P "is_bill" 329 (.ref 119),de P "need_kinds" 336 (.ref 126),de P "need_bill" 344 (.ref 133),de P "hall_of" 353 (.ref 140),de P "hall_by" 359 (.ref 145),de P "need_basket_of" 367 (.ref 152),de P "need_basket" 375 (.ref 159)]
abbrev qr(P:aV):Obj:=dc (jS P) 32
abbrev z39:aF:=z2S++lr [(23,87),(25,92),(27,99),(32,106),(40,113),(42,118),(44,125),(47,132),(50,139),(57,144),(59,151),(62,158)]
abbrev oh:=fi z39
abbrev jF:=fn 11
abbrev pA:=cf "scaled" 278 23 2 84 281
abbrev pz:=ff 11 iu 87
abbrev jE:=fn 12
abbrev pv:=cf "weighed" 284 25 2 89 287
abbrev pq:=ff 12 iu 92
abbrev pj:=tu [vs "rows" 293,vs "counts" 294,vs "length" 295,vs "total" 296,vs "row" 297,vs "often" 298]
abbrev jD:=fn 13
abbrev oZ:=cg "mixed" 290 27 3 94 299
abbrev UX:=ff 13 iu 99
abbrev UY:=tu [vs "row" 305,vs "spot" 306,vs "number" 307]
abbrev rW:=fn 14
abbrev UZ:=cg "head_at" 302 32 1 101 308
abbrev Va:=ff 14 iu 106
abbrev Vb:=tu [vs "value" 320]
abbrev rV:=fn 18
abbrev Vc:=cg "are_kinds" 317 40 1 108 321
abbrev Vd:=ff 18 iq 113
abbrev rT:=fn 19
abbrev Ve:=cf "is_bill" 324 42 2 115 327
abbrev Vf:=ff 19 iq 118
abbrev Vg:=tu [vs "kinds" 333]
abbrev rS:=fn 20
abbrev Vh:=cg "need_kinds" 330 44 1 120 334
abbrev Vi:=ff 20 iq 125
abbrev Vj:=tu [vs "bill" 340,vs "kinds" 341]
abbrev rR:=fn 21
abbrev Vk:=cg "need_bill" 337 47 2 127 342
abbrev Vl:=ff 21 iq 132
abbrev Vm:=tu [vs "kinds" 348,vs "bills" 349,vs "bill" 350]
abbrev rQ:=fn 22
abbrev Vn:=cg "hall_of" 345 50 2 134 351
abbrev Vo:=ff 22 iq 139
abbrev rP:=fn 23
abbrev Vp:=cf "hall_by" 354 57 2 141 357
abbrev Vq:=ff 23 iq 144
abbrev Vr:=tu [vs "kinds" 363,vs "basket" 364]
abbrev rO:=fn 24
abbrev Vs:=cg "need_basket_of" 360 59 2 146 365
abbrev Vt:=ff 24 iq 151
abbrev Vu:=tu [vs "hall" 371,vs "basket" 372]
abbrev rN:=fn 25
abbrev Vv:=cg "need_basket" 368 62 2 153 373
abbrev Vw:=ff 25 iq 158
abbrev t4(P:aV):BT:=ju (ins (t3 P) [(3,qr P),(12,oh)]) 84 [fO,j7,jF,pA,pz,fO,j7,jE,pv,pq,fO,j7,pj,fO,jD,oZ,UX,fO,j7,UY,fO,rW,UZ,Va,fO,j7,Vb,fO,rV,Vc,Vd,fO,j7,rT,Ve,Vf,fO,j7,Vg,fO,rS,Vh,Vi,fO,j7,Vj,fO,rR,Vk,Vl,fO,j7,Vm,fO,rQ,Vn,Vo,fO,j7,rP,Vp,Vq,fO,j7,Vr,fO,rO,Vs,Vt,fO,j7,Vu,fO,rN,Vv,Vw]
abbrev s4(w:aI)(os:aZ):dF:=⟨t4 w.params,160,{ },#[],{ },376,os⟩
abbrev l3:fy:=[gf 11,gf 12,gf 13,gf 14,gf 15,gf 16,gf 17,gf 18,gf 19,gf 20,gf 21,gf 22,gf 23,gf 24,gf 25]
theorem ni(w:aI)(os:aZ):dW bH pw w 11 ann 1 376 (s3 w os) (dw l3 env cE ⟨21,0,22,59⟩ fB)=aa (.next,s4 w os,cE,⟨62,0,63,35⟩):=by
 rewrite[te_sT,te_tb];kernel_rfl
abbrev jR(P:aV):fF:=de P "__name__" 165 ig::(jS P).tail++[de P "nought" 382 (.ref 166),de P "apart" 391 (.ref 173),de P "bridge" 399 (.ref 178),de P "rest" 407 (.ref 185),de P "product" 416 (.ref 192),de P "lowering" 431 (.ref 199),de P "lowered" 439 (.ref 206),de P "crossed" 451 (.ref 213),de P "turned_up" 458 (.ref 220),de P "with_row" 464 (.ref 225),de P "evened" 473 (.ref 232),de P "climbed" 482 (.ref 239)]
abbrev qq(P:aV):Obj:=dc (jR P) 44
abbrev z3p:aF:=z39++lr [(64,165),(66,172),(71,177),(82,184),(86,191),(92,198),(102,205),(104,212),(110,219),(112,224),(123,231),(128,238)]
abbrev og:=fi z3p
abbrev Vx:=tu [vs "hall" 379]
abbrev rM:=fn 26
abbrev Vy:=cg "nought" 376 64 1 160 380
abbrev Vz:=ff 26 iq 165
abbrev VA:=tu [vs "hall" 386,vs "one" 387,vs "other" 388]
abbrev rL:=fn 27
abbrev VB:=cg "apart" 383 66 3 167 389
abbrev VC:=ff 27 iq 172
abbrev rK:=fn 29
abbrev VD:=cf "bridge" 394 71 2 174 397
abbrev VE:=ff 29 lI 177
abbrev VF:=tu [vs "a" 403,vs "part" 404]
abbrev rJ:=fn 30
abbrev VG:=cg "rest" 400 82 2 179 405
abbrev VH:=ff 30 lI 184
abbrev VI:=tu [vs "numbers" 411,vs "found" 412,vs "number" 413]
abbrev rH:=fn 31
abbrev VJ:=cg "product" 408 86 1 186 414
abbrev VL:=ff 31 lI 191
abbrev VM:=tu [vs "row" 422,vs "rungs" 423,vs "left" 424,vs "counts" 425,vs "rung" 426,vs "spot" 427,vs "often" 428]
abbrev rG:=fn 33
abbrev VN:=cg "lowering" 419 92 2 193 429
abbrev VO:=ff 33 ig 198
abbrev VP:=tu [vs "row" 435,vs "rungs" 436]
abbrev rF:=fn 34
abbrev VQ:=cg "lowered" 432 102 2 200 437
abbrev VR:=ff 34 ig 205
abbrev VS:=tu [vs "rung" 443,vs "row" 444,vs "spot" 445,vs "found" 446,vs "upper" 447,vs "lower" 448]
abbrev rE:=fn 35
abbrev VT:=cg "crossed" 440 104 2 207 449
abbrev VU:=ff 35 ig 212
abbrev VW:=tu [vs "row" 455]
abbrev rD:=fn 36
abbrev VX:=cg "turned_up" 452 110 1 214 456
abbrev VY:=ff 36 ig 219
abbrev rC:=fn 37
abbrev VZ:=cf "with_row" 459 112 2 221 462
abbrev Wa:=ff 37 ig 224
abbrev Wb:=tu [vs "rungs" 468,vs "found" 469,vs "rung" 470]
abbrev sX:=fn 38
abbrev Wc:=cg "evened" 465 123 1 226 471
abbrev Wd:=ff 38 ig 231
abbrev We:=tu [vs "rows" 477,vs "rungs" 478,vs "row" 479]
abbrev sV:=fn 39
abbrev Wf:=cg "climbed" 474 128 1 233 480
abbrev Wg:=ff 39 ig 238
abbrev t5(P:aV):BT:=ju (ins (t4 P) [(3,qq P),(12,og)]) 160 [fO,j7,Vx,fO,rM,Vy,Vz,fO,j7,VA,fO,rL,VB,VC,fO,j7,rK,VD,VE,fO,j7,VF,fO,rJ,VG,VH,fO,j7,VI,fO,rH,VJ,VL,fO,j7,VM,fO,rG,VN,VO,fO,j7,VP,fO,rF,VQ,VR,fO,j7,VS,fO,rE,VT,VU,fO,j7,VW,fO,rD,VX,VY,fO,j7,rC,VZ,Wa,fO,j7,Wb,fO,sX,Wc,Wd,fO,j7,We,fO,sV,Wf,Wg]
abbrev s5(w:aI)(os:aZ):dF:=⟨t5 w.params,240,{ },#[],{ },483,os⟩
abbrev l4:fy:=[gf 26,gf 27,gf 28,gf 29,gf 30,gf 31,gf 32,gf 33,gf 34,gf 35,gf 36,gf 37,gf 38,gf 39]
theorem mZ(w:aI)(os:aZ):dW bH pw w 11 ann 1 382 (s4 w os) (dw l4 env cE ⟨62,0,63,35⟩ fB)=aa (.next,s5 w os,cE,⟨128,0,132,16⟩):=by
 rewrite[te_sT,te_tb];kernel_rfl
abbrev jQ(P:aV):fF:=de P "__name__" 165 jt::(jR P).tail++[de P "tagged_stair" 488 (.ref 244),de P "tags_of_rungs" 494 (.ref 249),de P "tags_at_nought" 500 (.ref 254),de P "stair" 507 (.ref 261),de P "stair_with_uses" 513 (.ref 266),de P "turned" 521 (.ref 271),de P "is_slant" 527 (.ref 276),de P "rests" 533 (.ref 281),de P "slanted" 539 (.ref 286),de P "linked" 552 (.ref 293),de P "chained" 558 (.ref 298),de P "measures" 564 (.ref 303),de P "parts" 572 (.ref 308),de P "place_by" 578 (.ref 313)]
abbrev qp(P:aV):Obj:=dc (jQ P) 58
abbrev z3C:aF:=z3p++lr [(133,243),(135,248),(137,253),(139,260),(141,265),(145,270),(147,275),(152,280),(154,285),(164,292),(171,297),(179,302),(189,307),(191,312)]
abbrev oa:=fi z3C
abbrev sR:=fn 40
abbrev Wh:=cf "tagged_stair" 483 133 2 240 486
abbrev Wj:=ff 40 ig 243
abbrev sQ:=fn 41
abbrev Wk:=cf "tags_of_rungs" 489 135 2 245 492
abbrev Wl:=ff 41 ig 248
abbrev sP:=fn 42
abbrev Wm:=cf "tags_at_nought" 495 137 2 250 498
abbrev Wn:=ff 42 ig 253
abbrev Wo:=tu [vs "hall" 504]
abbrev sO:=fn 43
abbrev Wp:=cg "stair" 501 139 1 255 505
abbrev Wq:=ff 43 ig 260
abbrev sN:=fn 44
abbrev Wr:=cf "stair_with_uses" 508 141 1 262 511
abbrev Ws:=ff 44 ig 265
abbrev sM:=fn 46
abbrev Wt:=cf "turned" 516 145 2 267 519
abbrev Wu:=ff 46 iU 270
abbrev sL:=fn 47
abbrev Wv:=cf "is_slant" 522 147 1 272 525
abbrev Ww:=ff 47 iU 275
abbrev sJ:=fn 48
abbrev Wx:=cf "rests" 528 152 2 277 531
abbrev Wy:=ff 48 iU 280
abbrev sI:=fn 49
abbrev Wz:=cf "slanted" 534 154 3 282 537
abbrev WA:=ff 49 iU 285
abbrev WB:=tu [vs "one" 543,vs "other" 544,vs "found" 545,vs "common" 546,vs "least" 547,vs "upper" 548,vs "lower" 549]
abbrev sH:=fn 50
abbrev WD:=cg "linked" 540 164 2 287 550
abbrev WE:=ff 50 iU 292
abbrev sG:=fn 51
abbrev WG:=cf "chained" 553 171 1 294 556
abbrev WH:=ff 51 iU 297
abbrev sF:=fn 52
abbrev WI:=cf "measures" 559 179 1 299 562
abbrev WJ:=ff 52 iU 302
abbrev sE:=fn 54
abbrev WK:=cf "parts" 567 189 1 304 570
abbrev WL:=ff 54 jt 307
abbrev sC:=fn 55
abbrev WM:=cf "place_by" 573 191 2 309 576
abbrev WN:=ff 55 jt 312
abbrev t6(P:aV):BT:=ju (ins (t5 P) [(3,qp P),(12,oa)]) 240 [fO,j7,sR,Wh,Wj,fO,j7,sQ,Wk,Wl,fO,j7,sP,Wm,Wn,fO,j7,Wo,fO,sO,Wp,Wq,fO,j7,sN,Wr,Ws,fO,j7,sM,Wt,Wu,fO,j7,sL,Wv,Ww,fO,j7,sJ,Wx,Wy,fO,j7,sI,Wz,WA,fO,j7,WB,fO,sH,WD,WE,fO,j7,sG,WG,WH,fO,j7,sF,WI,WJ,fO,j7,sE,WK,WL,fO,j7,sC,WM,WN]
abbrev s6(w:aI)(os:aZ):dF:=⟨t6 w.params,314,{ },#[],{ },579,os⟩
abbrev l5:fy:=[gf 40,gf 41,gf 42,gf 43,gf 44,gf 45,gf 46,gf 47,gf 48,gf 49,gf 50,gf 51,gf 52,gf 53,gf 54,gf 55]
theorem mY(w:aI)(os:aZ):dW bH pw w 11 ann 1 395 (s5 w os) (dw l5 env cE ⟨128,0,132,16⟩ fB)=aa (.next,s6 w os,cE,⟨191,0,192,79⟩):=by
 rewrite[te_sT,te_tb];kernel_rfl
abbrev jP(P:aV):fF:=de P "__name__" 165 gQ::(jQ P).tail++[de P "baskets_by" 584 (.ref 318),de P "shape" 592 (.ref 323),de P "one_shape" 600 (.ref 330),de P "table_to" 606 (.ref 335),de P "plan" 617 (.ref 342),de P "settled" 628 (.ref 349),de P "scales" 636 (.ref 354),de P "tilt" 644 (.ref 361),de P "measured_scale" 652 (.ref 368),de P "denial" 664 (.ref 375),de P "_law_cell_at" 674 (.ref 382),de P "_law_whole" 681 (.ref 389)]
abbrev qo(P:aV):Obj:=dc (jP P) 70
abbrev z3R:aF:=z3C++lr [(193,317),(201,322),(203,329),(205,334),(215,341),(217,348),(224,353),(226,360),(228,367),(230,374),(238,381),(244,388)]
abbrev nZ:=fi z3R
abbrev sA:=fn 56
abbrev WO:=cf "baskets_by" 579 193 1 314 582
abbrev WP:=ff 56 jt 317
abbrev sr:=fn 58
abbrev WQ:=cf "shape" 587 201 1 319 590
abbrev WR:=ff 58 lH 322
abbrev WS:=tu [vs "one" 596,vs "other" 597]
abbrev sk:=fn 59
abbrev WT:=cg "one_shape" 593 203 2 324 598
abbrev WU:=ff 59 lH 329
abbrev sj:=fn 60
abbrev WV:=cf "table_to" 601 205 2 331 604
abbrev WW:=ff 60 lH 334
abbrev WX:=tu [vs "hall" 612,vs "one" 613,vs "other" 614]
abbrev si:=fn 62
abbrev WY:=cg "plan" 609 215 3 336 615
abbrev WZ:=ff 62 ox 341
abbrev Xa:=tu [vs "hall" 621,vs "one" 622,vs "other" 623,vs "back" 624,vs "left" 625]
abbrev rZ:=fn 63
abbrev Xb:=cg "settled" 618 217 3 343 626
abbrev Xc:=ff 63 ox 348
abbrev rY:=fn 65
abbrev Xd:=cf "scales" 631 224 1 350 634
abbrev Xe:=ff 65 jr 353
abbrev Xf:=tu [vs "way" 640,vs "scale" 641]
abbrev rX:=fn 66
abbrev Xg:=cg "tilt" 637 226 2 355 642
abbrev Xh:=ff 66 jr 360
abbrev Xi:=tu [vs "scale" 648,vs "found" 649]
abbrev rB:=fn 67
abbrev Xj:=cg "measured_scale" 645 228 2 362 650
abbrev Xk:=ff 67 jr 367
abbrev Xl:=tu [vs "hall" 656,vs "one" 657,vs "other" 658,vs "way" 659,vs "scale" 660,vs "found" 661]
abbrev rA:=fn 68
abbrev Xm:=cg "denial" 653 230 3 369 662
abbrev Xn:=ff 68 jr 374
abbrev Xo:=tu [vs "_law_script" 670,vs "_law_k" 671]
abbrev rq:=fn 70
abbrev Xp:=cg "_law_cell_at" 667 238 2 376 672
abbrev Xq:=ff 70 gQ 381
abbrev Xr:=tu [vs "_law_found" 678]
abbrev rk:=fn 71
abbrev Xs:=cg "_law_whole" 675 244 1 383 679
abbrev Xu:=ff 71 gQ 388
abbrev t7(P:aV):BT:=ju (ins (t6 P) [(3,qo P),(12,nZ)]) 314 [fO,j7,sA,WO,WP,fO,j7,sr,WQ,WR,fO,j7,WS,fO,sk,WT,WU,fO,j7,sj,WV,WW,fO,j7,WX,fO,si,WY,WZ,fO,j7,Xa,fO,rZ,Xb,Xc,fO,j7,rY,Xd,Xe,fO,j7,Xf,fO,rX,Xg,Xh,fO,j7,Xi,fO,rB,Xj,Xk,fO,j7,Xl,fO,rA,Xm,Xn,fO,j7,Xo,fO,rq,Xp,Xq,fO,j7,Xr,fO,rk,Xs,Xu]
abbrev s7(w:aI)(os:aZ):dF:=⟨t7 w.params,390,{ },#[],{ },682,os⟩
abbrev l6:fy:=[gf 56,gf 57,gf 58,gf 59,gf 60,gf 61,gf 62,gf 63,gf 64,gf 65,gf 66,gf 67,gf 68,gf 69,gf 70,gf 71]
theorem mX(w:aI)(os:aZ):dW bH pw w 11 ann 1 388 (s6 w os) (dw l6 env cE ⟨191,0,192,79⟩ fB)=aa (.next,s7 w os,cE,⟨244,0,245,77⟩):=by
 rewrite[te_sT,te_tb];kernel_rfl
abbrev jO(P:aV):fF:=de P "__name__" 165 gQ::(jP P).tail++[de P "_law_is_row" 690 (.ref 396),de P "_law_number" 700 (.ref 403),de P "_law_row" 706 (.ref 408),de P "_law_sum" 712 (.ref 413),de P "_law_plus" 718 (.ref 418),de P "_law_heavy" 728 (.ref 425),de P "_law_leads" 738 (.ref 432),de P "_law_denies" 749 (.ref 439),de P "_law_two" 755 (.ref 444),de P "_law_copied" 761 (.ref 449),de P "_law_same" 773 (.ref 456),de P "_law_turned" 779 (.ref 461),de P "_law_reached" 785 (.ref 466)]
abbrev qm(P:aV):Obj:=dc (jO P) 83
abbrev z44:aF:=z3R++lr [(246,395),(253,402),(264,407),(266,412),(271,417),(273,424),(278,431),(282,438),(291,443),(303,448),(305,455),(313,460),(327,465)]
abbrev nW:=fi z44
abbrev Xv:=tu [vs "_law_found" 685,vs "_law_size" 686,vs "_law_number_here" 687]
abbrev rj:=fn 72
abbrev Xw:=cg "_law_is_row" 682 246 2 390 688
abbrev Xx:=ff 72 gQ 395
abbrev Xy:=tu [vs "_law_cell" 694,vs "_law_mode" 695,vs "_law_number_here" 696,vs "_law_wide" 697]
abbrev rf:=fn 73
abbrev Xz:=cg "_law_number" 691 253 2 397 698
abbrev XA:=ff 73 gQ 402
abbrev qZ:=fn 74
abbrev XB:=cf "_law_row" 701 264 4 404 704
abbrev XC:=ff 74 gQ 407
abbrev qY:=fn 75
abbrev XD:=cf "_law_sum" 707 266 3 409 710
abbrev XE:=ff 75 gQ 412
abbrev qX:=fn 76
abbrev XF:=cf "_law_plus" 713 271 3 414 716
abbrev XG:=ff 76 gQ 417
abbrev XH:=tu [vs "_law_weights" 722,vs "_law_row_here" 723,vs "_law_made" 724,vs "_law_k" 725]
abbrev qW:=fn 77
abbrev XI:=cg "_law_heavy" 719 273 2 419 726
abbrev XJ:=ff 77 gQ 424
abbrev XM:=tu [vs "_law_bills" 732,vs "_law_one" 733,vs "_law_other_here" 734,vs "_law_uses" 735]
abbrev qV:=fn 78
abbrev XO:=cg "_law_leads" 729 278 4 426 736
abbrev XQ:=ff 78 gQ 431
abbrev XR:=tu [vs "_law_bills" 742,vs "_law_one" 743,vs "_law_other_here" 744,vs "_law_scale" 745,vs "_law_bill" 746]
abbrev qU:=fn 79
abbrev XS:=cg "_law_denies" 739 282 4 433 747
abbrev XT:=ff 79 gQ 438
abbrev qT:=fn 80
abbrev XU:=cf "_law_two" 750 291 1 440 753
abbrev XV:=ff 80 gQ 443
abbrev qS:=fn 81
abbrev XW:=cf "_law_copied" 756 303 1 445 759
abbrev XY:=ff 81 gQ 448
abbrev XZ:=tu [vs "_law_hall" 765,vs "_law_bills" 766,vs "_law_one" 767,vs "_law_other_here" 768,vs "_law_uses" 769,vs "_law_scale" 770]
abbrev qR:=fn 82
abbrev Yb:=cg "_law_same" 762 305 4 450 771
abbrev Yc:=ff 82 gQ 455
abbrev qQ:=fn 83
abbrev Yd:=cf "_law_turned" 774 313 3 457 777
abbrev Ye:=ff 83 gQ 460
abbrev qP:=fn 84
abbrev Yg:=cf "_law_reached" 780 327 3 462 783
abbrev Yh:=ff 84 gQ 465
abbrev t8(P:aV):BT:=ju (ins (t7 P) [(3,qm P),(12,nW)]) 390 [fO,j7,Xv,fO,rj,Xw,Xx,fO,j7,Xy,fO,rf,Xz,XA,fO,j7,qZ,XB,XC,fO,j7,qY,XD,XE,fO,j7,qX,XF,XG,fO,j7,XH,fO,qW,XI,XJ,fO,j7,XM,fO,qV,XO,XQ,fO,j7,XR,fO,qU,XS,XT,fO,j7,qT,XU,XV,fO,j7,qS,XW,XY,fO,j7,XZ,fO,qR,Yb,Yc,fO,j7,qQ,Yd,Ye,fO,j7,qP,Yg,Yh]
abbrev s8(w:aI)(os:aZ):dF:=⟨t8 w.params,467,{ },#[],{ },786,os⟩
abbrev l7:fy:=[gf 72,gf 73,gf 74,gf 75,gf 76,gf 77,gf 78,gf 79,gf 80,gf 81,gf 82,gf 83,gf 84]
theorem mW(w:aI)(os:aZ):dW bH pw w 11 ann 1 377 (s7 w os) (dw l7 env cE ⟨244,0,245,77⟩ fB)=aa (.next,s8 w os,cE,⟨327,0,340,15⟩):=by
 rewrite[te_sT,te_tb];kernel_rfl
abbrev nS(P:aV):fF:=de P "__name__" 165 gQ::(jO P).tail++[de P "_law_with_ones" 791 (.ref 471),de P "_law_other" 803 (.ref 478),de P "_law_kept" 809 (.ref 483),de P "law" 815 (.ref 488)]
abbrev ly(P:aV):Obj:=dc (nS P) 87
abbrev o12_9L:aF:=z44++lr [(341,470),(346,477),(358,482),(370,487)]
abbrev ka:=fi o12_9L
abbrev qO:=fn 85
abbrev Yi:=cf "_law_with_ones" 786 341 3 467 789
abbrev Yj:=ff 85 gQ 470
abbrev Yk:=tu [vs "_law_script" 795,vs "_law_drawn" 796,vs "_law_way" 797,vs "_law_others" 798,vs "_law_size" 799,vs "_law_k" 800]
abbrev qN:=fn 86
abbrev Yl:=cg "_law_other" 792 346 2 472 801
abbrev Ym:=ff 86 gQ 477
abbrev qM:=fn 87
abbrev Yn:=cf "_law_kept" 804 358 6 479 807
abbrev Yo:=ff 87 gQ 482
abbrev qL:=fn 88
abbrev Yp:=cf "law" 810 370 1 484 813
abbrev Yq:=ff 88 gQ 487
abbrev t9(P:aV):BT:=ju (ins (t8 P) [(3,ly P),(12,ka)]) 467 [fO,j7,qO,Yi,Yj,fO,j7,Yk,fO,qN,Yl,Ym,fO,j7,qM,Yn,Yo,fO,j7,qL,Yp,Yq]
abbrev s9(w:aI)(os:aZ):dF:=⟨t9 w.params,489,{ },#[],{ },816,os⟩
abbrev l8:fy:=[gf 85,gf 86,gf 87,gf 88]
theorem mV(w:aI)(os:aZ):dW bH pw w 11 ann 1 113 (s8 w os) (dw l8 env cE ⟨327,0,340,15⟩ fB)=aa (.next,s9 w os,cE,⟨370,0,389,155⟩):=by
 rewrite[te_sT,te_tb];kernel_rfl
def h1(P:aV):aR:=⟨⟨[boot_o_0 P,boot_o_1 P,boot_o_2 P,ly P,boot_o_4 P,boot_o_5 P,boot_o_6 P,boot_o_7 P,boot_o_8 P,boot_o_9 P,boot_o_10 P,fO,ka,lE,o14a,pT,Os,jZ P,fO,j7,jY,o21_1,fO,pS P,z2T,z2O,o26_1,o27_1,Ot,Os,jX P,fO,j7,jW,o34_2,fO,pR P,z2R,o38_2,o39_2,Ot,Os,jN P,fO,j7,jM,o46_3,fO,pQ P,z2V,o50_3,o51_3,fO,j7,pP,fO,jL,pO,pN,fO,j7,jK,pM,pJ,fO,j7,jJ,pI,pH,fO,j7,jI,pG,pF,fO,j7,jH,pE,pD,fO,j7,jG,pC,pB,fO,j7,jF,pA,pz,fO,j7,jE,pv,pq,fO,j7,pj,fO,jD,oZ,UX,fO,j7,UY,fO,rW,UZ,Va,fO,j7,Vb,fO,rV,Vc,Vd,fO,j7,rT,Ve,Vf,fO,j7,Vg,fO,rS,Vh,Vi,fO,j7,Vj,fO,rR,Vk,Vl,fO,j7,Vm,fO,rQ,Vn,Vo,fO,j7,rP,Vp,Vq,fO,j7,Vr,fO,rO,Vs,Vt,fO,j7,Vu,fO,rN,Vv,Vw,fO,j7,Vx,fO,rM,Vy,Vz,fO,j7,VA,fO,rL,VB,VC,fO,j7,rK,VD,VE,fO,j7,VF,fO,rJ,VG,VH,fO,j7,VI,fO,rH,VJ,VL,fO,j7,VM,fO,rG,VN,VO,fO,j7,VP,fO,rF,VQ,VR,fO,j7,VS,fO,rE,VT,VU,fO,j7,VW,fO,rD,VX,VY,fO,j7,rC,VZ,Wa,fO,j7,Wb,fO,sX,Wc,Wd,fO,j7,We,fO,sV,Wf,Wg,fO,j7,sR,Wh,Wj,fO,j7,sQ,Wk,Wl,fO,j7,sP,Wm,Wn,fO,j7,Wo,fO,sO,Wp,Wq,fO,j7,sN,Wr,Ws,fO,j7,sM,Wt,Wu,fO,j7,sL,Wv,Ww,fO,j7,sJ,Wx,Wy,fO,j7,sI,Wz,WA,fO,j7,WB,fO,sH,WD,WE,fO,j7,sG,WG,WH,fO,j7,sF,WI,WJ,fO,j7,sE,WK,WL,fO,j7,sC,WM,WN,fO,j7,sA,WO,WP,fO,j7,sr,WQ,WR,fO,j7,WS,fO,sk,WT,WU,fO,j7,sj,WV,WW,fO,j7,WX,fO,si,WY,WZ,fO,j7,Xa,fO,rZ,Xb,Xc,fO,j7,rY,Xd,Xe,fO,j7,Xf,fO,rX,Xg,Xh,fO,j7,Xi,fO,rB,Xj,Xk,fO,j7,Xl,fO,rA,Xm,Xn,fO,j7,Xo,fO,rq,Xp,Xq,fO,j7,Xr,fO,rk,Xs,Xu,fO,j7,Xv,fO,rj,Xw,Xx,fO,j7,Xy,fO,rf,Xz,XA,fO,j7,qZ,XB,XC,fO,j7,qY,XD,XE,fO,j7,qX,XF,XG,fO,j7,XH,fO,qW,XI,XJ,fO,j7,XM,fO,qV,XO,XQ,fO,j7,XR,fO,qU,XS,XT,fO,j7,qT,XU,XV,fO,j7,qS,XW,XY,fO,j7,XZ,fO,qR,Yb,Yc,fO,j7,qQ,Yd,Ye,fO,j7,qP,Yg,Yh,fO,j7,qO,Yi,Yj,fO,j7,Yk,fO,qN,Yl,Ym,fO,j7,qM,Yn,Yo,fO,j7,qL,Yp,Yq]⟩,{ }⟩
abbrev QI:Drawn:={ }
theorem mS(w:aI)(os:aZ):topRun bH pw w 11 ann 2 (s9 w os).abs ⟨doneF .next,cE,⟨370,0,389,155⟩,fB⟩=aa ⟨h1 w.params,#[],QI,816,os⟩:=by
 rewrite[te_tr,te_tb];kernel_rfl
theorem z5z:behindTheImports pw=(l0++(l1++(l2++(l3++(l4++(l5++(l6++(l7++(l8++[]))))))))):=by kernel_rfl
theorem jm(w:aI)(os:aZ):topRun bH pw w 11 ann (12+(1+(196+(214+(382+(376+(382+(395+(388+(377+(113+2))))))))))) ⟨cW w.params,#[],boot_drawn,boot_toks,os⟩ (topStub pw)=aa ⟨h1 w.params,#[],QI,816,os⟩:=
 go_top (mU w os) (piece_block (env:=env) (mT w os) (by rw[z5z];exact(cU (cT (nv w os)) (cU (cT (nq w os)) (cU (cT (nk w os)) (cU (cT (ni w os)) (cU (cT (mZ w os)) (cU (cT (mY w os)) (cU (cT (mX w os)) (cU (cT (mW w os)) (cU (cT (mV w os)) (mS w os))))))))))))
abbrev keep:fu:=[1,2,3,5,6,7,8,9,10,11,12,13,14,16,17,18,19,20,21,22,23,24,25,26,27,29,30,31,33,34,35,36,37,38,39,40,41,42,43,44,46,47,48,49,50,51,52,54,55,56,58,59,60,62,63,65,66,67,68,70,71,72,73,74,75,76,77,78,79,80,81,82,83,84,85,86,87,88]
def K:aV->PySem.W.Frag:=λP=>(nat_lit 2,boot_o_2 P)::(nat_lit 3,ly P)::(nat_lit 15,pT)::(nat_lit 22,fO)::(nat_lit 23,pS P)::(nat_lit 24,z2T)::(nat_lit 25,z2O)::(nat_lit 28,Ot)::(nat_lit 35,fO)::(nat_lit 36,pR P)::(nat_lit 37,z2R)::(nat_lit 40,Ot)::(nat_lit 47,fO)::(nat_lit 48,pQ P)::(nat_lit 49,z2V)::(nat_lit 52,fO)::(nat_lit 54,pP)::(nat_lit 55,fO)::(nat_lit 57,pO)::(nat_lit 58,pN)::(nat_lit 59,fO)::(nat_lit 62,pM)::(nat_lit 63,pJ)::(nat_lit 64,fO)::(nat_lit 67,pI)::(nat_lit 68,pH)::(nat_lit 69,fO)::(nat_lit 72,pG)::(nat_lit 73,pF)::(nat_lit 74,fO)::(nat_lit 77,pE)::(nat_lit 78,pD)::(nat_lit 79,fO)::(nat_lit 82,pC)::(nat_lit 83,pB)::(nat_lit 84,fO)::(nat_lit 87,pA)::(nat_lit 88,pz)::(nat_lit 89,fO)::(nat_lit 92,pv)::(nat_lit 93,pq)::(nat_lit 94,fO)::(nat_lit 96,pj)::(nat_lit 97,fO)::(nat_lit 99,oZ)::(nat_lit 100,UX)::(nat_lit 101,fO)::(nat_lit 103,UY)::(nat_lit 104,fO)::(nat_lit 106,UZ)::(nat_lit 107,Va)::(nat_lit 108,fO)::(nat_lit 110,Vb)::(nat_lit 111,fO)::(nat_lit 113,Vc)::(nat_lit 114,Vd)::(nat_lit 115,fO)::(nat_lit 118,Ve)::(nat_lit 119,Vf)::(nat_lit 120,fO)::(nat_lit 122,Vg)::(nat_lit 123,fO)::(nat_lit 125,Vh)::(nat_lit 126,Vi)::(nat_lit 127,fO)::(nat_lit 129,Vj)::(nat_lit 130,fO)::(nat_lit 132,Vk)::(nat_lit 133,Vl)::(nat_lit 134,fO)::(nat_lit 136,Vm)::(nat_lit 137,fO)::(nat_lit 139,Vn)::(nat_lit 140,Vo)::(nat_lit 141,fO)::(nat_lit 144,Vp)::(nat_lit 145,Vq)::(nat_lit 146,fO)::(nat_lit 148,Vr)::(nat_lit 149,fO)::(nat_lit 151,Vs)::(nat_lit 152,Vt)::(nat_lit 153,fO)::(nat_lit 155,Vu)::(nat_lit 156,fO)::(nat_lit 158,Vv)::(nat_lit 159,Vw)::(nat_lit 160,fO)::(nat_lit 162,Vx)::(nat_lit 163,fO)::(nat_lit 165,Vy)::(nat_lit 166,Vz)::(nat_lit 167,fO)::(nat_lit 169,VA)::(nat_lit 170,fO)::(nat_lit 172,VB)::(nat_lit 173,VC)::(nat_lit 174,fO)::(nat_lit 177,VD)::(nat_lit 178,VE)::(nat_lit 179,fO)::(nat_lit 181,VF)::(nat_lit 182,fO)::(nat_lit 184,VG)::(nat_lit 185,VH)::(nat_lit 186,fO)::(nat_lit 188,VI)::(nat_lit 189,fO)::(nat_lit 191,VJ)::(nat_lit 192,VL)::(nat_lit 193,fO)::(nat_lit 195,VM)::(nat_lit 196,fO)::(nat_lit 198,VN)::(nat_lit 199,VO)::(nat_lit 200,fO)::(nat_lit 202,VP)::(nat_lit 203,fO)::(nat_lit 205,VQ)::(nat_lit 206,VR)::(nat_lit 207,fO)::(nat_lit 209,VS)::(nat_lit 210,fO)::(nat_lit 212,VT)::(nat_lit 213,VU)::(nat_lit 214,fO)::(nat_lit 216,VW)::(nat_lit 217,fO)::(nat_lit 219,VX)::(nat_lit 220,VY)::(nat_lit 221,fO)::(nat_lit 224,VZ)::(nat_lit 225,Wa)::(nat_lit 226,fO)::(nat_lit 228,Wb)::(nat_lit 229,fO)::(nat_lit 231,Wc)::(nat_lit 232,Wd)::(nat_lit 233,fO)::(nat_lit 235,We)::(nat_lit 236,fO)::(nat_lit 238,Wf)::(nat_lit 239,Wg)::(nat_lit 240,fO)::(nat_lit 243,Wh)::(nat_lit 244,Wj)::(nat_lit 245,fO)::(nat_lit 248,Wk)::(nat_lit 249,Wl)::(nat_lit 250,fO)::(nat_lit 253,Wm)::(nat_lit 254,Wn)::(nat_lit 255,fO)::(nat_lit 257,Wo)::(nat_lit 258,fO)::(nat_lit 260,Wp)::(nat_lit 261,Wq)::(nat_lit 262,fO)::(nat_lit 265,Wr)::(nat_lit 266,Ws)::(nat_lit 267,fO)::(nat_lit 270,Wt)::(nat_lit 271,Wu)::(nat_lit 272,fO)::(nat_lit 275,Wv)::(nat_lit 276,Ww)::(nat_lit 277,fO)::(nat_lit 280,Wx)::(nat_lit 281,Wy)::(nat_lit 282,fO)::(nat_lit 285,Wz)::(nat_lit 286,WA)::(nat_lit 287,fO)::(nat_lit 289,WB)::(nat_lit 290,fO)::(nat_lit 292,WD)::(nat_lit 293,WE)::(nat_lit 294,fO)::(nat_lit 297,WG)::(nat_lit 298,WH)::(nat_lit 299,fO)::(nat_lit 302,WI)::(nat_lit 303,WJ)::(nat_lit 304,fO)::(nat_lit 307,WK)::(nat_lit 308,WL)::(nat_lit 309,fO)::(nat_lit 312,WM)::(nat_lit 313,WN)::(nat_lit 314,fO)::(nat_lit 317,WO)::(nat_lit 318,WP)::(nat_lit 319,fO)::(nat_lit 322,WQ)::(nat_lit 323,WR)::(nat_lit 324,fO)::(nat_lit 326,WS)::(nat_lit 327,fO)::(nat_lit 329,WT)::(nat_lit 330,WU)::(nat_lit 331,fO)::(nat_lit 334,WV)::(nat_lit 335,WW)::(nat_lit 336,fO)::(nat_lit 338,WX)::(nat_lit 339,fO)::(nat_lit 341,WY)::(nat_lit 342,WZ)::(nat_lit 343,fO)::(nat_lit 345,Xa)::(nat_lit 346,fO)::(nat_lit 348,Xb)::(nat_lit 349,Xc)::(nat_lit 350,fO)::(nat_lit 353,Xd)::(nat_lit 354,Xe)::(nat_lit 355,fO)::(nat_lit 357,Xf)::(nat_lit 358,fO)::(nat_lit 360,Xg)::(nat_lit 361,Xh)::(nat_lit 362,fO)::(nat_lit 364,Xi)::(nat_lit 365,fO)::(nat_lit 367,Xj)::(nat_lit 368,Xk)::(nat_lit 369,fO)::(nat_lit 371,Xl)::(nat_lit 372,fO)::(nat_lit 374,Xm)::(nat_lit 375,Xn)::(nat_lit 376,fO)::(nat_lit 378,Xo)::(nat_lit 379,fO)::(nat_lit 381,Xp)::(nat_lit 382,Xq)::(nat_lit 383,fO)::(nat_lit 385,Xr)::(nat_lit 386,fO)::(nat_lit 388,Xs)::(nat_lit 389,Xu)::(nat_lit 390,fO)::(nat_lit 392,Xv)::(nat_lit 393,fO)::(nat_lit 395,Xw)::(nat_lit 396,Xx)::(nat_lit 397,fO)::(nat_lit 399,Xy)::(nat_lit 400,fO)::(nat_lit 402,Xz)::(nat_lit 403,XA)::(nat_lit 404,fO)::(nat_lit 407,XB)::(nat_lit 408,XC)::(nat_lit 409,fO)::(nat_lit 412,XD)::(nat_lit 413,XE)::(nat_lit 414,fO)::(nat_lit 417,XF)::(nat_lit 418,XG)::(nat_lit 419,fO)::(nat_lit 421,XH)::(nat_lit 422,fO)::(nat_lit 424,XI)::(nat_lit 425,XJ)::(nat_lit 426,fO)::(nat_lit 428,XM)::(nat_lit 429,fO)::(nat_lit 431,XO)::(nat_lit 432,XQ)::(nat_lit 433,fO)::(nat_lit 435,XR)::(nat_lit 436,fO)::(nat_lit 438,XS)::(nat_lit 439,XT)::(nat_lit 440,fO)::(nat_lit 443,XU)::(nat_lit 444,XV)::(nat_lit 445,fO)::(nat_lit 448,XW)::(nat_lit 449,XY)::(nat_lit 450,fO)::(nat_lit 452,XZ)::(nat_lit 453,fO)::(nat_lit 455,Yb)::(nat_lit 456,Yc)::(nat_lit 457,fO)::(nat_lit 460,Yd)::(nat_lit 461,Ye)::(nat_lit 462,fO)::(nat_lit 465,Yg)::(nat_lit 466,Yh)::(nat_lit 467,fO)::(nat_lit 470,Yi)::(nat_lit 471,Yj)::(nat_lit 472,fO)::(nat_lit 474,Yk)::(nat_lit 475,fO)::(nat_lit 477,Yl)::(nat_lit 478,Ym)::(nat_lit 479,fO)::(nat_lit 482,Yn)::(nat_lit 483,Yo)::(nat_lit 484,fO)::(nat_lit 487,Yp)::(nat_lit 488,Yq)::[]
abbrev Ka:ft:=[2,3,15,22,23,24,25,28,35,36,37,40,47,48,49,52,54,55,57,58,59,62,63,64,67,68,69,72,73,74,77,78,79,82,83,84,87,88,89,92,93,94,96,97,99,100,101,103,104,106,107,108,110,111,113,114,115,118,119,120,122,123,125,126,127,129,130,132,133,134,136,137,139,140,141,144,145,146,148,149,151,152,153,155,156,158,159,160,162,163,165,166,167,169,170,172,173,174,177,178,179,181,182,184,185,186,188,189,191,192,193,195,196,198,199,200,202,203,205,206,207,209,210,212,213,214,216,217,219,220,221,224,225,226,228,229,231,232,233,235,236,238,239,240,243,244,245,248,249,250,253,254,255,257,258,260,261,262,265,266,267,270,271,272,275,276,277,280,281,282,285,286,287,289,290,292,293,294,297,298,299,302,303,304,307,308,309,312,313,314,317,318,319,322,323,324,326,327,329,330,331,334,335,336,338,339,341,342,343,345,346,348,349,350,353,354,355,357,358,360,361,362,364,365,367,368,369,371,372,374,375,376,378,379,381,382,383,385,386,388,389,390,392,393,395,396,397,399,400,402,403,404,407,408,409,412,413,414,417,418,419,421,422,424,425,426,428,429,431,432,433,435,436,438,439,440,443,444,445,448,449,450,452,453,455,456,457,460,461,462,465,466,467,470,471,472,474,475,477,478,479,482,483,484,487,488]
theorem Ke(P:aV):Ka=(K P).map (·.1):=by kernel_rfl
abbrev qv:aN:=view pw keep
abbrev Xt:Shared->Bool:=λs=>xlAt qv [] s&&recOk [] s
abbrev sW(w:aI)(os:aZ):Shared:=⟨h1 w.params,#[],QI,816,os⟩
theorem opened:∀w:aI,(fencedOpening bH pw w 5754).map (λs=>(s.heap,s.gens,s.drawn,s.toks))=aa (cW w.params,Array.mk [],boot_drawn,boot_toks):=boot_open (by kernel_rfl) (by kernel_rfl) (λs=>by kernel_rfl)
theorem mR(w:aI):((cW w.params).isNs aw&&(Array.mk []:Array GenState).size==0,(cW w.params).objs.size,(cW w.params).nsMap aw "__annotations__")=(af,11,ann):=by
 rewrite[te_ns];kernel_rfl
theorem lk0(w:aI)(os:aZ):(staticsOk (cX pw.main.body) (cW w.params) (h1 w.params)&&namesBound pw (h1 w.params)&&gensDone (sW w os)&&laidKept (cW w.params) (h1 w.params))=af:=by
 rewrite[te_im];kernel_rfl
theorem lk1(w:aI)(os:aZ):seen ((recsOf qv).map (·.name)) (ownsOf qv) [] { (sW w os)with gens:=#[] }=expectedOf qv:=by
 rewrite[te_seen,te_recs,te_owns];kernel_rfl
theorem lk2(w:aI)(os:aZ):(sW w os).heap.bltView=bltViewBooted:=by
 kernel_rfl
theorem lk3(w:aI)(os:aZ):((sW w os).heap.keysOk (looseW qv []) ((recsOf qv).map (·.name)) ((litsOf qv).map (·.1)) ((clssOf qv (looseW qv [])).map (·.name))&&(sW w os).heap.accountedOkI (cX pw.main.body)&&(sW w os).heap.isNs aw&&(sW w os).heap.isNs dJ&&tablesOk qv (sW w os).heap&&Xt (sW w os)&&(if af=af then(sW w os).gens.size==0 else !leftWithCleanup (sW w os).gens))=af:=by
 rewrite[te_keys,te_loose,te_recs,te_lits,te_clss,te_acc,te_im,te_tabl];kernel_rfl
theorem lk4(w:aI)(os:aZ):tabsOk qv (sW w os)=af:=by
 rewrite[te_tabs];kernel_rfl
theorem lk5(w:aI)(os:aZ):pinSeenD qv (drecsOf qv) (sW w os)=pinGoodD (drecsOf qv):=by
 rewrite[te_pin,te_drecs];kernel_rfl
theorem lk6(w:aI)(os:aZ):plainSeenE qv (looseW qv []) (sW w os)=plainGoodE qv (looseW qv []):=by
 rewrite[te_pE,te_loose];kernel_rfl
theorem lk7(w:aI)(os:aZ):plainSeenD qv [] (sW w os)=plainGoodD qv []:=by
 rewrite[te_pD];kernel_rfl
theorem lk8(w:aI)(os:aZ):wideSeen qv (sW w os)=wideGood qv:=by
 rewrite[te_wide];kernel_rfl
theorem lk9(w:aI)(os:aZ):clsSeenW qv [] (sW w os)=clsGoodW qv []:=by
 rewrite[te_cls];kernel_rfl
theorem qz(w:aI)(os:aZ):Hook.obs (kHook K Ka Ke) (sW w os)=Hook.val (kHook K Ka Ke) w:=by
 kernel_rfl
theorem sn(w:aI)(os:aZ):openSeen qv [] (cX pw.main.body) Xt af (sW w os)=(seen ((recsOf qv).map (·.name)) (ownsOf qv) [] { (sW w os)with gens:=#[] },(sW w os).heap.bltView,((sW w os).heap.keysOk (looseW qv []) ((recsOf qv).map (·.name)) ((litsOf qv).map (·.1)) ((clssOf qv (looseW qv [])).map (·.name))&&(sW w os).heap.accountedOkI (cX pw.main.body)&&(sW w os).heap.isNs aw&&(sW w os).heap.isNs dJ&&tablesOk qv (sW w os).heap&&Xt (sW w os)&&(if af=af then(sW w os).gens.size==0 else !leftWithCleanup (sW w os).gens)),tabsOk qv (sW w os),pinSeenD qv (drecsOf qv) (sW w os),plainSeenE qv (looseW qv []) (sW w os),plainSeenD qv [] (sW w os),wideSeen qv (sW w os),clsSeenW qv [] (sW w os)):=by kernel_rfl
theorem gd:openGood qv []=(expectedOf qv,bltViewBooted,af,af,pinGoodD (drecsOf qv),plainGoodE qv (looseW qv []),plainGoodD qv [],wideGood qv,clsGoodW qv []):=by kernel_rfl
theorem lkS(w:aI)(os:aZ):openSeen qv [] (cX pw.main.body) Xt af (sW w os)=openGood qv []:=(sn w os).trans (Eq.trans (cF (lk1 w os) (cF (lk2 w os) (cF (lk3 w os) (cF (lk4 w os) (cF (lk5 w os) (cF (lk6 w os) (cF (lk7 w os) (cF (lk8 w os) (lk9 w os))))))))) gd.symm)
theorem left:LeftO pw qv [] Xt (Hook.obs (kHook K Ka Ke)) (Hook.val (kHook K Ka Ke)) 5754:=
 LeftO.of_pieces (H₀:=cW) (H₁:=h1) (gs₀:=Array.mk []) (gs₁:=#[]) (d₀:=boot_drawn) (d₁:=QI) (k₀:=boot_toks) (k₁:=816) (m₀:=11) (ann:=ann) (M:=(12+(1+(196+(214+(382+(376+(382+(395+(388+(377+(113+2)))))))))))) opened mR jm (by kernel_rfl) (λw=>funext λos=>
  cF (lk0 w os) (cF (lkS w os) (qz w os)))
end
end H
end K27
noncomputable def PySem.W.Fast.tw7877539237950655185:PySem.Program:=PySem.Challenge.pw_changehall_k27_whole_one_shape
theorem PySem.W.Fast.te7877539237950655185:PySem.Challenge.pw_changehall_k27_whole_one_shape=PySem.W.Fast.tw7877539237950655185:=rfl
open PySem PySem.W PyProof.Rows
set_option maxRecDepth 100000 in
set_option maxHeartbeats 0 in
theorem PySem.Challenge.cw_changehall_k27_whole_one_shape_holds : PySem.Challenge.rw_changehall_k27_whole_one_shape.Holds := by
 w_on;o_law
 refine PySem.W.holds_open (q:=K27.H.qv) (loose:=[]) (Xt:=K27.H.Xt) (XP:=XL K27.H.qv []) (Yf:=Hook.obs (kHook K27.H.K K27.H.Ka K27.H.Ke)) (Ya:=Hook.val (kHook K27.H.K K27.H.Ka K27.H.Ke)) (YP:=Hook.says (kHook K27.H.K K27.H.Ka K27.H.Ke)) (N:=5754) K27.H.left (Hook.of _) (Hook.keeps _) (λs e=>xl_of s (w1e.mp e).1) XL.keeps (by rfl) (by rfl) (by rfl) (λs e=>recFacts_of (w1e.mp e).2) (by rfl) (by first|assumption|decide +kernel) (by decide +kernel) ⟨rfl,rfl,rfl,rfl,rfl,by decide +kernel⟩ ?hw ?hc
 (case hw=>w_witness2)
 k_fill
 refine L2.z01 (x := "_law_script") (k:=13) (fr:=true) (c:=K27.Ze) (l:=PySem.Challenge.rw_changehall_k27_whole_one_shape) rfl rfl (λw h Y=>PySem.W.kIn_of Y) ?F (λns hl=>K27.z2y ns hl) ⟨rfl,by decide,by decide⟩
 case F =>
  intro w mg fa h KX G hmg;apply K27.z2K KX G hmg
  all_goals first|apply L2.dh|skip
  all_goals try k_is
  all_goals kernel_rfl

end

