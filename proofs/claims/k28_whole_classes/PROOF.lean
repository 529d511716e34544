import PyProof.Rows.All
import Wide.All
import OpenK.AllK
import Wide.FinOn
import Lean
import PyProof.EqAt
import PyProof.EqKinds
import PyProof.TupleCall
import PyProof.CompFree
import PyProof.Cells
import PySem.Challenge.RW_changehall_k28_whole_classes
set_option Elab.async false
set_option linter.all false
set_option maxRecDepth 100000
set_option exponentiation.threshold 20000
abbrev aA:=List (List Int)
abbrev aB:=List (PySem.Addr×PySem.Obj)
abbrev aC:=PySem.Value->PySem.Shared->Prop
abbrev aE:=PySem.W.Frag
abbrev aF:=PySem.Str->Option PySem.Value
abbrev aG:=List PySem.Value
abbrev aH:=List Int
open List renaming getElem?_eq_getElem→wa,mem_cons_of_mem→wb,mem_cons_self→wc,length_map→we,mem_map→wg,map_cons→wj,mem_append→wl,length_cons→wm,mem_cons→wn,getElem?_map→wq,size_toArray→wr,mem_singleton→wu,length_append→ww,getElem?_eq_some_iff→wy,mem_append_right→wz,length_set→wC,map_map→wF,lookup_cons→wG,getElem_of_mem→wH,map_append→wI,mem_append_left→wK,getElem?_append_left→wL,mem_range→wM,getElem?_append_right→wN,getElem?_eq_none→wO,getElem?_replicate→wQ,pairwise_cons→wU,nodup_cons→wV,length_range→wW,getElem?_set→wX,getElem?_set_ne→Wa,mem_of_getElem?→Wd,append_assoc→We,drop_eq_nil_of_le→Wg,length_replicate→Wj,getElem_map→Wk,pairwise_map→Wo,append_nil→Wp,filter_sublist→Wq,map_congr_left→Wr,take_of_length_le→Wt,length_take→Ww,mem_filterMap→Wx,nodup_append→Wy,length_pos_iff→WA,mem_map_of_mem→WB,not_mem_nil→WD,length_zip→WI,find?_cons→WJ,length_singleton→WL,forIn_nil→WM,getElem_mem→WO,ext_getElem→WP,drop_eq_getElem_cons→WQ,length_zipWith→WR,forIn_cons→WT,nodup_nil→WW,take_add_one→WX,zipWith_map_right→WY,getElem_inj→vd,all_eq_true→vg,getElem_zip→vj,mem_flatMap→vm,map_eq_cons_iff→vu,of_mem_zip→vw,filterMap_cons→vz,replicate_succ→vA,getElem?_eq_none_iff→vD,pairwise_iff_getElem→vE,flatMap_cons→vI,map_fst_zip→vN,cons_append→vP,length_eq_zero_iff→vT,filter_cons→vU,getElem?_set_self→vV,map_nil→vW,drop_of_length_le→vY,mem_filter→vZ,nil_append→VY,getElem?_zipWith→ud,mem_iff_getElem→ug,getElem?_range→uj,length_reverse→ul,flatMap_append→uq,forIn_toArray→uw,zip_map_right→uz,append_of_mem→uA,foldl_append→uF,zipIdx_cons→uH,zipWith_map→uL,map_id→uN,zipIdx_nil→uT,length_nil→uU,range_succ→uV,map_const'→uY,foldl_cons→uZ
open Nat renaming le_refl→wf,lt_of_lt_of_le→wt,pow_le_pow_right→wv,zero_le→wx,mul_le_mul_right→wA,le_trans→wB,ne_of_lt→wJ,mul_le_mul_left→wP,lt_succ_self→wR,lt_irrefl→wT,zero_add→wZ,mul_le_mul→Wh,lt_of_le_of_lt→Wm,le_of_lt→Ws,mul_assoc→Wv,pow_add→Wz,mul_comm→WG,pow_succ→WH,ne_of_gt→WN,le_of_succ_le→WV,succ_mul→WZ,le_of_not_lt→vf,add_mul→vt,two_pow_pos→vx,strongRecOn→vy,add_le_add_left→vB,le_succ_of_le→vF,mul_add→vJ,max_eq_right→vO,le_add_right→vQ,mul_lt_mul''→vR,le_mul_of_pos_right→vS,mul_pos→uf,pow_le_pow_left→ur,lt_trans→uB,le_of_eq→uC,sub_self→uE,succ_le_succ→uJ,log2_lt→uM,pow_pos→uQ,min_eq_left→uX,not_lt→w00
open Int renaming natAbs_mul→wS,toNat_natCast→wY,mul_le_mul_of_nonneg_right→Wl,fmod_nonneg_of_pos→Wu,fmod_lt_of_pos→WE,mul_eq_zero→WK,mul_left_comm→vc,gcd→vo,mul_comm→vC,neg_mul→vK,mul_assoc→vL,mul_fdiv_cancel_left→vM,natAbs_neg→ue,natAbs_eq_zero→uv,lt_trichotomy→uD,mul_sub→uO,mul_neg→uP,neg_mul_neg→uW
open Option renaming map_eq_some_iff→Wf,isSome_iff_exists→WS,isSome_map→vH,isSome_some→ut,bind_some→uK,map_some→uS
open PySem.Heap renaming get?_push_of_some→wd,lt_size→wo,get?_push_size→wp,size_push→Wn,get?_none_of_le→vq,get?_push_ne→vG,get?_update_other→vX,get?_update_self→VZ,get?_update_ne→uo,size_update→uI
open Bool renaming false_ne_true→wD,and_eq_true→wE,or_eq_true→WU,beq_eq_decide_eq→uc,and_eq_true_iff→ui,not_eq_true'→uG,eq_iff_iff→uR
open Classical renaming byContradiction→Wb,choose_spec→Wc,choose→vi
local macro_rules|`(tactic|rfl')=>`(tactic|omega)
section
local macro_rules|`(tactic|rfl')=>`(tactic|first|lia|omega +splitDisjunctions)
namespace L2
open PySem PySem.Spec PyProof.Rows
abbrev Key:=Sum Int Str
def GJ:Key->Value->Bool
 | .inl k,v=>Value.isInt k v
 | .inr x,v=>Value.isStrOf x v
def keyH(w:World):Key->Int
 | .inl k=>hashInt k
 | .inr x=>hashStr w x
theorem A9:∀{k:Key} {v:Value},GJ k v=true->(∃ i t,k=Sum.inl i/\v=Value.int i t)\/(∃ x t,k=Sum.inr x/\v=Value.str x t)
 | .inl i,v,h=>by
  obtain⟨t,e⟩:=Value.isInt_shape (k:=i) (v:=v) h;exact .inl ⟨i,t,rfl,e⟩
 | .inr x,v,h=>by
  obtain⟨t,e⟩:=Value.isStrOf_shape (x:=x) (v:=v) h;exact .inr ⟨x,t,rfl,e⟩
theorem Qh(i:Int)(t:Tok):GJ (.inl i) (.int i t)=true:=by simp[GJ,Value.isInt]
theorem Qi(x:Str)(t:Tok):GJ (.inr x) (.str x t)=true:=by simp[GJ,Value.isStrOf]
theorem key_ll(a b:Int):decide ((Sum.inl a:Key)=Sum.inl b)=(a==b):=by
 by_cases e:a=b
 · subst e;simp
 · have h:¬(Sum.inl a:Key)=Sum.inl b:=λq=>e (Sum.inl.inj q);rw[decide_eq_false h];exact(beq_eq_false_iff_ne.mpr e).symm
theorem key_rr(a b:Str):decide ((Sum.inr a:Key)=Sum.inr b)=decide (a=b):=by
 by_cases e:a=b
 · subst e;simp
 · have h:¬(Sum.inr a:Key)=Sum.inr b:=λq=>e (Sum.inr.inj q);rw[decide_eq_false h,decide_eq_false e]
theorem key_lr(a:Int)(b:Str):decide ((Sum.inl a:Key)=Sum.inr b)=false:=decide_eq_false (λq=>nomatch q)
theorem key_rl(a:Str)(b:Int):decide ((Sum.inr a:Key)=Sum.inl b)=false:=decide_eq_false (λq=>nomatch q)
def E8(prog:Program)(w:World):PySem.KeyKind prog w Key where
 is:=GJ
 hash:=keyH w
 inj:=λv a b ha hb=>by
  rcases A9 ha with⟨i,t,rfl,rfl⟩|⟨x,t,rfl,rfl⟩
  · rcases A9 hb with⟨j,u,rfl,e⟩|⟨y,u,rfl,e⟩
    · injection e with e1 _;rw[e1]
    · exact nomatch e
  · rcases A9 hb with⟨j,u,rfl,e⟩|⟨y,u,rfl,e⟩
    · exact nomatch e
    · injection e with e1 _;rw[e1]
 byValue:=λk v h=>by
  rcases A9 h with⟨i,t,rfl,rfl⟩|⟨x,t,rfl,rfl⟩<;>rfl
 pyHash:=λhv h=>by
  rcases A9 hv with⟨i,t,rfl,rfl⟩|⟨x,t,rfl,rfl⟩
  · exact wpAny_pyHash_int h
  · exact wpAny_pyHash_str h
 eqBool:=λhu hv h=>by
  rcases A9 hu with⟨i,t,rfl,rfl⟩|⟨x,t,rfl,rfl⟩
  · rcases A9 hv with⟨j,u,rfl,rfl⟩|⟨y,u,rfl,rfl⟩
    · rw[key_ll]at h;exact wpAny_eqBool_int h
    · rw[key_lr]at h;exact SeqAt.EqAt.int_str i t y u _ _ _ _ h
  · rcases A9 hv with⟨j,u,rfl,rfl⟩|⟨y,u,rfl,rfl⟩
    · rw[key_rl]at h;exact SeqAt.EqAt.str_int x t j u _ _ _ _ h
    · rw[key_rr]at h;exact wpAny_eqBool_str h
 «strs»:=λk x t v h=>by
  rcases A9 h with⟨i,u,rfl,e⟩|⟨y,u,rfl,e⟩
  · exact nomatch e
  · injection e with e1 _
    subst e1;cases v<;>rfl
theorem Jz(prog:Program)(w:World)(i:Int)(t:Tok):(E8 prog w).is (.inl i) (.int i t)=true:=Qh i t
theorem JA(prog:Program)(w:World)(x:Str)(t:Tok):(E8 prog w).is (.inr x) (.str x t)=true:=Qi x t
end L2
namespace L2
open PySem PySem.Spec PyProof.Rows
inductive V where
 | non|bl (b:Bool)|int (i:Int)|str (x:Str)|byt (b:Array UInt8)|flt (b:UInt64)|ref (a:Addr)|ty (n:String)
 deriving DecidableEq
def RelV:V->Value->Prop
 | .non,u=>u=Value.none
 | .bl b,u=>u=Value.bool b
 | .int i,u=>∃ t,u=Value.int i t
 | .str x,u=>∃ t,u=Value.str x t
 | .byt b,u=>∃ t,u=Value.bytes b t
 | .flt b,u=>∃ t,u=Value.float b t
 | .ref a,u=>u=Value.ref a
 | .ty n,u=>u=Value.type n
abbrev Vals:List V->aG->Prop:=Paired RelV
theorem Vals.length{xs:List V}{us:aG}(r:Vals xs us):xs.length=us.length:=Paired.length r
theorem Vals.get:∀{xs:List V} {us:aG} {i:Nat} {x:V},Vals xs us->xs[i]?=some x->∃ u,us[i]?=some u/\RelV x u
 | _,_,_,_,.nil,e=>by simp at e
 | _,_,0,_,.cons r _,e=>by simp at e;subst e;exact⟨_,rfl,r⟩
 | _,_,i+1,x,.cons _ t,e=>by
  obtain⟨u,h1,h2⟩:=Vals.get (i:=i) (x:=x) t (by simpa using e);exact⟨u,by simpa using h1,h2⟩
theorem Vals.set{x:V}{u:Value}(r:RelV x u):∀{xs:List V} {us:aG} (i:Nat),Vals xs us->Vals (xs.set i x) (us.set i u)
 | _,_,_,.nil => .nil
 | _,_,0,.cons _ t => .cons r t
 | _,_,i+1,.cons q t => .cons q (Vals.set r i t)
theorem Vals.append:∀{xs ys:List V} {us ws:aG},Vals xs us->Vals ys ws->Vals (xs++ys) (us++ws)
 | _,_,_,_,.nil,s=>s
 | _,_,_,_,.cons r t,s => .cons r (Vals.append t s)
theorem Vals.none_of:∀{xs:List V} {us:aG} {i:Nat},Vals xs us->xs[i]?=none->us[i]?=none:=λ{xs us i} r e=>by
 have h1:=r.length;have h2:xs.length<=i:=vD.mp e;exact vD.mpr (by rfl')
def RelO:Option V->Option Value->Prop
 | some v,some u=>RelV v u
 | none,none=>True
 | _,_=>False
def KV{κ:Type}:List (κ×V)->List (κ×Value)->Prop:=Paired λ(p:κ×V) (q:κ×Value)=>p.1=q.1/\RelV p.2 q.2
def kV:Key->V
 | .inl i => .int i
 | .inr x => .str x
inductive HO where
 | lst (xs:List V)
 | tup (xs:List V)
 | dK (kvs:List (Key×V))|dT (kvs:List (List Key×V))
 | set (S:Int->Bool) (n:Nat)
 | ins (C dx:Addr) (fs:List (Str×V))
 | own (x:Addr)
 | xd (fs:List (Str×V))
 | met (f x:Addr)
 | rng (lo hi:Int)
 | frz (o:Obj) (u:HO)
 | tbl (ps:Array Value) (q:Str)
 | ext (φ:Heap->Prop)
abbrev Hp:=Addr->Option HO
def upd(H:Hp)(a:Addr)(o:HO):Hp:=λb=>if b=a then some o else H b
theorem i7{H:Hp}{a:Addr}{o:HO}:upd H a o a=some o:=by unfold upd;rw[if_pos rfl]
theorem i6{H:Hp}{a b:Addr}{o:HO}(h:b≠a):upd H a o b=H b:=by unfold upd;rw[if_neg h]
theorem UR{H:Hp}{a:Addr}{o u:HO}:upd (upd H a o) a u=upd H a u:=by
 funext b;unfold upd;split<;>rfl
theorem X8{H:Hp}{a b:Addr}{o u:HO}(h:H a=some o)(h':H b=some u)(d:o≠u):a≠b:=by
 intro e;subst e;rw[h]at h';exact d (Option.some.inj h')
theorem v9{H:Hp}{a b:Addr}{o:HO}(h:H a=some o)(h':H b=none):a≠b:=by
 intro e;subst e;rw[h]at h';cases h'
section
variable (P:Program)(w:World)
def ObjOk(H:Hp)(h:Heap)(a:Addr):HO->Prop
 | .lst xs=>xs.length<=sizeLine/\∃(its:aG) (n:Nat),Vals xs its/\h.get? a=some { cls := .type "list",data := .seq its.toArray n }
 | .tup xs=>xs.length<=sizeLine/\∃ its:aG,Vals xs its/\IsTup h a its.toArray
 | .dK kvs=>kvs.length<=sizeLine/\(a==sysModules)=false/\∃ vs,KV kvs vs/\h.DictOf (E8 P w) a vs
 | .dT kvs=>kvs.length<=sizeLine/\(a==sysModules)=false/\∃ xs:List (List Key×Addr×Value),
  Paired (λ(p:List Key×V) (q:List Key×Addr×Value)=>p.1=q.1/\H q.2.1=some (.tup (p.1.map kV))/\RelV p.2 q.2.2) kvs xs /\
  ∃ o es ep,h.get? a=some o/\o.ExactDict/\o.data = .dict es ep/\es.toList=xs.map (entryOfKey (tupleKind (E8 P w)))/\(xs.map (·.1)).Nodup
 | .set S n=>h.SetOf (intKind P w) a S n
 | .ins C dx fs=>H dx=some (.own a)/\fs.length<=1000/\dx≠a/\h.get? a=some (PySem.W.instObj C dx) /\
  ∃ mA,h.Ns1 dx mA/\(∀ f,RelO (fs.lookup f) (mA f))/\PySem.Within mA (fs.map (·.1))
 | .own _=>∃ o,h.get? a=some o
 | .xd fs=>∃ mA,h.Ns1 a mA/\∀ f,RelO (fs.lookup f) (mA f)
 | .rng lo hi=>∃ t u v,h.get? a=some { cls := .type "range",data := .fields #[.int lo t,.int hi u,.int 1 v] }
 | .frz o u=>h.get? a=some o/\ObjOk H h a u
 | .tbl ps q=>∃ more:Array Value,h.get? a=some { cls := .none,data := .fields (ps++more) }/\TriplesOk (ps++more).toList/\∀ pos cv,codeAmong pos (ps++more).toList=some cv->∃ c o u vs t,cv = .ref c/\H c=some (.frz o u)/\o.data = .fields vs/\vs[1]?=some (.str q t)
 | .met f x=>h.get? a=some (PySem.W.methodObj (.ref f) (.ref x))
 | .ext φ=>φ h/\(∃ o,h.get? a=some o)/\∀ h1 h2:Heap,φ h1->(∀ o,h1.get? a=some o->h2.get? a=some o)->φ h2
def HOk(H:Hp)(h:Heap):Prop:=∀ a o,H a=some o->ObjOk P w H h a o
end
section
variable {P:Program}{w:World}{H H':Hp}{h h':Heap}{a:Addr}{o:HO}
theorem ObjOk.lt(x:ObjOk P w H h a o):a<h.objs.size:=by
 cases o with
 | lst xs=>obtain⟨_,_,_,_,e⟩:=x;exact wo e
 | tup xs=>obtain⟨_,_,_,p⟩:=x;exact p.lt
 | dK kvs=>obtain⟨_,_,_,_,o,_,_,e,_⟩:=x;exact wo e
 | dT kvs=>obtain⟨_,_,_,_,o,_,_,e,_⟩:=x;exact wo e
 | set S n=>obtain⟨o,_,_,_,e,_⟩:=x;exact wo e
 | ins C dx fs=>obtain⟨_,_,_,e,_⟩:=x;exact wo e
 | own y=>obtain⟨_,e⟩:=x;exact wo e
 | xd fs=>obtain⟨_,⟨_,_,_,e,_⟩,_⟩:=x;exact wo e
 | rng lo hi=>obtain⟨_,_,_,e⟩:=x;exact wo e
 | frz ob u=>obtain⟨e,_⟩:=x;exact wo e
 | tbl ps q=>obtain⟨_,e,_⟩:=x;exact wo e
 | met f y=>exact wo (show h.get? a=some _ from x)
 | ext φ=>obtain⟨_,⟨_,e⟩,_⟩:=x;exact wo e
theorem Paired.mapP{α β:Type}{F G:α->β->Prop}:∀{l₁:List α} {l₂:List β},Paired F l₁ l₂->(∀ a b,F a b->G a b)->Paired G l₁ l₂
 | _,_,.nil,_ => .nil
 | _,_,.cons r t,f => .cons (f _ _ r) (Paired.mapP t f)
theorem ObjOk.stay(x:ObjOk P w H h a o)(k:∀ b u,(b=a\/H b=some (.own a))->h.get? b=some u->h'.get? b=some u)
  (ho:∀ b,H b=some (.own a)->H' b=some (.own a)) (ht:∀ b xs,H b=some (.tup xs)->H' b=some (.tup xs)) (hf:∀ b o u,H b=some (.frz o u)->H' b=some (.frz o u)):ObjOk P w H' h' a o:=by
 induction o with
 | lst xs=>obtain⟨z,its,n,r,e⟩:=x;exact⟨z,its,n,r,k _ _ (.inl rfl) e⟩
 | tup xs=>obtain⟨z,its,r,ob,e,c⟩:=x;exact⟨z,its,r,ob,k _ _ (.inl rfl) e,c⟩
 | dK kvs=>obtain⟨z,y,vs,r,ob,es,ep,e,c⟩:=x;exact⟨z,y,vs,r,ob,es,ep,k _ _ (.inl rfl) e,c⟩
 | dT kvs =>
  obtain⟨z,y,xs,r,ob,es,ep,e,c⟩:=x;exact⟨z,y,xs,Paired.mapP r λp q z=>⟨z.1,ht _ _ z.2.1,z.2.2⟩,ob,es,ep,k _ _ (.inl rfl) e,c⟩
 | set S n=>obtain⟨ob,es,ep,t,e,c⟩:=x;exact⟨ob,es,ep,t,k _ _ (.inl rfl) e,c⟩
 | ins C dx fs =>
  obtain⟨d,z,ne,e,mA,⟨od,es,ep,e2,c⟩,r⟩:=x;exact⟨ho _ d,z,ne,k _ _ (.inl rfl) e,mA,⟨od,es,ep,k _ _ (.inr d) e2,c⟩,r⟩
 | own y=>obtain⟨ob,e⟩:=x;exact⟨ob,k _ _ (.inl rfl) e⟩
 | xd fs=>obtain⟨mA,⟨od,es,ep,e,c⟩,r⟩:=x;exact⟨mA,⟨od,es,ep,k _ _ (.inl rfl) e,c⟩,r⟩
 | rng lo hi=>obtain⟨t,u,v,e⟩:=x;exact⟨t,u,v,k _ _ (.inl rfl) e⟩
 | frz ob u ih=>obtain⟨e,q⟩:=x;exact⟨k _ _ (.inl rfl) e,ih q⟩
 | tbl ps q =>
  obtain⟨more,e,tr,z⟩:=x;refine⟨more,k a _ (.inl rfl) e,tr,λpos cv y=>?_⟩;obtain⟨c,o,u,vs,t,e1,e2,e3⟩:=z pos cv y;exact⟨c,o,u,vs,t,e1,hf _ _ _ e2,e3⟩
 | met f y =>
  have e:h.get? a=some (PySem.W.methodObj (.ref f) (.ref y)):=x;show h'.get? a=some (PySem.W.methodObj (.ref f) (.ref y));exact k a _ (.inl rfl) e
 | ext φ=>obtain⟨p,⟨o,e⟩,st⟩:=x;exact⟨st _ _ p λo q=>k _ _ (.inl rfl) q,⟨o,k _ _ (.inl rfl) e⟩,st⟩
theorem HOk.lt(x:HOk P w H h)(e:H a=some o):a<h.objs.size:=(x a o e).lt
theorem HOk.fresh(x:HOk P w H h)(e:h.objs.size<=a):H a=none:=by
 cases q:H a with
 | none=>rfl
 | some u=>exact absurd (wt (x.lt q) e) (wT _)
theorem HOk.kept(x:HOk P w H h)(k:∀ b u,h.get? b=some u->h'.get? b=some u):HOk P w H h':=λa o e =>
 (x a o e).stay (λb u _ q=>k b u q) (λ_ q=>q) (λ_ _ q=>q) λ_ _ _ q=>q
theorem HOk.laid(x:HOk P w H h)(k:∀ b u,h.get? b=some u->h'.get? b=some u)(hp:h.objs.size<=a)(new:ObjOk P w (upd H a o) h' a o):HOk P w (upd H a o) h':=λb u e=>by
 have hn:=x.fresh hp;by_cases hb:b=a
 · subst hb;rw[i7]at e;cases e;exact new
 · rw[i6 hb]at e;exact(x b u e).stay (λc v _ q=>k c v q) (λc q=>by rw[i6 (v9 q hn)];exact q) (λc xs q=>by rw[i6 (v9 q hn)];exact q) λc _ _ q=>by rw[i6 (v9 q hn)];exact q
end
def Rd(H:Hp)(a:Addr)(u:HO):Prop:=H a=some u\/∃ o,H a=some (.frz o u)
theorem Rd.ok{P:Program}{w:World}{H:Hp}{h:Heap}{a:Addr}{u:HO}(r:Rd H a u)(x:HOk P w H h):ObjOk P w H h a u:=by
 rcases r with r|⟨o,r⟩
 · exact x a u r
 · obtain⟨_,q⟩:=x a _ r;exact q
def Mut:Option HO->Prop
 | some (.lst _)=>True
 | some (.dK _)=>True
 | some (.dT _)=>True
 | some (.set _ _)=>True
 | some (.ins _ _ _)=>True
 | some (.ext _)=>True
 | _=>False
section
variable {P:Program}{w:World}{H:Hp}{h h':Heap}{x e:Addr}{o':HO}
theorem HOk.write(ok:HOk P w H h)(mu:Mut (H x))(he:e=x\/H e=some (.own x))(k:∀ b u,b≠e->h.get? b=some u->h'.get? b=some u)(heo:∃ u,h'.get? e=some u)
   (new:ObjOk P w (upd H x o') h' x o'):HOk P w (upd H x o') h':=λb u q=>by
 have nown:∀ c y,H c=some (.own y)->c≠x:=λc y r z=>by subst z;rw[r]at mu;exact mu
 have ntup:∀ c xs,H c=some (.tup xs)->c≠x:=λc xs r z=>by subst z;rw[r]at mu;exact mu
 by_cases hb:b=x
 · subst hb;rw[i7]at q;cases q;exact new
 · rw[i6 hb]at q;by_cases hbe:b=e
   · have q':H b=some (.own x):=by
       rcases he with z|z
       · exact absurd (hbe.trans z) hb
       · rw[hbe];exact z
     rw[q]at q';cases q';obtain⟨v,hv⟩:=heo;exact⟨v,by rw[hbe];exact hv⟩
   · refine(ok b u q).stay (λc v hc r=>k c v ?_ r) (λc r=>by rw[i6 (nown c b r)];exact r) (λc xs r=>by rw[i6 (ntup c xs r)];exact r) λc _ _ r=>by rw[i6 (λz=>by subst z;rw[r]at mu;exact mu)];exact r
     rcases hc with rfl|hc
     · exact hbe
     · rintro rfl;rcases he with z|z
       · exact nown c b hc z
       · rw[hc]at z;cases z;exact hb rfl
end
structure Un(fs ex:List Addr)(H H':Hp)(h h':Heap):Prop where
 keep:∀ b o,h.get? b=some o->H b=none->b ∉ fs->b ∉ ex->h'.get? b=some o
 slot:∀ b o,h.get? b=some o->H b=none->b∈fs->b ∉ ex->∃ sl,h'.get? b=some { o with slots:=sl }
 free:∀ b o,h.get? b=some o->H b=none->b ∉ ex->H' b=none
 there:∀ b o,h.get? b=some o->b ∉ ex->∃ o',h'.get? b=some o'
 tups:∀ b xs,H b=some (.tup xs)->H' b=some (.tup xs)
 frzs:∀ b o u,H b=some (.frz o u)->H' b=some (.frz o u)
 tbls:∀ b ps q,H b=some (.tbl ps q)->H' b=some (.tbl ps q)
section
variable {fs fs' ex ex':List Addr}{H H1 H2:Hp}{h h1 h2 h':Heap}{a x e:Addr}{o:HO}
theorem Un.any(u:Un fs ex H H1 h h1){b:Addr}{ob:Obj}(q:h.get? b=some ob)(n:H b=none)(hx:b ∉ ex):∃ sl,h1.get? b=some { ob with slots:=sl }:=by
 by_cases hb:b∈fs
 · exact u.slot b ob q n hb hx
 · exact⟨ob.slots,u.keep b ob q n hb hx⟩
theorem Un.trans(a:Un fs ex H H1 h h1)(b:Un fs ex H1 H2 h1 h2):Un fs ex H H2 h h2 where
 keep:=λc ob q n hc hx=>b.keep c ob (a.keep c ob q n hc hx) (a.free c ob q n hx) hc hx
 slot:=λc ob q n hc hx=>by
  obtain⟨sl,e1⟩:=a.slot c ob q n hc hx;obtain⟨sl',e2⟩:=b.slot c _ e1 (a.free c ob q n hx) hc hx;exact⟨sl',e2⟩
 free:=λc ob q n hx=>by
  obtain⟨o',e1⟩:=a.there c ob q hx;exact b.free c o' e1 (a.free c ob q n hx) hx
 there:=λc ob q hx=>by
  obtain⟨o',e1⟩:=a.there c ob q hx;exact b.there c o' e1 hx
 tups:=λc xs q=>b.tups c xs (a.tups c xs q)
 frzs:=λc ob xs q=>b.frzs c ob xs (a.frzs c ob xs q)
 tbls:=λc ps q e=>b.tbls c ps q (a.tbls c ps q e)
theorem Un.kept(k:∀ b u,h.get? b=some u->h'.get? b=some u):Un fs ex H H h h' :=
 ⟨λb ob q _ _ _=>k b ob q,λb ob q _ _ _=>⟨ob.slots,k b ob q⟩,λ_ _ _ n _=>n,λb ob q _=>⟨ob,k b ob q⟩,λ_ _ q=>q,λ_ _ _ q=>q,λ_ _ _ q=>q⟩
theorem Un.refl:Un fs ex H H h h:=Un.kept λ_ _ q=>q
theorem Un.laid(k:∀ b u,h.get? b=some u->h'.get? b=some u)(hp:h.objs.size<=a)(hn:H a=none):Un fs ex H (upd H a o) h h' where
 keep:=λb u q _ _ _=>k b u q
 slot:=λb u q _ _ _=>⟨u.slots,k b u q⟩
 free:=λb u q n _=>by rw[i6 (wJ (wt (wo q) hp))];exact n
 there:=λb u q _=>⟨u,k b u q⟩
 tups:=λb xs q=>by rw[i6 (v9 q hn)];exact q
 frzs:=λb u xs q=>by rw[i6 (v9 q hn)];exact q
 tbls:=λb ps _ q=>by rw[i6 (v9 q hn)];exact q
theorem Un.write(mu:Mut (H x))(he:e=x\/H e=some (.own x))(k:∀ b u,b≠e->h.get? b=some u->h'.get? b=some u)(heo:∃ u,h'.get? e=some u):Un fs ex H (upd H x o) h h':=by
 have hx:∀ b,H b=none->b≠x:=λb n z=>by subst z;rw[n]at mu;exact mu
 have hb:∀ b,H b=none->b≠e:=λb n z=>by
   subst z;rcases he with r|r
   · exact hx b n r
   · rw[n]at r;cases r
 have hm:∀ b u,H b=some u->¬Mut (some u)->b≠x:=λb u q nm z=>by subst z;rw[q]at mu;exact nm mu
 refine⟨λb u q n _ _=>k b u (hb b n) q,λb u q n _ _=>⟨u.slots,k b u (hb b n) q⟩,λb u q n _=>by rw[i6 (hx b n)];exact n,λb u q _=>?_,
   λb xs q=>by rw[i6 (hm b _ q λz=>z)];exact q,λb u xs q=>by rw[i6 (hm b _ q λz=>z)];exact q,λb ps _ q=>by rw[i6 (hm b _ q λz=>z)];exact q⟩
 by_cases hbe:b=e
 · subst hbe;exact heo
 · exact⟨u,k b u hbe q⟩
end
def trk(h:Heap)(H:Hp):List Addr:=(List.range h.objs.size).filter λa=>(H a).isSome
def hidT(h:Heap)(H:Hp):Heap:=PySem.W.hideAll h (trk h H)
theorem Qj(h:Heap)(H:Hp):(hidT h H).objs.size=h.objs.size:=PySem.W.hideAll_size _ _
theorem Rj{h:Heap}{H:Hp}{b:Addr}{o:Obj}(e:h.get? b=some o)(n:H b=none):(hidT h H).get? b=some o :=
 PySem.W.hideAll_get _ e λhm=>by
  have q:(H b).isSome=true:=(vZ.mp hm).2;rw[n]at q;simp at q
theorem US{h:Heap}{H:Hp}{b:Addr}{o:Obj}(e:(hidT h H).get? b=some o):h.get? b=some o/\H b=none:=by
 have e':h.get? b=some o:=PySem.W.of_hideAll (trk h H) e;refine⟨e',?_⟩;cases q:H b with
 | none=>rfl
 | some x =>
  have hm:b∈trk h H:=vZ.mpr ⟨wM.mpr (wo e'),by simp[q]⟩;have z:(hidT h H).get? b=none:=PySem.W.hideAll_none (trk h H) hm;rw[z]at e;cases e
def UT(g h:Heap)(L:Addr):aB:=(List.range h.objs.size).filterMap λa=>if a=L\/(g.get? a).isSome=true then none else(h.get? a).map λo=>(a,o)
def rest(g h:Heap)(L d:Addr):aB:=(UT g h L).filter λp=>decide (p.1≠d)
end L2
namespace L2
open PySem PySem.Spec PyProof.Rows
structure Mod(K:aE)(mg:aF)(base:Heap):Prop where
 kin:K.In base
 glob:base.Ns mainGlobals mg
 blt:∃ mb,base.Ns builtinsNs mb/\∀ x:Str,x ≠ "__name__" -> mb x=bootBuiltins x
 nolimit:base.NoLimit
structure Cx where
 prog:Program
 w:World
 K:aE
 mg:aF
 base:Heap
 A:Around
 N:List Str
 s₀:Shared
 H₀:Hp
 env:Env
 outer:List Env
 stack:List Env
 ex:List Addr
 fn:Str->Bool
 calm:Bool
 pn:aB
 xe:aC
def frs(l:List Env):List Addr:=l.filterMap (·.frame)
abbrev Cx.fs(X:Cx):List Addr:=frs X.outer
def Vis(sc:Scope)(x:Str):Prop:=sc.names.lookup x=some .local\/sc.names.lookup x=some .cell\/sc.names.lookup x=some .free
def Loc(sc:Scope)(x:Str):Prop:=sc.names.lookup x=some .local\/sc.names.lookup x=some .cell
def Look(env:Env)(h:Heap)(m:aF)(x:Str)(u:Value):Prop :=
 (env.kindOf x=some .local/\m x=some u)\/((env.kindOf x=some .cell\/env.kindOf x=some .free)/\∃ c,env.cells.lookup x=some c/\h.IsCell c (some u))
structure Cx.Ok(X:Cx):Prop where
 mod:Mod X.K X.mg X.base
 kind:X.env.scope.kind = .function
 glob:X.env.globals=mainGlobals
 blt:X.env.builtins=builtinsNs
 above:X.s₀.heap.objs.size<=X.env.locals
 inj:∀ x y c,X.env.cells.lookup x=some c->X.env.cells.lookup y=some c->x=y
 has:∀ x,(X.env.kindOf x=some .cell\/X.env.kindOf x=some .free)->∃ c,X.env.cells.lookup x=some c
 cab:∀ x c,X.fn x=true->X.env.cells.lookup x=some c->X.s₀.heap.objs.size<=c
 hd:X.calm=true->X.A.handled=none
 frames:X.A.frames=some X.stack
 stk:X.stack=X.outer\/(X.stack=X.env::X.outer/\X.env.frame=some X.env.locals)
 exf:∀ b∈X.ex,b≠X.env.locals/\∀ x c,X.env.cells.lookup x=some c->c≠b
 bs:∀ b o,X.base.get? b=some o->X.s₀.heap.get? b=some o/\X.H₀ b=none
 bsz:X.base.objs.size<=X.s₀.heap.objs.size
 noex:∀ b o,X.base.get? b=some o->b ∉ X.ex
 exfs:∀ b∈X.ex,b ∉ X.fs
 funs:X.s₀.heap.FunFrames X.base X.outer
 frf:∀ b∈X.fs,X.H₀ b=none
structure Inv(X:Cx)(π:aB)(σ:List (Option V))(H:Hp)(s:Shared):Prop where
 ok:X.Ok
 os:s.os=X.s₀.os
 bare:AllBare s.gens
 base:Un X.fs X.ex X.H₀ H X.s₀.heap s.heap
 loc:∃ m,s.heap.Ns X.env.locals m/\∀(i:Nat) (x:Str) (v:V),X.N[i]?=some x->σ[i]?=some (some v)->Vis X.env.scope x->∃ u,RelV v u/\Look X.env s.heap m x u
 cell:∀ x c,X.env.cells.lookup x=some c->∃ v,s.heap.IsCell c v
 free:H X.env.locals=none
 freeC:∀ x c,X.env.cells.lookup x=some c->H c=none
 pin:∀ p∈X.pn++π,s.heap.get? p.1=some p.2/\H p.1=none/\p.1≠X.env.locals/\p.1 ∉ X.fs/\∀ v,p.2.data ≠ .cell v
 hok:HOk X.prog X.w H s.heap
 len:σ.length=X.N.length
section
variable {X:Cx}{π:aB}{σ:List (Option V)}{H H':Hp}{s:Shared}{h':Heap}
theorem Cx.Ok.nofr(ok:X.Ok){b:Addr}{o:Obj}(e:X.base.get? b=some o):b ∉ X.fs:=λhb=>by
 have:=(ok.funs.mem hb).1;rw[e]at this;cases this
theorem Inv.bs(I:Inv X π σ H s):∀ b o,X.base.get? b=some o->s.heap.get? b=some o/\H b=none:=λb o e =>
 ⟨I.base.keep b o (I.ok.bs b o e).1 (I.ok.bs b o e).2 (I.ok.nofr e) (I.ok.noex b o e),I.base.free b o (I.ok.bs b o e).1 (I.ok.bs b o e).2 (I.ok.noex b o e)⟩
theorem Inv.bk(I:Inv X π σ H s):∀ b o,X.base.get? b=some o->s.heap.get? b=some o:=λb o e=>(I.bs b o e).1
theorem Inv.mod(I:Inv X π σ H s):Mod X.K X.mg X.base:=I.ok.mod
theorem Inv.kIn(I:Inv X π σ H s):X.K.In s.heap:=I.ok.mod.kin.keeps I.bk
theorem Inv.fr(I:Inv X π σ H s):∃ m,Fr X.base X.env.locals s.heap m :=
 let ⟨m,hn,_⟩:=I.loc
 ⟨m,hn,I.bk,wB I.ok.bsz I.ok.above⟩
theorem Inv.lt(I:Inv X π σ H s):X.env.locals<s.heap.objs.size:=let ⟨_,hn,_⟩:=I.loc;hn.lt
theorem Inv.sz(I:Inv X π σ H s):X.s₀.heap.objs.size<=s.heap.objs.size:=wB I.ok.above (Ws I.lt)
theorem Inv.nofs(I:Inv X π σ H s){a:Addr}(h:s.heap.objs.size<=a):a ∉ X.fs:=λhb=>by
 obtain⟨_,o,ho,_⟩:=I.ok.funs.mem hb;exact absurd (wt (wo ho) (wB I.sz h)) (wT _)
theorem Inv.cne(I:Inv X π σ H s):∀ x c,X.env.cells.lookup x=some c->c≠X.env.locals:=λx c e z=>by
 obtain⟨v,o,ho,hd⟩:=I.cell x c e;obtain⟨m,⟨o',es,ep,ho',hd',_⟩,_⟩:=I.loc;rw[z,ho']at ho;cases ho;rw[hd']at hd;cases hd
theorem Inv.funs(I:Inv X π σ H s):s.heap.FunFrames X.base X.outer:=by
 have all:∀(l:List Env),(∀ b∈frs l,b∈X.fs)->X.s₀.heap.FunFrames X.base l->s.heap.FunFrames X.base l:=by
  intro l
  induction l with
  | nil=>intro _ _;trivial
  | cons env r ih =>
   intro hs hl;obtain⟨hk,⟨L,o,hf,hn,ho,hd⟩,hr⟩:=hl;have hL:L∈X.fs:=hs L (by unfold frs;rw[vz,hf];exact wc);obtain⟨sl,e⟩:=I.base.slot L o ho (I.ok.frf L hL) hL λz=>I.ok.exfs L z hL;exact⟨hk,⟨L,_,hf,hn,e,hd⟩,ih (λb hb=>hs b (by unfold frs;rw[vz,hf];exact wb _ hb)) hr⟩
 exact all X.outer (λ_ hb=>hb) I.ok.funs
theorem Inv.stack(I:Inv X π σ H s):s.heap.FunFrames X.base X.stack:=by
 rcases I.ok.stk with e|⟨e,hf⟩
 · rw[e];exact I.funs
 · rw[e];obtain⟨m,hn,_⟩:=I.loc;refine .cons (by rw[I.ok.kind];decide) hf hn ?_ I.funs;exact vq (wB I.ok.bsz I.ok.above)
theorem Inv.stkSub(I:Inv X π σ H s):∀ b∈frs X.stack,b∈X.env.locals::X.fs:=λb hb=>by
 rcases I.ok.stk with e|⟨e,hf⟩
 · rw[e]at hb;exact wb _ hb
 · rw[e]at hb;unfold frs at hb;rw[vz,hf]at hb;exact hb
theorem Inv.stkFree(I:Inv X π σ H s):∀ b∈frs X.stack,H b=none:=λb hb=>by
 rcases wn.mp (I.stkSub b hb)with e|hb
 · rw[e];exact I.free
 · obtain⟨_,o,ho,_⟩:=I.ok.funs.mem hb;exact I.base.free b o ho (I.ok.frf b hb) λz=>I.ok.exfs b z hb
theorem Inv.step{g':Array GenState}{t':Nat}{d':Drawn}{ch:List Addr}(I:Inv X π σ H s)
   (hch:∀ b∈ch,(b∈X.ex\/X.s₀.heap.objs.size<=b)/\b≠X.env.locals/\(∀ x c,X.env.cells.lookup x=some c->c≠b)/\∀ p∈X.pn++π,p.1≠b)
   (keep:∀ b o,b≠X.env.locals->b ∉ X.fs->b ∉ ch->s.heap.get? b=some o->H b=none->h'.get? b=some o)
   (slot:∀ b o,b≠X.env.locals->b∈X.fs->b ∉ ch->s.heap.get? b=some o->H b=none->∃ sl,h'.get? b=some { o with slots:=sl }) (free:∀ b o,b ∉ ch->s.heap.get? b=some o->H b=none->H' b=none)
   (there:∀ b o,b ∉ ch->s.heap.get? b=some o->∃ o',h'.get? b=some o')
   (tups:∀ b xs,H b=some (.tup xs)->H' b=some (.tup xs)) (frzs:∀ b o u,H b=some (.frz o u)->H' b=some (.frz o u)) (tbls:∀ b ps q,H b=some (.tbl ps q)->H' b=some (.tbl ps q))
   (ns:∀ m,s.heap.Ns X.env.locals m->h'.Ns X.env.locals m) (hok:HOk X.prog X.w H' h') (hg:AllBare g') :
   Inv X π σ H' { s with heap:=h',gens:=g',drawn:=d',toks:=t' }:=by
 have neL:∀ b o,X.s₀.heap.get? b=some o->b≠X.env.locals:=λb o e=>wJ (wt (wo e) I.ok.above);have neC:∀ b o,X.s₀.heap.get? b=some o->b ∉ X.ex->b ∉ ch:=λb o e hx hb=>by
   rcases(hch b hb).1 with z|z
   · exact hx z
   · exact absurd (wt (wo e) z) (wT _)
 have cellK:∀ x c,X.env.cells.lookup x=some c->∀ v,s.heap.IsCell c v->h'.IsCell c v:=λx c e v⟨o,ho,hd⟩=>by
   have nch:c ∉ ch:=λz=>(hch c z).2.2.1 x c e rfl;by_cases hc:c∈X.fs
   · obtain⟨sl,q⟩:=slot c o (I.cne x c e) hc nch ho (I.freeC x c e);exact⟨_,q,hd⟩
   · exact⟨o,keep c o (I.cne x c e) hc nch ho (I.freeC x c e),hd⟩
 refine⟨I.ok,I.os,hg,⟨λb o e n hb hx=>?_,λb o e n hb hx=>?_,λb o e n hx=>?_,λb o e hx=>?_,λb xs e=>tups b xs (I.base.tups b xs e),λb o xs e=>frzs b o xs (I.base.frzs b o xs e),λb ps _ e=>?_⟩,?_,λx c e=>?_,?_,λx c e=>?_,λp hp=>?_,hok,I.len⟩
 · exact keep b o (neL b o e) hb (neC b o e hx) (I.base.keep b o e n hb hx) (I.base.free b o e n hx)
 · obtain⟨sl,e1⟩:=I.base.slot b o e n hb hx;obtain⟨sl',e2⟩:=slot b _ (neL b o e) hb (neC b o e hx) e1 (I.base.free b o e n hx);exact⟨sl',e2⟩
 · obtain⟨o',e1⟩:=I.base.there b o e hx;exact free b o' (neC b o e hx) e1 (I.base.free b o e n hx)
 · obtain⟨o',e1⟩:=I.base.there b o e hx;exact there b o' (neC b o e hx) e1
 · exact tbls b _ _ (I.base.tbls b ps _ e)
 · obtain⟨m,hn,hl⟩:=I.loc;refine⟨m,ns m hn,λi x v e1 e2 e3=>?_⟩;obtain⟨u,r,l⟩:=hl i x v e1 e2 e3;refine⟨u,r,?_⟩;rcases l with l|⟨k,c,e,z⟩
   · exact .inl l
   · exact .inr ⟨k,c,e,cellK x c e _ z⟩
 · obtain⟨v,z⟩:=I.cell x c e;exact⟨v,cellK x c e v z⟩
 · obtain⟨m,⟨o,_,_,ho,_⟩,_⟩:=I.loc;exact free _ o (λz=>(hch _ z).2.1 rfl) ho I.free
 · obtain⟨v,o,ho,hd⟩:=I.cell x c e;exact free c o (λz=>(hch c z).2.2.1 x c e rfl) ho (I.freeC x c e)
 · obtain⟨e,n,ne,nf,d⟩:=I.pin p hp;have nch:p.1 ∉ ch:=λz=>(hch p.1 z).2.2.2 p hp rfl;exact⟨keep p.1 p.2 ne nf nch e n,free p.1 p.2 nch e n,ne,nf,d⟩
theorem Inv.un{t':Nat}(I:Inv X π σ H s)(u:Un X.fs [] H H' s.heap h')(hok:HOk X.prog X.w H' h'):Inv X π σ H' { s with heap:=h',toks:=t' }:=by
 obtain⟨m,⟨o,es,ep,ho,r⟩,_⟩:=id I.loc;obtain⟨sl,hL⟩:=u.any ho I.free (by simp);exact I.step (g':=s.gens) (d':=s.drawn) (ch:=[]) (λ_ z=>nomatch z) (λb o _ hb _ e n=>u.keep b o e n hb (by simp)) (λb o _ hb _ e n=>u.slot b o e n hb (by simp)) (λb o _ e n=>u.free b o e n (by simp)) (λb o _ e=>u.there b o e (by simp)) u.tups u.frzs u.tbls (λm' hm=>by
  obtain⟨o',es',ep',ho',r'⟩:=hm;rw[ho]at ho';cases ho';exact⟨_,es',ep',hL,r'⟩) hok I.bare
theorem Inv.call{g':Array GenState}{t':Nat}{d':Drawn}{ch:List Addr}(I:Inv X π σ H s)(u:Un (frs X.stack) ch H H' s.heap h')(hok:HOk X.prog X.w H' h')(hg:AllBare g')
  (hch:∀ b∈ch,(b∈X.ex\/X.s₀.heap.objs.size<=b)/\b≠X.env.locals/\(∀ x c,X.env.cells.lookup x=some c->c≠b)/\∀ p∈X.pn++π,p.1≠b) :
  Inv X π σ H' { s with heap:=h',gens:=g',drawn:=d',toks:=t' }:=by
 obtain⟨m,⟨o,es,ep,ho,r⟩,_⟩:=id I.loc;obtain⟨sl,hL⟩:=u.any ho I.free λz=>(hch _ z).2.1 rfl;exact I.step (ch:=ch) hch (λb o hL hb hc e n=>u.keep b o e n (λz=>(wn.mp (I.stkSub b z)).elim hL hb) hc) (λb o _ _ hc e n=>u.any e n hc) (λb o hc e n=>u.free b o e n hc) (λb o hc e=>u.there b o e hc) u.tups u.frzs u.tbls (λm' hm=>by
  obtain⟨o',es',ep',ho',r'⟩:=hm;rw[ho]at ho';cases ho';exact⟨_,es',ep',hL,r'⟩) hok hg
theorem Inv.turned{t':Nat}{it:Addr}(I:Inv X π σ H s)(k:∀ b o,b≠it->s.heap.get? b=some o->h'.get? b=some o)(hn:H it=none)(hL:it≠X.env.locals)
   (h1:it∈X.ex\/X.s₀.heap.objs.size<=it) (h2:∀ x c,X.env.cells.lookup x=some c->c≠it) (h3:∀ p∈X.pn++π,p.1≠it):Inv X π σ H { s with heap:=h',toks:=t' }:=by
 have nit:∀ b u,H b=some u->b≠it:=λb u e z=>by rw[z,hn]at e;cases e
 refine I.step (g':=s.gens) (d':=s.drawn) (ch:=[it]) (λb hb=>?_) (λb o _ _ hc e _=>k b o (λz=>hc (by simp[z])) e) (λb o _ _ hc e _=>⟨o.slots,k b o (λz=>hc (by simp[z])) e⟩) (λ_ _ _ _ n=>n)
   (λb o hc e=>⟨o,k b o (λz=>hc (by simp[z])) e⟩) (λ_ _ e=>e) (λ_ _ _ e=>e) (λ_ _ _ e=>e) (λm hm=>?_) (λb u e=>?_) I.bare
 · have e:b=it:=by simpa using hb
   subst e;exact⟨h1,hL,h2,h3⟩
 · obtain⟨o,es,ep,ho,r⟩:=hm;exact⟨o,es,ep,k _ o (Ne.symm hL) ho,r⟩
 · refine(I.hok b u e).stay (λc v hc q=>k c v ?_ q) (λ_ q=>q) (λ_ _ q=>q) λ_ _ _ q=>q;rcases hc with z|z
   · rw[z];exact nit b u e
   · exact nit c _ z
theorem Inv.tok(I:Inv X π σ H s)(t:Nat):Inv X π σ H { s with toks:=t }:=I.un (h':=s.heap) (t':=t) Un.refl I.hok
theorem Inv.kept{t':Nat}(I:Inv X π σ H s)(k:∀ b u,s.heap.get? b=some u->h'.get? b=some u):Inv X π σ H { s with heap:=h',toks:=t' }:=I.un (Un.kept k) (I.hok.kept k)
theorem Inv.laid{a:Addr}{o:HO}{t':Nat}(I:Inv X π σ H s)(k:∀ b u,s.heap.get? b=some u->h'.get? b=some u)(hp:s.heap.objs.size<=a)(new:ObjOk X.prog X.w (upd H a o) h' a o):
 Inv X π σ (upd H a o) { s with heap:=h',toks:=t' }:=I.un (Un.laid k hp (I.hok.fresh hp)) (I.hok.laid k hp new)
theorem Inv.write{x e:Addr}{o:HO}{t':Nat}(I:Inv X π σ H s)(mu:Mut (H x))(he:e=x\/H e=some (.own x))(k:∀ b u,b≠e->s.heap.get? b=some u->h'.get? b=some u)(heo:∃ u,h'.get? e=some u)
 (new:ObjOk X.prog X.w (upd H x o) h' x o):Inv X π σ (upd H x o) { s with heap:=h',toks:=t' }:=I.un (Un.write mu he k heo) (I.hok.write mu he k heo new)
theorem Inv.weak{σ':List (Option V)}(I:Inv X π σ H s)(hl:σ'.length=σ.length)(w:∀(i:Nat) v,σ'[i]?=some (some v)->σ[i]?=some (some v)):Inv X π σ' H s :=
 ⟨I.ok,I.os,I.bare,I.base,let ⟨m,hn,hl'⟩:=I.loc;⟨m,hn,λi x v e1 e2 e3=>hl' i x v e1 (w i v e2) e3⟩,I.cell,I.free,I.freeC,I.pin,I.hok,hl.trans I.len⟩
theorem Inv.pins_of{pins':aB}(I:Inv X π σ H s)(h:∀ p∈pins',s.heap.get? p.1=some p.2/\H p.1=none/\p.1≠X.env.locals/\p.1 ∉ X.fs/\∀ v,p.2.data ≠ .cell v):Inv X pins' σ H s :=
 ⟨I.ok,I.os,I.bare,I.base,I.loc,I.cell,I.free,I.freeC,λp hp=>(wl.mp hp).elim (λz=>I.pin p (wK _ z)) (h p),I.hok,I.len⟩
theorem JB{N:List Str}(hN:N.Nodup){i j:Nat}{x:Str}(a:N[i]?=some x)(b:N[j]?=some x):i=j:=by
 obtain⟨h1,e1⟩:=wy.mp a;obtain⟨h2,e2⟩:=wy.mp b;exact(vd hN).mp (e1.trans e2.symm)
theorem GK{M:Model}{A:Around}{E:aC}{i:Nat}{x:Str}{v:V}{u:Value}{Q:Unit->Shared->Prop}(I:Inv X π σ H s)(hN:X.N.Nodup)(hi:X.N[i]?=some x)(hx:Loc X.env.scope x)(r:RelV v u)
   (h:∀ s',Inv X π (σ.set i (some v)) H s'->(∃ a,Heap.SameBut a s.heap s'.heap/\(a=X.env.locals\/X.env.cells.lookup x=some a))->Q () s') (hf:X.fn x=true\/X.env.scope.names.lookup x=some .local:=by first|exact .inl rfl|exact .inr rfl|assumption):wpAny M A (storeName X.env x u) Q E s:=by
 obtain⟨m,hn,hl⟩:=id I.loc;have hcls:(X.env.scope.kind == .class||(X.env.scope.kind == .module&&X.env.locals != X.env.globals))=false:=by rw[I.ok.kind];rfl
 have hiσ:i<σ.length:=by rw[I.len];exact(wy.mp hi).1
 have cne:=I.cne;have tracked:∀{a:Addr} {h':Heap},(∃ o,s.heap.get? a=some o/\H a=none)->Heap.SameBut a s.heap h'->HOk X.prog X.w H h':=λ{a h'} ha hs b ob e=>by
   obtain⟨_,_,hfree⟩:=ha;refine(I.hok b ob e).stay (λc w' hc q=>(hs.2 c ?_).trans q) (λ_ q=>q) (λ_ _ q=>q) λ_ _ _ q=>q;rintro rfl;rcases hc with rfl|hc
   · rw[hfree]at e;cases e
   · rw[hfree]at hc;cases hc
 rcases hx with hk|hk
 · refine wpAny_storeName_local hk hn (λh' hn' hs=>?_) hcls;obtain⟨oL,_,_,hoL,_⟩:=id hn;refine h _ ⟨I.ok,I.os,I.bare,⟨λb o e n hb hx=>?_,λb o e n hb hx=>?_,I.base.free,λb o e hx=>?_,I.base.tups,I.base.frzs,I.base.tbls⟩,⟨_,hn',λj y v' e1 e2 e3=>?_⟩,λy c e=>?_,I.free,I.freeC,λp hp=>?_,tracked ⟨oL,hoL,I.free⟩ hs,by simpa using I.len⟩ ⟨_,hs,.inl rfl⟩
   · exact(hs.2 b (wJ (wt (wo e) I.ok.above))).trans (I.base.keep b o e n hb hx)
   · obtain⟨sl,e1⟩:=I.base.slot b o e n hb hx;exact⟨sl,(hs.2 b (wJ (wt (wo e) I.ok.above))).trans e1⟩
   · obtain⟨o',e1⟩:=I.base.there b o e hx;exact⟨o',(hs.2 b (wJ (wt (wo e) I.ok.above))).trans e1⟩
   · by_cases hj:j=i
     · subst hj;rw[hi]at e1;cases e1;rw[vV hiσ]at e2;cases e2;exact⟨u,r,.inl ⟨hk,by simp⟩⟩
     · rw[Wa (Ne.symm hj)]at e2;obtain⟨u',r',q⟩:=hl j y v' e1 e2 e3;refine⟨u',r',?_⟩;rcases q with⟨k,e⟩|⟨k,c,e,z⟩
       · refine .inl ⟨k,?_⟩;have:y≠x:=λe=>hj (JB hN e1 (e ▸ hi));simp[this,e]
       · exact .inr ⟨k,c,e,z.sameBut hs (cne y c e)⟩
   · obtain⟨w',z⟩:=I.cell y c e;exact⟨w',z.sameBut hs (cne y c e)⟩
   · obtain⟨e,n,ne,nf,d⟩:=I.pin p hp;exact⟨(hs.2 p.1 ne).trans e,n,ne,nf,d⟩
 · have hfn:X.fn x=true:=by
     rcases hf with z|z
     · exact z
     · rw[z]at hk;cases hk
   obtain⟨c,hc⟩:=I.ok.has x (.inl hk);obtain⟨w',z⟩:=I.cell x c hc;refine wpAny_storeName_cell I.ok.kind hk hc z (λh' hc' hs=>?_);obtain⟨oc,hoc,hocd⟩:=id z;refine h { s with heap:=h' } ⟨I.ok,I.os,I.bare,⟨λb o e n hb hx=>?_,λb o e n hb hx=>?_,I.base.free,λb o e hx=>?_,I.base.tups,I.base.frzs,I.base.tbls⟩,⟨m,hn.sameBut hs (Ne.symm (cne x c hc)),λj y v' e1 e2 e3=>?_⟩,λy c' e=>?_,I.free,I.freeC,λp hp=>?_,tracked ⟨oc,hoc,I.freeC x c hc⟩ hs,by simpa using I.len⟩ ⟨c,hs,.inr hc⟩
   · exact(hs.2 b (wJ (wt (wo e) (I.ok.cab x c hfn hc)))).trans (I.base.keep b o e n hb hx)
   · obtain⟨sl,e1⟩:=I.base.slot b o e n hb hx;exact⟨sl,(hs.2 b (wJ (wt (wo e) (I.ok.cab x c hfn hc)))).trans e1⟩
   · obtain⟨o',e1⟩:=I.base.there b o e hx;exact⟨o',(hs.2 b (wJ (wt (wo e) (I.ok.cab x c hfn hc)))).trans e1⟩
   · by_cases hj:j=i
     · subst hj;rw[hi]at e1;cases e1;rw[vV hiσ]at e2;cases e2;exact⟨u,r,.inr ⟨.inl hk,c,hc,hc'⟩⟩
     · rw[Wa (Ne.symm hj)]at e2;obtain⟨u',r',q⟩:=hl j y v' e1 e2 e3;refine⟨u',r',?_⟩;rcases q with q|⟨k,c',e,z'⟩
       · exact .inl q
       · refine .inr ⟨k,c',e,z'.sameBut hs ?_⟩;rintro rfl;exact hj (JB hN e1 (I.ok.inj _ _ _ e hc ▸ hi))
   · by_cases hcc:c'=c
     · subst hcc;exact⟨_,hc'⟩
     · obtain⟨w2,z2⟩:=I.cell y c' e;exact⟨w2,z2.sameBut hs hcc⟩
   · obtain⟨e,n,ne,nf,d⟩:=I.pin p hp;refine⟨(hs.2 p.1 ?_).trans e,n,ne,nf,d⟩;intro q;rw[q,hoc]at e;have q':oc=p.2:=Option.some.inj e;exact d w' (by rw[←q'];exact hocd)
theorem JC{M:Model}{A:Around}{E:aC}{i:Nat}{x:Str}{v:V}{u:Value}{Q:Unit->Shared->Prop}(I:Inv X π σ H s)(hN:X.N.Nodup)(hi:X.N[i]?=some x)(hx:Loc X.env.scope x)(r:RelV v u)
  (h:∀ s',Inv X π (σ.set i (some v)) H s'->Q () s') (hf:X.fn x=true\/X.env.scope.names.lookup x=some .local:=by first|exact .inl rfl|exact .inr rfl|assumption):wpAny M A (storeName X.env x u) Q E s :=
 GK I hN hi hx r (λs' I' _=>h s' I') hf
theorem Inv.call'{s':Shared}{ch:List Addr}(I:Inv X π σ H s)(ho:s'.os=s.os)(u:Un (frs X.stack) ch H H' s.heap s'.heap)(hok:HOk X.prog X.w H' s'.heap)(hg:AllBare s'.gens)
  (hch:∀ b∈ch,(b∈X.ex\/X.s₀.heap.objs.size<=b)/\b≠X.env.locals/\(∀ x c,X.env.cells.lookup x=some c->c≠b)/\∀ p∈X.pn++π,p.1≠b):Inv X π σ H' s':=by
 obtain⟨h',g',d',t',o'⟩:=s';have e:o'=s.os:=ho;subst e;exact I.call (g':=g') (t':=t') (d':=d') u hok hg hch
end
abbrev XK:=Value->Option Addr->Hp->Prop
abbrev St:=List (Option V)
abbrev VK:=V->Hp->Prop
abbrev TE:=St->Hp->VK->Prop
abbrev TT:=St->Hp->(Bool->Hp->Prop)->Prop
abbrev TA:=St->Hp->(List V->Hp->Prop)->Prop
structure Ends where
 nx:St->Hp->Prop
 rt:VK
 bk:St->Hp->Prop:=λ_ _=>False
 ct:St->Hp->Prop:=λ_ _=>False
abbrev TS:=Ends->St->Hp->Prop
def EP(X:Cx)(π:aB)(σ:St)(Q:VK)(u:Value)(s':Shared):Prop:=∃ v H',Inv X π σ H' s'/\RelV v u/\Q v H'
def TP(X:Cx)(π:aB)(σ:St)(Q:Bool->Hp->Prop)(b:Bool)(s':Shared):Prop:=∃ H',Inv X π σ H' s'/\Q b H'
def AP(X:Cx)(π:aB)(σ:St)(Q:List V->Hp->Prop)(us:aG)(s':Shared):Prop:=∃ vs H',Inv X π σ H' s'/\Vals vs us/\Q vs H'
def SP(X:Cx)(π:aB)(D:Ends)(f:Flow)(s':Shared):Prop :=
 match f with
 | .next=>∃ σ' H',Inv X π σ' H' s'/\D.nx σ' H'
 | .brk=>∃ σ' H',Inv X π σ' H' s'/\D.bk σ' H'
 | .cont=>∃ σ' H',Inv X π σ' H' s'/\D.ct σ' H'
 | .ret u=>∃ v σ' H',Inv X π σ' H' s'/\RelV v u/\D.rt v H'
def PE(X:Cx)(e:Expr)(t:TE):Prop :=
 ∀(π:aB) (s:Shared) (σ:St) (H:Hp) (Q:VK),Inv X π σ H s->t σ H Q->wpAny (model X.prog X.w) X.A (eval e X.env) (EP X π σ Q) X.xe s
def PT(X:Cx)(e:Expr)(t:TT):Prop :=
 ∀(π:aB) (s:Shared) (σ:St) (H:Hp) (Q:Bool->Hp->Prop),Inv X π σ H s->t σ H Q->wpAny (model X.prog X.w) X.A (isTrue e X.env (eval e X.env)) (TP X π σ Q) X.xe s
def PW(X:Cx)(e:Expr)(t:TT):Prop :=
 ∀(whole:Sem Value) (π:aB) (s:Shared) (σ:St) (H:Hp) (Q:Bool->Hp->Prop),Inv X π σ H s->t σ H Q->wpAny (model X.prog X.w) X.A (isTrue e X.env whole) (TP X π σ Q) X.xe s
theorem PW.pt{X:Cx}{e:Expr}{t:TT}(h:PW X e t):PT X e t:=h _
def PA(X:Cx)(es:List Expr)(t:TA):Prop :=
 ∀(pos:Pos) (π:aB) (s:Shared) (σ:St) (H:Hp) (Q:List V->Hp->Prop),Inv X π σ H s->t σ H Q->wpAny (model X.prog X.w) X.A (spliced (backTo pos (starEach es X.env))) (AP X π σ Q) X.xe s
def PS(X:Cx)(st:Stmt)(t:TS):Prop :=
 ∀(π:aB) (s:Shared) (σ:St) (H:Hp) (D:Ends),Inv X π σ H s->t D σ H->wpAny (model X.prog X.w) X.A (exec st X.env) (SP X π D) X.xe s
def PSs(X:Cx)(st:List Stmt)(t:TS):Prop :=
 ∀(π:aB) (s:Shared) (σ:St) (H:Hp) (D:Ends),Inv X π σ H s->t D σ H->wpAny (model X.prog X.w) X.A (execs st X.env) (SP X π D) X.xe s
theorem thn{α:Type}{t:Sem α}{Q Q':α->Shared->Prop}{M:Model}{A:Around}{E:aC}{s:Shared}(h:wpAny M A t Q E s)(hQ:∀ a s,Q a s->Q' a s):wpAny M A t Q' E s:=wpAny_mono h hQ λ_ _ x=>x
end L2
namespace L2
open PySem PySem.Spec PyProof.Rows
section
variable {X:Cx}
def tVar(i:Nat):TE:=λσ H Q=>∃ v,σ[i]?=some (some v)/\Q v H
def tC(v:V):TE:=λ_ H Q=>Q v H
theorem Ep{i:Nat}{x:Str}{pos:Pos}(hN:X.N[i]?=some x)(hv:Vis X.env.scope x)(hd:(x==("__debug__" : Str))=false:=by decide)(hcd:(x==("__classdict__" : Str))=false:=by decide):PE X (.Name x pos) (tVar i):=by
 intro π s σ H Q I h;obtain⟨v,e,h⟩:=h;obtain⟨m,hn,hl⟩:=I.loc;obtain⟨u,r,l⟩:=hl i x v hN e hv;have fin:EP X π σ Q u s:=⟨v,H,I,r,h⟩;rcases l with⟨hk,hm⟩|⟨hk,c,hc,hcell⟩
 · exact wpAny_Name (wpAny_loadName_local I.ok.kind hk hn hm fin) hd
 · rcases hk with hk|hk
   · exact wpAny_Name (wpAny_loadName_cell I.ok.kind hk hc hcell fin) hd
   · exact wpAny_Name (wpAny_loadName_free I.ok.kind hk hc hcell fin hcd) hd
theorem B7{i j pos}:PE X (.Constant (.int i) j pos) (tC (.int i)):=λ_ _ _ H _ I h=>wpAny_Constant_int ⟨.int i,H,I.tok _,⟨_,rfl⟩,h⟩
theorem X0{b j pos}:PE X (.Constant (.bool b) j pos) (tC (.bl b)):=λ_ _ _ H _ I h=>Constant_bool ⟨.bl b,H,I,rfl,h⟩
theorem pe_non{j pos}:PE X (.Constant .none j pos) (tC .non):=λ_ _ _ H _ I h=>Constant_none ⟨.non,H,I,rfl,h⟩
def Gl(X:Cx)(x:Str):Prop:=X.env.kindOf x=some .globalImplicit
theorem OV{E:aC}{π:aB}{s:Shared}{σ:St}{H:Hp}{x:Str}{u:Value}{pos:Pos}{Q:aC}(I:Inv X π σ H s)(hg:Gl X x)(hm:X.mg x=some u)(h:Q u s)
  (hd:(x==("__debug__" : Str))=false:=by decide):wpAny (model X.prog X.w) X.A (eval (.Name x pos) X.env) Q E s :=
 Calls.Name_function_global I.ok.kind hg (Calls.loadGlobal_global (by rw[I.ok.glob];exact I.mod.glob.keeps I.bk) hm h) hd
theorem Q8{E:aC}{π:aB}{s:Shared}{σ:St}{H:Hp}{x:Str}{u:Value}{pos:Pos}{Q:aC}(I:Inv X π σ H s)(hg:Gl X x)(hm:X.mg x=none)(hv:bootBuiltins x=some u)(h:Q u s)
  (hn:x ≠ "__name__" := by decide) (hd:(x==("__debug__" : Str))=false:=by decide):wpAny (model X.prog X.w) X.A (eval (.Name x pos) X.env) Q E s:=by
 obtain⟨mb,h1,h2⟩:=I.mod.blt;exact Calls.Name_function_global I.ok.kind hg (Calls.loadGlobal_builtin (by rw[I.ok.glob];exact I.mod.glob.keeps I.bk) hm (by rw[I.ok.blt];exact h1.keeps I.bk) ((h2 x hn).trans hv) h) hd
theorem OW{x:Str}{v:V}{u:Value}{pos:Pos}(hg:Gl X x)(hm:X.mg x=some u)(r:RelV v u)(hd:(x==("__debug__" : Str))=false:=by decide):PE X (.Name x pos) (tC v) :=
 λ_ _ _ H _ I h=>OV I hg hm ⟨v,H,I,r,h⟩ hd
theorem UU{x:Str}{v:V}{u:Value}{pos:Pos}(hg:Gl X x)(hm:X.mg x=none)(hv:bootBuiltins x=some u)(r:RelV v u)(hn:x ≠ "__name__" := by decide)(hd:(x==("__debug__" : Str))=false:=by decide):PE X (.Name x pos) (tC v) :=
 λ_ _ _ H _ I h=>Q8 I hg hm hv ⟨v,H,I,r,h⟩ hn hd
variable {a b:Expr}{ta tb:TE}{pos:Pos}
def PC(X:Cx)(op:CmpOp)(a b:Expr)(t:TE):Prop :=
 ∀(π:aB) (s:Shared) (σ:St) (H:Hp) (Q:VK),Inv X π σ H s->t σ H Q ->
  wpAny (model X.prog X.w) X.A (eval a X.env) (λv s₁=>wpAny (model X.prog X.w) X.A (eval b X.env) (λu s₂=>wpAny (model X.prog X.w) X.A (compareOp op v u) (EP X π σ Q) X.xe s₂) X.xe s₁) X.xe s
def tB(t:TE):TT:=λσ H Q=>t σ H λx H1=>∃ c,x = .bl c/\Q c H1
theorem LB{op:CmpOp}{t:TE}(h:PC X op a b t)(h1:behindInMarks op b=false:=by first|exact nobehind _ (by decide) (by decide)|rfl):PT X (.Compare a [op] [b] pos) (tB t):=by
 intro π s σ H Q I hw;refine wpAny_isTrue_Compare1 (thn (h π s σ H _ I hw) λv s1 h1=>thn h1 λu s2 h2=>thn h2 λc s3⟨x,H1,I1,r1,q1⟩=>?_) h1;obtain⟨d,rfl,q⟩:=q1;cases r1;exact wpAny_truthy_bool ⟨H1,I1,q⟩
theorem pt_val{e:Expr}{t:TE}(h:PE X e t)(he:∀ whole,isTrue e X.env whole=(do let v ←whole;standAt e.pos;holding [v] (truthy v)):=by intro _;rfl):PT X e (tB t):=by
 intro π s σ H Q I hw;refine isTrue_plain (thn (h π s σ H _ I hw) λv s1⟨x,H1,I1,r1,q1⟩=>?_) (he _);obtain⟨d,rfl,q⟩:=q1;cases r1;exact wpAny_truthy_bool ⟨H1,I1,q⟩
variable {tA tB':TT}{rest:List Expr}
def tAnd(t u:TT):TT:=λσ H Q=>t σ H λc H1=>if c=true then u σ H1 Q else Q false H1
def tOr(t u:TT):TT:=λσ H Q=>t σ H λc H1=>if c=true then Q true H1 else u σ H1 Q
def tNot(t:TT):TT:=λσ H Q=>t σ H λc H1=>Q (!c) H1
theorem UV(ha:PT X a tA):PW X (.BoolOp .And [a] pos) tA:=by
 intro wh π s σ H Q I h;refine isTrue_and (thn (ha π s σ H Q I h) λc s1 e=>?_);cases c with
 | true=>exact isTrue_and_nil e
 | false=>exact e
theorem LC(ha:PT X a tA):PW X (.BoolOp .Or [a] pos) tA:=by
 intro wh π s σ H Q I h;refine isTrue_or (thn (ha π s σ H Q I h) λc s1 e=>?_);cases c with
 | false=>exact isTrue_or_nil e
 | true=>exact e
theorem pw_and(ha:PT X a tA)(hb:PW X (.BoolOp .And (b::rest) pos) tB'):PW X (.BoolOp .And (a::b::rest) pos) (tAnd tA tB'):=by
 intro wh π s σ H Q I h;refine isTrue_and (thn (ha π s σ H _ I h) ?_);rintro c s1 ⟨H1,I1,q1⟩;cases c with
 | true=>exact hb wh π s1 σ H1 Q I1 q1
 | false=>exact⟨H1,I1,q1⟩
theorem Rk(ha:PT X a tA)(hb:PW X (.BoolOp .Or (b::rest) pos) tB'):PW X (.BoolOp .Or (a::b::rest) pos) (tOr tA tB'):=by
 intro wh π s σ H Q I h;refine isTrue_or (thn (ha π s σ H _ I h) ?_);rintro c s1 ⟨H1,I1,q1⟩;cases c with
 | true=>exact⟨H1,I1,q1⟩
 | false=>exact hb wh π s1 σ H1 Q I1 q1
theorem Rl(ha:PT X a tA):PT X (.UnaryOp .Not a pos) (tNot tA):=by
 intro π s σ H Q I h;exact isTrue_not (ha π s σ H (λc H1=>Q (!c) H1) I h)
def tAndV(ta tb:TE):TE:=λσ H Q=>ta σ H λx H1=>∃ c,x = .bl c/\if c=true then tb σ H1 Q else Q (.bl false) H1
def tNotV(ta:TE):TE:=λσ H Q=>ta σ H λx H1=>∃ c,x = .bl c/\Q (.bl (!c)) H1
theorem pe_one{op}{t:TE}(h:PE X a t):PE X (.BoolOp op [a] pos) t:=λπ s σ H Q I hw=>BoolOp_one (h π s σ H Q I hw)
theorem pe_and(ha:PE X a ta)(hb:PE X (.BoolOp .And (b::rest) pos) tb):PE X (.BoolOp .And (a::b::rest) pos) (tAndV ta tb):=by
 intro π s σ H Q I h;refine BoolOp_and (thn (ha π s σ H _ I h) ?_);rintro v s1 ⟨x,H1,I1,r1,q1⟩;obtain⟨c,rfl,q1⟩:=q1;cases r1;refine wpAny_truthy_bool ?_;cases c with
 | true=>exact hb π s1 σ H1 Q I1 q1
 | false=>exact⟨.bl false,H1,I1,rfl,q1⟩
theorem pe_not(ha:PE X a ta):PE X (.UnaryOp .Not a pos) (tNotV ta):=by
 intro π s σ H Q I h;refine UnaryOp_ (thn (ha π s σ H _ I h) ?_);rintro v s1 ⟨x,H1,I1,r1,q1⟩;obtain⟨c,rfl,q1⟩:=q1;cases r1;exact not_of (wpAny_truthy_bool ⟨.bl (!c),H1,I1,rfl,q1⟩)
def tIf(t:TT)(ta tb:TE):TE:=λσ H Q=>t σ H λc H1=>if c=true then ta σ H1 Q else tb σ H1 Q
theorem Rm{c:Expr}(hc:PT X c tA)(ha:PE X a ta)(hb:PE X b tb):PE X (.IfExp c a b pos) (tIf tA ta tb):=by
 intro π s σ H Q I h;refine wpAny_IfExp (thn (hc π s σ H _ I h) ?_);rintro d s1 ⟨H1,I1,q1⟩;cases d with
 | true=>exact ha π s1 σ H1 Q I1 q1
 | false=>exact hb π s1 σ H1 Q I1 q1
end
end L2
namespace L2
open PySem PySem.Spec PyProof.Rows
def SqL(K:aE)(H:Hp)(a:Addr)(xs:List V):Prop :=
 Rd H a (.lst xs) \/
  ∃(o:Obj) (its:Array Value) (n:Nat),K.lookup a=some o/\o.cls = .type "list" /\ o.dict=none/\o.data = .seq its n/\its.size<=sizeLine/\Vals xs its.toList
def SqT(K:aE)(H:Hp)(a:Addr)(xs:List V):Prop :=
 Rd H a (.tup xs) \/
  ∃(o:Obj) (its:Array Value) (n:Nat),K.lookup a=some o/\o.cls = .type "tuple" /\ o.data = .seq its n/\its.size<=sizeLine/\Vals xs its.toList
def absV:Value->Option V
 | .none=>some .non
 | .bool b=>some (.bl b)
 | .int i _=>some (.int i)
 | .str x _=>some (.str x)
 | .bytes b _=>some (.byt b)
 | .float b _=>some (.flt b)
 | .ref a=>some (.ref a)
 | .type n=>some (.ty n)
 | _=>none
theorem RelV.abs{x:V}{u:Value}(r:RelV x u):absV u=some x:=by
 cases x with
 | non=>cases r;rfl
 | bl _=>cases r;rfl
 | int _=>obtain⟨t,rfl⟩:=r;rfl
 | str _=>obtain⟨t,rfl⟩:=r;rfl
 | byt _=>obtain⟨t,rfl⟩:=r;rfl
 | flt _=>obtain⟨t,rfl⟩:=r;rfl
 | ref _=>cases r;rfl
 | ty _=>cases r;rfl
theorem RelV.inj{x y:V}{u:Value}(r:RelV x u)(q:RelV y u):x=y:=Option.some.inj (r.abs.symm.trans q.abs)
theorem Vals.inj:∀{xs ys:List V} {us:aG},Vals xs us->Vals ys us->xs=ys
 | _,_,_,.nil,.nil=>rfl
 | _,_,_,.cons r t,.cons r' t'=>by rw[r.inj r',Vals.inj t t']
section
variable {X:Cx}{π:aB}{σ:St}{H:Hp}{s:Shared}{a:Addr}{xs ys:List V}
theorem SqL.of{K:aE}(h:H a=some (.lst xs)):SqL K H a xs := .inl (.inl h)
theorem SqT.of{K:aE}(h:H a=some (.tup xs)):SqT K H a xs := .inl (.inl h)
theorem Inv.list(I:Inv X π σ H s)(h:SqL X.K H a xs):∃ its:aG,Vals xs its/\PlainL s.heap a its.toArray/\xs.length<=sizeLine:=by
 rcases h with h|⟨o,its,n,hk,hc,hd,hs,hz,r⟩
 · obtain⟨z,its,n,r,e⟩:=h.ok I.hok;exact⟨its,r,⟨_,n,e,rfl,rfl,rfl⟩,z⟩
 · refine⟨its.toList,r,⟨o,n,I.kIn a o hk,hc,hd,by simpa using hs⟩,?_⟩;have e:=r.length;simp only[Array.length_toList]at e;rfl'
theorem Inv.tuple(I:Inv X π σ H s)(h:SqT X.K H a xs):∃ its:aG,Vals xs its/\IsTup s.heap a its.toArray/\xs.length<=sizeLine:=by
 rcases h with h|⟨o,its,n,hk,hc,hs,hz,r⟩
 · obtain⟨z,its,r,p⟩:=h.ok I.hok;exact⟨its,r,p,z⟩
 · refine⟨its.toList,r,⟨o,I.kIn a o hk,hc,n,by simpa using hs⟩,?_⟩;have e:=r.length;simp only[Array.length_toList]at e;rfl'
theorem Inv.list_inj(I:Inv X π σ H s)(h:SqL X.K H a xs)(h':SqL X.K H a ys):xs=ys:=by
 obtain⟨its,r,⟨o,n,e,_,_,d⟩,_⟩:=I.list h;obtain⟨its',r',⟨o',n',e',_,_,d'⟩,_⟩:=I.list h';rw[e]at e';cases e';rw[d]at d';injection d' with d1 _
 have:its=its':=by simpa using congrArg Array.toList d1
 subst this;exact r.inj r'
theorem Inv.tuple_inj(I:Inv X π σ H s)(h:SqT X.K H a xs)(h':SqT X.K H a ys):xs=ys:=by
 obtain⟨its,r,⟨o,e,_,n,d⟩,_⟩:=I.tuple h;obtain⟨its',r',⟨o',e',_,n',d'⟩,_⟩:=I.tuple h';rw[e]at e';cases e';rw[d]at d';injection d' with d1 _
 have:its=its':=by simpa using congrArg Array.toList d1
 subst this;exact r.inj r'
end
abbrev Cx.wish(X:Cx)(E:aC):Cx:={ X with xe:=E }
abbrev Cx.nox(X:Cx):Cx:=X.wish λ_ _=>False
theorem Cx.Ok.wish{X:Cx}(ok:X.Ok)(E:aC):(X.wish E).Ok :=
 ⟨ok.mod,ok.kind,ok.glob,ok.blt,ok.above,ok.inj,ok.has,ok.cab,ok.hd,ok.frames,ok.stk,ok.exf,ok.bs,ok.bsz,ok.noex,ok.exfs,ok.funs,ok.frf⟩
theorem Cx.Ok.unwish{X:Cx}{E:aC}(ok:(X.wish E).Ok):X.Ok :=
 ⟨ok.mod,ok.kind,ok.glob,ok.blt,ok.above,ok.inj,ok.has,ok.cab,ok.hd,ok.frames,ok.stk,ok.exf,ok.bs,ok.bsz,ok.noex,ok.exfs,ok.funs,ok.frf⟩
section
variable {X:Cx}{π:aB}{σ:St}{H:Hp}{s:Shared}{E:aC}
theorem Inv.wish(I:Inv X π σ H s)(E:aC):Inv (X.wish E) π σ H s:=⟨I.ok.wish E,I.os,I.bare,I.base,I.loc,I.cell,I.free,I.freeC,I.pin,I.hok,I.len⟩
theorem Inv.unwish(I:Inv (X.wish E) π σ H s):Inv X π σ H s:=⟨I.ok.unwish,I.os,I.bare,I.base,I.loc,I.cell,I.free,I.freeC,I.pin,I.hok,I.len⟩
theorem SP.unwish{D:Ends}{f:Flow}{s':Shared}(h:SP (X.wish E) π D f s'):SP X π D f s':=by
 cases f with
 | next=>obtain⟨σ',H',I,q⟩:=h;exact⟨σ',H',I.unwish,q⟩
 | brk=>obtain⟨σ',H',I,q⟩:=h;exact⟨σ',H',I.unwish,q⟩
 | cont=>obtain⟨σ',H',I,q⟩:=h;exact⟨σ',H',I.unwish,q⟩
 | ret u=>obtain⟨v,σ',H',I,r,q⟩:=h;exact⟨v,σ',H',I.unwish,r,q⟩
theorem PSs.nox{st:List Stmt}{t:TS}(h:PSs X.nox st t):PSs X st t:=λπ s σ H D I hw =>
 wpAny_mono (h π s σ H D (I.wish _) hw) (λ_ _ q=>q.unwish) λ_ _ z=>False.elim z
end
section
variable {X:Cx}{st:Stmt}{rest:List Stmt}{t u:TS}{e:Expr}{te:TE}{pos:Pos}
def AF:TS:=λD σ H=>D.nx σ H
def tSeq(t u:TS):TS:=λD σ H=>t { D with nx:=u D } σ H
theorem P9:PSs X [] AF:=λ_ _ σ H _ I h=>wpAny_execs_nil ⟨σ,H,I,h⟩
theorem j8(h1:PS X st t)(h2:PSs X rest u):PSs X (st::rest) (tSeq t u):=by
 intro π s σ H D I h;refine wpAny_execs_cons (thn (h1 π s σ H { D with nx:=u D } I h) λf s1 q=>?_);cases f with
 | next =>
  obtain⟨σ',H',I',q⟩:=q;exact h2 π s1 σ' H' D I' q
 | ret v=>exact q
 | brk=>exact q
 | cont=>exact q
theorem y4(h1:PS X st t):PSs X [st] t:=by
 intro π s σ H D I h;refine wpAny_execs_cons (thn (h1 π s σ H D I h) λf s1 q=>?_);cases f with
 | next=>exact wpAny_execs_nil q
 | ret v=>exact q
 | brk=>exact q
 | cont=>exact q
theorem Inv.quiet{π:aB}{σ:St}{H:Hp}{s:Shared}(I:Inv X π σ H s):interactive X.env=false:=by simp[interactive,I.ok.kind]
def OX(te:TE):TS:=λD σ H=>te σ H λ_ H1=>D.nx σ H1
theorem Aa(he:PE X e te)(hs:swapsWith e none pos.line X.env=pure false:=by rfl):PS X (.Expr e pos) (OX te):=by
 intro π s σ H D I h;exact wpAny_Expr_any (thn (he π s σ H _ I h) λv s1⟨x,H1,I1,r1,q1⟩=>⟨σ,H1,I1,q1⟩) I.quiet hs
def tRet(te:TE):TS:=λD σ H=>te σ H D.rt
theorem N7(he:PE X e te):PS X (.Return (some e) pos) (tRet te):=by
 intro π s σ H D I h;exact wpAny_Return_some (thn (he π s σ H _ I h) λv s1⟨x,H1,I1,r1,q1⟩=>⟨x,σ,H1,I1,r1,q1⟩)
def tIfS(c:TT)(t u:TS):TS:=λD σ H=>c σ H λb H1=>if b=true then t D σ H1 else u D σ H1
theorem Dj{c:Expr}{a b:List Stmt}{tc:TT}(hc:PT X c tc)(ha:PSs X a t)(hb:PSs X b u):PS X (.If c a b pos) (tIfS tc t u):=by
 intro π s σ H D I h;refine wpAny_If (thn (hc π s σ H _ I h) ?_);rintro d s1 ⟨H1,I1,q1⟩;cases d with
 | true=>exact ha π s1 σ H1 D I1 q1
 | false=>exact hb π s1 σ H1 D I1 q1
end
abbrev TG:=V->St->Hp->(St->Hp->Prop)->Prop
abbrev TGs:=List V->St->Hp->(St->Hp->Prop)->Prop
def PG(X:Cx)(target:Expr)(t:TG):Prop :=
 ∀(π:aB) (s:Shared) (σ:St) (H:Hp) (v:V) (u:Value) (Q:St->Hp->Prop),Inv X π σ H s->RelV v u->t v σ H Q ->
  wpAny (model X.prog X.w) X.A (assign target X.env u) (λ_ s'=>∃ σ' H',Inv X π σ' H' s'/\Q σ' H') X.xe s
def PGs(X:Cx)(ts:List Expr)(t:TGs):Prop :=
 ∀(π:aB) (s:Shared) (σ:St) (H:Hp) (vs:List V) (us:aG) (Q:St->Hp->Prop),Inv X π σ H s->Vals vs us->t vs σ H Q ->
  wpAny (model X.prog X.w) X.A (assignInOrder ((assignEach ts X.env).map (·.2)) us) (λ_ s'=>∃ σ' H',Inv X π σ' H' s'/\Q σ' H') X.xe s
abbrev TSet:=V->V->V->Hp->(Hp->Prop)->Prop
def PSet(X:Cx)(t:TSet):Prop :=
 ∀(π:aB) (s:Shared) (σ:St) (H:Hp) (o i v:V) (ov iv u:Value) (Q:Hp->Prop),Inv X π σ H s->RelV o ov->RelV i iv->RelV v u->t o i v H Q ->
  wpAny (model X.prog X.w) X.A (setItem ov iv u) (λ_ s'=>∃ H',Inv X π σ H' s'/\Q H') X.xe s
section
variable {X:Cx}{pos:Pos}
def u5(i:Nat):TG:=λv σ H Q=>Q (σ.set i (some v)) H
theorem A6{i:Nat}{x:Str}(hN:X.N.Nodup)(hi:X.N[i]?=some x)(hx:Loc X.env.scope x)(hf:X.fn x=true\/X.env.scope.names.lookup x=some .local:=by first|exact .inl rfl|exact .inr rfl|assumption):PG X (.Name x pos) (u5 i):=by
 intro π s σ H v u Q I r h;exact wpAny_assign_Name (JC I hN hi hx r (λs' I'=>⟨_,H,I',h⟩) hf)
def gNil:TGs:=λvs σ H Q=>vs=[]/\Q σ H
def gCons(t:TG)(u:TGs):TGs:=λvs σ H Q=>∃ v r,vs=v::r/\t v σ H λσ' H'=>u r σ' H' Q
theorem UW:PGs X [] gNil:=by
 intro π s σ H vs us Q I r h;obtain⟨e,h⟩:=h;subst e;cases r;exact assignInOrder_nil ⟨σ,H,I,h⟩
theorem Rn{e:Expr}{es:List Expr}{t:TG}{u:TGs}(h1:PG X e t)(h2:PGs X es u)
  (hs:(assignEach (e::es) X.env).map (·.2)=assign e X.env::(assignEach es X.env).map (·.2):=by rfl):PGs X (e::es) (gCons t u):=by
 intro π s σ H vs us Q I r h;obtain⟨v,vr,e1,h⟩:=h;subst e1;cases r with
 | cons r rr =>
  rw[hs];refine assignInOrder_cons (thn (h1 π s σ H _ _ _ I r h) ?_);rintro _ s1 ⟨σ1,H1,I1,q1⟩;exact h2 π s1 σ1 H1 _ _ Q I1 rr q1
def gTup(K:aE)(n:Nat)(t:TGs):TG:=λv σ H Q=>∃ a xs,v = .ref a/\SqT K H a xs/\xs.length=n/\t xs σ H Q
theorem pg_tup{es:List Expr}{k:Nat}{t:TGs}{n:Nat}(hc:X.calm=true)(h:PGs X es t)
  (hn:(assignEach es X.env).length=n:=by rfl) (hst:(assignEach es X.env).findIdx? (·.1)=none:=by rfl):PG X (.Tuple es k pos) (gTup X.K n t):=by
 intro π s σ H v u Q I r hw;obtain⟨a,xs,e1,hq,hl,hw⟩:=hw;subst e1;cases r;obtain⟨its,rv,ht,hz⟩:=I.tuple hq;refine assign_Tuple_tuple (I.ok.hd hc) ht (by simp[hn,←hl,rv.length]) hst λh' hx=>?_;have I1:Inv X π σ H { s with heap:=h' }:=I.kept (t':=s.toks) λb o e=>hx b o (wJ (wo e)) e;exact h π _ σ H xs _ Q I1 (by simpa using rv) hw
def gSub(to ti:TE)(t:TSet):TG:=λv σ H Q=>to σ H λo H1=>ti σ H1 λi H2=>t o i v H2 λH3=>Q σ H3
theorem Ro{o i:Expr}{to ti:TE}{t:TSet}(ho:PE X o to)(hi:PE X i ti)(hs:PSet X t)
  (ha:∀ v,assign (.Subscript o i pos) X.env v=(do
   let ov ←holding [v] (eval o X.env);let iv ←holding [v,ov] (eval i X.env)
   standAt pos
   holding [v,ov,iv] (setItem ov iv v)
   release [v,ov,iv] []):=by intro _;rfl):PG X (.Subscript o i pos) (gSub to ti t):=by
 intro π s σ H v u Q I r h;rw[ha];refine wpAny_bind (wpAny_holding (thn (ho π s σ H _ I h) ?_));rintro ov s1 ⟨x,H1,I1,r1,q1⟩;refine wpAny_bind (wpAny_holding (thn (hi π s1 σ H1 _ I1 q1) ?_));rintro iv s2 ⟨y,H2,I2,r2,q2⟩;refine wpAny_bind (wpAny_standAt (wpAny_bind (wpAny_holding (thn (hs π s2 σ H2 x y v ov iv u _ I2 r1 r2 r q2) ?_))));rintro _ s3 ⟨H3,I3,q3⟩;exact wpAny_release ⟨σ,H3,I3,q3⟩
def tAsg(te:TE)(g:TG):TS:=λD σ H=>te σ H λx H1=>g x σ H1 D.nx
theorem Rq{tg e:Expr}{te:TE}{g:TG}(he:PE X e te)(hg:PG X tg g)(hs:swapsWithSole [tg] e pos.line X.env=pure false:=by rfl)(hw:swappedStores [tg] e X.env=pure none:=by rfl)
  (h1:(assignEach [tg] X.env).map (·.2)=[assign tg X.env]:=by rfl):PS X (.Assign [tg] e pos) (tAsg te g):=by
 intro π s σ H D I h;refine wpAny_Assign_stores (thn (he π s σ H _ I h) λv s1⟨x,H1,I1,r1,q1⟩=>?_) hs hw;rw[h1];exact thn (hg π s1 σ H1 x v _ I1 r1 q1) λ_ s2 q=>q
theorem B8{i:Nat}{x:Str}{e:Expr}{te:TE}{pos':Pos}(hN:X.N.Nodup)(hi:X.N[i]?=some x)(hx:Loc X.env.scope x)(he:PE X e te)(hs:swapsWith e (some (.Name x pos')) pos.line X.env=pure false:=by rfl)(hf:X.fn x=true\/X.env.scope.names.lookup x=some .local:=by first|exact .inl rfl|exact .inr rfl|assumption):
  PS X (.Assign [.Name x pos'] e pos) (tAsg te (u5 i)):=by
 intro π s σ H D I h;refine wpAny_Assign_Name (thn (he π s σ H _ I h) λv s1⟨y,H1,I1,r1,q1⟩=>?_) hs;exact JC I1 hN hi hx r1 (λs2 I2=>⟨_,H1,I2,q1⟩) hf
end
section
variable {X:Cx}{pos:Pos}
def Iv(c:TT)(tb:TS):TS:=λD σ H=>∃ W:Nat->St->Hp->Prop,(∃ m,W m σ H)/\∀ m σ H,W m σ H ->
 c σ H λb H1=>if b=true then ∃ N:St->Hp->Prop,(∀ σ' H',N σ' H'->∃ m',m'<m/\W m' σ' H')/\tb { D with nx:=N,ct:=N,bk:=D.nx } σ H1 else D.nx σ H1
theorem JD{c:Expr}{body:List Stmt}{tc:TT}{tb:TS}(hp:PassesOwn (model X.prog X.w) X.A X.env X.xe)(hc:PT X c tc)(hb:PSs X body tb):PS X (.While c body [] pos) (Iv tc tb):=by
 intro π s σ H D I h;obtain⟨W,⟨m0,w0⟩,turn⟩:=h;refine wpAny_While (codeAny_whileLoop (λn s'=>∃ σ' H',Inv X π σ' H' s'/\W n σ' H') ?_ m0 ⟨σ,H,I,w0⟩);rintro n s1 ⟨σ1,H1,I1,w1⟩;refine wpAny_passesOwn hp (thn (hc π s1 σ1 H1 _ I1 (turn n σ1 H1 w1)) ?_);rintro b s2 ⟨H2,I2,q2⟩;cases b with
 | true =>
  obtain⟨N,hN,q2⟩:=q2;rw[if_pos rfl];refine wpAny_passesOwn hp (thn (hb π s2 σ1 H2 _ I2 q2) λf s3 q3=>?_);cases f with
  | next =>
   obtain⟨σ3,H3,I3,n3⟩:=q3;obtain⟨m',hm,w3⟩:=hN σ3 H3 n3;exact⟨m',hm,σ3,H3,I3,w3⟩
  | cont =>
   obtain⟨σ3,H3,I3,n3⟩:=q3;obtain⟨m',hm,w3⟩:=hN σ3 H3 n3;exact⟨m',hm,σ3,H3,I3,w3⟩
  | brk=>exact q3
  | ret v=>exact q3
 | false =>
  rw[if_neg wD];exact wpAny_execs_nil ⟨σ1,H2,I2,q2⟩
end
structure It where
 go:Nat->Hp->Prop
 yld:Nat->Hp->V->Hp->Prop
 stop:Nat->Hp->Prop
def FpOk(X:Cx)(π:aB)(H:Hp)(b:Addr):Prop :=
 H b=none/\b≠X.env.locals/\b ∉ X.fs/\(b∈X.ex\/X.s₀.heap.objs.size<=b)/\(∀ x c,X.env.cells.lookup x=some c->c≠b)/\∀ p∈X.pn++π,p.1≠b
theorem Inv.fpOk{X:Cx}{π:aB}{σ:St}{H H':Hp}{s:Shared}{b:Addr}(I:Inv X π σ H s)(hb:s.heap.objs.size<=b)(hn:H' b=none):FpOk X π H' b:=by
 refine⟨hn,WN (wt I.lt hb),I.nofs hb,.inr (wB I.sz hb),λx c e z=>?_,λp hp z=>?_⟩
 · obtain⟨v,q⟩:=I.cell x c e;exact absurd (wt q.lt (by rw[z];exact hb)) (wT _)
 · exact absurd (wt (wo (I.pin p hp).1) (by rw[z];exact hb)) (wT _)
structure Turn(P:Program)(w:World)(K:aE)(tg:Expr)(J:It)(fp:List Addr)(it:Addr)(tn:Nat->Heap->Prop):Prop where
 mem:it∈fp
 obj:∀ i h,tn i h->∀ b∈fp,∃ o,h.get? b=some o/\∀ v,o.data ≠ .cell v
 keep:∀ i h h',tn i h->(∀ b∈fp,∀ o,h.get? b=some o->h'.get? b=some o)->tn i h'
 item:∀(X:Cx),X.prog=P->X.w=w->X.K=K->X.calm=true->∀(i:Nat) (π:aB) (s:Shared) (σ:St) (H:Hp) (E:aC),Inv X π σ H s->(∀ b∈fp,FpOk X π H b)->tn i s.heap->J.go i H ->
  wpAny (model P w) X.A (pyNext (.ref it)) (λr s1=>∃ u,r=some u /\
   wpAny (model P w) X.A (letOwnedTupleGo tg (.ref it) u) (λ_ s2=>∃ x H',Inv X π σ H' s2/\RelV x u/\J.yld i H x H'/\tn (i+1) s2.heap/\∀ b∈fp,H' b=none) E s1) E s
 done:∀(X:Cx),X.prog=P->X.w=w->X.K=K->X.calm=true->∀(i:Nat) (π:aB) (s:Shared) (σ:St) (H:Hp) (E:aC),Inv X π σ H s->(∀ b∈fp,FpOk X π H b)->tn i s.heap->J.stop i H ->
  wpAny (model P w) X.A (pyNext (.ref it)) (λr s1=>r=none/\Inv X π σ H s1) E s
 self:∀(A:Around) (i:Nat) (s:Shared) (Q:aC) (E:aC),tn i s.heap->Q (.ref it) s->wpAny (model P w) A (pyIter (.ref it)) Q E s
abbrev TI:=St->Hp->(It->Hp->Prop)->Prop
def PIE(X:Cx)(π:aB)(σ:St)(tg:Expr)(R:It->Hp->Prop)(itv:Value)(s2:Shared):Prop :=
 ∃(it:Addr) (fp:List Addr) (tn:Nat->Heap->Prop) (J:It) (H':Hp),itv = .ref it/\Inv X π σ H' s2/\Turn X.prog X.w X.K tg J fp it tn/\tn 0 s2.heap/\(∀ b∈fp,FpOk X π H' b)/\R J H'
def PI(X:Cx)(tg iter:Expr)(wi:TI):Prop :=
 ∀(π:aB) (s:Shared) (σ:St) (H:Hp) (R:It->Hp->Prop),Inv X π σ H s->wi σ H R ->
  wpAny (model X.prog X.w) X.A (eval iter X.env) (λv s1=>wpAny (model X.prog X.w) X.A (pyIter v) (PIE X π σ tg R) X.xe s1) X.xe s
theorem OY{M:Model}{A:Around}{E:Value→Shared→Prop}{s:Shared}{tg:Expr}{it:Addr}{u:Value}{o:Obj}{n:String}{vs:Array Value}{Q:Unit→Shared→Prop}(ho:s.heap.get? it=some o)(hc:o.cls = .type n)(hd:o.data = .fields vs)
    (hn:["enumerate", "zip", "dict_itemiterator", "dict_reverseitemiterator", "odict_iterator", "itertools.zip_longest", "itertools.pairwise"].contains n=false) (hQ:Q () s):wpAny M A (letOwnedTupleGo tg (.ref it) u) Q E s:=by
  unfold letOwnedTupleGo
  cases tg<;>first
    | exact wpAny_pure hQ
    | (cases u<;>first
        | exact wpAny_pure hQ
        | (refine wpAny_bind (wpAny_load ho ?_)
           rw[hc,hd];show wpAny M A (if(["enumerate", "zip", "dict_itemiterator", "dict_reverseitemiterator", "odict_iterator", "itertools.zip_longest", "itertools.pairwise"].contains n&&vs[0]?==some (rawInt _))=true then _ else _) Q E s;rw[if_neg (by intro h;rw[hn,Bool.false_and]at h;cases h)];exact wpAny_pure hQ))
def Itl(K:aE)(a:Addr):It :=
 ⟨λi H=>∃ xs x,SqL K H a xs/\xs[i]?=some x,λi H x H'=>H'=H/\∀ xs,SqL K H a xs->xs[i]?=some x,λi H=>∃ xs,SqL K H a xs/\xs.length<=i⟩
def Itt(K:aE)(a:Addr):It :=
 ⟨λi H=>∃ xs x,SqT K H a xs/\xs[i]?=some x,λi H x H'=>H'=H/\∀ xs,SqT K H a xs->xs[i]?=some x,λi H=>∃ xs,SqT K H a xs/\xs.length<=i⟩
def Itr(lo:Int)(n:Nat):It:=⟨λi _=>i<n,λi H x H'=>H'=H/\x = .int (lo+i),λi _=>n<=i⟩
theorem GL{P:Program}{w:World}{K:aE}{tg:Expr}(a it:Addr):Turn P w K tg (Itl K a) [it] it (λi h=>h.IsListIter it a i) where
 mem:=by simp
 obj:=λi h st b hb=>by
  have e:b=it:=by simpa using hb
  subst e;obtain⟨o,e,c,d⟩:=st;exact⟨o,e,λv z=>by rw[d]at z;cases z⟩
 keep:=λi h h' st k=>st.at λo e=>k it (by simp) o e
 item:=by
  intro X hP hw hK hc i π s σ H E I hf st hg;subst hP hw hK;obtain⟨xs,x,hq,hx⟩:=hg;obtain⟨its,rv,p,hz⟩:=I.list hq;obtain⟨u,hu,ru⟩:=rv.get hx;obtain⟨f0,f1,f2,f3,f4,f5⟩:=hf it (by simp);refine wpAny_pyNext_list_item st p.isList (x:=u) (by simpa using hu) λh' st' sb=>?_;have I1:Inv X π σ H { s with heap:=h' }:=I.turned (t':=s.toks) (λb o hb e=>(sb.2 b hb).trans e) f0 f1 f3 f4 f5;obtain⟨o,e,c,d⟩:=id st';exact⟨u,rfl,OY (s:={ s with heap:=h' }) e c d (by decide) ⟨x,H,I1,ru,⟨rfl,λys hy=>by rw[I.list_inj hy hq];exact hx⟩,st',λb hb=>(hf b hb).1⟩⟩
 done:=by
  intro X hP hw hK hc i π s σ H E I hf st hg;subst hP hw hK;obtain⟨xs,hq,hx⟩:=hg;obtain⟨its,rv,p,hz⟩:=I.list hq;obtain⟨f0,f1,f2,f3,f4,f5⟩:=hf it (by simp);have hl:=rv.length;exact wpAny_pyNext_list_end (I.ok.hd hc) st p.isList (by simp;rfl') λh' eb=>⟨rfl,I.turned (t':=s.toks) (λb o hb e=>eb b o hb e) f0 f1 f3 f4 f5⟩
 self:=λ_ _ _ _ _ st h=>wpAny_pyIter_listiter st h
theorem LD{P:Program}{w:World}{K:aE}{tg:Expr}(a it:Addr):Turn P w K tg (Itt K a) [it] it (λi h=>h.IsTupleIter it a i) where
 mem:=by simp
 obj:=λi h st b hb=>by
  have e:b=it:=by simpa using hb
  subst e;obtain⟨o,e,c,d⟩:=st;exact⟨o,e,λv z=>by rw[d]at z;cases z⟩
 keep:=λi h h' st k=>st.at λo e=>k it (by simp) o e
 item:=by
  intro X hP hw hK hc i π s σ H E I hf st hg;subst hP hw hK;obtain⟨xs,x,hq,hx⟩:=hg;obtain⟨its,rv,p,hz⟩:=I.tuple hq;obtain⟨u,hu,ru⟩:=rv.get hx;obtain⟨f0,f1,f2,f3,f4,f5⟩:=hf it (by simp);refine wpAny_pyNext_tuple_item st (show s.heap.IsTuple a its.toArray from p) (x:=u) (by simpa using hu) λh' st' sb=>?_;have I1:Inv X π σ H { s with heap:=h' }:=I.turned (t':=s.toks) (λb o hb e=>(sb.2 b hb).trans e) f0 f1 f3 f4 f5;obtain⟨o,e,c,d⟩:=id st';exact⟨u,rfl,OY (s:={ s with heap:=h' }) e c d (by decide) ⟨x,H,I1,ru,⟨rfl,λys hy=>by rw[I.tuple_inj hy hq];exact hx⟩,st',λb hb=>(hf b hb).1⟩⟩
 done:=by
  intro X hP hw hK hc i π s σ H E I hf st hg;subst hP hw hK;obtain⟨xs,hq,hx⟩:=hg;obtain⟨its,rv,p,hz⟩:=I.tuple hq;obtain⟨f0,f1,f2,f3,f4,f5⟩:=hf it (by simp);have hl:=rv.length;exact wpAny_pyNext_tuple_end (I.ok.hd hc) st (show s.heap.IsTuple a its.toArray from p) (by simp;rfl') λh' eb=>⟨rfl,I.turned (t':=s.toks) (λb o hb e=>eb b o hb e) f0 f1 f3 f4 f5⟩
 self:=λ_ _ _ _ _ st h=>wpAny_pyIter_tupleiter st h
theorem LG{P:Program}{w:World}{K:aE}{tg:Expr}(it:Addr)(lo:Int)(n:Nat):Turn P w K tg (Itr lo n) [it] it (λi h=>IsRangeIter h it (lo+(i:Nat)*1) ((n:Int)-(i:Nat)) 1) where
 mem:=by simp
 obj:=λi h st b hb=>by
  have e:b=it:=by simpa using hb
  subst e;exact⟨_,st,λv z=>by
   have z':Data.fields _=Data.cell v:=z;cases z'⟩
 keep:=λi h h' st k=>k it (by simp) _ st
 item:=by
  intro X hP hw hK hc i π s σ H E I hf st hg;subst hP hw hK;obtain⟨f0,f1,f2,f3,f4,f5⟩:=hf it (by simp);have W:=Walks.range (prog:=X.prog) (w:=X.w) (I.ok.hd hc) it lo 1 n;refine W.item i s _ _ hg st λv h' tk hv st' kk=>?_;obtain⟨t,rfl⟩:=hv;have I1:Inv X π σ H { s with heap:=h',toks:=tk }:=I.turned (λb o hb e=>kk b o (by simpa using hb) e) f0 f1 f3 f4 f5;refine⟨_,rfl,OY (s:={ s with heap:=h',toks:=tk }) (n := "range_iterator") st' rfl rfl (by decide) ⟨.int (lo+i),H,I1,⟨t,?_⟩,⟨rfl,rfl⟩,st',λb hb=>(hf b hb).1⟩⟩;rw[Int.mul_one]
 done:=by
  intro X hP hw hK hc i π s σ H E I hf st hg;subst hP hw hK;obtain⟨f0,f1,f2,f3,f4,f5⟩:=hf it (by simp);exact wpAny_pyNext_range_end (I.ok.hd hc) st (by have:n<=i:=hg;rfl') λh' eb=>⟨rfl,I.turned (t':=s.toks) (λb o hb e=>eb b o hb e) f0 f1 f3 f4 f5⟩
 self:=λ_ _ _ _ _ st h=>wpAny_pyIter_rangeiter st h
end L2
namespace L2
open PySem PySem.Spec PyProof.Rows
section
variable {X:Cx}{tg:Expr}
def Dk(K:aE)(tl:TE):TI:=λσ H R=>tl σ H λx H1=>∃ a,x = .ref a/\(∃ xs,SqL K H1 a xs)/\R (Itl K a) H1
theorem Bp{l:Expr}{tl:TE}(hl:PE X l tl):PI X tg l (Dk X.K tl):=by
 intro π s σ H R I h;refine thn (hl π s σ H _ I h) ?_;rintro v s1 ⟨x,H1,I1,r1,q1⟩;obtain⟨a,e,⟨xs,hq⟩,q⟩:=q1;subst e;cases r1;obtain⟨its,rv,p,hz⟩:=I1.list hq;refine wpAny_pyIter_list p.isList ?_;refine⟨s1.heap.objs.size,[s1.heap.objs.size],_,_,H1,rfl,I1.kept (t':=s1.toks) λb o e=>wd _ e,GL a _,⟨_,wp _ rfl,rfl,rfl⟩,λb hb=>?_,q⟩;have e:b=s1.heap.objs.size:=by simpa using hb
 subst e;exact I1.fpOk (wf _) (I1.hok.fresh (wf _))
theorem JE{π:aB}{σ:St}{H:Hp}{s:Shared}{R:It->Hp->Prop}{E:aC}{lo hi:Int}{t u v:Tok}{tk:Nat}(I:Inv X π σ H s)(h1 : -(2 ^ 62)<=lo)(h2:lo<2 ^ 62)(h3 : -(2 ^ 62)<=hi)(h4:hi<2 ^ 62)
   (q:R (Itr lo (hi-lo).toNat) H):wpAny (model X.prog X.w) X.A (pyIter (.ref s.heap.objs.size)) (PIE X π σ tg R) E { s with heap:=s.heap.push { cls := .type "range",data := .fields #[.int lo t,.int hi u,.int 1 v] },toks:=tk }:=by
 refine wpAny_pyIter_range (IsRange.new ..) (small_one h1 h2 h3 h4) ?_;have I1:Inv X π σ H { s with heap:=s.heap.push { cls := .type "range",data := .fields #[.int lo t,.int hi u,.int 1 v] },toks:=tk }:=I.kept λb o e=>wd _ e;refine⟨(s.heap.push { cls := .type "range",data := .fields #[.int lo t,.int hi u,.int 1 v] }).objs.size,[(s.heap.push { cls := .type "range",data := .fields #[.int lo t,.int hi u,.int 1 v] }).objs.size],_,_,H,rfl,
   I1.kept (t':=tk) λb o e=>wd _ e,LG _ lo (hi-lo).toNat,?_,λb hb=>?_,q⟩
 · have e1:lo+((0:Nat):Int)*1=lo:=by simp
   have e2:(((hi-lo).toNat:Nat):Int)-((0:Nat):Int)=Builtin.Range.rangeSize lo hi 1:=by rw[rangeSize_one];split<;>rfl'
   show IsRangeIter _ _ (lo+((0:Nat):Int)*1) ((((hi-lo).toNat:Nat):Int)-((0:Nat):Int)) 1;rw[e1,e2];exact wp _ rfl
 · have e:b=(s.heap.push { cls := .type "range",data := .fields #[.int lo t,.int hi u,.int 1 v] }).objs.size:=by simpa using hb
   subst e;exact I1.fpOk (wf _) (I1.hok.fresh (wf _))
def iRng1(ta:TA):TI:=λσ H R=>ta σ H λvs H1=>∃ j:Int,vs=[.int j] /\ -(2 ^ 62)<=j/\j<2 ^ 62/\R (Itr 0 j.toNat) H1
def iRng2(ta:TA):TI:=λσ H R=>ta σ H λvs H1=>∃ i j:Int,vs=[.int i,.int j]/\(-(2 ^ 62)<=i/\i<2 ^ 62 /\ -(2 ^ 62)<=j/\j<2 ^ 62)/\R (Itr i (j-i).toNat) H1
theorem GM{a:Expr}{ta:TA}{p pos:Pos}(hg:Gl X "range")(hm:X.mg "range" = none)(ha:PA X [a] ta)(hs:starEach [a] X.env=[(false,eval a X.env)]:=by rfl):PI X tg (.Call (.Name "range" p) [a] [] pos) (iRng1 ta):=by
 intro π s σ H R I h;refine Call_ (Q8 I hg hm boot_range (PyProof.Rows.callWith_type1 (thn (ha pos π s σ H _ I h) λus s1⟨vs,H1,I1,r1,q1⟩=>?_) hs rfl));obtain⟨j,e,q1,q2,q⟩:=q1;subst e;cases r1 with
 | cons r rr =>
  cases rr;obtain⟨t,rfl⟩:=r;exact call_range_1 (JE I1 (by rfl') (by rfl') q1 q2 (by simpa using q))
theorem Qk{a b:Expr}{ta:TA}{p pos:Pos}(hg:Gl X "range")(hm:X.mg "range" = none)(ha:PA X [a,b] ta)(hs:starEach [a,b] X.env=[(false,eval a X.env),(false,eval b X.env)]:=by rfl)(hs2:starEach [b] X.env=[(false,eval b X.env)]:=by rfl):
  PI X tg (.Call (.Name "range" p) [a,b] [] pos) (iRng2 ta):=by
 intro π s σ H R I h;refine Call_ (Q8 I hg hm boot_range (PyProof.Rows.callWith_type1 (thn (ha pos π s σ H _ I h) λus s1⟨vs,H1,I1,r1,q1⟩=>?_) (by rw[hs,hs2]) (by rw[hs2];rfl)));obtain⟨i,j,e,⟨q1,q2,q3,q4⟩,q⟩:=q1;subst e;cases r1 with
 | cons r rr =>
  cases rr with
  | cons r' rr =>
   cases rr;obtain⟨t,rfl⟩:=r;obtain⟨t',rfl⟩:=r';exact call_range_2 (JE I1 q1 q2 q3 q4 q)
def tFor(wi:TI)(g:TG)(tb:TS):TS:=λD σ H=>wi σ H λJ H1=>∃ W:Nat->Nat->St->Hp->Prop,(∃ m,W 0 m σ H1)/\∀ i m σ H,W i m σ H ->
 (J.stop i H/\D.nx σ H)\/(J.go i H/\∃ N:St->Hp->Prop,(∀ σ' H',N σ' H'->∃ m',m'<m/\W (i+1) m' σ' H')/\∀ x H',J.yld i H x H'->g x σ H' λσ2 H2=>tb { D with nx:=N,ct:=N,bk:=D.nx } σ2 H2)
def Er(fp:List Addr)(h:Heap):aB:=fp.filterMap λb=>(h.get? b).map λo=>(b,o)
theorem T9{fp:List Addr}{h:Heap}{b:Addr}{o:Obj}(hb:b∈fp)(e:h.get? b=some o):(b,o)∈Er fp h:=Wx.mpr ⟨b,hb,by rw[e];rfl⟩
theorem Ql{fp:List Addr}{h:Heap}{p:Addr×Obj}(hp:p∈Er fp h):p.1∈fp/\h.get? p.1=some p.2:=by
 obtain⟨b,hb,e⟩:=Wx.mp hp;cases q:h.get? b with
 | none=>rw[q]at e;cases e
 | some o =>
  rw[q]at e;have e':(b,o)=p:=Option.some.inj e;subst e';exact⟨hb,q⟩
theorem Inv.pinned{π:aB}{σ:St}{H:Hp}{s:Shared}{fp:List Addr}(I:Inv X π σ H s)(hf:∀ b∈fp,FpOk X π H b)(ho:∀ b∈fp,∃ o,s.heap.get? b=some o/\∀ v,o.data ≠ .cell v):Inv X (π++Er fp s.heap) σ H s :=
 I.pins_of λp hp=>(wl.mp hp).elim (λz=>I.pin p (wz _ z)) λz=>by
  obtain⟨hb,e⟩:=Ql z;obtain⟨f0,f1,f2,_⟩:=hf p.1 hb;obtain⟨o,e',d⟩:=ho p.1 hb;rw[e]at e';cases e';exact⟨e,f0,f1,f2,d⟩
theorem Inv.unpinned{π pl:aB}{σ:St}{H:Hp}{s:Shared}(I:Inv X (π++pl) σ H s):Inv X π σ H s:=I.pins_of λp hp=>I.pin p (wz _ (wK _ hp))
theorem X9{iter:Expr}{body:List Stmt}{wi:TI}{g:TG}{tb:TS}{pos:Pos}(hp:PassesOwn (model X.prog X.w) X.A X.env X.xe)(hc:X.calm=true)(hi:PI X tg iter wi)(hg:PG X tg g)(hb:PSs X body tb)
   (hs:∀ x,foldedSetIterable iter X.env x=pure x:=by intro _;rfl):PS X (.For tg iter body [] pos) (tFor wi g tb):=by
 intro π s σ H D I h;refine wpAny_For (thn (hi π s σ H _ I h) λv s1 h1=>thn h1 λitv s2 h2=>?_) hs;obtain⟨it,fp,tn,J,H2,e,I2,T,st2,f2,W,⟨m0,w0⟩,turn⟩:=h2;subst e;have stat:∀{H':Hp},(∀ b∈fp,H' b=none)->∀ b∈fp,FpOk X π H' b:=λhn b hb=>⟨hn b hb,(f2 b hb).2⟩;refine codeAny_forLoop_any (λn s'=>∃ i σ' H',Inv X π σ' H' s'/\tn i s'.heap/\(∀ b∈fp,H' b=none)/\W i n σ' H') ?_ m0 ⟨0,σ,H2,I2,st2,λb hb=>(f2 b hb).1,w0⟩;rintro n s3 ⟨i,σ3,H3,I3,st3,fr3,w3⟩;rcases turn i n σ3 H3 w3 with⟨stop,qn⟩|⟨go,N,hN,step⟩
 · refine wpAny_passesOwn hp (thn (T.done X rfl rfl rfl hc i π s3 σ3 H3 X.xe I3 (stat fr3) st3 stop) ?_);rintro r s4 ⟨hr,I4⟩;subst hr;exact wpAny_execs_nil ⟨σ3,H3,I4,qn⟩
 · refine wpAny_passesOwn hp (thn (T.item X rfl rfl rfl hc i π s3 σ3 H3 X.xe I3 (stat fr3) st3 go) ?_);rintro r s4 ⟨u,hr,h4⟩;subst hr;refine wpAny_passesOwn hp (thn h4 ?_);rintro _ s5 ⟨x,H5,I5,r5,y5,st5,fr5⟩;have I5':=I5.pinned (stat fr5) (T.obj _ _ st5);refine wpAny_passesOwn hp (thn (hg _ s5 σ3 H5 x u _ I5' r5 (step x H5 y5)) ?_);rintro _ s6 ⟨σ6,H6,I6,q6⟩;refine wpAny_passesOwn hp (thn (hb _ s6 σ6 H6 _ I6 q6) λf s7 q7=>?_);have again:∀{σ7:St} {H7:Hp},Inv X (π++Er fp s5.heap) σ7 H7 s7->N σ7 H7->∃ m,m<n/\∃ i σ' H',Inv X π σ' H' s7/\tn i s7.heap/\(∀ b∈fp,H' b=none)/\W i m σ' H':=λ{σ7 H7} I7 n7=>by
    obtain⟨m',hm,w7⟩:=hN σ7 H7 n7;refine⟨m',hm,i+1,σ7,H7,I7.unpinned,T.keep _ _ _ st5 λb hb o e=>(I7.pin (b,o) (wz _ (wz _ (T9 hb e)))).1,λb hb=>?_,w7⟩;obtain⟨o,e,d⟩:=T.obj _ _ st5 b hb;exact(I7.pin (b,o) (wz _ (wz _ (T9 hb e)))).2.1
   cases f with
   | next=>obtain⟨σ7,H7,I7,n7⟩:=q7;exact again I7 n7
   | cont=>obtain⟨σ7,H7,I7,n7⟩:=q7;exact again I7 n7
   | brk=>obtain⟨σ7,H7,I7,q7⟩:=q7;exact⟨σ7,H7,I7.unpinned,q7⟩
   | ret v=>obtain⟨x7,σ7,H7,I7,r7,q7⟩:=q7;exact⟨x7,σ7,H7,I7.unpinned,r7,q7⟩
end
theorem Y0{K:aE}{a:Addr}{xs:List V}{g:TG}{tb:TS}{D:Ends}{σ:St}{H:Hp}(Pv:Nat->St->Hp->Prop)(h0:Pv 0 σ H)(hl:∀ i σ H,i<=xs.length->Pv i σ H->SqL K H a xs)
   (hs:∀ i x σ H,xs[i]?=some x->Pv i σ H->g x σ H λσ2 H2=>tb { D with nx:=Pv (i+1),ct:=Pv (i+1),bk:=D.nx } σ2 H2) (hd:∀ σ H,Pv xs.length σ H->D.nx σ H) :
   ∃ W:Nat->Nat->St->Hp->Prop,(∃ m,W 0 m σ H)/\∀ i m σ H,W i m σ H ->
    ((Itl K a).stop i H/\D.nx σ H)\/((Itl K a).go i H/\∃ N:St->Hp->Prop,(∀ σ' H',N σ' H'->∃ m',m'<m/\W (i+1) m' σ' H')/\∀ x H',(Itl K a).yld i H x H'->g x σ H' λσ2 H2=>tb { D with nx:=N,ct:=N,bk:=D.nx } σ2 H2):=by
 refine⟨λi m σ H=>m=xs.length-i/\i<=xs.length/\Pv i σ H,⟨xs.length,by simp,wx _,h0⟩,?_⟩;rintro i m σ H ⟨rfl,hi,p⟩;have q:=hl i σ H hi p;by_cases hlt:i<xs.length
 · refine .inr ⟨⟨xs,xs[i],q,by simp[hlt]⟩,Pv (i+1),λσ' H' p'=>⟨xs.length-(i+1),by rfl',rfl,hlt,p'⟩,λx H' y=>?_⟩;obtain⟨e,y⟩:=y;subst e;exact hs i x σ _ (y xs q) p
 · have e:i=xs.length:=by rfl'
   subst e;exact .inl ⟨⟨xs,q,wf _⟩,hd σ H p⟩
theorem GN{lo:Int}{n:Nat}{g:TG}{tb:TS}{D:Ends}{σ:St}{H:Hp}(Pv:Nat->St->Hp->Prop)(h0:Pv 0 σ H)
   (hs:∀ i σ H,i<n->Pv i σ H->g (.int (lo+i)) σ H λσ2 H2=>tb { D with nx:=Pv (i+1),ct:=Pv (i+1),bk:=D.nx } σ2 H2) (hd:∀ σ H,Pv n σ H->D.nx σ H) :
   ∃ W:Nat->Nat->St->Hp->Prop,(∃ m,W 0 m σ H)/\∀ i m σ H,W i m σ H ->
    ((Itr lo n).stop i H/\D.nx σ H)\/((Itr lo n).go i H/\∃ N:St->Hp->Prop,(∀ σ' H',N σ' H'->∃ m',m'<m/\W (i+1) m' σ' H')/\∀ x H',(Itr lo n).yld i H x H'->g x σ H' λσ2 H2=>tb { D with nx:=N,ct:=N,bk:=D.nx } σ2 H2):=by
 refine⟨λi m σ H=>m=n-i/\i<=n/\Pv i σ H,⟨n,by simp,wx _,h0⟩,?_⟩;rintro i m σ H ⟨rfl,hi,p⟩;by_cases hlt:i<n
 · refine .inr ⟨hlt,Pv (i+1),λσ' H' p'=>⟨n-(i+1),by rfl',rfl,hlt,p'⟩,λx H' y=>?_⟩;obtain⟨e,y⟩:=y;subst e y;exact hs i σ _ hlt p
 · have e:i=n:=by rfl'
   subst e;exact .inl ⟨wf _,hd σ H p⟩
end L2
namespace L2
open PySem PySem.Spec PyProof.Rows
abbrev R2:=V->V->Hp->VK->Prop
def OpR(X:Cx)(f:Value->Value->Sem Value)(r:R2):Prop :=
 ∀(π:aB) (s:Shared) (σ:St) (H:Hp) (x y:V) (v u:Value) (Q:VK),Inv X π σ H s->RelV x v->RelV y u->r x y H Q ->
  wpAny (model X.prog X.w) X.A (f v u) (EP X π σ Q) X.xe s
def UnR(X:Cx)(f:Value->Sem Value)(r:V->Hp->VK->Prop):Prop :=
 ∀(π:aB) (s:Shared) (σ:St) (H:Hp) (x:V) (v:Value) (Q:VK),Inv X π σ H s->RelV x v->r x H Q ->
  wpAny (model X.prog X.w) X.A (f v) (EP X π σ Q) X.xe s
def Dl(X:Cx)(f:Value)(r:List V->Hp->VK->Prop):Prop :=
 ∀(π:aB) (s:Shared) (σ:St) (H:Hp) (xs:List V) (us:aG) (Q:VK),Inv X π σ H s->Vals xs us->r xs H Q ->
  wpAny (model X.prog X.w) X.A (call f us) (EP X π σ Q) X.xe s
def TruR(X:Cx)(r:V->Hp->(Bool->Hp->Prop)->Prop):Prop :=
 ∀(π:aB) (s:Shared) (σ:St) (H:Hp) (x:V) (v:Value) (Q:Bool->Hp->Prop),Inv X π σ H s->RelV x v->r x H Q ->
  wpAny (model X.prog X.w) X.A (truthy v) (TP X π σ Q) X.xe s
def tOp(r:R2)(ta tb:TE):TE:=λσ H Q=>ta σ H λx H1=>tb σ H1 λy H2=>r x y H2 Q
def tUn(r:V->Hp->VK->Prop)(ta:TE):TE:=λσ H Q=>ta σ H λx H1=>r x H1 Q
def rI(C:Int->Int->Prop)(g:Int->Int->V):R2:=λx y H Q=>∃ i j,x = .int i/\y = .int j/\C i j/\Q (g i j) H
def rI0(g:Int->Int->V):R2:=λx y H Q=>∃ i j,x = .int i/\y = .int j/\Q (g i j) H
def rU(g:Int->V):V->Hp->VK->Prop:=λx H Q=>∃ i,x = .int i/\Q (g i) H
section
variable {X:Cx}{a b c:Expr}{ta tb tc:TE}{pos:Pos}
theorem binT(ha:PE X a ta)(hb:PE X b tb){π:aB}{s:Shared}{σ:St}{H:Hp}{R:V->V->Hp->Prop}(I:Inv X π σ H s)
  (h:ta σ H λx H1=>tb σ H1 λy H2=>R x y H2) {Q:aC} {f:Value->Value->Sem Value}
  (hf:∀ v u s2 x y H2,Inv X π σ H2 s2->RelV x v->RelV y u->R x y H2->wpAny (model X.prog X.w) X.A (f v u) Q X.xe s2) :
  wpAny (model X.prog X.w) X.A (eval a X.env) (λv s₁=>wpAny (model X.prog X.w) X.A (eval b X.env) (λu s₂=>wpAny (model X.prog X.w) X.A (f v u) Q X.xe s₂) X.xe s₁) X.xe s:=by
 refine thn (ha π s σ H _ I h) ?_;rintro v s1 ⟨x,H1,I1,r1,q1⟩;refine thn (hb π s1 σ H1 _ I1 q1) ?_;rintro u s2 ⟨y,H2,I2,r2,q2⟩;exact hf v u s2 x y H2 I2 r1 r2 q2
theorem JF{op:Operator}{r:R2}(ho:OpR X (binaryOp op) r)(ha:PE X a ta)(hb:PE X b tb):PE X (.BinOp a op b pos) (tOp r ta tb):=by
 intro π s σ H Q I h;exact wpAny_BinOp (binT ha hb I h λv u s2 x y H2 I2 rx ry q=>ho π s2 σ H2 x y v u Q I2 rx ry q)
theorem pe_un{op:UnaryOp}{r:V->Hp->VK->Prop}(ho:UnR X (unaryOp op) r)(ha:PE X a ta):PE X (.UnaryOp op a pos) (tUn r ta):=by
 intro π s σ H Q I h;exact UnaryOp_ (thn (ha π s σ H _ I h) λv s1⟨x,H1,I1,r1,q1⟩=>ho π s1 σ H1 x v Q I1 r1 q1)
theorem opI{f:Value->Value->Sem Value}{C:Int->Int->Prop}{g:Int->Int->Int}
  (rule:∀(i j:Int) (t u:Tok) (s:Shared) (Q:aC) (E:aC),C i j->Q (.int (g i j) s.toks) { s with toks:=s.toks+1 }->wpAny (model X.prog X.w) X.A (f (.int i t) (.int j u)) Q E s) :
  OpR X f (rI C λi j => .int (g i j)):=by
 intro π s σ H x y v u Q I rx ry h;obtain⟨i,j,rfl,rfl,hc,q⟩:=h;obtain⟨t,rfl⟩:=rx;obtain⟨t',rfl⟩:=ry;exact rule i j t t' s _ _ hc ⟨.int (g i j),H,I.tok _,⟨_,rfl⟩,q⟩
theorem opI0{f:Value->Value->Sem Value}{g:Int->Int->Int}
  (rule:∀(i j:Int) (t u:Tok) (s:Shared) (Q:aC) (E:aC),Q (.int (g i j) s.toks) { s with toks:=s.toks+1 }->wpAny (model X.prog X.w) X.A (f (.int i t) (.int j u)) Q E s) :
  OpR X f (rI0 λi j => .int (g i j)):=by
 intro π s σ H x y v u Q I rx ry h;obtain⟨i,j,rfl,rfl,q⟩:=h;obtain⟨t,rfl⟩:=rx;obtain⟨t',rfl⟩:=ry;exact rule i j t t' s _ _ ⟨.int (g i j),H,I.tok _,⟨_,rfl⟩,q⟩
theorem opB0{f:Value->Value->Sem Value}{g:Int->Int->Bool}
  (rule:∀(i j:Int) (t u:Tok) (s:Shared) (Q:aC) (E:aC),Q (.bool (g i j)) s->wpAny (model X.prog X.w) X.A (f (.int i t) (.int j u)) Q E s) :
  OpR X f (rI0 λi j => .bl (g i j)):=by
 intro π s σ H x y v u Q I rx ry h;obtain⟨i,j,rfl,rfl,q⟩:=h;obtain⟨t,rfl⟩:=rx;obtain⟨t',rfl⟩:=ry;exact rule i j t t' s _ _ ⟨.bl (g i j),H,I,rfl,q⟩
def CPow(i j:Int):Prop:=0<=j/\j<=1000000/\i.natAbs<2 ^ 64
def CMul(i j:Int):Prop:=(-(2 ^ 64)<i/\i<2 ^ 64)\/(-(2 ^ 64)<j/\j<2 ^ 64)
theorem CMul.ok{i j:Int}(h:CMul i j):IntMulOk i j:=by
 rcases h with⟨h1,h2⟩|⟨h1,h2⟩
 · exact .of_left (intBits_le_64 h1 h2)
 · exact .of_right (intBits_le_64 h1 h2)
theorem Rr:OpR X (binaryOp .Add) (rI0 λi j => .int (i+j)):=opI0 λ_ _ _ _ _ _ _ q=>add_int q
theorem Iw:OpR X (binaryOp .Sub) (rI0 λi j => .int (i-j)):=opI0 λ_ _ _ _ _ _ _ q=>sub_int q
theorem UX:OpR X (binaryOp .Mod) (rI (λ_ j=>j≠0) λi j => .int (i.fmod j)):=opI λ_ _ _ _ _ _ _ hc q=>mod_int' hc q
theorem op_pow:OpR X (binaryOp .Pow) (rI CPow λi j => .int (i ^ j.toNat)):=opI λ_ _ _ _ _ _ _ hc q=>pow_int_small hc.1 hc.2.1 hc.2.2 q
theorem unI{f:Value->Sem Value}{g:Int->Int}
  (rule:∀(i:Int) (t:Tok) (s:Shared) (Q:aC) (E:aC),Q (.int (g i) s.toks) { s with toks:=s.toks+1 }->wpAny (model X.prog X.w) X.A (f (.int i t)) Q E s) :
  UnR X f (rU λi => .int (g i)):=by
 intro π s σ H x v Q I rx h;obtain⟨i,rfl,q⟩:=h;obtain⟨t,rfl⟩:=rx;exact rule i t s _ _ ⟨.int (g i),H,I.tok _,⟨_,rfl⟩,q⟩
theorem Rs:UnR X (unaryOp .USub) (rU λi => .int (-i)):=unI λ_ _ _ _ _ q=>neg_int q
end
def scal:V->V->Bool
 | .non,.non=>true|.non,.int _=>true|.int _,.non=>true|.non,.bl _=>true|.bl _,.non=>true|.non,.str _=>true|.str _,.non=>true
 | .int _,.int _=>true|.bl _,.bl _=>true|.str _,.str _=>true|.byt _,.byt _=>true
 | .int _,.str _=>true|.str _,.int _=>true|.bl _,.str _=>true|.str _,.bl _=>true
 | _,_=>false
section
variable {X:Cx}{a b c:Expr}{ta tb tc:TE}{pos:Pos}
theorem fin_bl{π:aB}{σ:St}{H:Hp}{s:Shared}{Q:VK}{k k':Bool}(I:Inv X π σ H s)(q:Q (.bl k) H)(e:k=k'):EP X π σ Q (.bool k') s:=by
 subst e;exact⟨.bl k,H,I,rfl,q⟩
theorem op_lt:OpR X (compareOp .Lt) (rI0 λi j => .bl (decide (i<j))):=opB0 λ_ _ _ _ _ _ _ q=>lt_int q
theorem op_le:OpR X (compareOp .LtE) (rI0 λi j => .bl (decide (i<=j))):=opB0 λ_ _ _ _ _ _ _ q=>le_int q
theorem op_gt:OpR X (compareOp .Gt) (rI0 λi j => .bl (decide (j<i))):=opB0 λ_ _ _ _ _ _ _ q=>gt_int q
theorem op_isN:OpR X (compareOp .Is) (λx y H Q=>y = .non/\Q (.bl (decide (x = .non))) H):=by
 intro π s σ H x y v u Q I rx ry h;obtain⟨rfl,q⟩:=h;cases ry;refine is_none_gen (fin_bl I q ?_);cases x<;>first
  | (cases rx;rfl)
  | (obtain⟨t,rfl⟩:=rx;rfl)
theorem Rt(b:Expr){op:CmpOp}(h:op ≠ .In:=by decide)(h2:op ≠ .NotIn:=by decide):behindInMarks op b=false:=by
 have e1:(op==CmpOp.In)=false:=by cases op<;>first|rfl|exact absurd rfl h
 have e2:(op==CmpOp.NotIn)=false:=by cases op<;>first|rfl|exact absurd rfl h2
 cases b<;>simp[behindInMarks,e1,e2]
theorem UY{op:CmpOp}{r:R2}(ho:OpR X (compareOp op) r)(ha:PE X a ta)(hb:PE X b tb)(hm:behindInMarks op b=false):PE X (.Compare a [op] [b] pos) (tOp r ta tb):=by
 intro π s σ H Q I h;exact wpAny_Compare1 (binT ha hb I h λv u s2 x y H2 I2 rx ry q=>ho π s2 σ H2 x y v u Q I2 rx ry q) hm
def Ru(t:TE):TT:=λσ H Q=>t σ H λx H'=>∃ k,x = .bl k/\Q k H'
theorem Ix{op:CmpOp}{r:R2}(ho:OpR X (compareOp op) r)(ha:PE X a ta)(hb:PE X b tb)(hm:behindInMarks op b=false):PT X (.Compare a [op] [b] pos) (Ru (tOp r ta tb)):=by
 intro π s σ H Q I h;refine wpAny_isTrue_Compare1 (thn (ha π s σ H _ I h) λv s1⟨x,H1,I1,r1,q1⟩=>thn (hb π s1 σ H1 _ I1 q1) λu s2 ⟨y,H2,I2,r2,q2⟩ =>
  thn (ho π s2 σ H2 x y v u _ I2 r1 r2 q2) λc s3⟨z,H3,I3,r3,k,e,q3⟩=>?_) hm
 subst e;cases r3;exact wpAny_truthy_bool ⟨H3,I3,q3⟩
def Rv(r r':R2)(ta tb tc:TE):TE:=λσ H Q=>ta σ H λx H1=>tb σ H1 λy H2=>r x y H2 λz H3=>∃ k,z = .bl k /\
 (if k=true then tc σ H3 λw' H4=>r' y w' H4 Q else Q (.bl false) H3)
theorem Rw{op op':CmpOp}{r r':R2}(ho:OpR X (compareOp op) r)(ho':OpR X (compareOp op') r')(ha:PE X a ta)(hb:PE X b tb)(hc:PE X c tc)
  (hm:lastMarks [op,op'] [b,c]=false:=by with_unfolding_all rfl):PE X (.Compare a [op,op'] [b,c] pos) (Rv r r' ta tb tc):=by
 intro π s σ H Q I h;refine Compare_chain (thn (ha π s σ H _ I h) λv s1⟨x,H1,I1,r1,q1⟩=>chain_link (thn (hb π s1 σ H1 _ I1 q1) λu s2 ⟨y,H2,I2,r2,q2⟩ =>
  thn (ho π s2 σ H2 x y v u _ I2 r1 r2 q2) λd s3⟨z,H3,I3,r3,k,e,q3⟩=>?_)) hm
 subst e;cases r3;refine wpAny_truthy_bool ?_;cases k with
 | false=>exact ite_ff ⟨.bl false,H3,I3,rfl,q3⟩
 | true=>exact ite_tt (chain_last (thn (hc π s3 σ H3 _ I3 q3) λw' s4⟨z',H4,I4,r4,q4⟩=>ho' π s4 σ H4 y z' u w' Q I4 r2 r4 q4))
def TruV(K:aE)(x:V)(H:Hp)(k:Bool):Prop :=
 match x with
 | .non=>k=false
 | .bl b=>k=b
 | .int i=>k=(i != 0)
 | .str y=>y.length<=sizeLine/\k=((y.length:Int) != 0)
 | .byt y=>y.size<=sizeLine/\k=((y.size:Int) != 0)
 | .ref p=>(∃ xs,SqL K H p xs/\k=!xs.isEmpty)\/(∃ xs,SqT K H p xs/\k=!xs.isEmpty)\/∃ kvs,H p=some (.dK kvs)/\k=!kvs.isEmpty
 | _=>False
theorem LH{κ:Type}{kvs:List (κ×V)}{vs:List (κ×Value)}(r:KV kvs vs):(!vs.isEmpty)=!kvs.isEmpty:=by
 cases r<;>rfl
theorem Es{xs:List V}{its:aG}(r:Vals xs its):(!its.toArray.isEmpty)=!xs.isEmpty:=by
 cases r<;>simp
theorem Cj:(sizeLine:Nat)<2 ^ 63:=by rw[sizeLine_eq];decide
theorem tru_ok:TruR X (λx H Q=>∃ k,TruV X.K x H k/\Q k H):=by
 intro π s σ H x v Q I rx h;obtain⟨k,e,q⟩:=h;have hl:=Cj;have hs:sizeLine=16777216:=sizeLine_eq;cases x with
 | non =>
  cases rx;have e':k=false:=e;subst e';exact truthy_none ⟨H,I,q⟩
 | bl b =>
  cases rx;have e':k=b:=e;subst e';exact wpAny_truthy_bool ⟨H,I,q⟩
 | int i =>
  obtain⟨t,rfl⟩:=rx;have e':k=(i != 0):=e;subst e';exact PySem.P.truthy_int ⟨H,I,q⟩
 | str y =>
  obtain⟨t,rfl⟩:=rx;obtain⟨hy,e'⟩:y.length<=sizeLine/\k=((y.length:Int) != 0):=e;subst e';exact PySem.P.truthy_str (by rfl') ⟨H,I.tok _,q⟩
 | byt y =>
  obtain⟨t,rfl⟩:=rx;obtain⟨hy,e'⟩:y.size<=sizeLine/\k=((y.size:Int) != 0):=e;subst e';exact PySem.W.truthy_bytes (by rfl') ⟨H,I.tok _,q⟩
 | ref p =>
  cases rx;have e':(∃ xs,SqL X.K H p xs/\k=!xs.isEmpty)\/(∃ xs,SqT X.K H p xs/\k=!xs.isEmpty)\/∃ kvs,H p=some (.dK kvs)/\k=!kvs.isEmpty:=e;rcases e' with⟨xs,hx,e'⟩|⟨xs,hx,e'⟩|⟨kvs,hx,e'⟩
  · subst e';obtain⟨its,r,pl,hz⟩:=I.list hx;have hlen:=r.length;exact wpAny_truthy_list pl.isList (by simp only[wr];rfl') ⟨H,I.tok _,by rw[Es r];exact q⟩
  · subst e';obtain⟨its,r,pl,hz⟩:=I.tuple hx;have hlen:=r.length;exact truthy_tuple pl (by simp only[wr];rfl') ⟨H,I.tok _,by rw[Es r];exact q⟩
  · subst e';obtain⟨hz,hS,vs,r,m⟩:kvs.length<=sizeLine/\(p==sysModules)=false/\∃ vs,KV kvs vs/\s.heap.DictOf (E8 X.prog X.w) p vs:=I.hok p _ hx;have hlen:kvs.length=vs.length:=Paired.length r;exact wpAny_truthy_dict hS m (by rfl') ⟨H,I.tok _,by rw[LH r];exact q⟩
 | _=>exact(show False from e).elim
theorem Rx(ha:PE X a ta)(he:∀ whole,isTrue a X.env whole=(do let v ←whole;standAt a.pos;holding [v] (truthy v))):
  PT X a (λσ H Q=>ta σ H λx H'=>∃ k,TruV X.K x H' k/\Q k H'):=by
 intro π s σ H Q I h;exact isTrue_plain (thn (ha π s σ H _ I h) λv s1⟨x,H1,I1,r1,q1⟩=>tru_ok π s1 σ H1 x v Q I1 r1 q1) (he _)
theorem OZ{x:V}{us:aG}(r:Vals [x] us):∃ u,us=[u]/\RelV x u:=by
 cases r with
 | cons r1 r2=>cases r2;exact⟨_,rfl,r1⟩
theorem vals2{x y:V}{us:aG}(r:Vals [x,y] us):∃ u w',us=[u,w']/\RelV x u/\RelV y w':=by
 cases r with
 | cons r1 r2 =>
  cases r2 with
  | cons r3 r4=>cases r4;exact⟨_,_,rfl,r1,r3⟩
theorem JG:Dl X (.builtin "abs") (λxs H Q=>∃ i,xs=[.int i]/\Q (.int (if i<0 then -i else i)) H):=by
 intro π s σ H xs us Q I r h;obtain⟨i,rfl,q⟩:=h;obtain⟨u,rfl,t,rfl⟩:=OZ r;exact call_abs_int λu tk=>⟨.int (if i<0 then -i else i),H,I.tok _,⟨_,rfl⟩,q⟩
end
end L2
namespace L2
open PySem PySem.Spec PyProof.Rows
structure ObjM(h:Heap)(x dx C:Addr)(mA:aF):Prop where
 obj:h.get? x=some (PySem.W.instObj C dx)
 ns:h.Ns1 dx mA
 ne:dx≠x
theorem Qm{h:Heap}{dx:Addr}{mA:aF}(n:h.Ns1 dx mA):∃ od,h.get? dx=some od/\∀ name,PySem.W.lookIn name od=some (mA name):=by
 obtain⟨o,es,ep,ho,hd,hk,_,hm⟩:=n;refine⟨o,ho,λname=>?_⟩;have e:=hm name;unfold nsFind findBy at e;rw[←Array.find?_toList]at e;unfold PySem.W.lookIn;rw[hd];dsimp only;split
 · rename_i y q;rw[q]at e;exact congrArg some e
 · rename_i q;rw[q]at e;have a:es.toList.any (·.refKey)=false:=by
    rw[List.any_eq_false];intro y hy;obtain⟨z,t,hkey⟩:=hk y (Array.mem_toList_iff.mp hy);simp[DictEntry.refKey,hkey]
   have a':¬es.toList.any (·.refKey)=true:=by rw[a];exact wD
   rw[if_neg a'];exact congrArg some e
theorem ObjM.look{h:Heap}{x dx C:Addr}{mA:aF}(I:ObjM h x dx C mA):∃ od,PySem.W.InstAt h x (PySem.W.instObj C dx) C (some od)/\∀ name,PySem.W.lookIn name od=some (mA name) :=
 let ⟨od,ho,hl⟩:=Qm I.ns
 ⟨od,⟨I.obj,rfl,rfl,ho⟩,hl⟩
section
variable {prog:Program}{w:World}{A:Around}{E:aC}{s:Shared}{K:aE}{x dx C f:Addr}{mA:aF}{name:Str}{v:Value}
end
theorem RelO.some_of{v:V}{o:Option Value}(r:RelO (some v) o):∃ u,o=some u/\RelV v u:=by
 cases o with
 | none=>exact(show False from r).elim
 | some u=>exact⟨u,rfl,r⟩
section
variable {P:Program}{w:World}{H H':Hp}{h h':Heap}{a C dx:Addr}{fs fs':List (Str×V)}
theorem UZ(hok:HOk P w H h)(e:H a=some (.ins C dx fs)):∃ mA,ObjM h a dx C mA/\(∀ f,RelO (fs.lookup f) (mA f))/\PySem.Within mA (fs.map (·.1))/\fs.length<=1000/\H dx=some (.own a):=by
 obtain⟨d,z,ne,ob,mA,n,r,q⟩:=(show ObjOk P w H h a (.ins C dx fs)from hok a _ e);exact⟨mA,⟨ob,n,ne⟩,r,q,z,d⟩
end
structure Cls(K:aE)(C:Addr):Prop where
 pg:PySem.W.plainGet K C Str.empty=true
 hd:PySem.W.hasDictIn K C=true
 po:PySem.W.plainOver K C=true
 sa:PySem.W.findIn K (.ref C) "__setattr__" = some (some (.builtin "object.__setattr__"))
theorem Cls.get{K:aE}{C:Addr}(c:Cls K C)(f:Str):PySem.W.plainGet K C f=true:=c.pg
def LI(K:aE)(C:Addr)(f:Str):Prop:=PySem.W.findIn K (.ref C) f=some none
section
variable {X:Cx}{π:aB}{σ:St}{H:Hp}{s:Shared}{a C dx:Addr}{fs:List (Str×V)}{f:Str}{v:V}{A:Around}{E:aC}
end
section
variable {X:Cx}{o e value:Expr}{f:Str}{pos pos' tpos:Pos}{ta tv:TE}
end
section
variable {X:Cx}{π:aB}{σ:St}{H:Hp}{s:Shared}{A:Around}{E:aC}{Q:aC}{c:Value}{b:Bool}
inductive TyOf (K:aE) (H:Hp):V->Value->Prop where
 | non:TyOf K H .non (.type "NoneType")
 | bl (x:Bool):TyOf K H (.bl x) (.type "bool")
 | int (i:Int):TyOf K H (.int i) (.type "int")
 | str (x:Str):TyOf K H (.str x) (.type "str")
 | flt (x:UInt64):TyOf K H (.flt x) (.type "float")
 | lst {a:Addr} {xs:List V} (e:H a=some (.lst xs)):TyOf K H (.ref a) (.type "list")
 | frz {a:Addr} {o:Obj} {xs:List V} (e:H a=some (.frz o (.lst xs))):TyOf K H (.ref a) (.type "list")
 | tup {a:Addr} {xs:List V} (e:H a=some (.tup xs)):TyOf K H (.ref a) (.type "tuple")
 | dK {a:Addr} {kvs:List (Key×V)} (e:H a=some (.dK kvs)):TyOf K H (.ref a) (.type "dict")
 | dT {a:Addr} {kvs:List (List Key×V)} (e:H a=some (.dT kvs)):TyOf K H (.ref a) (.type "dict")
 | ins {a C dx:Addr} {fs:List (Str×V)} (e:H a=some (.ins C dx fs)) (cl:Cls K C) (ha:PySem.W.findIn K (.ref C) "__class__" = some (some (.builtin "object.__class__")))
  (hn:PySem.W.specialIn K (.builtin "object.__class__") "__get__" = some (some (.builtin "getset_descriptor.__get__"))) (htk:PySem.W.takesIn K (.builtin "object.__class__")=some true)
  (hm:PySem.W.mroIn K C (.type "object")=some true):TyOf K H (.ref a) (.ref C)
theorem S4{x:V}{u t:Value}(I:Inv X π σ H s)(rx:RelV x u)(ty:TyOf X.K H x t)(e:PySem.W.kitOne X.K t c=some b)(h:∀ tk,Q (.bool b) { s with toks:=tk }):
  wpAny (model X.prog X.w) A (call (.builtin "isinstance") [u,c]) Q E s:=by
 cases ty with
 | non=>cases (show u=Value.none from rx);exact PySem.W.kia_one PySem.W.kitx_none I.kIn True.intro e (λz=>nomatch z) h
 | bl y=>cases (show u=Value.bool y from rx);exact PySem.W.kia_one PySem.W.kitx_bool I.kIn True.intro e (λz=>nomatch z) h
 | int i=>obtain⟨t,q⟩:=(show ∃ t,u=Value.int i t from rx);cases q;exact PySem.W.kia_one PySem.W.kitx_int I.kIn True.intro e (λz=>nomatch z) h
 | str y=>obtain⟨t,q⟩:=(show ∃ t,u=Value.str y t from rx);cases q;exact PySem.W.kia_one PySem.W.kitx_str I.kIn True.intro e (λz=>nomatch z) h
 | flt y=>obtain⟨t,q⟩:=(show ∃ t,u=Value.float y t from rx);cases q;exact PySem.W.kia_one PySem.W.kitx_float I.kIn True.intro e (λz=>nomatch z) h
 | @lst a xs ea =>
  cases (show u=Value.ref a from rx);obtain⟨_,_,n,_,h1⟩:=(show ObjOk X.prog X.w H s.heap a (.lst xs)from I.hok a _ ea);exact PySem.W.kia_one PySem.W.kitx_list I.kIn ⟨_,h1,rfl⟩ e (λz=>nomatch z) h
 | @frz a ob xs ea =>
  cases (show u=Value.ref a from rx);obtain⟨_,_,_,n,_,h1⟩:=(show ObjOk X.prog X.w H s.heap a (.frz ob (.lst xs))from I.hok a _ ea);exact PySem.W.kia_one PySem.W.kitx_list I.kIn ⟨_,h1,rfl⟩ e (λz=>nomatch z) h
 | @tup a xs ea =>
  cases (show u=Value.ref a from rx);obtain⟨_,_,_,p⟩:=(show ObjOk X.prog X.w H s.heap a (.tup xs)from I.hok a _ ea);obtain⟨o,h1,h2,_⟩:=p;exact PySem.W.kia_one PySem.W.kitx_tuple I.kIn ⟨o,h1,h2⟩ e (λz=>nomatch z) h
 | @dK a kvs ea =>
  cases (show u=Value.ref a from rx);obtain⟨_,_,vs,_,p⟩:=(show ObjOk X.prog X.w H s.heap a (.dK kvs)from I.hok a _ ea);obtain⟨o,es,ep,h1,h2,_⟩:=p;exact PySem.W.kia_one PySem.W.kitx_dict I.kIn ⟨o,h1,h2.1⟩ e (λz=>nomatch z) h
 | @dT a kvs ea =>
  cases (show u=Value.ref a from rx);obtain⟨_,_,xs,_,o,es,ep,h1,h2,_⟩:=(show ObjOk X.prog X.w H s.heap a (.dT kvs)from I.hok a _ ea);exact PySem.W.kia_one PySem.W.kitx_dict I.kIn ⟨o,h1,h2.1⟩ e (λz=>nomatch z) h
 | @ins a C dx fs ea cl ha hn htk hm =>
  cases (show u=Value.ref a from rx);obtain⟨mA,O,_⟩:=UZ I.hok ea;obtain⟨od,J,_⟩:=O.look;exact PySem.W.kia_one (PySem.W.kitx_own (cl.get _) cl.hd ha hn htk hm) I.kIn J e (λz=>nomatch z) h
end
end L2
namespace L2
open PySem PySem.Spec PyProof.Rows
structure Room(k:Nat)(A:Around):Prop where
 hd:A.handled=none
 dp:A.depth+3*k+5<recursionLimit
 un:A.units+16*k+200<cLine
theorem Room.mono{j k:Nat}{A:Around}(r:Room k A)(h:j<=k):Room j A:=⟨r.hd,by have:=r.dp;rfl',by have:=r.un;rfl'⟩
theorem Room.deeper{k:Nat}{A:Around}(r:Room (k+1) A)(env:Env):Room k (A.deeper env) :=
 ⟨r.hd,by have:=r.dp;show A.depth+1+3*k+5<_;rfl',by have:=r.un;show A.units+3+16*k+200<_;rfl'⟩
theorem Room.in1{k:Nat}{A:Around}(r:Room (k+1) A):Room k A.in1 :=
 ⟨r.hd,by have:=r.dp;show A.depth+3*k+5<_;rfl',by have:=r.un;show A.units+1+16*k+200<_;rfl'⟩
theorem Room.depth{k:Nat}{A:Around}(r:Room k A):A.depth<recursionLimit:=by have:=r.dp;rfl'
theorem Room.units{k:Nat}{A:Around}(r:Room k A):A.units+64<cLine:=by have:=r.un;rfl'
def tNil:TA:=λ_ H Q=>Q [] H
def o0(ta:TE)(tr:TA):TA:=λσ H Q=>ta σ H λx H1=>tr σ H1 λxs H2=>Q (x::xs) H2
section
variable {X:Cx}{e:Expr}{es:List Expr}{te:TE}{t:TA}{pos:Pos}
theorem l7:PA X [] tNil:=λ_ _ _ _ H Q I h=>Calls.spliced_nil ⟨[],H,I,.nil,h⟩
theorem i8(ha:PE X e te)(hr:PA X es t)(hs:starEach (e::es) X.env=(false,eval e X.env)::starEach es X.env:=by rfl):PA X (e::es) (o0 te t):=by
 intro pos π s σ H Q I h;rw[hs];show wpAny _ _ (spliced ((false,eval e X.env)::backTo pos (starEach es X.env))) _ _ s;refine Calls.spliced_cons (thn (ha π s σ H _ I h) ?_);rintro u s1 ⟨x,H1,I1,r1,q1⟩;exact thn (hr pos π s1 σ H1 _ I1 q1) λus s2⟨xs,H2,I2,r2,q2⟩=>⟨x::xs,H2,I2,.cons r1 r2,q2⟩
def tTup(t:TA):TE:=λσ H Q=>t σ H λxs H1=>xs.length<=sizeLine/\∀ p,H1 p=none->Q (.ref p) (upd H1 p (.tup xs))
def tLst(t:TA):TE:=λσ H Q=>t σ H λxs H1=>xs.length<=sizeLine/\∀ p,H1 p=none->Q (.ref p) (upd H1 p (.lst xs))
theorem Et{x1}(h:PA X es t):PE X (.Tuple es x1 pos) (tTup t):=by
 intro π s σ H Q I hq;refine wpAny_Tuple_spliced (thn (h pos π s σ H _ I hq) λus s1⟨xs,H1,I1,r,z,q⟩=>⟨by rw[←r.length];exact z,?_⟩);have hf:H1 s1.heap.objs.size=none:=I1.hok.fresh (wf _);refine⟨.ref s1.heap.objs.size,upd H1 s1.heap.objs.size (.tup xs),I1.laid (t':=s1.toks) (λb u e=>wd _ e) (wf _) ?_,rfl,q _ hf⟩;exact⟨z,us,r,⟨_,wp _ rfl,rfl,_,rfl⟩⟩
theorem Eu(h:PA X es t):PE X (.List es pos) (tLst t):=by
 intro π s σ H Q I hq;refine wpAny_List_spliced (thn (h pos π s σ H _ I hq) λus s1⟨xs,H1,I1,r,z,q⟩=>⟨by rw[←r.length];exact z,?_⟩);have hf:H1 s1.heap.objs.size=none:=I1.hok.fresh (wf _);refine⟨.ref s1.heap.objs.size,upd H1 s1.heap.objs.size (.lst xs),I1.laid (t':=s1.toks) (λb u e=>wd _ e) (wf _) ?_,rfl,q _ hf⟩;exact⟨z,us,0,r,wp _ rfl⟩
end
abbrev Sp:=List V->Hp->VK->XK->Prop
abbrev CXT:=List Env->Hp->Shared->XK->aC
structure Env0(P:Program)(w:World)(K:aE)(mg:aF)(base:Heap)(A:Around)(outer:List Env)(s:Shared)(H:Hp):Prop where
 frames:A.frames=some outer
 mod:Mod K mg base
 bs:∀ b o,base.get? b=some o->s.heap.get? b=some o/\H b=none
 bsz:base.objs.size<=s.heap.objs.size
 funs:s.heap.FunFrames base outer
 frf:∀ b∈frs outer,H b=none
 hok:HOk P w H s.heap
 bare:AllBare s.gens
def CE(outer:List Env)(P:Program)(w:World)(H:Hp)(s:Shared)(Q:VK)(u:Value)(s':Shared):Prop :=
 ∃ v H',s'.os=s.os/\AllBare s'.gens/\Un (frs outer) [] H H' s.heap s'.heap/\HOk P w H' s'.heap/\RelV v u/\Q v H'
def CR(CX:CXT)(outer:List Env)(P:Program)(w:World)(H:Hp)(s:Shared)(Q:VK)(E:XK)(r:Result)(s':Shared):Prop :=
 match r with
 | .ok (.ret u)=>CE outer P w H s Q u s'
 | .ok _=>False
 | .error e=>CX outer H s E e s'
structure FnOk(P:Program)(w:World)(K:aE)(mg:aF)(base:Heap)(CX:CXT)(k:Nat)(f:Addr)(fd:FuncData)(ps:List Str)(sp:Sp):Prop where
 len:∀ vs H Q E,sp vs H Q E->vs.length=ps.length
 run:∀(A:Around) (outer:List Env) (s:Shared) (H:Hp) (args:Args) (us:aG) (vs:List V) (Q:VK) (E:XK),Room k A->Env0 P w K mg base A outer s H->BindsTo s fd args (ps.zip us)->Vals vs us->sp vs H Q E ->
  codeAny (model P w) A (.call (.ref f) args) (CR CX outer P w H s Q E) s
theorem FnOk.imp{P:Program}{w:World}{K:aE}{mg:aF}{base:Heap}{CX:CXT}{k:Nat}{f:Addr}{fd:FuncData}{ps:List Str}{sp sp':Sp}(F:FnOk P w K mg base CX k f fd ps sp)
  (h:∀ vs H Q E,sp' vs H Q E->sp vs H Q E):FnOk P w K mg base CX k f fd ps sp' :=
 ⟨λvs H Q E q=>F.len vs H Q E (h _ _ _ _ q),λA outer s H args us vs Q E hr he hb hv hs=>F.run A outer s H args us vs Q E hr he hb hv (h _ _ _ _ hs)⟩
theorem Env0.in1{P:Program}{w:World}{K:aE}{mg:aF}{base:Heap}{A:Around}{outer:List Env}{s:Shared}{H:Hp}(e:Env0 P w K mg base A outer s H):
 Env0 P w K mg base A.in1 outer s H:=⟨e.frames,e.mod,e.bs,e.bsz,e.funs,e.frf,e.hok,e.bare⟩
section
variable {X:Cx}{π:aB}{σ:St}{H:Hp}{s s':Shared}
theorem Inv.env0(I:Inv X π σ H s):Env0 X.prog X.w X.K X.mg X.base X.A X.stack s H :=
 ⟨I.ok.frames,I.ok.mod,I.bs,wB I.ok.bsz I.sz,I.stack,I.stkFree,I.hok,I.bare⟩
theorem Inv.after{Q:VK}{u:Value}(I:Inv X π σ H s)(h:CE X.stack X.prog X.w H s Q u s'):EP X π σ Q u s':=by
 obtain⟨v,H',os,bare,un,hok,r,q⟩:=h;obtain⟨hh,g,d,t,os'⟩:=s';obtain rfl:os'=s.os:=os;exact⟨v,H',I.call (h':=hh) (g':=g) (d':=d) (t':=t) (ch:=[]) un hok bare (λb z=>absurd z (by simp)),r,q⟩
end
def AG(sp:Sp)(dvs:List V)(E:XK)(t:TA):TE:=λσ H Q=>t σ H λvs H1=>sp (vs++dvs) H1 Q E
def Binds(K:aE)(fd:FuncData)(ps:List Str)(ds:aG):Prop :=
 ∀(s:Shared) (us:aG),K.In s.heap->(us++ds).length=ps.length->BindsTo s fd ⟨us,[]⟩ (ps.zip (us++ds))
theorem Binds.all{K:aE}{fd:FuncData}{ps:List Str}(h:∀ us:aG,us.length=ps.length->bindArgs fd ⟨us,[]⟩=pure (ps.zip us)):Binds K fd ps []:=λs us _ hl=>by
 rw[Wp]at hl ⊢;exact .of_eq (h us hl)
def Iy(CX:CXT)(X:Cx)(E:XK):Prop:=∀(π:aB) (σ:St) (H:Hp) (s:Shared) (e:Value) (s':Shared),Inv X π σ H s->CX X.stack H s E e s'->X.xe e s'
section
variable {X:Cx}{CX:CXT}{k:Nat}{f C:Addr}{fd:FuncData}{ps:List Str}{sp:Sp}{dvs:List V}{ds:aG}{E:XK}{x m:Str}{p pos apos:Pos}{e o:Expr}{es:List Expr}{ta:TE}{t:TA}
theorem run_fn{π:aB}{σ:St}{H:Hp}{s:Shared}{Q:VK}{us:aG}{vs:List V}(F:FnOk X.prog X.w X.K X.mg X.base CX k f fd ps sp)(hr:Room k X.A)(hb:Binds X.K fd ps ds)(hd:Vals dvs ds)(hx:Iy CX X E)
  (I:Inv X π σ H s) (r:Vals vs us) (h:sp (vs++dvs) H Q E):wpAny (model X.prog X.w) X.A (call (.ref f) us) (EP X π σ Q) X.xe s:=by
 have r2:Vals (vs++dvs) (us++ds):=r.append hd;have hl:(us++ds).length=ps.length:=by rw[←r2.length];exact F.len _ _ _ _ h
 refine wpAny_call (codeAny_mono (F.run X.A X.stack s H ⟨us,[]⟩ (us++ds) (vs++dvs) Q E hr I.env0 (hb s us I.kIn hl) r2 h) λr s' hq=>?_);cases r with
 | error e=>exact hx π σ H s e s' I hq
 | ok fl =>
  cases fl with
  | ret u=>exact I.after hq
  | next=>exact False.elim hq
  | brk=>exact False.elim hq
  | cont=>exact False.elim hq
theorem D8(F:FnOk X.prog X.w X.K X.mg X.base CX k f fd ps sp)(hr:Room k X.A)(hg:Gl X x)(hm:X.mg x=some (.ref f))(hk:PySem.W.keepIn X.K (.ref f)=true)(hb:Binds X.K fd ps ds)(hd:Vals dvs ds)(hx:Iy CX X E)
  (ha:PA X (e::es) t) (hdb:(x==("__debug__" : Str))=false:=by decide) (he:starEach (e::es) X.env=(false,eval e X.env)::starEach es X.env:=by rfl) (hpl:(backTo pos (starEach es X.env)).any (·.1)=false:=by rfl) :
  PE X (.Call (.Name x p) (e::es) [] pos) (AG sp dvs E t):=by
 intro π s σ H Q I h;refine wpAny_Call_Name_kw (OV I hg hm ?_ hdb);refine PySem.W.callWith_K (h₀:=X.base) I.ok.mod.kin hk (thn (ha pos π s σ H _ I h) λus s1⟨vs,H1,I1,r,q⟩=>⟨I1.kIn,?_⟩) he hpl;exact run_fn F hr hb hd hx I1 r q
end
def PK(X:Cx)(kws:List Keyword)(t:TA):Prop :=
 ∀(pos:Pos) (π:aB) (s:Shared) (σ:St) (H:Hp) (Q:List V->Hp->Prop),Inv X π σ H s->t σ H Q->wpAny (model X.prog X.w) X.A (evalAll ((backToKw pos (keywordEach kws X.env)).map (·.2))) (AP X π σ Q) X.xe s
section
variable {X:Cx}{CX:CXT}{k:Nat}{f C:Addr}{fd:FuncData}{ps ks:List Str}{sp:Sp}{E:XK}{x m:Str}{p pos apos kpos:Pos}{e o:Expr}{es:List Expr}{kws:List Keyword}{te ta:TE}{t tk:TA}{nm:Option Str}
theorem LJ:PK X [] tNil:=λ_ _ _ _ H Q I h=>wpAny_evalAll_nil ⟨[],H,I,.nil,h⟩
theorem Iz(ha:PE X e te)(hr:PK X kws t):PK X (⟨nm,e,kpos⟩::kws) (o0 te t):=by
 intro pos π s σ H Q I h;show wpAny _ _ (evalAll ((do let v ←eval e X.env;standAt pos;pure v)::(backToKw pos (keywordEach kws X.env)).map (·.2))) _ _ s;refine wpAny_evalAll_cons (wpAny_bind (thn (ha π s σ H _ I h) λu s1⟨x,H1,I1,r1,q1⟩=>wpAny_bind (wpAny_standAt (wpAny_pure ?_))));exact thn (hr pos π s1 σ H1 _ I1 q1) λus s2⟨xs,H2,I2,r2,q2⟩=>⟨x::xs,H2,I2,.cons r1 r2,q2⟩
variable {g:aG->aG->aG}{gV:List V->List V->List V}
end
structure FnScope(N P:List Str)(sc:Scope):Prop where
 kind:sc.kind = .function
 co:sc.isCoroutine=false
 gen:sc.isGenerator=false
 nd:N.Nodup
 pre:N.take P.length=P
 par:∀ x∈P,sc.names.lookup x=some .local\/sc.names.lookup x=some .cell
 nofree:∀ y∈sc.names,y.2 ≠ .free
theorem GO{kindOf:Str->Option NameKind}{x:Str}:∀{binds:List (Str×Value)} {m:aF},(∀ v,(x,v) ∉ binds)->bindL kindOf binds m x=m x
 | [],_,_=>rfl
 | (n,v)::r,m,h=>by
  unfold bindL;rw[GO λw hw=>h w (wb _ hw)];split
  · have:x≠n:=by rintro rfl;exact h v wc
    simp[this]
  · rfl
theorem GP{kindOf:Str->Option NameKind}{x:Str}:∀{binds:List (Str×Value)} {m:aF},(∀ v,(x,v) ∉ binds)->bindC kindOf binds m x=m x
 | [],_,_=>rfl
 | (n,v)::r,m,h=>by
  unfold bindC;rw[GP λw hw=>h w (wb _ hw)];split
  · rfl
  · have:x≠n:=by rintro rfl;exact h v wc
    simp[this]
theorem GQ{kindOf:Str->Option NameKind}{x:Str}{v:Value}:∀{P:List Str} {vs:aG} {i:Nat} {m:aF},P.Nodup->P[i]?=some x->vs[i]?=some v->kindOf x=some .local ->
  bindL kindOf (P.zip vs) m x=some v
 | [],_,_,_,_,h,_,_=>by simp at h
 | _::_,[],_,_,_,_,h,_=>by simp at h
 | p::P,w::vs,0,m,nd,h1,h2,hk=>by
  simp at h1 h2;subst h1;subst h2;show bindL kindOf ((p,w)::P.zip vs) m p=_;unfold bindL;rw[GO λv hv=>(wV.mp nd).1 (vw hv).1,if_pos hk];simp
 | p::P,w::vs,i+1,m,nd,h1,h2,hk=>by
  show bindL kindOf ((p,w)::P.zip vs) m x=_;unfold bindL;exact GQ (i:=i) (wV.mp nd).2 (by simpa using h1) (by simpa using h2) hk
theorem GR{kindOf:Str->Option NameKind}{x:Str}{v:Value}:∀{P:List Str} {vs:aG} {i:Nat} {m:aF},P.Nodup->P[i]?=some x->vs[i]?=some v->kindOf x≠some .local ->
  bindC kindOf (P.zip vs) m x=some v
 | [],_,_,_,_,h,_,_=>by simp at h
 | _::_,[],_,_,_,_,h,_=>by simp at h
 | p::P,w::vs,0,m,nd,h1,h2,hk=>by
  simp at h1 h2;subst h1;subst h2;show bindC kindOf ((p,w)::P.zip vs) m p=_;unfold bindC;rw[GP λv hv=>(wV.mp nd).1 (vw hv).1,if_neg hk];simp
 | p::P,w::vs,i+1,m,nd,h1,h2,hk=>by
  show bindC kindOf ((p,w)::P.zip vs) m x=_;unfold bindC;exact GR (i:=i) (wV.mp nd).2 (by simpa using h1) (by simpa using h2) hk
def start(N:List Str)(vs:List V):St:=vs.map some++List.replicate (N.length-vs.length) none
def cxOf(CX:CXT)(P:Program)(w:World)(K:aE)(mg:aF)(base:Heap)(N:List Str)(qual:Str)(scope:Scope)(f:Addr)(cd:Value)(A:Around)(outer:List Env)(s:Shared)(H:Hp)(E:XK):Cx where
 prog:=P
 w:=w
 K:=K
 mg:=mg
 base:=base
 A:=A.deeper (envOfC qual scope s.heap.objs.size f cd)
 N:=N
 s₀:=s
 H₀:=H
 env:=envOfC qual scope s.heap.objs.size f cd
 outer:=outer
 stack:=envOfC qual scope s.heap.objs.size f cd::outer
 ex:=[]
 calm:=true
 fn:=λ_=>true
 pn:=[]
 xe:=λe s'=>wpAny (model P w) (A.deeper (envOfC qual scope s.heap.objs.size f cd)) (leaving (envOfC qual scope s.heap.objs.size f cd) e) (λ_ s''=>CX outer H s E e s'') (λe' s''=>CX outer H s E e' s'') s'
theorem JH{sc:Scope}{n:Nat}{x:Str}(h:sc.names.lookup x=some .cell):∃ c,(cellsFrom n sc.names []).lookup x=some c:=by
 have q:=PySem.W.cellsFrom_some sc.names n [] (.inl h);exact WS.mp q
theorem GS{CX:CXT}{P:Program}{w:World}{K:aE}{mg:aF}{base:Heap}{N ps:List Str}{qual:Str}{scope:Scope}{f:Addr}{cd:Value}{A:Around}{outer:List Env}{s s1:Shared}{H:Hp}{E:XK}{us:aG}{vs:List V}
   (S:FnScope N ps scope) (hd:A.handled=none) (e0:Env0 P w K mg base A outer s H) (hl:vs.length=ps.length) (r:Vals vs us)
   (x:InCallC s s.heap.objs.size (bindL (envOfC qual scope s.heap.objs.size f cd).kindOf (ps.zip us) λ_=>none) (cellsFrom (s.heap.objs.size+1) scope.names []) (bindC (envOfC qual scope s.heap.objs.size f cd).kindOf (ps.zip us) λ_=>none) s1) :
   Inv (cxOf CX P w K mg base N qual scope f cd A outer s H E) [] (start N vs) H s1:=by
 have hpl:ps.length<=N.length:=by have:=congrArg List.length S.pre;rw[Ww]at this;rfl'
 obtain⟨h1,tk,rfl,hk⟩:=x.done;have noA:∀ b:Addr,b ∉ (cxOf CX P w K mg base N qual scope f cd A outer s H E).ex:=λb z=>absurd (show b∈([]:List Addr)from z) (by simp);refine⟨⟨e0.mod,S.kind,rfl,rfl,wf _,λy z c h1 h2=>?_,λy hy=>?_,λy c _ h=>?_,λ_=>hd,Around.frames_deeper e0.frames,.inr ⟨rfl,rfl⟩,λb z=>absurd z (noA b),e0.bs,e0.bsz,λb _ _=>noA b,λb z=>absurd z (noA b),e0.funs,e0.frf⟩,
   rfl,e0.bare,Un.kept hk,⟨_,x.toInCall.ns,λi y v h1 h2 h3=>?_⟩,λy c h=>⟨_,x.cell y c h⟩,e0.hok.fresh (wf _),λy c h=>?_,λp hp=>absurd (show p∈([]:aB)from hp) (by simp),e0.hok.kept hk,?_⟩
 · exact name_of_addr x.apart (PySem.mem_of_lookup h1) (PySem.mem_of_lookup h2)
 · have hy:scope.names.lookup y=some .cell\/scope.names.lookup y=some .free:=hy;rcases hy with hy|hy
   · exact JH hy
   · exact absurd rfl (S.nofree _ (PySem.mem_of_lookup hy))
 · exact Ws (x.above y c (PySem.mem_of_lookup h))
 · have hi:i<vs.length:=by
     unfold start at h2;by_cases hi:i<vs.length
     · exact hi
     · rw[wN (by simpa using hi)]at h2;rw[wQ]at h2;split at h2<;>cases h2
   have ha:vs[i]?=some v:=by
     unfold start at h2;rw[wL (by simpa using hi),wq]at h2;cases e:vs[i]? with
     | none=>rw[e]at h2;cases h2
     | some a=>rw[e]at h2;cases h2;rfl
   obtain⟨u,hu,rv⟩:=r.get ha;have hp:ps[i]?=some y:=by
     rw[←S.pre,List.getElem?_take_of_lt (by rfl')];exact h1
   have ndP:ps.Nodup:=by rw[←S.pre];exact S.nd.sublist (List.take_sublist _ _)
   refine⟨u,rv,?_⟩;rcases S.par y (Wd hp)with k|k
   · exact .inl ⟨k,GQ ndP hp hu k⟩
   · obtain⟨c,e⟩:=JH (n:=s.heap.objs.size+1) k;refine .inr ⟨.inl k,c,e,?_⟩;have q:=x.cell y c e;rw[GR ndP hp hu (by show scope.names.lookup y≠_;rw[k];decide)]at q;exact q
 · exact e0.hok.fresh (Ws (x.above y c (PySem.mem_of_lookup h)))
 · unfold start;show _=N.length;rw[ww,we,Wj];rfl'
theorem JI{CX:CXT}{P:Program}{w:World}{K:aE}{mg:aF}{base:Heap}{k:Nat}{f:Addr}{name qual:Str}{params:Arguments}{body:List Stmt}{scope:Scope}{dV kV doc pm cdv ct oc:Value}{an od:Option Addr}
  {osl:Array (Option Value)} {N ps:List Str} {sp:Sp} (lk:K.lookup f=some ⟨oc,od,.func (PySem.W.fnOf name qual params body scope dV kV doc pm an cdv ct),osl⟩) (hcd:PySem.W.codeIn K cdv qual=true) (S:FnScope N ps scope)
  (len:∀ vs H Q E,sp vs H Q E->vs.length=ps.length)
  (hbody:∀(A:Around) (outer:List Env) (s:Shared) (H:Hp) (vs:List V) (Q:VK) (E:XK),Room k (A.deeper (envOfC qual scope s.heap.objs.size f cdv))->sp vs H Q E ->
    ∃ t,PSs (cxOf CX P w K mg base N qual scope f cdv A outer s H E) body t/\t { nx:=λ_ H'=>Q .non H',rt:=Q } (start N vs) H) :
  FnOk P w K mg base CX (k+1) f (PySem.W.fnOf name qual params body scope dV kV doc pm an cdv ct) ps sp:=by
 refine⟨len,λA outer s H args us vs Q E hr e0 hb r hsp=>?_⟩;have hl:=len _ _ _ _ hsp;have KX:K.In s.heap:=e0.mod.kin.keeps λb o e=>(e0.bs b o e).1;have lim:s.heap.NoLimit:=e0.mod.nolimit.keeps λb o e=>(e0.bs b o e).1;have hkind:∀ y∈ps.zip us,scope.names.lookup y.1=some .local\/(scope.names.lookup y.1=some .cell/\((cellsFrom (s.heap.objs.size+1) scope.names []).lookup y.1).isSome=true):=λ⟨n,v⟩ hy=>by
  rcases S.par n (vw hy).1 with q|q
  · exact .inl q
  · exact .inr ⟨q,PySem.W.cellsFrom_some _ _ _ (.inl q)⟩
 refine codeAny_call_function hr.depth (KX _ _ lk) rfl S.co S.gen rfl (PySem.W.codeRec_of KX hcd) (hb _ _ _ _ ?_);refine wpAny_newFunctionEnv_cells S.kind hkind λenv he s1 x=>?_;subst he;refine⟨lim.keeps x.toInCall.keep,codeAny_func ?_⟩;obtain⟨t,ht,hq⟩:=hbody A outer s H vs Q E (hr.deeper _) hsp;have I:Inv (cxOf CX P w K mg base N qual scope f cdv A outer s H E) [] (start N vs) H s1:=GS S hr.hd e0 hl r x;refine wpAny_mono (ht [] s1 (start N vs) H _ I hq) (λfl s' hs=>?_) λe s' hs=>hs;have fin:∀{σ':St} {H':Hp} {v:V} {u:Value},Inv (cxOf CX P w K mg base N qual scope f cdv A outer s H E) [] σ' H' s'->RelV v u->Q v H'->CE outer P w H s Q u s' :=
  λ{σ' H' v u} J rv q=>⟨v,H',J.os,J.bare,J.base,J.hok,rv,q⟩
 cases fl with
 | ret u =>
  obtain⟨v,σ',H',J,rv,q⟩:=hs;exact fin J rv q
 | next =>
  obtain⟨σ',H',J,q⟩:=hs;exact fin (v:=V.non) (u:=Value.none) J rfl q
 | brk =>
  obtain⟨_,_,_,q⟩:=hs;exact False.elim q
 | cont =>
  obtain⟨_,_,_,q⟩:=hs;exact False.elim q
end L2
namespace L2
open PySem PySem.Spec PyProof.Rows
section
variable {X:Cx}{x:Str}{p pos:Pos}{e:Expr}{es:List Expr}{t:TA}{id T:String}{r:List V->Hp->VK->Prop}
def tCB(r:List V->Hp->VK->Prop)(t:TA):TE:=λσ H Q=>t σ H λvs H1=>r vs H1 Q
theorem Ev(hc:Dl X (.builtin id) r)(hg:Gl X x)(hm:X.mg x=none)(hv:bootBuiltins x=some (.builtin id))(ha:PA X (e::es) t)(hn:x ≠ "__name__" := by decide)(hdb:(x==("__debug__" : Str))=false:=by decide)
  (he:starEach (e::es) X.env=(false,eval e X.env)::starEach es X.env:=by rfl) (hpl:(backTo pos (starEach es X.env)).any (·.1)=false:=by rfl):PE X (.Call (.Name x p) (e::es) [] pos) (tCB r t):=by
 intro π s σ H Q I h;refine wpAny_Call_Name_kw (Q8 I hg hm hv ?_ hn hdb);exact PyProof.Rows.callWith_builtin1 (thn (ha pos π s σ H _ I h) λus s1⟨vs,H1,I1,r1,q1⟩=>hc π s1 σ H1 vs us Q I1 r1 q1) he hpl
theorem F6(hc:Dl X (.type T) r)(hg:Gl X x)(hm:X.mg x=none)(hv:bootBuiltins x=some (.type T))(ha:PA X (e::es) t)(hn:x ≠ "__name__" := by decide)(hdb:(x==("__debug__" : Str))=false:=by decide)
  (he:starEach (e::es) X.env=(false,eval e X.env)::starEach es X.env:=by rfl) (hpl:(backTo pos (starEach es X.env)).any (·.1)=false:=by rfl):PE X (.Call (.Name x p) (e::es) [] pos) (tCB r t):=by
 intro π s σ H Q I h;refine wpAny_Call_Name_kw (Q8 I hg hm hv ?_ hn hdb);exact PyProof.Rows.callWith_type1 (thn (ha pos π s σ H _ I h) λus s1⟨vs,H1,I1,r1,q1⟩=>hc π s1 σ H1 vs us Q I1 r1 q1) he hpl
end
end L2
namespace HT
open PySem PyProof.Rows
def lexLt:aH->aH->Bool
 | [],[]=>false
 | [],_::_=>true
 | _::_,[]=>false
 | x::xs,y::ys=>if x=y then lexLt xs ys else decide (x<y)
theorem lexLt_cons(x y:Int)(xs ys:aH):lexLt (x::xs) (y::ys)=if x=y then lexLt xs ys else decide (x<y):=rfl
theorem lexLt_nil_nil:lexLt [] []=false:=rfl
theorem lexLt_nil_cons(y:Int)(ys:aH):lexLt [] (y::ys)=true:=rfl
theorem lexLt_cons_nil(x:Int)(xs:aH):lexLt (x::xs) []=false:=rfl
theorem eqAt_int(A:Around)(s:Shared)(a:Int)(t:Tok)(c:Int)(u:Tok):∃ e,SeqAt.EqAt A s (.int a t) (.int c u) e/\(e=true↔a=c) :=
 ⟨(a==c),SeqAt.EqAt.int_int a t c u,by simp⟩
theorem rcLt_int(A:Around)(s:Shared)(a:Int)(t:Tok)(c:Int)(u:Tok)(prog:Program)(w:World)(E:aC)(Q:aC)(h:Q (.bool (decide (a<c))) s):
  wpAny (model prog w) A (richCompare .Lt (.int a t) (.int c u)) Q E s :=
 (PyProof.Rows.lt_int h:wpAny (model prog w) A (compareOp .Lt (.int a t) (.int c u)) Q E s)
section
open PySem.SeqAt
open PySem.AutoSeq1 (wpAny_loadPart')
open PySem.MeetsSeq PySem.MeetsSeq2 PySem.MeetsSeq3
end
section
variable {prog:Program}{w:World}{A:Around}{E:aC}{s:Shared}
def sIx(n d:Nat):Option Int->Nat
 | none=>d
 | some v=>if v<0 then(v+(n:Int)).toNat else min v.toNat n
end
end HT
namespace L2
open PySem PySem.Spec PyProof.Rows
abbrev TO:=St->Hp->(Option Int->Hp->Prop)->Prop
theorem LK{ns:aH}:∀{us:aG},Vals (ns.map V.int) us->IntsAre us ns:=by
 induction ns with
 | nil=>intro us r;rw[vW]at r;cases r;exact .nil
 | cons n ns ih =>
  intro us r;rw[wj]at r;cases r with
  | cons r1 r2 =>
   obtain⟨t,e⟩:=r1;subst e;exact .cons n t (ih r2)
section
variable {X:Cx}{e:Expr}{te:TE}{lo hi:Option Expr}{tl th:TO}{pos p2:Pos}
end
end L2
namespace L2
open PySem PySem.Spec PyProof.Rows
def ixN(n:Nat)(i:Int):Option Nat:=if 0<=i then(if i<n then some i.toNat else none) else if -(n:Int)<=i then some (i+n).toNat else none
def atI{α:Type}(xs:List α)(i:Int):Option α:=(ixN xs.length i).bind λj=>xs[j]?
theorem Pa{n:Nat}{i:Int}{j:Nat}(h:ixN n i=some j):seqIndex? i n=some j/\j<n /\ -(n:Int)<=i/\i<n:=by
 unfold ixN at h;by_cases h0:0<=i
 · rw[if_pos h0]at h;by_cases h1:i<n
   · rw[if_pos h1]at h;have e:i.toNat=j:=Option.some.inj h;exact⟨by rw[seqIndex_of h0 h1,e],by rfl',by rfl',h1⟩
   · rw[if_neg h1]at h;cases h
 · rw[if_neg h0]at h;by_cases h1 : -(n:Int)<=i
   · rw[if_pos h1]at h;have e:(i+n).toNat=j:=Option.some.inj h;exact⟨by rw[seqIndex_neg (by rfl') h1,e],by rfl',h1,by rfl'⟩
   · rw[if_neg h1]at h;cases h
theorem IA{α:Type}{xs:List α}{i:Int}{v:α}(h:atI xs i=some v):∃ j,seqIndex? i xs.length=some j/\xs[j]?=some v/\j<xs.length /\ -(xs.length:Int)<=i/\i<xs.length:=by
 unfold atI at h;cases e:ixN xs.length i with
 | none=>rw[e]at h;cases h
 | some j =>
  rw[e]at h;obtain⟨h1,h2,h3,h4⟩:=Pa e;exact⟨j,h1,h,h2,h3,h4⟩
theorem Ab{α:Type}{xs:List α}{j:Nat}{v:α}(h:xs[j]?=some v):atI xs (j:Int)=some v:=by
 have hj:j<xs.length:=(wy.mp h).1;have e:ixN xs.length (j:Int)=some j:=by
  unfold ixN;rw[if_pos (by rfl'),if_pos (by rfl')];simp
 unfold atI;rw[e];exact h
def IB(b:Expr):Prop:=∀ o i,subscripted b false o i=operate [o,i] (getItem o i)
def IxR(X:Cx)(r:R2):Prop :=
 ∀(value slice:Expr) (π:aB) (s:Shared) (σ:St) (H:Hp) (x y:V) (v u:Value) (Q:VK),Inv X π σ H s->RelV x v->RelV y u->r x y H Q ->
  subscripted slice false v u=operate [v,u] (getItem v u)->wpAny (model X.prog X.w) X.A (subscriptTail value slice v u) (EP X π σ Q) X.xe s
def MtR(X:Cx)(id:String)(r:V->List V->Hp->VK->Prop):Prop :=
 ∀(π:aB) (s:Shared) (σ:St) (H:Hp) (x:V) (xs:List V) (v:Value) (us:aG) (Q:VK),Inv X π σ H s->RelV x v->Vals xs us->r x xs H Q ->
  wpAny (model X.prog X.w) X.A (call (.builtin id) (v::us)) (EP X π σ Q) X.xe s
section
variable {X:Cx}{a b:Expr}{ta tb:TE}{pos:Pos}
theorem IxR.or{r r':R2}(h:IxR X r)(h':IxR X r'):IxR X (λx y H Q=>r x y H Q\/r' x y H Q):=by
 intro value slice π s σ H x y v u Q I rx ry q hs;rcases q with q|q
 · exact h value slice π s σ H x y v u Q I rx ry q hs
 · exact h' value slice π s σ H x y v u Q I rx ry q hs
theorem J4{r:R2}(hr:IxR X r)(ha:PE X a ta)(hb:PE X b tb)(hs:IB b):PE X (.Subscript a b pos) (tOp r ta tb):=by
 intro π s σ H Q I h;exact Subscript_ (binT ha hb I h λv u s2 x y H2 I2 rx ry q=>hr a b π s2 σ H2 x y v u Q I2 rx ry q (hs _ _))
def rIxL(K:aE):R2:=λx y H Q=>∃ p xs i v,x = .ref p/\y = .int i/\SqL K H p xs/\atI xs i=some v/\Q v H
def rIxT(K:aE):R2:=λx y H Q=>∃ p xs i v,x = .ref p/\y = .int i/\SqT K H p xs/\atI xs i=some v/\Q v H
def rIxS:R2:=λx y H Q=>∃ z i c,x = .str z/\y = .int i/\z.length<=sizeLine/\atI z.cps.toList i=some c/\Q (.str ⟨#[c]⟩) H
theorem Ac:IxR X (rIxL X.K):=by
 intro value slice π s σ H x y v u Q I rx ry h hs;obtain⟨p,xs,i,z,rfl,rfl,hq,he,q⟩:=h;cases rx;obtain⟨t,rfl⟩:=ry;obtain⟨its,r,pl,hz⟩:=I.list hq;obtain⟨j,h1,h2,h3,h4,h5⟩:=IA he;obtain⟨w,ew,rw'⟩:=r.get h2;have hl:=r.length;have hn:=Cj;have fin:EP X π σ Q w s:=⟨z,H,I,rw',q⟩;by_cases h0:0<=i
 · have hj:i.toNat=j:=by
    rw[seqIndex_of h0 h5]at h1;exact Option.some.inj h1
   exact item_listR pl.isList h0 (by rfl') (by rw[hj];simpa using ew) fin hs
 · have hj:(i+(its.toArray.size:Int)).toNat=j:=by
    rw[seqIndex_neg (by rfl') h4]at h1;rw[wr,←hl];exact Option.some.inj h1
   exact subscriptTail_builtinR (x:=w) pl.isList.typeIs slot_list_getitem.lookup
    (wpAny_getItem_list_neg (Q:=λr s'=>r=w/\EP X π σ Q r s') pl.isList (by rfl') (by rw[wr]<;>rfl') (by rfl') (by rw[hj];simpa using ew) ⟨rfl,fin⟩) hs
theorem J7:IxR X (rIxT X.K):=by
 intro value slice π s σ H x y v u Q I rx ry h hs;obtain⟨p,xs,i,z,rfl,rfl,hq,he,q⟩:=h;cases rx;obtain⟨t,rfl⟩:=ry;obtain⟨its,r,pl,hz⟩:=I.tuple hq;obtain⟨j,h1,h2,h3,h4,h5⟩:=IA he;obtain⟨w,ew,rw'⟩:=r.get h2;have hl:=r.length;have hn:=Cj;have fin:EP X π σ Q w s:=⟨z,H,I,rw',q⟩;exact subscriptTail_builtinR (x:=w) pl.typeIs slot_tuple_getitem.lookup
  (getItem_tuple (j:=j) (Q:=λr s'=>r=w/\EP X π σ Q r s') pl (by rfl') (by rfl') (by rw[wr,←hl];exact h1) (by simpa using ew) ⟨rfl,fin⟩) hs
theorem ix_str:IxR X rIxS:=by
 intro value slice π s σ H x y v u Q I rx ry h hs;obtain⟨z,i,c,rfl,rfl,hz,he,q⟩:=h;obtain⟨t,rfl⟩:=rx;obtain⟨t',rfl⟩:=ry;obtain⟨j,h1,h2,h3,h4,h5⟩:=IA he;have hl:z.cps.toList.length=z.length:=by simp[Str.length]
 rw[hl]at h1 h4 h5;have hn:=Cj;exact tail_any (typeIs_str s z t) slot_str_getitem.lookup (getItem_str (c:=c) (by
  have e1:decide (i < -(2 ^ 63:Int))=false:=decide_eq_false (by rfl');have e2:decide (i≥2 ^ 63)=false:=decide_eq_false (by rfl');rw[e1,e2,Bool.or_false]) (by rw[h1];simpa using h2) ⟨.str ⟨#[c]⟩,H,I.tok _,⟨_,rfl⟩,q⟩) hs
def rIx(K:aE):R2:=λx y H Q=>rIxL K x y H Q\/rIxT K x y H Q\/rIxS x y H Q
theorem ix_seq:IxR X (rIx X.K):=Ac.or (J7.or ix_str)
theorem LM(its:aG)(n j:Nat)(u:Value):Obj.mapSeq (·.setIfInBounds j u) { cls := .type "list",data := .seq its.toArray n }={ cls := .type "list",data := .seq (its.set j u).toArray n }:=by
 simp[Obj.mapSeq]
theorem Inv.lst{π:aB}{σ:St}{H:Hp}{s:Shared}{p:Addr}{xs:List V}(I:Inv X π σ H s)(h:H p=some (.lst xs)):
  ∃(its:aG) (n:Nat),Vals xs its/\s.heap.get? p=some { cls := .type "list",data := .seq its.toArray n }/\xs.length<=sizeLine:=by
 obtain⟨z,its,n,r,e⟩:=I.hok p _ h;exact⟨its,n,r,e,z⟩
theorem Inv.lstUpd{π:aB}{σ:St}{H:Hp}{s:Shared}{p:Addr}{xs ys:List V}{its its':aG}{n n':Nat}{f:Obj->Obj}(I:Inv X π σ H s)(h:H p=some (.lst xs))
  (ho:s.heap.get? p=some { cls := .type "list",data := .seq its.toArray n }) (hf:f { cls := .type "list",data := .seq its.toArray n }={ cls := .type "list",data := .seq its'.toArray n' }) (r:Vals ys its') (hz:ys.length<=sizeLine) (t:Nat) :
  Inv X π σ (upd H p (.lst ys)) { s with heap:=s.heap.update p f,toks:=t }:=by
 have e:(s.heap.update p f).get? p=some { cls := .type "list",data := .seq its'.toArray n' }:=by
  rw[VZ f ho (by rw[hf]<;>rfl),hf]
 refine I.write (x:=p) (e:=p) (by rw[h];trivial) (.inl rfl) (λb u hb q=>(vX _ _ (Ne.symm hb)).trans q) ⟨_,e⟩ ?_;exact⟨hz,its',n',r,e⟩
def rSetL:V->V->V->Hp->(Hp->Prop)->Prop:=λo i v H Q=>∃ p xs k j,o = .ref p/\i = .int k/\H p=some (.lst xs)/\ixN xs.length k=some j/\Q (upd H p (.lst (xs.set j v)))
theorem JJ:PSet X rSetL:=by
 intro π s σ H o i v ov iv u Q I ro ri rv h;obtain⟨p,xs,k,j,rfl,rfl,hp,hj,q⟩:=h;cases ro;obtain⟨t,rfl⟩:=ri;obtain⟨its,n,r,ho,hz⟩:=I.lst hp;obtain⟨h1,h2,h3,h4⟩:=Pa hj;have hl:=r.length;have hn:=Cj;have I':Inv X π σ (upd H p (.lst (xs.set j v))) { s with heap:=s.heap.update p (Obj.mapSeq (·.setIfInBounds j u)) } :=
   I.lstUpd hp ho (LM its n j u) (r.set rv j) (by rw[wC];exact hz) s.toks
 by_cases h0:0<=k
 · have hk:k.toNat=j:=by
    rw[seqIndex_of h0 h4]at h1;exact Option.some.inj h1
   exact PySem.W.ki_setAt ho h0 (by rfl') (by rw[wr,←hl];exact h4) (by rw[hk];exact⟨_,I',q⟩)
 · have hk:(k+(its.toArray.size:Int)).toNat=j:=by
    rw[seqIndex_neg (by rfl') h3]at h1;rw[wr,←hl];exact Option.some.inj h1
   exact PySem.W.ki_setBack ho (by rfl') (by rw[wr,←hl];exact h3) (by rfl') (by rw[hk];exact⟨_,I',q⟩)
theorem U0:Dl X (.builtin "len") (λxs H Q=>∃ p ys,xs=[.ref p]/\(SqL X.K H p ys\/SqT X.K H p ys)/\Q (.int ys.length) H):=by
 intro π s σ H xs us Q I r h;obtain⟨p,ys,rfl,hq,q⟩:=h;obtain⟨u,rfl,rx⟩:=OZ r;cases rx;have hn:=Cj;rcases hq with hq|hq
 · obtain⟨its,r',pl,hz⟩:=I.list hq;have hlen:=r'.length;exact Calls.call_len_list pl.isList (by simp only[wr]<;>rfl') ⟨.int ys.length,H,I.tok _,⟨s.toks+1,by rw[wr,hlen]⟩,q⟩
 · obtain⟨its,r',pl,hz⟩:=I.tuple hq;have hlen:=r'.length;exact len_tuple pl (by simp only[wr]<;>rfl') ⟨.int ys.length,H,I.tok _,⟨s.toks+1,by rw[wr,hlen]⟩,q⟩
theorem U1:Dl X (.type "list") (λxs H Q=>∃ p ys,xs=[.ref p]/\(SqL X.K H p ys\/SqT X.K H p ys)/\∀ l,H l=none->Q (.ref l) (upd H l (.lst ys))):=by
 intro π s σ H xs us Q I r h;obtain⟨p,ys,rfl,hq,q⟩:=h;obtain⟨u,rfl,rx⟩:=OZ r;cases rx;have fin:∀(its:aG),Vals ys its->ys.length<=sizeLine->∀(h':Heap) (c':Nat),(∀ b o',s.heap.get? b=some o'->h'.get? b=some o') ->
    h'.get? s.heap.objs.size=some { cls := .type "list",dict:=none,data := .seq its.toArray c',slots:=#[] }->EP X π σ Q (.ref s.heap.objs.size) { s with heap:=h' }:=λits r' hz h' c' kp e =>
   ⟨.ref s.heap.objs.size,_,I.laid (t':=s.toks) kp (wf _) (show ObjOk X.prog X.w _ h' _ (.lst ys) from⟨hz,its,c',r',e⟩),rfl,q _ (I.hok.fresh (wf _))⟩
 rcases hq with hq|hq
 · obtain⟨its,r',pl,hz⟩:=I.list hq;have hlen:=r'.length;obtain⟨o,ho,hc,n,hd⟩:=pl.isList;exact call_list_seq p (.inl rfl) ho hc hd (λh' c' kp e=>fin its r' hz h' c' kp e) (by simp only[wr]<;>rfl')
 · obtain⟨its,r',pl,hz⟩:=I.tuple hq;have hlen:=r'.length;obtain⟨o,ho,hc,n,hd⟩:=pl;exact call_list_seq p (.inr rfl) ho hc hd (λh' c' kp e=>fin its r' hz h' c' kp e) (by simp only[wr]<;>rfl')
theorem A2:Dl X (.type "tuple") (λxs H Q=>∃ p ys,xs=[.ref p]/\((SqL X.K H p ys/\∀ l,H l=none->Q (.ref l) (upd H l (.tup ys)))\/(SqT X.K H p ys/\Q (.ref p) H))):=by
 intro π s σ H xs us Q I r h;obtain⟨p,ys,rfl,h⟩:=h;obtain⟨u,rfl,rx⟩:=OZ r;cases rx;rcases h with⟨hq,q⟩|⟨hq,q⟩
 · obtain⟨its,r',pl,hz⟩:=I.list hq;have hlen:=r'.length;refine call_tuple_list pl.isList (λh' kp=>?_) (by simp only[wr]<;>rfl');have I1:Inv X π σ H { s with heap:=h' }:=I.kept (t':=s.toks) kp;have I2:Inv X π σ (upd H h'.objs.size (.tup ys)) { s with heap:=h'.push { cls := .type "tuple",data := .seq its.toArray } } :=
    I1.laid (t':=s.toks) (λb o e=>wd _ e) (wf _) (show ObjOk X.prog X.w _ _ _ (.tup ys) from⟨hz,its,r',IsTup.new _ _⟩)
   exact⟨.ref h'.objs.size,_,I2,rfl,q _ (I1.hok.fresh (wf _))⟩
 · obtain⟨its,r',pl,hz⟩:=I.tuple hq;exact call_tuple_same pl ⟨.ref p,H,I,rfl,q⟩
def tyV(K:aE)(T:String)(x:V)(H:Hp):Prop:=match x with
 | .str _=>T = "str"
 | .int _=>T = "int"
 | .ref p=>(T = "list" /\ ∃ xs,SqL K H p xs)\/(T = "tuple" /\ ∃ o,K.lookup p=some o/\o.cls = .type "tuple" /\ o.dict=none) \/
  (T = "dict" /\ ((∃ kvs,H p=some (.dK kvs))\/∃ kvs,H p=some (.dT kvs)))\/(T = "set" /\ ∃ S n,H p=some (.set S n))
 | _=>False
theorem tyV_is{π:aB}{σ:St}{H:Hp}{s:Shared}{T:String}{x:V}{v:Value}(I:Inv X π σ H s)(r:RelV x v)(ty:tyV X.K T x H):
  s.TypeIs v T/\∀ a,v = .ref a->∃ ob,s.heap.get? a=some ob/\ob.dict=none:=by
 cases x with
 | str z =>
  obtain⟨t,rfl⟩:=r;cases (show T = "str" from ty);exact⟨typeIs_str s z t,λ_ e=>nomatch e⟩
 | int i =>
  obtain⟨t,rfl⟩:=r;cases (show T = "int" from ty);exact⟨typeIs_int s i t,λ_ e=>nomatch e⟩
 | ref p =>
  cases r;rcases ty with⟨rfl,xs,hq⟩|⟨rfl,o,hk,hc,hd⟩|⟨rfl,hk⟩|⟨rfl,S,n,hk⟩
  · obtain⟨its,_,pl,_⟩:=I.list hq;refine⟨pl.isList.typeIs,λa e=>?_⟩;cases e;obtain⟨o,n,e,c,hd,_⟩:=pl;exact⟨o,e,hd⟩
  · refine⟨⟨o,I.kIn p o hk,hc⟩,λa e=>?_⟩;cases e;exact⟨o,I.kIn _ o hk,hd⟩
  · have z:∃ o,s.heap.get? p=some o/\o.ExactDict:=by
     rcases hk with⟨kvs,hk⟩|⟨kvs,hk⟩
     · obtain⟨_,_,_,_,o,_,_,e,ex,_⟩:=I.hok p _ hk;exact⟨o,e,ex⟩
     · obtain⟨_,_,_,_,o,_,_,e,ex,_⟩:=I.hok p _ hk;exact⟨o,e,ex⟩
    obtain⟨o,e,ex⟩:=z;refine⟨⟨o,e,ex.1⟩,λa e2=>?_⟩;cases e2;exact⟨o,e,ex.2.1⟩
  · obtain⟨o,_,_,_,e,ex,_⟩:=I.hok p _ hk;refine⟨⟨o,e,ex.1⟩,λa e2=>?_⟩;cases e2;exact⟨o,e,ex.2.1⟩
 | _=>exact False.elim ty
def tBM(K:aE)(T:String)(r:V->List V->Hp->VK->Prop)(to:TE)(t:TA):TE:=λσ H Q=>to σ H λx H1=>tyV K T x H1/\t σ H1 λxs H2=>r x xs H2 Q
variable {o e:Expr}{es:List Expr}{to:TE}{t:TA}{name:Str}{apos cpos:Pos}{T id:String}{r:V->List V->Hp->VK->Prop}
theorem Pb(pa:PlainAttrs T)(slot:Slot T name id)(hty:typeOf (.builtin id)=pure (.type "method_descriptor"))(hm:MtR X id r)(ho:PE X o to)(ha:PA X (e::es) t)
  (hbase:attributeBase o name X.env (eval o X.env)=eval o X.env:=by rfl)
  (hfew:((backTo cpos (starEach (e::es) X.env)).all (fun x=>!x.1)&&(backToKw cpos (keywordEach [] X.env)).all (fun x=>x.1.isSome)
   && decide ((e::es).length+([]:List Keyword).length+(if([]:List Keyword).isEmpty then 0 else 1)<30))=true:=by rfl)
  (hline:(apos.endLine==cpos.line)=true:=by rfl) (hs:starEach (e::es) X.env=(false,eval e X.env)::starEach es X.env:=by rfl) (hplain:(backTo cpos (starEach es X.env)).any (·.1)=false:=by rfl) :
  PE X (.Call (.Attribute o name apos) (e::es) [] cpos) (tBM X.K T r to t):=by
 intro π s σ H Q I h;refine wpAny_Call_method_late hbase hfew hline rfl (thn (ho π s σ H _ I h) ?_);rintro v s1 ⟨x,H1,I1,r1,ty,q1⟩;obtain⟨h1,h2⟩:=tyV_is I1 r1 ty;refine⟨T,id,pa,slot,hty,h1,h2,?_⟩;have hA:=ha cpos π s1 σ H1 _ I1 q1;rw[hs]at hA ⊢;refine Calls.callWith_builtin (by show(false||(backTo cpos (starEach es X.env)).any (·.1))=false;rw[hplain]<;>rfl) (Calls.evalArgs_plain ?_);exact thn hA λus s2⟨vs,H2,I2,r2,q2⟩=>hm π s2 σ H2 x vs v us Q I2 r1 r2 q2
end
end L2
namespace L2
open PySem PySem.Spec PyProof.Rows
def MtM(X:Cx)(id:String)(r:V->List V->Hp->VK->Prop):Prop :=
 ∀(π:aB) (s:Shared) (σ:St) (H:Hp) (x:V) (xs:List V) (v:Value) (us:aG) (Q:VK),Inv X π σ H s->RelV x v->Vals xs us->r x xs H Q ->
  wpAny (model X.prog X.w) X.A (call (.builtin id) (v::us)) (EP X π σ Q) X.xe s
theorem Vals.zero:∀{us:aG},Vals [] us->us=[]
 | _,.nil=>rfl
theorem Vals.uncons{x:V}{xs:List V}{us:aG}(h:Vals (x::xs) us):∃ u vs,us=u::vs/\RelV x u/\Vals xs vs:=by
 cases h with
 | cons r t=>exact⟨_,_,rfl,r,t⟩
theorem Vals.one{x:V}{us:aG}(h:Vals [x] us):∃ u,us=[u]/\RelV x u:=by
 obtain⟨u,vs,e,r,t⟩:=h.uncons;rw[t.zero]at e;exact⟨u,e,r⟩
theorem Vals.two{x y:V}{us:aG}(h:Vals [x,y] us):∃ u v,us=[u,v]/\RelV x u/\RelV y v:=by
 obtain⟨u,vs,e,r,t⟩:=h.uncons;obtain⟨v,e2,q⟩:=t.one;rw[e2]at e;exact⟨u,v,e,r,q⟩
section
variable {X:Cx}{π:aB}{σ:St}{H:Hp}{s:Shared}{l b:Addr}{xs ys zs:List V}
theorem Inv.lset{its its':aG}{n:Nat}{f:Array Value->Array Value}{t':Nat}(I:Inv X π σ H s)(hH:H l=some (.lst xs))
  (e:s.heap.get? l=some { cls := .type "list",data := .seq its.toArray n }) (hf:f its.toArray=its'.toArray) (hv:Vals ys its') (hz:ys.length<=sizeLine) :
  Inv X π σ (upd H l (.lst ys)) { s with heap:=s.heap.update l (Obj.mapSeq f),toks:=t' }:=by
 have q:=PySem.IsL.update e f;rw[hf]at q;refine I.write (x:=l) (e:=l) (by rw[hH];exact trivial) (.inl rfl) (λb' u hb hu=>(vX s.heap (Obj.mapSeq f) (Ne.symm hb)).trans hu) ⟨_,q⟩ ?_;exact⟨hz,its',_,hv,q⟩
theorem Inv.lnew{its:aG}{t':Nat}(I:Inv X π σ H s)(hv:Vals ys its)(hz:ys.length<=sizeLine):
  Inv X π σ (upd H s.heap.objs.size (.lst ys)) { s with heap:=s.heap.push { cls := .type "list",data := .seq its.toArray },toks:=t' } :=
 I.laid (λ_ _ q=>wd _ q) (wf _) ⟨hz,its,0,hv,wp _ rfl⟩
theorem Inv.fresh(I:Inv X π σ H s):H s.heap.objs.size=none:=I.hok.fresh (wf _)
theorem Inv.lstM(I:Inv X π σ H s)(hH:H l=some (.lst xs)):xs.length<=sizeLine/\∃(its:aG) (n:Nat),Vals xs its/\xs.length=its.length/\s.heap.get? l=some { cls := .type "list",data := .seq its.toArray n }:=by
 obtain⟨z,its,n,r,e⟩:=I.hok l _ hH;exact⟨z,its,n,r,r.length,e⟩
theorem Ry{n:Nat}(h:n<=sizeLine):Builtin.List.listTooLong n=false:=by
 unfold Builtin.List.listTooLong;exact decide_eq_false (by rfl')
end
section
variable {X:Cx}
def Pc:V->List V->Hp->VK->Prop:=λx vs H Q=>∃ l xs y,x = .ref l/\vs=[y]/\H l=some (.lst xs)/\xs.length<sizeLine/\Q .non (upd H l (.lst (xs++[y])))
theorem Ck:MtM X "list.append" Pc:=by
 intro π s σ H x vs v us Q I rx rv h;obtain⟨l,xs,y,rfl,rfl,hH,hz,q⟩:=h;cases rx;obtain⟨u,rfl,ru⟩:=rv.one;obtain⟨z,its,n,r,hl,e⟩:=I.lstM hH;refine call_meets F.slot_list_append ⟨_,e,rfl⟩ F.entry_list_append (F.args_list_append_2 _ _) (PySem.list_append l its.toArray n u (by rw[wr];rfl')) ⟨e,?_⟩;refine⟨.non,_,I.lset (its':=its++[u]) hH e (by simp) (r.append (.cons ru .nil)) ?_,rfl,q⟩;rw[ww,WL];rfl'
def Pd:V->List V->Hp->VK->Prop:=λx vs H Q=>∃ l b xs zs,x = .ref l/\vs=[.ref b]/\H l=some (.lst xs)/\H b=some (.lst zs)/\xs.length+zs.length<=sizeLine/\Q .non (upd H l (.lst (xs++zs)))
theorem Qn:MtM X "list.extend" Pd:=by
 intro π s σ H x vs v us Q I rx rv h;obtain⟨l,b,xs,zs,rfl,rfl,hH,hB,hz,q⟩:=h;cases rx;obtain⟨u,rfl,ru⟩:=rv.one;cases ru;obtain⟨z,its,n,r,hl,e⟩:=I.lstM hH;obtain⟨z2,its2,n2,r2,hl2,e2⟩:=I.lstM hB;have hsz:its.toArray.size+its2.toArray.size<=sizeLine:=by rw[wr,wr];rfl'
 have hlong:¬(!its.toArray.isEmpty&&Builtin.List.listTooLong (its.toArray.size+its2.toArray.size))=true:=by
  rw[Ry hsz,Bool.and_false];exact wD
 refine call_meets F.slot_list_extend ⟨_,e,rfl⟩ F.entry_list_extend (F.args_list_extend_2 _ _)
  (AutoSeq1.list_extend_list_list_0 l its.toArray n b its2.toArray n2 hlong (by rw[wr];rfl') (by rfl')) ⟨e,e2,?_⟩
 refine⟨.non,_,I.lset (its':=its++its2) hH e (by simp) (r.append r2) ?_,rfl,q⟩;rw[ww];rfl'
def rCat:R2:=λx y H Q=>∃ l b xs zs,x = .ref l/\y = .ref b/\H l=some (.lst xs)/\H b=some (.lst zs)/\xs.length+zs.length<=sizeLine/\∀ p,H p=none->Q (.ref p) (upd H p (.lst (xs++zs)))
theorem op_cat:OpR X (binaryOp .Add) rCat:=by
 intro π s σ H x y v u Q I rx ry h;obtain⟨l,b,xs,zs,rfl,rfl,hH,hB,hz,q⟩:=h;cases rx;cases ry;obtain⟨z,its,n,r,hl,e⟩:=I.lstM hH;obtain⟨z2,its2,n2,r2,hl2,e2⟩:=I.lstM hB;refine PySem.P.add_list e e2 ?_ (by rw[wr,wr];rfl');have ea:its.toArray++its2.toArray=(its++its2).toArray:=by simp
 rw[ea];exact⟨.ref _,_,I.lnew (t':=s.toks) (r.append r2) (by rw[ww];rfl'),rfl,q _ I.fresh⟩
end
section
variable {prog:Program}{w:World}{A:Around}{E:aC}{s:Shared}
end
section
variable {X:Cx}
end
end L2
namespace Att
open PySem PySem.W PySem.Calls PyProof.Rows
theorem DY{P:Params}{h:Heap}:∀(ns:aH) (vs:aG),WellAll P h vs (ns.map WData.int)->IntsAre vs ns:=by
 intro ns
 induction ns with
 | nil =>
  intro vs w;rw[vW]at w;cases w;exact .nil
 | cons n ns ih =>
  intro vs w;rw[wj]at w;cases w with
  | cons a b =>
   cases a;exact .cons _ _ (ih _ b)
theorem Qo{l:OpenLaw}{n:Nat}(hn:l.most=some n){P:Params}{h:Heap}{args:List WData}{vals:aG}
  (hpre:l.row.toRowW.claim.pre args=true) (hwl:WellAll P h vals args) :
  ∃ a vs ns,vals=[Value.ref a]/\args=[WData.list (ns.map WData.int)]/\h.get? a=some { cls := .type "list",data := .seq vs.toArray }/\IntsAre vs ns/\ns.length<=n:=by
 have hsh:WShape.hasAll [] args [.list .int]=true:=(pre_splitW hpre).1;have hc:l.pre.holds [] { args:=args }=true:=(pre_splitW hpre).2;obtain⟨d,r,rfl,h1,h2⟩:=hasAllW_cons hsh;obtain rfl:=hasAllW_nil h2;obtain⟨xs,rfl,h3⟩:=hasW_list h1;obtain⟨ns,rfl⟩:=items_int h3;have hlen:ns.length<=n:=by
  unfold OpenLaw.pre at hc;have h4:(WTm.not (.lt (.lit (.int (n:Int))) (.len (.arg 0)))).holds [] { args:=[.list (ns.map .int)] }=true:=by
   have h4:=(holds_andW hc).1;rw[hn]at h4;exact h4
  have h5:=condW_of h4 (w_not (w_lt w_lit (w_len_list (w_arg rfl))));rw[we]at h5;refine vf λq=>?_;have q':(n:Int)<((ns.length:Nat):Int):=by rfl'
  first
   | (rw[decide_eq_true q']at h5;exact absurd h5 (by decide))
   | (simp at h5;rfl')
 cases hwl with
 | cons w1 w2 =>
  cases w2;cases w1 with
  | list ho hall=>exact⟨_,_,ns,rfl,rfl,ho,DY ns _ hall,hlen⟩
theorem Qp(l:OpenLaw)(args:List WData):l.row.toRowW.claim.post args (.bool true) args=true :=
 postW_of (r:=l.row.toRowW) (X:=(true==true))
  (show WShape.has [] (.bool true) .bool=true by first|rfl|decide|simp[WShape.has,WShape.arms,WShape.armsAll])
  (show(WTm.eq .res (.lit (.bool true))).value [] { args:=args,res:=some (.bool true),after:=args }=some (.bool (true==true))from w_eq_bool (w_res rfl) w_lit) rfl
theorem attach_call{l:OpenLaw}{n:Nat}{q:Program}{loose:List Str}{XP:(aF)->Heap->Prop}{YP:World->Heap->Prop}{d:DefRec}
  (hn:l.most=some n) (hdf:d.params.defaults=[])
  (call:∀(w:World) (s₀ s₁:Shared) (mg mb:Str→Option Value) (fa:Addr) (o:Obj) (pm cd doc:Value) (a:Addr) (vs:List Value) (ns:List Int),
   Ground q loose [] XP w s₀ mg mb s₁.heap->YP w s₁.heap ->
   s₁.heap.get? fa=some o->o.data = .func (docDef d.name d.params d.body d.scope pm cd doc)->s₁.heap.CodeRec cd d.name->mg d.name=some (.ref fa) ->
   s₁.heap.get? a=some { cls := .type "list",data := .seq vs.toArray }->IntsAre vs ns->ns.length<=n->s₁.gens=#[] ->
   codeAny (model l.prog w) callerA (.call (.ref fa) ⟨[.ref a],[]⟩) (λr s'=>r = .ok (.ret (.bool true))/\OldK s₁.heap s'.heap/\s'.os=s₁.os/\AllBare s'.gens) s₁) :
  WalkO q loose XP YP l.row.toRowW d [] (λf vs=>PySem.call f vs):=by
 intro w s₀ s₁ mg mb G Y fa o pm cd doc dV kV ho hd hcd hD hmg hg args vals as hpre hlay hrd hwl hlo;obtain rfl:dV = .none:=Dflts.none hD hdf;obtain rfl:kV = .none:=Dflts.noKw hD;obtain⟨a,vs,ns,rfl,rfl,hobj,hints,hlen⟩:=Qo hn hpre hwl;refine enter_call (codeAny_mono (call w s₀ s₁ mg mb fa o pm cd doc a vs ns G Y ho (fd_plain hd) hcd hmg hobj hints hlen hg) λr s' hq=>?_);obtain⟨rfl,h2,h3,h4⟩:=hq;exact⟨.inl ⟨.bool true,.bool true,[],rfl,λ_=>rfl,.bool true,Qp l _,λ_=>⟨List.Pairwise.nil,λ_ hm=>(nomatch hm)⟩⟩,h2,h3,h4⟩
section
variable {prog:Program}{w:World}{A:Around}{E:aC}{s:Shared}{K:Frag}
end
end Att
namespace L2
open PySem PySem.Spec PyProof.Rows
theorem GT:∀{vs:aG} {ns:aH},IntsAre vs ns->Vals (ns.map V.int) vs
 | _,_,.nil => .nil
 | _,_,.cons n t h => .cons ⟨t,rfl⟩ (GT h)
end L2
namespace L2
open PySem PySem.Spec PyProof.Rows
end L2
namespace L2
open PySem PySem.Spec PyProof.Rows
def E9(s:Stmt):Arguments:=match s with
 | .FunctionDef _ a _ _ _ _ _ _ _ _=>a
 | _=>{ posonlyargs:=[],args:=[],vararg:=none,kwonlyargs:=[],kw_defaults:=[],kwarg:=none,defaults:=[] }
def x9(s:Stmt):List Stmt:=match s with
 | .FunctionDef _ _ b _ _ _ _ _ _ _=>b
 | _=>[]
def d7(s:Stmt):Scope:=match s with
 | .FunctionDef _ _ _ _ _ _ sc _ _ _=>sc
 | _=>{ kind := .function,names:=[],isGenerator:=false,isCoroutine:=false }
abbrev CX0:CXT:=λ_ _ _ _ _ _=>False
abbrev E0:XK:=λ_ _ _=>False
theorem S5{X:Cx}:Iy CX0 X E0:=λ_ _ _ _ _ _ _ h=>h.elim
structure Fun(K:aE)(x qual:Str)(st:Stmt)(f:Addr)(fd:FuncData):Prop where
 ex:∃(oc:Value) (od:Option Addr) (kV doc pm:Value) (an:Option Addr) (cdv ct:Value) (osl:Array (Option Value)),
  fd=PySem.W.fnOf x qual (E9 st) (x9 st) (d7 st) .none kV doc pm an cdv ct/\K.lookup f=some ⟨oc,od,.func fd,osl⟩/\PySem.W.codeIn K cdv qual=true
 kp:PySem.W.keepIn K (.ref f)=true
section
variable {P:Program}{w:World}{K:aE}{mg:aF}{base:Heap}
theorem Fun.ok{x qual:Str}{st:Stmt}{f:Addr}{fd:FuncData}{N ps:List Str}{k:Nat}{sp:Sp}(F:Fun K x qual st f fd)(S:FnScope N ps (d7 st))(len:∀ vs H Q E,sp vs H Q E->vs.length=ps.length)
  (hbody:∀(cdv:Value) (A:Around) (outer:List Env) (s:Shared) (H:Hp) (vs:List V) (Q:VK) (E:XK),Room k (A.deeper (envOfC qual (d7 st) s.heap.objs.size f cdv))→sp vs H Q E →
   ∃ t,PSs (cxOf CX0 P w K mg base N qual (d7 st) f cdv A outer s H E).nox (x9 st) t/\t { nx:=λ_ H'=>Q .non H',rt:=Q } (start N vs) H):FnOk P w K mg base CX0 (k+1) f fd ps sp:=by
 obtain⟨oc,od,kV,doc,pm,an,cdv,ct,osl,rfl,lk,hcd⟩:=F.ex;refine JI lk hcd S len λA outer s H vs Q E hr hsp=>?_;obtain⟨t,h,q⟩:=hbody cdv A outer s H vs Q E hr hsp;exact⟨t,h.nox,q⟩
theorem Fun.binds{x qual:Str}{st:Stmt}{f:Addr}{fd:FuncData}{ps:List Str}(F:Fun K x qual st f fd)
  (h:∀(kV doc pm:Value) (an:Option Addr) (cdv ct:Value) (us:aG),us.length=ps.length->bindArgs (PySem.W.fnOf x qual (E9 st) (x9 st) (d7 st) .none kV doc pm an cdv ct) ⟨us,[]⟩=pure (ps.zip us)):Binds K fd ps []:=by
 obtain⟨oc,od,kV,doc,pm,an,cdv,ct,osl,rfl,lk,hcd⟩:=F.ex;exact .all (h kV doc pm an cdv ct)
theorem Rz{x qual:Str}{st:Stmt}{f:Addr}{oc:Value}{od an:Option Addr}{osl:Array (Option Value)}{kV doc pm cdv ct:Value}(l:K.lookup f=some ⟨oc,od,.func (PySem.W.fnOf x qual (E9 st) (x9 st) (d7 st) .none kV doc pm an cdv ct),osl⟩)
 (c:PySem.W.codeIn K cdv qual=true) (k:PySem.W.keepIn K (.ref f)=true):Fun K x qual st f (PySem.W.fnOf x qual (E9 st) (x9 st) (d7 st) .none kV doc pm an cdv ct):=⟨⟨oc,od,kV,doc,pm,an,cdv,ct,osl,rfl,l,c⟩,k⟩
end
section
variable {X:Cx}
theorem pv(i:Nat){x:Str}{pos:Pos}(hN:X.N[i]?=some x:=by rfl)(hv:Vis X.env.scope x:=by first|exact Or.inl rfl|exact Or.inr (Or.inl rfl)|exact Or.inr (Or.inr rfl))(hd:(x==("__debug__" : Str))=false:=by decide)
 (hcd:(x==("__classdict__" : Str))=false:=by decide):PE X (.Name x pos) (tVar i):=Ep hN hv hd hcd
end
def Same(H H':Hp):Prop:=∀ b o,H b=some o->H' b=some o
theorem Same.refl(H:Hp):Same H H:=λ_ _ h=>h
theorem Same.trans{H H1 H2:Hp}(a:Same H H1)(b:Same H1 H2):Same H H2:=λc o h=>b c o (a c o h)
theorem Same.free{H H':Hp}(e:Same H H'){l:Addr}(h:H' l=Option.none):H l=Option.none:=by
 cases q:H l with
 | none=>rfl
 | some o =>
  rw[e l o q]at h;cases h
theorem Same.seq{K:aE}{H H':Hp}{a:Addr}{xs:List V}(e:Same H H')(h:SqL K H a xs):SqL K H' a xs:=by
 rcases h with(h|⟨o,h⟩)|h
 · exact .inl (.inl (e _ _ h))
 · exact .inl (.inr ⟨o,e _ _ h⟩)
 · exact .inr h
end L2

end
section
namespace L2
open PySem PySem.Spec PyProof.Rows
theorem RA{x:Str}{lo:Nat}:∀(names:List (Str×NameKind)) (n:Nat) (acc:List (Str×Addr)) (c:Addr),lo<=n->(∀ c,acc.lookup x=some c->lo<=c)->(cellsFrom n names acc).lookup x=some c->lo<=c
 | [],_,_,_,_,h,e=>h _ e
 | (y,k)::r,n,acc,c,hn,h,e=>by
  unfold cellsFrom at e;split at e
  · refine RA r (n+1) _ c (vF hn) (λc' e'=>?_) e;rw[wG]at e';split at e'
    · cases e';exact hn
    · exact h c' e'
  · exact RA r n acc c hn h e
theorem LN{x:Str}:∀(names:List (Str×NameKind)) (n:Nat) (acc:List (Str×Addr)) (c:Addr),names.lookup x=some .cell->(cellsFrom n names acc).lookup x=some c->n<=c
 | [],_,_,_,h,_=>by cases h
 | (y,k)::r,n,acc,c,h,e=>by
  rw[wG]at h;unfold cellsFrom at e;cases hb:x==y with
  | true =>
   rw[hb]at h;have hk:k = .cell:=by cases h;rfl
   subst hk;rw[if_pos (show(NameKind.cell==NameKind.cell)=true from rfl)]at e;refine RA r (n+1) _ c (Nat.le_succ _) (λc' e'=>?_) e;rw[wG,hb]at e';cases e';exact wf _
  | false =>
   rw[hb]at h;split at e
   · exact WV (LN r (n+1) _ c h e)
   · exact LN r n acc c h e
theorem LO{x:Str}:∀(names:List (Str×NameKind)) (n:Nat) (acc:List (Str×Addr)),(∀ y∈names,y.1=x->y.2 ≠ .cell)->(cellsFrom n names acc).lookup x=acc.lookup x
 | [],_,_,_=>rfl
 | (y,k)::r,n,acc,h=>by
  unfold cellsFrom;have hr:∀ y∈r,y.1=x->y.2 ≠ .cell:=λz hz=>h z (wb _ hz);split
  · rename_i hk;rw[LO r (n+1) _ hr,wG];have hne:(x==y)=false:=by
     cases hb:x==y with
     | false=>rfl
     | true=>exact absurd (beq_iff_eq.mp hk) (h (y,k) wc (beq_iff_eq.mp hb).symm)
    rw[hne]
  · exact LO r n acc hr
theorem LP:∀(names:List (Str×NameKind)) (n:Nat) (acc:List (Str×Addr)) (p:Str×Addr),p∈cellsFrom n names acc->n<=p.2\/p∈acc
 | [],_,_,_,e => .inr e
 | (y,k)::r,n,acc,p,e=>by
  unfold cellsFrom at e;split at e
  · rcases LP r (n+1) _ p e with q|q
    · exact .inl (WV q)
    · rcases wn.mp q with q|q
      · subst q;exact .inl (wf _)
      · exact .inr q
  · exact LP r n acc p e
theorem Ew:∀(names:List (Str×NameKind)) (n:Nat) (acc:List (Str×Addr)),(∀ p∈acc,p.2<n)->(acc.Pairwise λx y=>x.2≠y.2)->(cellsFrom n names acc).Pairwise λx y=>x.2≠y.2
 | [],_,_,_,h=>h
 | (y,k)::r,n,acc,hl,h=>by
  unfold cellsFrom;split
  · refine Ew r (n+1) _ (λp hp=>?_) (wU.mpr ⟨λp hp e=>?_,h⟩)
    · rcases wn.mp hp with q|q
      · subst q;exact wR _
      · exact Nat.lt_succ_of_lt (hl p q)
    · have e':n=p.2:=e;have q:=hl p hp;rw[←e']at q;exact absurd q (wT _)
  · exact Ew r n acc hl h
theorem Ex:∀(names:List (Str×NameKind)) (n:Nat) (acc:List (Str×Addr)),cellsFrom n names acc=cellsFrom n names []++acc
 | [],_,_=>rfl
 | (y,k)::r,n,acc=>by
  unfold cellsFrom;split
  · rw[Ex r (n+1) ((y,n)::acc),Ex r (n+1) [(y,n)],We];rfl
  · exact Ex r n acc
def r9(env:Env):List (Str×NameKind)->List (Str×Addr)->List (Str×Addr)
 | [],acc=>acc
 | (y,k)::r,acc=>if k == .free then r9 env r (match env.cells.lookup y with|some c=>(y,c)::acc|none=>acc) else r9 env r acc
theorem Q9{env:Env}{x:Str}:∀(names:List (Str×NameKind)) (acc:List (Str×Addr)),(∀ c,acc.lookup x=some c->env.cells.lookup x=some c)->∀ c,(r9 env names acc).lookup x=some c->env.cells.lookup x=some c
 | [],_,h=>h
 | (y,k)::r,acc,h=>by
  unfold r9;split
  · refine Q9 r _ λc e=>?_;cases hy:env.cells.lookup y with
    | none=>rw[hy]at e;exact h c e
    | some d =>
     rw[hy]at e;dsimp only at e;rw[wG]at e;split at e
     · rename_i hb;cases e;rw[beq_iff_eq.mp hb];exact hy
     · exact h c e
  · exact Q9 r acc h
theorem AM{env:Env}:∀(names:List (Str×NameKind)) (acc:List (Str×Addr)) (p:Str×Addr),p∈r9 env names acc->p∈acc\/env.cells.lookup p.1=some p.2
 | [],_,_,h => .inl h
 | (y,k)::r,acc,p,h=>by
  unfold r9 at h;split at h
  · rcases AM r _ p h with q|q
    · cases hy:env.cells.lookup y with
      | none=>rw[hy]at q;exact .inl q
      | some d =>
       rw[hy]at q;rcases wn.mp q with q|q
       · subst q;exact .inr hy
       · exact .inl q
    · exact .inr q
  · exact AM r acc p h
theorem U2{env:Env}{x:Str}:∀(names:List (Str×NameKind)) (acc:List (Str×Addr)),(acc.lookup x).isSome=true->((r9 env names acc).lookup x).isSome=true
 | [],_,h=>h
 | (y,k)::r,acc,h=>by
  unfold r9;split
  · refine U2 r _ ?_;cases hy:env.cells.lookup y with
    | none=>exact h
    | some d =>
     show(List.lookup x ((y,d)::acc)).isSome=true;rw[wG];split
     · rfl
     · exact h
  · exact U2 r acc h
theorem AN{env:Env}{x:Str}{c:Addr}:∀(names:List (Str×NameKind)) (acc:List (Str×Addr)),names.lookup x=some .free->env.cells.lookup x=some c->((r9 env names acc).lookup x).isSome=true
 | [],_,h,_=>by cases h
 | (y,k)::r,acc,h,hc=>by
  rw[wG]at h;unfold r9;cases hb:x==y with
  | true =>
   rw[hb]at h;have hk:k = .free:=by cases h;rfl
   subst hk;rw[if_pos (show(NameKind.free==NameKind.free)=true from rfl)];refine U2 r _ ?_;have hxy:x=y:=beq_iff_eq.mp hb;subst hxy;rw[hc];show(List.lookup x ((x,c)::acc)).isSome=true;rw[wG,hb];rfl
  | false =>
   rw[hb]at h;split
   · exact AN r _ h hc
   · exact AN r _ h hc
theorem AO{env:Env}:∀(names:List (Str×NameKind)) (acc:List (Str×Addr)) (f:Str×NameKind->List (Str×Addr)->Sem (ForInStep (List (Str×Addr)))),
  (∀ name kind cs,f (name,kind) cs=if kind == .free then(do let a ←cellOf env name;pure (.yield ((name,a)::cs))) else pure (.yield cs)) ->
  (∀ y∈names,y.2 = .free->∃ c,env.cells.lookup y.1=some c)->forIn names acc f=(pure (r9 env names acc):Sem _)
 | [],acc,f,hf,h=>by rw[WM];rfl
 | (y,k)::r,acc,f,hf,h=>by
  have hr:∀ z∈r,z.2 = .free->∃ c,env.cells.lookup z.1=some c:=λz hz=>h z (wb _ hz);rw[WT,hf];unfold r9;by_cases hk:(k==NameKind.free)=true
  · rw[if_pos hk,if_pos hk];obtain⟨c,hc⟩:=h (y,k) wc (beq_iff_eq.mp hk);have hc':env.cells.lookup y=some c:=hc;have e:cellOf env y=(pure c:Sem Addr):=by unfold cellOf;rw[hc']
    rw[e,hc'];simp only[pure_bind];exact AO r _ f hf hr
  · rw[if_neg hk,if_neg hk];simp only[pure_bind];exact AO r _ f hf hr
theorem LQ{scope:Scope}{env:Env}(h:∀ y∈scope.names,y.2 = .free->∃ c,env.cells.lookup y.1=some c):closureFor scope env=pure (r9 env scope.names []):=by
 unfold closureFor;simp only[];rw[AO scope.names [] _ (λname kind cs=>by cases hk:kind==NameKind.free<;>simp[hk]) h];rfl
end L2

end
section
namespace L2
open PySem
section
variable {prog:Program}{w:World}{A:Around}{R:Result->Shared->Prop}{s:Shared}
theorem IC{elt target iter:Expr}{ifs:List Expr}{scope:Scope}{pos:Pos}{it acc:Value}{env:Env}(I:Nat->Shared->Prop)
  (turn:∀ n s,I n s→wpAny (model prog w) A (pyNext it) (fun r s₁=>match r with
   | none=>R (.ok .next) s₁
   | some v=>wpAny (model prog w) A (letOwnedTupleGo target it v) (fun _ s₁'=>wpAny (model prog w) A (assign target env v) (fun _ s₂ =>
    wpAny (model prog w) A (forIn ifs true λc r=>if r=true then do let ok ←isTrue c env (eval c env);pure (ForInStep.yield ok) else pure (ForInStep.yield r)) (λok s₃ =>
     if ok=true then wpAny (model prog w) A (eval elt env) (λx s₄ =>
      wpAny (model prog w) A (call (.builtin "list.append") [acc,x]) (λ_ s₅=>∃ m,m<n/\I m s₅) (notedBy (model prog w) A env λe s'=>R (.error e) s') s₄) (notedBy (model prog w) A env λe s'=>R (.error e) s') s₃
     else ∃ m,m<n/\I m s₃) (notedBy (model prog w) A env λe s'=>R (.error e) s') s₂) (notedBy (model prog w) A env λe s'=>R (.error e) s') s₁')
    (notedBy (model prog w) A env λe s'=>R (.error e) s') s₁) (notedBy (model prog w) A env λe s'=>R (.error e) s') s)
  (n:Nat) (h:I n s) :
  codeAny (model prog w) A (.compLoop (.ListComp elt [⟨target,iter,ifs,0⟩] scope pos) 0 it acc env) R s:=by
 refine codeAny_loop rfl I (λn s hI=>?_) n h;show wpAny _ A ((compTurn (.ListComp elt [⟨target,iter,ifs,0⟩] scope pos) 0 it acc env).onRaise (λx=>do noteFrame x env;theTreesLotGoes x)) _ _ s;refine wpAny_noted ?_;rw[compTurn_list];refine wpAny_bind (wpAny_standAt (wpAny_bind (wpAny_mono (turn n s hI) (λr s₁ h₁=>?_) λ_ _ h'=>h')));cases r with
 | none=>exact wpAny_pure h₁
 | some v =>
  refine wpAny_bind (wpAny_mono h₁ (λ_ s₁' h₁'=>?_) λ_ _ h'=>h');refine wpAny_bind (wpAny_mono h₁' (λ_ s₂ h₂=>wpAny_bind (wpAny_mono h₂ (λok s₃ h₃=>?_) λ_ _ h'=>h')) λ_ _ h'=>h');cases ok with
  | false=>exact wpAny_pure ⟨rfl,h₃⟩
  | true =>
   exact wpAny_bind (wpAny_bind (wpAny_mono h₃ (λx s₄ h₄=>wpAny_bind (wpAny_mono h₄ (λ_ s₅ h₅=>wpAny_pure (wpAny_pure ⟨rfl,h₅⟩)) λ_ _ h'=>h')) λ_ _ h'=>h'))
theorem RB{M:Model}{E:aC}{scope:Scope}{globals:Addr}{cl:List (Str×Addr)}{qual:Str}{func:Option Addr}{code:Value}{env:Env}{Q:Env->Shared->Prop}
  (hQ:∀ h',h'.Ns s.heap.objs.size (fun _=>none)→(∀ b o,s.heap.get? b=some o→h'.get? b=some o)→(∀ n c,(n,c)∈cellsFrom (s.heap.objs.size+1) scope.names []→h'.IsCell c none) →
   Q (newEnv scope s.heap.objs.size globals (cellsFrom (s.heap.objs.size+1) scope.names cl) qual func code (some env) builtinsNs) { s with heap:=h' }) :
  wpAny M A (newFunctionEnv scope globals cl [] qual func code (some env)) Q E s:=by
 simp only[newFunctionEnv,ut,if_true];refine wpAny_bind (wpAny_alloc ?_);refine wpAny_bind (wpAny_layCells _ (λname kind cells=>by cases hkc:kind==NameKind.cell<;>simp[hkc]) _ _ _ _ ?_);have ok:=cellsFrom_ok scope.names (s.heap.push { cls := .type "dict",data := .dict #[] }) (s.heap.objs.size+1) [] ⟨λ_ _ hm=>(nomatch hm),List.Pairwise.nil⟩ (by rw[Wn];exact wf _);rw[Wn]at ok;rw[show({ s with heap:=s.heap.push { cls := .type "dict",data := .dict #[] } }:Shared).heap.objs.size=s.heap.objs.size+1 from Wn ..];refine wpAny_bind ?_;rw[WM];refine wpAny_pure (wpAny_pure ?_);exact hQ _ ((Heap.Ns.new s.heap (.type "dict")).keeps (pushCells_keeps _ _)) (λb o e=>pushCells_keeps _ _ b o (wd _ e)) λn c hm=>(ok.empty n c hm).1
end
end L2

end
section
namespace L2
open PySem PySem.Spec PyProof.Rows
def w6(X:Cx)(N:List Str)(scope:Scope)(cl:List (Str×Addr))(C:Addr)(fp:List Addr)(s:Shared)(H:Hp):Cx where
 prog:=X.prog
 w:=X.w
 K:=X.K
 mg:=X.mg
 base:=X.base
 A:=X.A
 N:=N
 s₀:=s
 H₀:=H
 env:=compEnvC scope cl C X.env
 outer:=X.stack
 stack:=X.stack
 ex:=fp
 fn:=λx=>scope.names.lookup x==some .cell
 calm:=X.calm
 pn:=[]
 xe:=λ_ _=>False
structure CompScope(X:Cx)(N:List Str)(scope:Scope)(nt:Nat)(js:List Nat):Prop where
 kind:scope.kind = .function
 nd:(scope.names.map (·.1)).Nodup
 loc:∀ x∈scope.names,x.2 = .local->scope.names.lookup x.1=some .local
 len:N.length=nt+js.length
 names:∀ k j,js[k]?=some j->∃ x,N[nt+k]?=some x/\X.N[j]?=some x/\scope.names.lookup x=some .free
 fre:∀ x∈scope.names,x.2 = .free->X.env.kindOf x.1=some .cell\/X.env.kindOf x.1=some .free
def sig(nt:Nat)(js:List Nat)(σ:St):St:=List.replicate nt none++js.map λj=>(σ[j]?).join
def PTs(X:Cx)(ifs:List Expr)(t:TT):Prop :=
 ∀(π:aB) (s:Shared) (σ:St) (H:Hp) (Q:Bool->Hp->Prop),Inv X π σ H s->t σ H Q ->
  wpAny (model X.prog X.w) X.A (forIn ifs true λc r=>if r=true then do let ok ←isTrue c X.env (eval c X.env);pure (ForInStep.yield ok) else pure (ForInStep.yield r)) (TP X π σ Q) X.xe s
def tYes:TT:=λ_ H Q=>Q true H
theorem Va{X:Cx}:PTs X [] tYes:=λπ s σ H Q I h=>wpAny_tests_nil ⟨H,I,h⟩
theorem Vb{X:Cx}{c:Expr}{t:TT}(hc:PT X c t):PTs X [c] t:=λπ s σ H Q I h=>wpAny_tests_one (hc π s σ H Q I h)
theorem nlt{a b:Nat}(h1:a+1<=b)(h2:b<a):False:=by rfl'
theorem M1{α:Type}:∀{l:List (Str×α)} {p:Str×α},(l.map (·.1)).Nodup->p∈l->l.lookup p.1=some p.2
 | [],_,_,h=>by cases h
 | (y,k)::r,p,nd,h=>by
  have nd:(y::r.map (·.1)).Nodup:=nd;obtain⟨n1,n2⟩:=wV.mp nd;rw[wG];rcases wn.mp h with e|e
  · subst e;show(match y==y with|true=>some k|false=>_)=some k;rw[beq_self_eq_true]
  · cases hb:p.1==y with
    | true =>
     rw[←beq_iff_eq.mp hb]at n1;exact absurd (wg.mpr ⟨p,e,rfl⟩) n1
    | false=>exact M1 n2 e
theorem Y1{env:Env}{x:Str}:∀{names:List (Str×NameKind)} {k:NameKind},names.lookup x=some k ->
  (names.map λ(n,k)=>if(k==NameKind.free&&env.scope.kind == .function&&env.kindOf n==some .cell) then(n,NameKind.cell) else(n,k)).lookup x=some (if(k==NameKind.free&&env.scope.kind == .function&&env.kindOf x==some .cell)=true then .cell else k)
 | [],_,h=>by cases h
 | (y,k')::r,k,h=>by
  rw[wG]at h;show List.lookup x ((if(k'==NameKind.free&&env.scope.kind == .function&&env.kindOf y==some .cell)=true then(y,NameKind.cell) else(y,k'))::_)=_;cases hb:x==y with
  | true =>
   rw[hb]at h;have hk:k'=k:=by cases h;rfl
   have hxy:x=y:=beq_iff_eq.mp hb;subst hk;subst hxy;split<;>(rw[wG];rw[hb])
  | false =>
   rw[hb]at h;have ih:=@Y1 env x r k h;split<;>(rw[wG];rw[hb];exact ih)
theorem U3{env:Env}{x:Str}{k:NameKind}:∀{names:List (Str×NameKind)},
  (names.map λ(n,k)=>if(k==NameKind.free&&env.scope.kind == .function&&env.kindOf n==some .cell) then(n,NameKind.cell) else(n,k)).lookup x=some k->∃ k',names.lookup x=some k'/\(k=k'\/(k' = .free/\k = .cell))
 | [],h=>by cases h
 | (y,k')::r,h=>by
  have h:List.lookup x ((if(k'==NameKind.free&&env.scope.kind == .function&&env.kindOf y==some .cell)=true then(y,NameKind.cell) else(y,k'))::r.map λ(n,k)=>if(k==NameKind.free&&env.scope.kind == .function&&env.kindOf n==some .cell) then(n,NameKind.cell) else(n,k))=some k:=h;rw[wG];cases hb:x==y with
  | true =>
   split at h
   · rename_i hc;rw[wG,hb]at h;have hf:(k'==NameKind.free)=true:=by
      rw[wE,wE]at hc;exact hc.1.1
     cases h;exact⟨k',rfl,.inr ⟨beq_iff_eq.mp hf,rfl⟩⟩
   · rw[wG,hb]at h;cases h;exact⟨k,rfl,.inl rfl⟩
  | false =>
   split at h
   all_goals
     rw[wG,hb]at h;exact U3 h
section
variable {X:Cx}{N:List Str}{scope:Scope}{nt:Nat}{js:List Nat}{π:aB}{σ:St}{H:Hp}{s:Shared}{fp:List Addr}
theorem RC{s2:Shared}{H2:Hp}(S:CompScope X N scope nt js)(I2:Inv X π σ H2 s2)(I:Inv X π σ H s)(hu:Un (frs X.stack) fp H2 H s2.heap s.heap)(hos:s.os=s2.os)(hz:s2.heap.objs.size<=s.heap.objs.size)
   (hf:∀ b∈fp,FpOk X π H b) (ho:∀ b∈fp,∃ o,s.heap.get? b=some o) {h':Heap}
   (ns:h'.Ns s.heap.objs.size (λ_=>none)) (k:∀ b o,s.heap.get? b=some o->h'.get? b=some o) (nc:∀ n c,(n,c)∈cellsFrom (s.heap.objs.size+1) scope.names []->h'.IsCell c none) :
   Inv (w6 X N scope (cellsFrom (s.heap.objs.size+1) scope.names (r9 X.env scope.names [])) s.heap.objs.size fp s2 H2) [] (sig nt js σ) H { s with heap:=h' }:=by
 have ok:=I.ok;have hcl:∀ p∈r9 X.env scope.names [],X.env.cells.lookup p.1=some p.2:=λp hp=>(AM _ _ p hp).resolve_left (by simp);have hlt:∀ x c,X.env.cells.lookup x=some c->c<s.heap.objs.size:=λx c e=>by
   obtain⟨v,o,ho,_⟩:=I.cell x c e;exact wo ho
 have mem:∀ x c,(cellsFrom (s.heap.objs.size+1) scope.names (r9 X.env scope.names [])).lookup x=some c->s.heap.objs.size+1<=c\/X.env.cells.lookup x=some c:=λx c e=>by
   rcases LP _ _ _ _ (PySem.mem_of_lookup e)with q|q
   · exact .inl q
   · exact .inr (hcl _ q)
 have frec:∀ x,scope.names.lookup x=some .free->∃ c,X.env.cells.lookup x=some c/\(cellsFrom (s.heap.objs.size+1) scope.names (r9 X.env scope.names [])).lookup x=some c:=λx hx=>by
   obtain⟨c,hc⟩:=ok.has x (S.fre (x,.free) (PySem.mem_of_lookup hx) rfl);refine⟨c,hc,?_⟩;rw[LO _ _ _ λy hy e=>?_]
   · obtain⟨d,hd⟩:=WS.mp (AN (env:=X.env) scope.names [] hx hc);have:=Q9 (env:=X.env) (x:=x) scope.names [] (λc e=>by simp at e) d hd;rw[hc]at this;cases this;exact hd
   · have q:=M1 S.nd hy;rw[e,hx]at q;intro z;rw[z]at q;cases q
 refine⟨⟨ok.mod,S.kind,ok.glob,ok.blt,hz,λx y c hx hy=>?_,λx hx=>?_,λx c hx e=>?_,ok.hd,ok.frames,.inl rfl,λb hb=>⟨?_,λx c e=>?_⟩,λb o e=>?_,?_,λb o e hb=>?_,λb hb=>?_,I2.stack,I2.stkFree⟩,
   hos,I.bare,hu.trans (Un.kept k),⟨_,ns,λi x v h1 h2 h3=>?_⟩,λx c e=>?_,?_,λx c e=>?_,λp hp=>absurd (show p∈([]:aB)from hp) (by simp),I.hok.kept k,?_⟩
 ·
   rcases mem x c hx with q|q
   · rcases mem y c hy with q'|q'
     · have in1:∀ z:Str,(z,c)∈cellsFrom (s.heap.objs.size+1) scope.names (r9 X.env scope.names [])->(z,c)∈cellsFrom (s.heap.objs.size+1) scope.names []:=λz hz=>by
         rw[Ex]at hz;rcases wl.mp hz with hz|hz
         · exact hz
         · exact(nlt q (hlt _ _ (hcl _ hz))).elim
       exact name_of_addr (Ew scope.names (s.heap.objs.size+1) [] (λp hp=>by simp at hp) List.Pairwise.nil) (in1 x (PySem.mem_of_lookup hx)) (in1 y (PySem.mem_of_lookup hy))
     · exact(nlt q (hlt _ _ q')).elim
   · rcases mem y c hy with q'|q'
     · exact(nlt q' (hlt _ _ q)).elim
     · exact ok.inj x y c q q'
 ·
   have hx:(relabel scope X.env).names.lookup x=some .cell\/(relabel scope X.env).names.lookup x=some .free:=hx;have cs:scope.names.lookup x=some .cell\/scope.names.lookup x=some .free:=by
     rcases hx with q|q
     · obtain⟨k',e1,e2⟩:=U3 q;rcases e2 with e2|⟨e2,_⟩
       · rw[←e2]at e1;exact .inl e1
       · rw[e2]at e1;exact .inr e1
     · obtain⟨k',e1,e2⟩:=U3 q;rcases e2 with e2|⟨_,e2⟩
       · rw[←e2]at e1;exact .inr e1
       · cases e2
   rcases cs with q|q
   · exact WS.mp (PySem.W.cellsFrom_some scope.names _ _ (.inl q))
   · obtain⟨c,_,e⟩:=frec x q;exact⟨c,e⟩
 ·
   have hx:(scope.names.lookup x==some .cell)=true:=hx;exact wB hz (WV (LN scope.names _ _ c (beq_iff_eq.mp hx) e))
 ·
   intro e;obtain⟨o,hb'⟩:=ho b hb;exact absurd (wo hb') (by rw[e];exact wT _)
 · rcases mem x c e with q|q
   · intro z;obtain⟨o,hb'⟩:=ho b hb;have:=wo hb';rw[←z]at this;exact nlt q this
   · exact(hf b hb).2.2.2.2.1 x c q
 · exact I2.bs b o e
 · exact wB ok.bsz I2.sz
 ·
   rcases(hf b hb).2.2.2.1 with q|q
   · exact ok.noex b o e q
   · exact absurd (wt (wo e) (wB ok.bsz q)) (wT _)
 ·
   intro z;rcases wn.mp (I.stkSub b z)with q|q
   · exact(hf b hb).2.1 q
   · exact(hf b hb).2.2.1 q
 ·
   have hi:nt<=i:=by
     by_cases hi:i<nt
     · unfold sig at h2;rw[wL (by simpa using hi),wQ]at h2;split at h2<;>cases h2
     · rfl'
   unfold sig at h2;rw[wN (by simpa using hi),Wj,wq]at h2;cases ej:js[i-nt]? with
   | none=>rw[ej]at h2;cases h2
   | some j =>
     rw[ej]at h2;have h2:(σ[j]?).join=some v:=Option.some.inj h2;obtain⟨y,n1,n2,n3⟩:=S.names _ _ ej;have hxy:x=y:=by
       have e:nt+(i-nt)=i:=by rfl'
       rw[e]at n1;have h1:N[i]?=some x:=h1;rw[h1]at n1;exact Option.some.inj n1
     subst hxy;have h2':σ[j]?=some (some v):=by
       cases eσ:σ[j]? with
       | none=>rw[eσ]at h2;cases h2
       | some a =>
         rw[eσ]at h2;have h2:a=some v:=h2;rw[h2]
     obtain⟨m,hn,hl⟩:=I.loc;have kd:=S.fre (x,.free) (PySem.mem_of_lookup n3) rfl;obtain⟨u,ru,lk⟩:=hl j x v n2 h2' (.inr kd);refine⟨u,ru,?_⟩;obtain⟨c,c1,c2⟩:=frec x n3;rcases lk with⟨z,_⟩|⟨_,d,d1,d2⟩
     · have kd':X.env.kindOf x=some .cell\/X.env.kindOf x=some .free:=kd;rw[z]at kd';rcases kd' with q|q<;>cases q
     · rw[c1]at d1;cases d1;refine .inr ⟨?_,c,c2,d2.keeps k⟩;have:=Y1 (env:=X.env) n3;show(relabel scope X.env).names.lookup x=some .cell\/(relabel scope X.env).names.lookup x=some .free;unfold relabel;dsimp only;rw[this];split
       · exact .inl rfl
       · exact .inr rfl
 ·
   have e:(cellsFrom (s.heap.objs.size+1) scope.names (r9 X.env scope.names [])).lookup x=some c:=e;have hm:=PySem.mem_of_lookup e;rw[Ex]at hm;rcases wl.mp hm with q|q
   · exact⟨none,nc x c q⟩
   · obtain⟨v,hv⟩:=I.cell x c (hcl _ q);exact⟨v,hv.keeps k⟩
 · exact I.hok.fresh (wf _)
 · rcases mem x c e with q|q
   · exact I.hok.fresh (WV q)
   · exact I.freeC x c q
 · show(sig nt js σ).length=N.length;unfold sig;rw[ww,Wj,we,S.len]
end
end L2

end
section
namespace L2
open PySem PySem.Spec PyProof.Rows
def Pe(nt:Nat)(js:List Nat)(wi:TI)(g:TG)(tc:Hp->TT)(te:Hp->TE):TE:=λσ H Q=>wi σ H λJ H1=>∀ D,H1 D=none ->
 ∃ W:Nat→Nat→List V→Hp→Prop,(∃ m,W 0 m [] (upd H1 D (.lst [])))∧∀ i m ys H,W i m ys H →
  (J.stop i H∧Q (.ref D) H)∨(J.go i H∧∀ x H',J.yld i H x H'→g x (sig nt js σ) H' fun σ2 H2=>tc H1 σ2 H2 fun b H3 =>
   if b=true then te H1 σ2 H3 λv H4=>H4 D=some (.lst ys)/\ys.length<sizeLine/\∃ m',m'<m/\W (i+1) m' (ys++[v]) (upd H4 D (.lst (ys++[v])))
   else ∃ m',m'<m/\W (i+1) m' ys H3)
section
variable {X:Cx}{N:List Str}{scope:Scope}{nt:Nat}{js:List Nat}{tg elt iter:Expr}{ifs:List Expr}{wi:TI}{g:TG}{tc:Hp->TT}{te:Hp->TE}{pos:Pos}
theorem RD{σ σ2:St}(hl:σ2.length=(sig nt js σ).length)(h:∀ i,nt<=i->σ2[i]?=(sig nt js σ)[i]?):∀(i:Nat) v,(sig nt js σ)[i]?=some (some v)->σ2[i]?=some (some v):=λi v e=>by
 by_cases hi:nt<=i
 · rw[h i hi];exact e
 · unfold sig at e;rw[wL (by rw[Wj];rfl'),wQ]at e;split at e<;>cases e
def TgOk(nt:Nat)(g:TG):Prop:=∀ x σ H (Q:St->Hp->Prop),g x σ H Q->g x σ H λσ2 H2=>(σ2.length=σ.length/\∀ i,nt<=i->σ2[i]?=σ[i]?)/\Q σ2 H2
theorem JK(S:CompScope X N scope nt js)(hc:X.calm=true)(hi:PI X tg iter wi)
  (hg:∀ cl C fp s H,PG (w6 X N scope cl C fp s H) tg g) (ht:TgOk nt g) (hcs:∀ cl C fp s H,PTs (w6 X N scope cl C fp s H) ifs (tc H)) (he:∀ cl C fp s H,PE (w6 X N scope cl C fp s H) elt (te H))
  {use:Option (Value->Sem Unit)} {π:aB} {s:Shared} {σ:St} {H:Hp} {Q:VK} {Q':aC} (I:Inv X π σ H s) (h:Pe nt js wi g tc te σ H Q)
  (hs:∀ x,foldedSetIterable iter X.env x=pure x)
  (fin:∀(D C:Addr) (H':Hp) (s':Shared),Inv X π σ H' s'->Q (.ref D) H'->H' C=none->C≠X.env.locals->(X.s₀.heap.objs.size<=C)->(∀ x c,X.env.cells.lookup x=some c->c≠C)->(∀ p∈X.pn++π,p.1≠C)->(∃ m,s'.heap.Ns C m) ->
    compPost (model X.prog X.w) X.A X.xe use Q' (.ref D) C (.ok .next) s') :
  wpAny (model X.prog X.w) X.A (comprehension (.ListComp elt [⟨tg,iter,ifs,0⟩] scope pos) scope X.env (firstIterPos [⟨tg,iter,ifs,0⟩] pos) (newList []) false (eval iter X.env) use) Q' X.xe s:=by
 have clo:closureFor scope X.env=pure (r9 X.env scope.names []):=LQ λy hy e=>I.ok.has y.1 (S.fre y hy e);refine wpAny_comprehension_free (cl:=r9 X.env scope.names []) rfl hs clo S.kind S.loc (thn (hi π s σ H _ I h) λxv s1 h1=>thn h1 λitv s2 h2=>?_);obtain⟨it,fp,tn,J,H2,rfl,I2,T,st2,f2,q2⟩:=h2;refine wpAny_newObj_type (hd:=by size_fits) ?_;have fresh2:H2 s2.heap.objs.size=none:=I2.fresh;have I3:=I2.lnew (ys:=[]) (its:=[]) (t':=s2.toks) .nil (wx _);obtain⟨W,⟨m0,w0⟩,turn⟩:=q2 s2.heap.objs.size fresh2;have ltf:∀ b∈fp,b<s2.heap.objs.size:=λb hb=>by
  obtain⟨o,e,_⟩:=T.obj 0 _ st2 b hb;exact wo e
 have ned:∀ b∈fp,b≠s2.heap.objs.size:=λb hb=>wJ (ltf b hb);have f3:∀ b∈fp,FpOk X π (upd H2 s2.heap.objs.size (.lst [])) b:=λb hb=>⟨by rw[i6 (ned b hb)];exact(f2 b hb).1,(f2 b hb).2⟩;generalize e3:({ s2 with heap:=s2.heap.push { cls := .type "list",dict:=none,data := .seq ([]:aG).toArray } }:Shared)=s3 at *;have k3:∀ b o,s2.heap.get? b=some o->s3.heap.get? b=some o:=λb o e=>by rw[←e3];exact wd _ e
 have os3:s3.os=s2.os:=by rw[←e3]
 have sz3:s2.heap.objs.size<s3.heap.objs.size:=by rw[←e3];show _<(s2.heap.push _).objs.size;rw[Wn];exact wR _
 refine RB λh4 ns4 k4 nc4=>?_;have I4:=RC S I2 I3 (Un.laid k3 (wf _) fresh2) os3 (Ws sz3) f3 (λb hb=>by obtain⟨o,e,_⟩:=T.obj 0 _ st2 b hb;exact⟨o,k3 b o e⟩) ns4 k4 nc4;have st4:tn 0 h4:=T.keep _ _ _ st2 λb _ o e=>k4 b o (k3 b o e);generalize eC:s3.heap.objs.size=C at *;have stat:∀{H':Hp},(∀ b∈fp,H' b=none)->∀ b∈fp,FpOk (w6 X N scope (cellsFrom (C+1) scope.names (r9 X.env scope.names [])) C fp s2 H2) [] H' b:=λhn b hb =>
  ⟨hn b hb,(I4.ok.exf b hb).1,I4.ok.exfs b hb,.inl hb,(I4.ok.exf b hb).2,λp hp=>absurd (show p∈([]:aB)from hp) (by simp)⟩
 have loop:∀ s4:Shared,s4={ s3 with heap:=h4 }→codeAny (model X.prog X.w) X.A (.compLoop (.ListComp elt [⟨tg,iter,ifs,0⟩] scope pos) 0 (.ref it) (.ref s2.heap.objs.size) (compEnvC scope (cellsFrom (C+1) scope.names (r9 X.env scope.names [])) C X.env))
    (compPost (model X.prog X.w) X.A X.xe use Q' (.ref s2.heap.objs.size) C) s4:=by
  rintro s4 rfl;refine IC (λn s'=>∃ i ys H',Inv (w6 X N scope (cellsFrom (C+1) scope.names (r9 X.env scope.names [])) C fp s2 H2) [] (sig nt js σ) H' s'/\tn i s'.heap/\(∀ b∈fp,H' b=none)/\W i n ys H') ?_ m0
    ⟨0,[],_,I4,st4,λb hb=>(f3 b hb).1,w0⟩
  rintro n s5 ⟨i,ys,H5,I5,st5,fr5,w5⟩;rcases turn i n ys H5 w5 with⟨stop,q⟩|⟨go,step⟩
  · refine wpAny_mono (T.done (w6 X N scope (cellsFrom (C+1) scope.names (r9 X.env scope.names [])) C fp s2 H2) rfl rfl rfl hc i [] s5 _ H5 _ I5 (stat fr5) st5 stop) (λr s6⟨hr,I6⟩=>?_) λ_ _ z=>z;subst hr;have u:Un (frs X.stack) fp H2 H5 s2.heap s6.heap:=I6.base;have J6:Inv X π σ H5 s6:=I2.call' I6.os u I6.hok I6.bare λb hb=>⟨(f2 b hb).2.2.2.1,(f2 b hb).2.1,(f2 b hb).2.2.2.2.1,(f2 b hb).2.2.2.2.2⟩;have hCs:s2.heap.objs.size<=C:=Ws sz3;refine fin _ C H5 s6 J6 q I6.free (λz=>?_) (wB I2.sz hCs) (λx c e z=>?_) (λp hp z=>?_) ?_
    · exact absurd I2.lt (by rw[←z];exact w00.mpr hCs)
    · obtain⟨v,o,ho,_⟩:=I2.cell x c e;exact absurd (wo ho) (by rw[z];exact w00.mpr hCs)
    · exact absurd (wo (I2.pin p hp).1) (by rw[z];exact w00.mpr hCs)
    · obtain⟨m,hm,_⟩:=I6.loc;exact⟨m,hm⟩
  · refine wpAny_mono (T.item (w6 X N scope (cellsFrom (C+1) scope.names (r9 X.env scope.names [])) C fp s2 H2) rfl rfl rfl hc i [] s5 _ H5 _ I5 (stat fr5) st5 go) (λr s6⟨u,hr,h6⟩=>?_) λ_ _ z=>z;subst hr;refine wpAny_mono h6 (λ_ s7⟨x,H7,I7,r7,y7,st7,fr7⟩=>?_) λ_ _ z=>z;have I7':=I7.pinned (stat fr7) (T.obj _ _ st7);refine wpAny_mono (hg _ _ _ _ _ _ s7 _ H7 x u _ I7' r7 (ht _ _ _ _ (step x H7 y7))) (λ_ s8 ⟨σ8,H8,I8,⟨l8,o8⟩,q8⟩=>?_) λ_ _ z=>z.elim;have again:∀{s9:Shared} {H9:Hp} {ys9:List V},Inv (w6 X N scope (cellsFrom (C+1) scope.names (r9 X.env scope.names [])) C fp s2 H2) ([]++Er fp s7.heap) σ8 H9 s9->(∃ m',m'<n/\W (i+1) m' ys9 H9) ->
       ∃ m,m<n/\∃ i ys H',Inv (w6 X N scope (cellsFrom (C+1) scope.names (r9 X.env scope.names [])) C fp s2 H2) [] (sig nt js σ) H' s9/\tn i s9.heap/\(∀ b∈fp,H' b=none)/\W i m ys H':=λ{s9 H9 ys9} I9 ⟨m',hm,w9⟩=>by
      refine⟨m',hm,i+1,ys9,H9,I9.unpinned.weak l8.symm (RD l8 o8),T.keep _ _ _ st7 λb hb o e=>(I9.pin (b,o) (wz _ (wz _ (T9 hb e)))).1,λb hb=>?_,w9⟩;obtain⟨o,e,_⟩:=T.obj _ _ st7 b hb;exact(I9.pin (b,o) (wz _ (wz _ (T9 hb e)))).2.1
    refine wpAny_mono (hcs _ _ _ _ _ _ s8 σ8 H8 _ I8 q8) (λok s9⟨H9,I9,q9⟩=>?_) λ_ _ z=>z.elim;cases ok with
    | false =>
      rw[if_neg wD]at q9 ⊢;exact again I9 q9
    | true =>
      rw[if_pos rfl]at q9 ⊢;refine wpAny_mono (he _ _ _ _ _ _ s9 σ8 H9 _ I9 q9) (λy s10⟨v,H10,I10,r10,d10,l10,w10⟩=>?_) λ_ _ z=>z.elim;refine wpAny_mono (Ck (X:=w6 X N scope (cellsFrom (C+1) scope.names (r9 X.env scope.names [])) C fp s2 H2) _ s10 σ8 H10 (.ref s2.heap.objs.size) [v] (.ref s2.heap.objs.size) [y] (λz H'=>∃ m',m'<n/\W (i+1) m' (ys++[v]) H') I10 rfl (.cons r10 .nil) ⟨_,ys,v,rfl,rfl,d10,l10,w10⟩) (λ_ s11⟨_,H11,I11,_,w11⟩=>?_) λ_ _ z=>z.elim;exact again I11 w11
 exact codeAny_compStart_list (loop _ rfl) (T.self _ _ _ _ _ st4 (loop _ rfl))
theorem Vc(S:CompScope X N scope nt js)(hc:X.calm=true)(hi:PI X tg iter wi)
  (hg:∀ cl C fp s H,PG (w6 X N scope cl C fp s H) tg g) (ht:TgOk nt g) (hcs:∀ cl C fp s H,PTs (w6 X N scope cl C fp s H) ifs (tc H)) (he:∀ cl C fp s H,PE (w6 X N scope cl C fp s H) elt (te H))
  (hs:∀ x,foldedSetIterable iter X.env x=pure x:=by intro _;rfl):PE X (.ListComp elt [⟨tg,iter,ifs,0⟩] scope pos) (Pe nt js wi g tc te):=by
 intro π s σ H Q I h;rw[eval_ListComp];refine JK (use:=none) S hc hi hg ht hcs he I h hs ?_;rintro D C H' s' I' q hC hL hz hcl hpn ⟨m,hm⟩;exact⟨m,hm,λh' sb=>⟨.ref D,H',I'.turned (λb o hb e=>sb.extBut b o hb e) hC hL (.inr hz) hcl hpn,rfl,q⟩⟩
theorem Vd{i:Nat}{x:Str}{pos' spos:Pos}(hN:X.N.Nodup)(hix:X.N[i]?=some x)(hx:X.env.scope.names.lookup x=some .local)(S:CompScope X N scope nt js)(hc:X.calm=true)(hi:PI X tg iter wi)
  (hg:∀ cl C fp s H,PG (w6 X N scope cl C fp s H) tg g) (ht:TgOk nt g) (hcs:∀ cl C fp s H,PTs (w6 X N scope cl C fp s H) ifs (tc H)) (he:∀ cl C fp s H,PE (w6 X N scope cl C fp s H) elt (te H))
  (hsw:swapsWith (.ListComp elt [⟨tg,iter,ifs,0⟩] scope pos) (some (.Name x pos')) spos.line X.env=pure true)
  (hs:∀ x,foldedSetIterable iter X.env x=pure x:=by intro _;rfl):PS X (.Assign [.Name x pos'] (.ListComp elt [⟨tg,iter,ifs,0⟩] scope pos) spos) (tAsg (Pe nt js wi g tc te) (u5 i)):=by
 intro π s σ H D0 I h;rw[exec_Assign_Name_used _ _ _ _ hsw];refine wpAny_bind (wpAny_standAt (wpAny_bind ?_));show wpAny _ X.A (do let _ ←comprehension (.ListComp elt [⟨tg,iter,ifs,0⟩] scope pos) scope X.env _ (newList []) false (eval iter X.env) (some (assign (.Name x pos') X.env))) _ _ s;refine wpAny_bind (wpAny_mono (JK (use:=some (assign (.Name x pos') X.env)) (Q':=λ_ s'=>SP X π D0 .next s') S hc hi hg ht hcs he I h hs λD C H' s' I' q hC hL hz hcl hpn⟨m,hm⟩=>?_) (λ_ s' hq=>wpAny_pure (wpAny_pure hq)) λ_ _ e=>e);show wpAny _ X.A (assign (.Name x pos') X.env (.ref D)) _ _ s';refine wpAny_assign_Name (GK (v := .ref D) I' hN hix (.inl hx) rfl (λs'' I''⟨a,sb,ha⟩=>?_) (.inr hx));have hCa:C≠a:=by
  rintro rfl;rcases ha with ha|ha
  · exact hL ha
  · exact hcl x C ha rfl
 refine⟨m,hm.sameBut sb hCa,λh' sb'=>⟨_,H',I''.turned (λb o hb e=>sb'.extBut b o hb e) hC hL (.inr hz) hcl hpn,q⟩⟩
end
end L2

end
section
namespace L2
open PySem PySem.Spec PyProof.Rows
section
variable {X:Cx}
def CDivG(_ j:Int):Prop:=j≠0/\j.natAbs.log2<9000
theorem RE:OpR X (binaryOp .FloorDiv) (rI CDivG λi j => .int (i.fdiv j)):=opI λ_ _ _ _ _ _ _ hc q=>floordiv_int hc.1 q (.inl (PyProof.noPylong_of_log2 hc.2))
theorem ID{i:Int}{k:Nat}(h:i.natAbs<2 ^ k):Builtin.Int.intBits i<=k:=by
 unfold Builtin.Int.intBits;split
 · exact wx _
 · rename_i h0;have h1:i.natAbs≠0:=by
    intro e;apply h0;have:i=0:=uv.mp e;subst this;rfl
   exact Nat.succ_le_of_lt ((uM h1).mpr h)
theorem pe_ty{x:Str}{T:String}{pos:Pos}(hg:Gl X x)(hm:X.mg x=none)(hv:bootBuiltins x=some (.type T))(hn:x ≠ "__name__" := by decide)(hd:(x==("__debug__" : Str))=false:=by decide):PE X (.Name x pos) (tC (.ty T)):=UU (v:=V.ty T) hg hm hv rfl hn hd
end
end L2

end
section
namespace L2
open PySem PySem.Spec PyProof.Rows
def hidL(A:List Addr)(H:Hp):Hp:=λb=>if b∈A then none else H b
def B9(A:List Addr)(H H':Hp):Hp:=λb=>if b∈A then H b else H' b
section
variable {A:List Addr}{H H' H1:Hp}{a b:Addr}{o:HO}
theorem F0(h:b∈A):hidL A H b=none:=if_pos h
theorem i9(h:b ∉ A):hidL A H b=H b:=if_neg h
theorem B0(h:hidL A H b=some o):b ∉ A/\H b=some o:=by
 unfold hidL at h;split at h
 · cases h
 · rename_i q;exact⟨q,h⟩
theorem k8:Same (hidL A H) H:=λb o e=>(B0 e).2
theorem JL:hidL [] H=H:=funext λb=>by unfold hidL;simp
theorem Ad(h:b∈A):B9 A H H' b=H b:=if_pos h
theorem A5(h:b ∉ A):B9 A H H' b=H' b:=if_neg h
theorem Same.glue(h:Same (hidL A H) H')(hn:∀ a∈A,H' a=none):Same H (B9 A H H'):=λb o e=>by
 by_cases q:b∈A
 · rw[Ad q];exact e
 · rw[A5 q];exact h b o (by rw[i9 q];exact e)
theorem N8(hn:∀ a∈A,H' a=none):hidL A (B9 A H H')=H':=funext λb=>by
 by_cases q:b∈A
 · rw[F0 q,hn b q]
 · rw[i9 q,A5 q]
end
def OwnL(X:Cx)(A:List Addr)(H:Hp):Prop:=∀ a∈A,(∃ vs,H a=some (.lst vs))/\X.H₀ a=none
section
variable {X:Cx}{A:List Addr}{π:aB}{σ:St}{H H':Hp}{s s':Shared}
def JM(h:Heap)(A:List Addr):aB:=A.filterMap λa=>(h.get? a).map λo=>(a,o)
theorem GU{h:Heap}{a:Addr}{o:Obj}(ha:a∈A)(e:h.get? a=some o):(a,o)∈JM h A:=Wx.mpr ⟨a,ha,by rw[e];rfl⟩
theorem RF{h:Heap}{p:Addr×Obj}(hp:p∈JM h A):p.1∈A/\h.get? p.1=some p.2:=by
 obtain⟨a,ha,e⟩:=Wx.mp hp;cases q:h.get? a with
 | none=>rw[q]at e;cases e
 | some o=>rw[q]at e;cases e;exact⟨ha,q⟩
theorem Inv.fsFree(I:Inv X π σ H s){b:Addr}(hb:b∈X.fs):H b=none:=by
 obtain⟨_,o,ho,_⟩:=I.ok.funs.mem hb;exact I.base.free b o ho (I.ok.frf b hb) λz=>I.ok.exfs b z hb
theorem Inv.hide(I:Inv X π σ H s)(hA:OwnL X A H):Inv X (π++JM s.heap A) σ (hidL A H) s:=by
 have nl:∀ b o,H b=some o->(∀ vs,o ≠ .lst vs)->b ∉ A:=λb o e n hb=>by
   obtain⟨⟨vs,q⟩,_⟩:=hA b hb;rw[e]at q;exact n vs (Option.some.inj q)
 refine⟨I.ok,I.os,I.bare,⟨I.base.keep,I.base.slot,λb o e n hx=>?_,I.base.there,λb xs e=>?_,λb o u e=>?_,λb ps _ e=>?_⟩,I.loc,I.cell,?_,λx c e=>?_,λp hp=>?_,λa o e=>?_,I.len⟩
 · have:=I.base.free b o e n hx;unfold hidL;split
   · rfl
   · exact this
 · have:=I.base.tups b xs e;rw[i9 (nl b _ this λ_ z=>by cases z)];exact this
 · have:=I.base.frzs b o u e;rw[i9 (nl b _ this λ_ z=>by cases z)];exact this
 · have:=I.base.tbls b ps _ e;rw[i9 (nl b _ this λ_ z=>by cases z)];exact this
 · have:=I.free;unfold hidL;split
   · rfl
   · exact this
 · have:=I.freeC x c e;unfold hidL;split
   · rfl
   · exact this
 · rw[←We]at hp;rcases wl.mp hp with hp|hp
   · obtain⟨q1,q2,q3⟩:=I.pin p hp;refine⟨q1,?_,q3⟩;unfold hidL;split
     · rfl
     · exact q2
   · obtain⟨q1,q2⟩:=RF hp;obtain⟨⟨vs,q⟩,_⟩:=hA _ q1;refine⟨q2,F0 q1,λz=>?_,λz=>?_,λv z=>?_⟩
     · rw[z,I.free]at q;cases q
     · rw[I.fsFree z]at q;cases q
     · obtain⟨_,its,n,_,e⟩:=I.hok _ _ q;rw[q2]at e;have e:=Option.some.inj e;rw[e]at z;cases z
 · obtain⟨q1,q2⟩:=B0 e;refine(I.hok a o q2).stay (λb u _ z=>z) (λb z=>?_) (λb xs z=>?_) (λb _ _ z=>?_)
   · rw[i9 (nl b _ z λ_ z=>by cases z)];exact z
   · rw[i9 (nl b _ z λ_ z=>by cases z)];exact z
   · rw[i9 (nl b _ z λ_ z=>by cases z)];exact z
theorem Inv.unhide{σ':St}(I:Inv X π σ H s)(hA:OwnL X A H)(J:Inv X (π++JM s.heap A) σ' H' s'):(∀ a∈A,H' a=none)/\Inv X π σ' (B9 A H H') s':=by
 have pn:∀ a∈A,∃ o,s.heap.get? a=some o/\s'.heap.get? a=some o/\H' a=none:=λa ha=>by
   obtain⟨⟨vs,q⟩,_⟩:=hA a ha;obtain⟨_,its,n,_,e⟩:=I.hok _ _ q;have:=J.pin _ (wz _ (wz _ (GU ha e)));exact⟨_,e,this.1,this.2.1⟩
 have hn:∀ a∈A,H' a=none:=λa ha=>by obtain⟨o,_,_,q⟩:=pn a ha;exact q
 have out:∀ b,H b=none->b ∉ A:=λb e hb=>by
   obtain⟨⟨vs,q⟩,_⟩:=hA b hb;rw[e]at q;cases q
 have tr:∀ b o,H' b=some o->b ∉ A:=λb o e hb=>by rw[hn b hb]at e;cases e
 refine⟨hn,J.ok,J.os,J.bare,⟨J.base.keep,J.base.slot,λb o e n hx=>?_,J.base.there,λb xs e=>?_,λb o u e=>?_,λb ps _ e=>?_⟩,J.loc,J.cell,?_,λx c e=>?_,λp hp=>?_,λa o e=>?_,J.len⟩
 · rw[A5 (out b (I.base.free b o e n hx))];exact J.base.free b o e n hx
 · have:=J.base.tups b xs e;rw[A5 (tr b _ this)];exact this
 · have:=J.base.frzs b o u e;rw[A5 (tr b _ this)];exact this
 · have:=J.base.tbls b ps _ e;rw[A5 (tr b _ this)];exact this
 · rw[A5 (out _ I.free)];exact J.free
 · rw[A5 (out _ (I.freeC x c e))];exact J.freeC x c e
 · have hp':p∈X.pn++(π++JM s.heap A):=by
     rw[←We];exact wK _ hp
   obtain⟨q1,q2,q3⟩:=J.pin p hp';refine⟨q1,?_,q3⟩;rw[A5 (out _ (I.pin p hp).2.1)];exact q2
 · by_cases ha:a∈A
   · rw[Ad ha]at e;obtain⟨⟨vs,q⟩,_⟩:=hA a ha;rw[q]at e;cases e;obtain⟨hz,its,n,r,e1⟩:=I.hok _ _ q;obtain⟨o,e2,e3,_⟩:=pn a ha;rw[e1]at e2;cases e2;exact⟨hz,its,n,r,e3⟩
   · rw[A5 ha]at e;refine(J.hok a o e).stay (λb u _ z=>z) (λb z=>?_) (λb xs z=>?_) (λb _ _ z=>?_)
     · rw[A5 (tr b _ z)];exact z
     · rw[A5 (tr b _ z)];exact z
     · rw[A5 (tr b _ z)];exact z
theorem PE.frame{e:Expr}{t:TE}(h:PE X e t):PE X e (λσ H Q=>∃ A,OwnL X A H/\t σ (hidL A H) λv H'=>(∀ a∈A,H' a=none)->Q v (B9 A H H')):=by
 intro π s σ H Q I ⟨A,hA,z⟩;refine thn (h _ s σ _ _ (I.hide hA) z) ?_;rintro u s' ⟨v,H',J,r,q⟩;obtain⟨hn,J'⟩:=I.unhide hA J;exact⟨v,_,J',r,q hn⟩
theorem PA.frame{es:List Expr}{t:TA}(h:PA X es t):PA X es (λσ H Q=>∃ A,OwnL X A H/\t σ (hidL A H) λv H'=>(∀ a∈A,H' a=none)->Q v (B9 A H H')):=by
 intro pos π s σ H Q I ⟨A,hA,z⟩;refine thn (h pos _ s σ _ _ (I.hide hA) z) ?_;rintro u s' ⟨v,H',J,r,q⟩;obtain⟨hn,J'⟩:=I.unhide hA J;exact⟨v,_,J',r,q hn⟩
def hidD(A:List Addr)(H:Hp)(D:Ends):Ends where
 nx:=λσ H'=>(∀ a∈A,H' a=none)->D.nx σ (B9 A H H')
 rt:=λv H'=>(∀ a∈A,H' a=none)->D.rt v (B9 A H H')
 bk:=λσ H'=>(∀ a∈A,H' a=none)->D.bk σ (B9 A H H')
 ct:=λσ H'=>(∀ a∈A,H' a=none)->D.ct σ (B9 A H H')
theorem PS.frame{st:Stmt}{t:TS}(h:PS X st t):PS X st (λD σ H=>∃ A,OwnL X A H/\t (hidD A H D) σ (hidL A H)):=by
 intro π s σ H D I ⟨A,hA,z⟩;refine thn (h _ s σ _ _ (I.hide hA) z) λf s' q=>?_;cases f with
 | next=>obtain⟨σ',H',J,q⟩:=q;obtain⟨hn,J'⟩:=I.unhide hA J;exact⟨_,_,J',q hn⟩
 | brk=>obtain⟨σ',H',J,q⟩:=q;obtain⟨hn,J'⟩:=I.unhide hA J;exact⟨_,_,J',q hn⟩
 | cont=>obtain⟨σ',H',J,q⟩:=q;obtain⟨hn,J'⟩:=I.unhide hA J;exact⟨_,_,J',q hn⟩
 | ret u=>obtain⟨v,σ',H',J,r,q⟩:=q;obtain⟨hn,J'⟩:=I.unhide hA J;exact⟨_,_,_,J',r,q hn⟩
theorem PI.frame{tg e:Expr}{t:TI}(h:PI X tg e t):PI X tg e (λσ H R=>∃ A,OwnL X A H/\t σ (hidL A H) λJ H'=>(∀ a∈A,H' a=none)->R J (B9 A H H')):=by
 intro π s σ H R I ⟨A,hA,z⟩;refine thn (h _ s σ _ _ (I.hide hA) z) λv s1 q=>thn q ?_;rintro itv s2 ⟨it,fp,tn,J,H',e,I2,T,st,hf,r⟩;obtain⟨hn,I3⟩:=I.unhide hA I2;refine⟨it,fp,tn,J,_,e,I3,T,st,λb hb=>?_,r hn⟩;obtain⟨f1,f2,f3,f4,f5,f6⟩:=hf b hb;have hbA:b ∉ A:=λha=>by
  obtain⟨⟨vs,q⟩,_⟩:=hA b ha;obtain⟨_,its,n,_,e⟩:=I.hok _ _ q;exact f6 _ (wz _ (wz _ (GU ha e))) rfl
 refine⟨by rw[A5 hbA];exact f1,f2,f3,f4,f5,λp hp=>f6 p ?_⟩;rw[←We];exact wK _ hp
end
end L2

end
section
namespace L2
open PySem PySem.Spec PyProof.Rows
inductive Dt where
 | non|bl (b:Bool)|int (i:Int)|str (x:Str)|lst (xs:List Dt)|tup (xs:List Dt)|scr (ns:aH)|dic|obj (C:Addr) (k b:Dt) (es:List Dt)
structure Bk(K:aE)(C:Addr):Prop where
 cls:Cls K C
 n1:LI K C "kinds"
 n2:LI K C "bills"
 n3:LI K C "earlier"
 ha:PySem.W.findIn K (.ref C) "__class__" = some (some (.builtin "object.__class__"))
 hn:PySem.W.specialIn K (.builtin "object.__class__") "__get__" = some (some (.builtin "getset_descriptor.__get__"))
 tk:PySem.W.takesIn K (.builtin "object.__class__")=some true
 hm:PySem.W.mroIn K C (.type "object")=some true
 is:∀ T∈["int", "bool", "str", "list", "tuple", "dict"],PySem.W.kitOne K (.ref C) (.type T)=some false
def emp:Hp:=λ_=>none
def SqF(K:aE)(H:Hp)(a:Addr)(xs:List V):Prop :=
 (∃ q,H a=some (.frz q (.lst xs))) ∨
  ∃(o:Obj) (its:Array Value) (n:Nat),K.lookup a=some o/\o.cls = .type "list" /\ o.dict=none/\o.data = .seq its n/\its.size<=sizeLine/\Vals xs its.toList
section
variable {K:aE}{H H':Hp}{a:Addr}{xs:List V}
theorem SqF.sq(h:SqF K H a xs):SqL K H a xs:=h.elim (λh => .inl (.inr h)) .inr
theorem SqF.mono(h:SqF K H a xs)(e:Same H H'):SqF K H' a xs:=h.elim (λ⟨q,h⟩ => .inl ⟨q,e _ _ h⟩) .inr
theorem SqF.hid{A:List Addr}(h:SqF K H a xs)(n:a ∉ A):SqF K (hidL A H) a xs:=h.elim (λ⟨q,h⟩ => .inl ⟨q,by rw[i9 n];exact h⟩) .inr
end
theorem S6{A C:List Addr}{H:Hp}:hidL A (hidL C H)=hidL C (hidL A H):=funext λb=>by
 unfold hidL;by_cases p:b∈A<;>by_cases q:b∈C<;>simp[p,q]
theorem z9{A:List Addr}{H H':Hp}(h:Same H H'):Same (hidL A H) (hidL A H'):=λb o e=>by
 obtain⟨q1,q2⟩:=B0 e;rw[i9 q1];exact h b o q2
theorem S7{A B:List Addr}{H:Hp}(h:∀ a∈B,a∈A):Same (hidL A H) (hidL B H):=λb o e=>by
 obtain⟨q1,q2⟩:=B0 e;rw[i9 λz=>q1 (h b z)];exact q2
theorem Same.seqT{K:aE}{H H':Hp}{a:Addr}{xs:List V}(e:Same H H')(h:SqT K H a xs):SqT K H' a xs:=by
 rcases h with(h|⟨o,h⟩)|h
 · exact .inl (.inl (e _ _ h))
 · exact .inl (.inr ⟨o,e _ _ h⟩)
 · exact .inr h
theorem Same.emp{H:Hp}:Same emp H:=λ_ _ e=>by cases e
def dicAt(a:Addr)(h:Heap):Prop:=h.get? a=some { cls := .type "dict",data := .dict #[] }
mutual
def Rp(K:aE)(B:Hp):Dt->Hp->V->Prop
 | .non,_,v=>v = .non
 | .bl b,_,v=>v = .bl b
 | .int i,_,v=>v = .int i
 | .str x,_,v=>v = .str x
 | .dic,H,v=>∃ a,v = .ref a/\H a=some (.ext (dicAt a))
 | .lst ds,H,v=>∃ a vs,v = .ref a/\B a=none/\H a=some (.lst vs)/\Rps K B ds (hidL [a] H) vs
 | .tup ds,H,v=>∃ a vs,v = .ref a/\SqT K H a vs/\Rps K B ds H vs
 | .scr ns,H,v=>∃ a,v = .ref a/\B a=none/\SqF K H a (ns.map V.int)
 | .obj C k b es,H,v=>∃ a dx vk vb e vs,v = .ref a/\B a=none/\H a=some (.ins C dx [("kinds",vk),("bills",vb),("earlier",.ref e)])/\H dx=some (.own a)/\B e=none/\H e=some (.lst vs)/\Bk K C/\Rp K B k (hidL [a,e] H) vk/\Rp K B b (hidL [a,e] H) vb/\Rps K B es (hidL [a,e] H) vs
def Rps(K:aE)(B:Hp):List Dt->Hp->List V->Prop
 | [],_,vs=>vs=[]
 | d::ds,H,vs=>∃ v r,vs=v::r/\Rp K B d H v/\Rps K B ds H r
end
section
variable {K:aE}{B B' H H':Hp}
theorem Rp.int_{i:Int}{v:V}:Rp K B (.int i) H v↔v = .int i:=by unfold Rp;exact Iff.rfl
theorem Rp.bl_{b:Bool}{v:V}:Rp K B (.bl b) H v↔v = .bl b:=by unfold Rp;exact Iff.rfl
theorem Rp.non_{v:V}:Rp K B .non H v↔v = .non:=by unfold Rp;exact Iff.rfl
theorem Rp.str_{x:Str}{v:V}:Rp K B (.str x) H v↔v = .str x:=by unfold Rp;exact Iff.rfl
theorem Rp.dic_{v:V}:Rp K B .dic H v↔∃ a,v = .ref a/\H a=some (.ext (dicAt a)):=by unfold Rp;exact Iff.rfl
theorem Rp.lst_{ds:List Dt}{v:V}:Rp K B (.lst ds) H v↔∃ a vs,v = .ref a/\B a=none/\H a=some (.lst vs)/\Rps K B ds (hidL [a] H) vs:=by rw[Rp]
theorem Rp.tup_{ds:List Dt}{v:V}:Rp K B (.tup ds) H v↔∃ a vs,v = .ref a/\SqT K H a vs/\Rps K B ds H vs:=by rw[Rp]
theorem Rp.obj_{C:Addr}{k b:Dt}{es:List Dt}{v:V}:Rp K B (.obj C k b es) H v↔∃ a dx vk vb e vs,v = .ref a/\B a=none/\H a=some (.ins C dx [("kinds",vk),("bills",vb),("earlier",.ref e)])/\H dx=some (.own a)/\B e=none/\H e=some (.lst vs)/\Bk K C/\Rp K B k (hidL [a,e] H) vk/\Rp K B b (hidL [a,e] H) vb/\Rps K B es (hidL [a,e] H) vs:=by rw[Rp]
theorem Rp.scr_{ns:aH}{v:V}:Rp K B (.scr ns) H v↔∃ a,v = .ref a/\B a=none/\SqF K H a (ns.map V.int):=by rw[Rp]
theorem Rps.nil_{vs:List V}:Rps K B [] H vs↔vs=[]:=by rw[Rps]
theorem Rps.cons_{d:Dt}{ds:List Dt}{vs:List V}:Rps K B (d::ds) H vs↔∃ v r,vs=v::r/\Rp K B d H v/\Rps K B ds H r:=by rw[Rps]
mutual
theorem Rp.mono:∀(d:Dt) {H H':Hp} {v:V},Same H H'->Rp K B d H v->Rp K B d H' v
 | .non,_,_,v,e,h=>by unfold Rp at h ⊢;exact h
 | .bl b,_,_,v,e,h=>by unfold Rp at h ⊢;exact h
 | .int i,_,_,v,e,h=>by unfold Rp at h ⊢;exact h
 | .str x,_,_,v,e,h=>by unfold Rp at h ⊢;exact h
 | .dic,_,_,v,e,h=>by unfold Rp at h ⊢;obtain⟨a,q,r⟩:=h;exact⟨a,q,e _ _ r⟩
 | .lst ds,_,_,v,e,h=>by
  unfold Rp at h ⊢;obtain⟨a,vs,rfl,h0,h1,h2⟩:=h;exact⟨a,vs,rfl,h0,e _ _ h1,Rps.mono ds (z9 e) h2⟩
 | .tup ds,_,_,v,e,h=>by
  unfold Rp at h ⊢;obtain⟨a,vs,rfl,h1,h2⟩:=h;exact⟨a,vs,rfl,e.seqT h1,Rps.mono ds e h2⟩
 | .scr ns,_,_,v,e,h=>by
  unfold Rp at h ⊢;obtain⟨a,rfl,h0,h1⟩:=h;exact⟨a,rfl,h0,h1.mono e⟩
 | .obj C k b es,_,_,v,e,h=>by
  unfold Rp at h ⊢;obtain⟨a,dx,vk,vb,l,vs,rfl,h0,h1,h2,h3,h4,h5,h6,h7,h8⟩:=h;exact⟨a,dx,vk,vb,l,vs,rfl,h0,e _ _ h1,e _ _ h2,h3,e _ _ h4,h5,Rp.mono k (z9 e) h6,Rp.mono b (z9 e) h7,Rps.mono es (z9 e) h8⟩
theorem Rps.mono:∀(ds:List Dt) {H H':Hp} {vs:List V},Same H H'->Rps K B ds H vs->Rps K B ds H' vs
 | [],_,_,vs,e,h=>by unfold Rps at h ⊢;exact h
 | d::ds,_,_,vs,e,h=>by
  unfold Rps at h ⊢;obtain⟨v,r,rfl,h1,h2⟩:=h;exact⟨v,r,rfl,Rp.mono d e h1,Rps.mono ds e h2⟩
end
mutual
theorem Rp.anti(e:Same B' B):∀(d:Dt) {H:Hp} {v:V},Rp K B d H v->Rp K B' d H v
 | .non,_,v,h=>by unfold Rp at h ⊢;exact h
 | .bl b,_,v,h=>by unfold Rp at h ⊢;exact h
 | .int i,_,v,h=>by unfold Rp at h ⊢;exact h
 | .str x,_,v,h=>by unfold Rp at h ⊢;exact h
 | .dic,_,v,h=>by unfold Rp at h ⊢;exact h
 | .lst ds,_,v,h=>by
  unfold Rp at h ⊢;obtain⟨a,vs,rfl,h0,h1,h2⟩:=h;exact⟨a,vs,rfl,e.free h0,h1,Rps.anti e ds h2⟩
 | .tup ds,_,v,h=>by
  unfold Rp at h ⊢;obtain⟨a,vs,rfl,h1,h2⟩:=h;exact⟨a,vs,rfl,h1,Rps.anti e ds h2⟩
 | .scr ns,_,v,h=>by
  unfold Rp at h ⊢;obtain⟨a,rfl,h0,h1⟩:=h;exact⟨a,rfl,e.free h0,h1⟩
 | .obj C k b es,_,v,h=>by
  unfold Rp at h ⊢;obtain⟨a,dx,vk,vb,l,vs,rfl,h0,h1,h2,h3,h4,h5,h6,h7,h8⟩:=h;exact⟨a,dx,vk,vb,l,vs,rfl,e.free h0,h1,h2,e.free h3,h4,h5,Rp.anti e k h6,Rp.anti e b h7,Rps.anti e es h8⟩
theorem Rps.anti(e:Same B' B):∀(ds:List Dt) {H:Hp} {vs:List V},Rps K B ds H vs->Rps K B' ds H vs
 | [],_,vs,h=>by unfold Rps at h ⊢;exact h
 | d::ds,_,vs,h=>by
  unfold Rps at h ⊢;obtain⟨v,r,rfl,h1,h2⟩:=h;exact⟨v,r,rfl,Rp.anti e d h1,Rps.anti e ds h2⟩
end
theorem SqT.hid{A:List Addr}{a:Addr}{xs:List V}(hA:∀ b∈A,∀ o,H b=some o->∃ vs,o = .lst vs)(h:SqT K H a xs):SqT K (hidL A H) a xs:=by
 rcases h with(h|⟨o,h⟩)|h
 · refine .inl (.inl ?_);rw[i9 λz=>by obtain⟨vs,e⟩:=hA a z _ h;cases e];exact h
 · refine .inl (.inr ⟨o,?_⟩);rw[i9 λz=>by obtain⟨vs,e⟩:=hA a z _ h;cases e];exact h
 · exact .inr h
mutual
theorem Rp.hid{A:List Addr}(hB:∀ b∈A,B b≠none):∀(d:Dt) {H:Hp} {v:V},(∀ b∈A,∀ o,H b=some o->∃ vs,o = .lst vs)->Rp K B d H v->Rp K B d (hidL A H) v
 | .non,_,v,_,h=>by unfold Rp at h ⊢;exact h
 | .bl b,_,v,_,h=>by unfold Rp at h ⊢;exact h
 | .int i,_,v,_,h=>by unfold Rp at h ⊢;exact h
 | .str x,_,v,_,h=>by unfold Rp at h ⊢;exact h
 | .dic,_,v,hA,h=>by unfold Rp at h ⊢;obtain⟨a,q,r⟩:=h;exact⟨a,q,by rw[i9 λz=>by obtain⟨vs,e⟩:=hA a z _ r;cases e];exact r⟩
 | .lst ds,H,v,hA,h=>by
  unfold Rp at h ⊢;obtain⟨a,vs,rfl,h0,h1,h2⟩:=h;refine⟨a,vs,rfl,h0,by rw[i9 λz=>hB a z h0];exact h1,?_⟩;rw[S6];exact Rps.hid hB ds (λb hb o e=>hA b hb o (B0 e).2) h2
 | .tup ds,H,v,hA,h=>by
  unfold Rp at h ⊢;obtain⟨a,vs,rfl,h1,h2⟩:=h;exact⟨a,vs,rfl,h1.hid hA,Rps.hid hB ds hA h2⟩
 | .scr ns,H,v,hA,h=>by
  unfold Rp at h ⊢;obtain⟨a,rfl,h0,h1⟩:=h;exact⟨a,rfl,h0,h1.hid λz=>hB a z h0⟩
 | .obj C k b es,H,v,hA,h=>by
  unfold Rp at h ⊢;obtain⟨a,dx,vk,vb,l,vs,rfl,h0,h1,h2,h3,h4,h5,h6,h7,h8⟩:=h;refine⟨a,dx,vk,vb,l,vs,rfl,h0,by rw[i9 λz=>hB a z h0];exact h1,by rw[i9 λz=>by obtain⟨vs,e⟩:=hA dx z _ h2;cases e];exact h2,h3,by rw[i9 λz=>hB l z h3];exact h4,h5,?_⟩;rw[S6];exact⟨Rp.hid hB k (λb hb o e=>hA b hb o (B0 e).2) h6,Rp.hid hB b (λb hb o e=>hA b hb o (B0 e).2) h7,Rps.hid hB es (λb hb o e=>hA b hb o (B0 e).2) h8⟩
theorem Rps.hid{A:List Addr}(hB:∀ b∈A,B b≠none):∀(ds:List Dt) {H:Hp} {vs:List V},(∀ b∈A,∀ o,H b=some o->∃ vs,o = .lst vs)->Rps K B ds H vs->Rps K B ds (hidL A H) vs
 | [],_,vs,_,h=>by unfold Rps at h ⊢;exact h
 | d::ds,_,vs,hA,h=>by
  unfold Rps at h ⊢;obtain⟨v,r,rfl,h1,h2⟩:=h;exact⟨v,r,rfl,Rp.hid hB d hA h1,Rps.hid hB ds hA h2⟩
end
end
mutual
def Dt.flat:Dt->Bool
 | .lst _=>false
 | .scr _=>false
 | .obj _ _ _ _=>false
 | .tup ds=>E3 ds
 | _=>true
def E3:List Dt->Bool
 | []=>true
 | d::ds=>d.flat&&E3 ds
end
section
variable {K:aE}{B B' H H':Hp}
mutual
theorem Rp.flat:∀(d:Dt) {H:Hp} {v:V},d.flat=true->Rp K B d H v->Rp K B' d H v
 | .non,_,v,_,h=>by unfold Rp at h ⊢;exact h
 | .bl b,_,v,_,h=>by unfold Rp at h ⊢;exact h
 | .int i,_,v,_,h=>by unfold Rp at h ⊢;exact h
 | .str x,_,v,_,h=>by unfold Rp at h ⊢;exact h
 | .dic,_,v,_,h=>by unfold Rp at h ⊢;exact h
 | .lst ds,_,v,f,h=>by unfold Dt.flat at f;cases f
 | .tup ds,_,v,f,h=>by
  unfold Dt.flat at f;unfold Rp at h ⊢;obtain⟨a,vs,rfl,h1,h2⟩:=h;exact⟨a,vs,rfl,h1,Rps.flat ds f h2⟩
 | .scr ns,_,v,f,h=>by unfold Dt.flat at f;cases f
 | .obj C k b es,_,v,f,h=>by unfold Dt.flat at f;cases f
theorem Rps.flat:∀(ds:List Dt) {H:Hp} {vs:List V},E3 ds=true->Rps K B ds H vs->Rps K B' ds H vs
 | [],_,vs,_,h=>by unfold Rps at h ⊢;exact h
 | d::ds,_,vs,f,h=>by
  unfold E3 at f;rw[wE]at f;unfold Rps at h ⊢;obtain⟨v,r,rfl,h1,h2⟩:=h;exact⟨v,r,rfl,Rp.flat d f.1 h1,Rps.flat ds f.2 h2⟩
end
theorem Rps.length:∀{ds:List Dt} {vs:List V},Rps K B ds H vs->vs.length=ds.length
 | [],vs,h=>by rw[Rps.nil_.mp h];rfl
 | d::ds,vs,h=>by
  obtain⟨v,r,rfl,_,h2⟩:=Rps.cons_.mp h;rw[wm,wm,Rps.length h2]
theorem Rps.get:∀{ds:List Dt} {vs:List V} {i:Nat} {d:Dt},Rps K B ds H vs->ds[i]?=some d->∃ v,vs[i]?=some v/\Rp K B d H v
 | [],vs,i,d,_,e=>by simp at e
 | c::ds,vs,0,d,h,e=>by
  obtain⟨v,r,rfl,h1,_⟩:=Rps.cons_.mp h;simp at e;subst e;exact⟨v,rfl,h1⟩
 | c::ds,vs,i+1,d,h,e=>by
  obtain⟨v,r,rfl,_,h2⟩:=Rps.cons_.mp h;have e:ds[i]?=some d:=by simpa using e
  obtain⟨u,q1,q2⟩:=Rps.get h2 e;exact⟨u,by simpa using q1,q2⟩
theorem Rps.append:∀{ds ds':List Dt} {vs vs':List V},Rps K B ds H vs->Rps K B ds' H vs'->Rps K B (ds++ds') H (vs++vs')
 | [],ds',vs,vs',h,h'=>by rw[Rps.nil_.mp h];exact h'
 | d::ds,ds',vs,vs',h,h'=>by
  obtain⟨v,r,rfl,h1,h2⟩:=Rps.cons_.mp h;exact Rps.cons_.mpr ⟨v,r++vs',rfl,h1,Rps.append h2 h'⟩
theorem Rps.one{d:Dt}{v:V}(h:Rp K B d H v):Rps K B [d] H [v]:=Rps.cons_.mpr ⟨v,[],rfl,h,Rps.nil_.mpr rfl⟩
theorem Rps.set:∀{ds:List Dt} {vs:List V} (i:Nat) {d:Dt} {v:V},Rps K B ds H vs->Rp K B d H v->Rps K B (ds.set i d) H (vs.set i v)
 | [],vs,i,d,v,h,_=>by rw[Rps.nil_.mp h];exact Rps.nil_.mpr rfl
 | c::ds,vs,0,d,v,h,q=>by
  obtain⟨u,r,rfl,h1,h2⟩:=Rps.cons_.mp h;exact Rps.cons_.mpr ⟨v,r,rfl,q,h2⟩
 | c::ds,vs,i+1,d,v,h,q=>by
  obtain⟨u,r,rfl,h1,h2⟩:=Rps.cons_.mp h;exact Rps.cons_.mpr ⟨u,r.set i v,rfl,h1,Rps.set i h2 q⟩
theorem Rps.ints:∀{ns:aH} {vs:List V},Rps K B (ns.map Dt.int) H vs↔vs=ns.map V.int
 | [],vs=>Rps.nil_
 | n::ns,vs=>by
  rw[wj,Rps.cons_];constructor
  · rintro⟨v,r,rfl,h1,h2⟩;rw[Rp.int_.mp h1,Rps.ints.mp h2];rfl
  · rintro rfl;exact⟨_,_,rfl,Rp.int_.mpr rfl,Rps.ints.mpr rfl⟩
theorem Dm{p:Addr}{o:HO}(h:H p=none):hidL [p] (upd H p o)=H:=funext λb=>by
 by_cases q:b=p
 · subst q;rw[F0 (by simp),h]
 · rw[i9 (by simpa using q),i6 q]
theorem j6{p:Addr}{o:HO}(h:H p=none):Same H (upd H p o):=λb u e=>by rw[i6 (v9 e h)];exact e
theorem Rp.new{ds:List Dt}{vs:List V}{p:Addr}(hp:H p=none)(hB:B p=none)(r:Rps K B ds H vs):Rp K B (.lst ds) (upd H p (.lst vs)) (.ref p) :=
 Rp.lst_.mpr ⟨p,vs,rfl,hB,i7,by rw[Dm hp];exact r⟩
end
inductive Fl where
 | sh|tn|fr|nw
def Fl.isNw:Fl->Bool
 | .nw=>true
 | _=>false
def Fl.isFr:Fl->Bool
 | .nw=>true
 | .fr=>true
 | _=>false
abbrev Dv:=Fl×Dt
def nrm(f:Fl)(d:Dt):Dv:=(if d.flat then .nw else f,d)
structure Ky where
 K:aE
 H₀:Hp
abbrev Cx.ky(X:Cx):Ky:=⟨X.K,X.H₀⟩
def RpF(X:Ky)(H:Hp)(f:Fl)(d:Dt)(H':Hp)(v:V):Prop:=match f with
 | .sh=>Rp X.K emp d H' v
 | .tn=>Rp X.K emp d H' v/\(∃ ds,d = .lst ds)/\∀ a,v = .ref a->H a=none
 | .fr=>Rp X.K X.H₀ d H' v
 | .nw=>Rp X.K H d H' v
section
variable {X:Ky}{H H' H1:Hp}{f:Fl}{d:Dt}{v:V}
theorem RpF.sh(h:RpF X H f d H' v):Rp X.K emp d H' v:=by
 cases f with
 | sh=>exact h
 | tn=>exact h.1
 | fr=>exact Rp.anti Same.emp d h
 | nw=>exact Rp.anti Same.emp d h
theorem RpF.fr(h0:Same X.H₀ H)(e:f.isFr=true)(h:RpF X H f d H' v):Rp X.K X.H₀ d H' v:=by
 cases f with
 | sh=>cases e
 | tn=>cases e
 | fr=>exact h
 | nw=>exact Rp.anti h0 d h
theorem RpF.mono(h:RpF X H f d H' v)(s:Same H' H1):RpF X H f d H1 v:=by
 cases f with
 | sh=>exact Rp.mono d s h
 | tn=>exact⟨Rp.mono d s h.1,h.2⟩
 | fr=>exact Rp.mono d s h
 | nw=>exact Rp.mono d s h
theorem RpF.early(s:Same H H1)(h:RpF X H1 f d H' v):RpF X H f d H' v:=by
 cases f with
 | sh=>exact h
 | tn=>exact⟨h.1,h.2.1,λa e=>s.free (h.2.2 a e)⟩
 | fr=>exact h
 | nw=>exact Rp.anti s d h
theorem RpF.nrm(h:RpF X H f d H' v):RpF X H (nrm f d).1 d H' v:=by
 unfold L2.nrm;by_cases q:d.flat=true
 · rw[if_pos q];exact Rp.flat d q h.sh
 · rw[if_neg q];exact h
theorem RpF.scal(q:d.flat=true)(h:Rp X.K emp d H' v):RpF X H .nw d H' v:=Rp.flat d q h
end
inductive Cell where
 | no|sh (f:Bool) (d:Dt)|ow (f:Bool) (ds:List Dt)|ex
abbrev Rho:=List Cell
def flOf(f:Bool):Fl:=if f then .fr else .sh
def Cell.val:Cell->Option Dv
 | .no=>none
 | .ex=>none
 | .sh f d=>some (nrm (flOf f) d)
 | .ow f ds=>some (flOf f,.lst ds)
def Pf(ρ:Rho)(i:Nat):Option Dv:=(ρ[i]?).bind Cell.val
def bsOf(X:Ky)(f:Bool):Hp:=if f then X.H₀ else emp
def ExcAt(K:aE)(a:Addr)(h:Heap):Prop:=∃ oe C,h.get? a=some oe/\oe.cls = .ref C/\PySem.W.kitCls K (.ref C) (.type "ValueError")=some true
def RpC(X:Ky)(H:Hp):Cell->Option V->Prop
 | .no,_=>True
 | .ex,o=>∃ a φ,o=some (.ref a)/\H a=some (.ext φ)/\∀ h,φ h->ExcAt X.K a h
 | .sh f d,o=>∃ v,o=some v/\Rp X.K (bsOf X f) d H v
 | .ow f ds,o=>∃ v,o=some v/\Rp X.K (bsOf X f) (.lst ds) H v
structure RepS(X:Ky)(H:Hp)(ρ:Rho)(σ:St):Prop where
 len:ρ.length=σ.length
 base:Same X.H₀ H
 at_:∀(i:Nat) (c:Cell),ρ[i]?=some c->∃ o,σ[i]?=some o/\RpC X H c o
section
variable {X:Ky}{H H':Hp}{ρ:Rho}{σ:St}
theorem RpC.mono(e:Same H H'){c:Cell}{o:Option V}(h:RpC X H c o):RpC X H' c o:=by
 cases c with
 | no=>trivial
 | ex=>obtain⟨a,φ,q,r,z⟩:=h;exact⟨a,φ,q,e _ _ r,z⟩
 | sh f d=>obtain⟨v,q,r⟩:=h;exact⟨v,q,Rp.mono d e r⟩
 | ow f ds=>obtain⟨v,q,r⟩:=h;exact⟨v,q,Rp.mono _ e r⟩
theorem RepS.mono(h:RepS X H ρ σ)(e:Same H H'):RepS X H' ρ σ:=⟨h.len,h.base.trans e,λi c q=>by obtain⟨o,q1,q2⟩:=h.at_ i c q;exact⟨o,q1,q2.mono e⟩⟩
theorem RG{f:Bool}{d:Dt}{v:V}(h:Rp X.K (bsOf X f) d H v):RpF X H (flOf f) d H v:=by
 cases f with
 | false=>exact h
 | true=>exact h
theorem RepS.val(h:RepS X H ρ σ){i:Nat}{f:Fl}{d:Dt}(e:Pf ρ i=some (f,d)):∃ v,σ[i]?=some (some v)/\RpF X H f d H v:=by
 unfold Pf at e;cases q:ρ[i]? with
 | none=>rw[q]at e;cases e
 | some c =>
  rw[q]at e;obtain⟨o,q1,q2⟩:=h.at_ i c q;cases c with
  | no=>cases e
  | ex=>cases e
  | sh f' d' =>
   obtain⟨v,rfl,r⟩:=q2;have e:nrm (flOf f') d'=(f,d):=Option.some.inj e;have r':=(RG r).nrm;refine⟨v,q1,?_⟩;have e1:d'=d:=congrArg Prod.snd e;subst e1;rw[e]at r';exact r'
  | ow f' ds =>
   obtain⟨v,rfl,r⟩:=q2;cases e;exact⟨v,q1,RG r⟩
end
end L2

end
section
namespace L2
open PySem PySem.Spec PyProof.Rows
theorem PE.imp{X:Cx}{e:Expr}{t t':TE}(h:PE X e t)(q:∀ σ H Q,t' σ H Q->t σ H Q):PE X e t':=λπ s σ H Q I z=>h π s σ H Q I (q σ H Q z)
theorem PT.imp{X:Cx}{e:Expr}{t t':TT}(h:PT X e t)(q:∀ σ H Q,t' σ H Q->t σ H Q):PT X e t':=λπ s σ H Q I z=>h π s σ H Q I (q σ H Q z)
theorem PW.imp{X:Cx}{e:Expr}{t t':TT}(h:PW X e t)(q:∀ σ H Q,t' σ H Q->t σ H Q):PW X e t':=λwhole π s σ H Q I z=>h whole π s σ H Q I (q σ H Q z)
theorem PA.imp{X:Cx}{es:List Expr}{t t':TA}(h:PA X es t)(q:∀ σ H Q,t' σ H Q->t σ H Q):PA X es t':=λpos π s σ H Q I z=>h pos π s σ H Q I (q σ H Q z)
theorem bind_some{α β:Type}{o:Option α}{f:α->Option β}{b:β}(h:o.bind f=some b):∃ a,o=some a/\f a=some b:=by
 cases o with
 | none=>cases h
 | some a=>exact⟨a,rfl,h⟩
section
variable {X:Ky}{H H':Hp}
theorem RpF.i_{i:Int}:RpF X H .nw (.int i) H' (.int i):=(Rp.int_ (K:=X.K) (B:=H) (H:=H')).mpr rfl
theorem RpF.b_{i:Bool}:RpF X H .nw (.bl i) H' (.bl i):=(Rp.bl_ (K:=X.K) (B:=H) (H:=H')).mpr rfl
theorem RpF.n_:RpF X H .nw .non H' .non:=(Rp.non_ (K:=X.K) (B:=H) (H:=H')).mpr rfl
end
abbrev FE:=Rho->Option Dv
abbrev FT:=Rho->Option Bool
abbrev FA:=Rho->Option (List Dv)
def upK(Y:Ky)(F:FE):TE:=λσ H Q=>∃ ρ f d,RepS Y H ρ σ/\F ρ=some (f,d)/\∀ v H',Same H H'->RpF Y H f d H' v->Q v H'
abbrev upF(X:Cx)(F:FE):TE:=upK X.ky F
def PF(X:Cx)(e:Expr)(F:FE):Prop:=PE X e (upF X F)
def upBK(Y:Ky)(F:FT):TT:=λσ H Q=>∃ ρ b,RepS Y H ρ σ/\F ρ=some b/\∀ H',Same H H'->Q b H'
abbrev upB(X:Cx)(F:FT):TT:=upBK X.ky F
def PFT(X:Cx)(e:Expr)(F:FT):Prop:=PT X e (upB X F)
def PFW(X:Cx)(e:Expr)(F:FT):Prop:=PW X e (upB X F)
theorem PFW.pt{X:Cx}{e:Expr}{F:FT}(h:PFW X e F):PFT X e F:=PW.pt h
section
variable {X:Cx}{a b c e:Expr}{Fa Fb Fc:FE}{pos:Pos}
def fN(i:Nat):FE:=λρ=>Pf ρ i
theorem b9(i:Nat){x:Str}{pos:Pos}(hN:X.N[i]?=some x:=by rfl)(hv:Vis X.env.scope x:=by first|exact Or.inl rfl|exact Or.inr (Or.inl rfl)|exact Or.inr (Or.inr rfl))(hd:(x==("__debug__" : Str))=false:=by decide)
  (hcd:(x==("__classdict__" : Str))=false:=by decide):PF X (.Name x pos) (fN i) :=
 (Ep hN hv hd hcd).imp fun σ H Q ⟨ρ,f,d,rs,e,k⟩=>by
  obtain⟨v,e1,e2⟩:=rs.val e;exact⟨v,e1,k v H (Same.refl H) e2⟩
def fC(d:Dt):FE:=λ_=>some (.nw,d)
theorem i4{i:Int}{j:Nat}:PF X (.Constant (.int i) j pos) (fC (.int i)):=B7.imp (by rintro σ H Q ⟨ρ,f,d,rs,e,k⟩;cases e;exact k _ H (Same.refl H) RpF.i_)
theorem p_bl{v:Bool}{j:Nat}:PF X (.Constant (.bool v) j pos) (fC (.bl v)):=X0.imp (by rintro σ H Q ⟨ρ,f,d,rs,e,k⟩;cases e;exact k _ H (Same.refl H) RpF.b_)
theorem p_non{j:Nat}:PF X (.Constant .none j pos) (fC .non):=pe_non.imp (by rintro σ H Q ⟨ρ,f,d,rs,e,k⟩;cases e;exact k _ H (Same.refl H) RpF.n_)
theorem LR{x:Str}{i:Int}{t:Tok}(hg:Gl X x)(hm:X.mg x=some (.int i t))(hd:(x==("__debug__" : Str))=false:=by decide):PF X (.Name x pos) (fC (.int i)) :=
 (OW (v:=V.int i) hg hm ⟨t,rfl⟩ hd).imp (by rintro σ H Q ⟨ρ,f,d,rs,e,k⟩;cases e;exact k _ H (Same.refl H) RpF.i_)
abbrev FO:=Dt->Dt->Option Dv
def OpF(X:Cx)(f:Value->Value->Sem Value)(r:FO):Prop :=
 OpR X f (λx y H Q=>∃ dx dy f d,Rp X.K emp dx H x/\Rp X.K emp dy H y/\r dx dy=some (f,d)/\∀ v H',Same H H'->RpF X.ky H f d H' v->Q v H')
def fOp(r:FO)(Fa Fb:FE):FE:=λρ=>(Fa ρ).bind λx=>(Fb ρ).bind λy=>r x.2 y.2
theorem LS{r:FO}{σ:St}{H:Hp}{Q:VK}(h:upF X (fOp r Fa Fb) σ H Q):
  upF X Fa σ H λx H1=>upF X Fb σ H1 λy H2=>∃ dx dy f d,Rp X.K emp dx H2 x/\Rp X.K emp dy H2 y/\r dx dy=some (f,d)/\∀ v H',Same H2 H'->RpF X.ky H2 f d H' v->Q v H':=by
 obtain⟨ρ,f,d,rs,e,k⟩:=h;obtain⟨⟨fa,da⟩,ea,e⟩:=bind_some e;obtain⟨⟨fb,db⟩,eb,e⟩:=bind_some e;exact⟨ρ,fa,da,rs,ea,λv H1 s1 r1=>⟨ρ,fb,db,rs.mono s1,eb,λu H2 s2 r2=>⟨da,db,f,d,Rp.mono _ s2 r1.sh,r2.sh,e,λw H' s' r'=>k w H' (s1.trans (s2.trans s')) (r'.early (s1.trans s2))⟩⟩⟩
theorem p_op{op:Operator}{r:FO}(ho:OpF X (binaryOp op) r)(ha:PF X a Fa)(hb:PF X b Fb):PF X (.BinOp a op b pos) (fOp r Fa Fb):=(JF ho ha hb).imp λσ H Q h=>LS h
theorem p_cmp{op:CmpOp}{r:FO}(ho:OpF X (compareOp op) r)(ha:PF X a Fa)(hb:PF X b Fb)(hm:behindInMarks op b=false):PF X (.Compare a [op] [b] pos) (fOp r Fa Fb):=(UY ho ha hb hm).imp λσ H Q h=>LS h
def rII(C:Int->Int->Bool)(g:Int->Int->Dt):FO
 | .int i,.int j=>if C i j then some (.nw,g i j) else none
 | _,_=>none
theorem IE{f:Value->Value->Sem Value}{P:Int->Int->Prop}{C:Int->Int->Bool}{g:Int->Int->V}{g':Int->Int->Dt}(ho:OpR X f (rI P g))(hP:∀ i j,C i j=true->P i j)(hf:∀ i j,(g' i j).flat=true)(hg:∀ i j H,Rp X.K emp (g' i j) H (g i j)):OpF X f (rII C g') :=
 λπ s σ H x y v u Q I r1 r2 ⟨d1,d2,f,d,q1,q2,e,k⟩=>by
  unfold rII at e;split at e
  · rename_i i j;split at e
    · rename_i hc;cases e;rw[Rp.int_]at q1 q2;exact ho π s σ H x y v u Q I r1 r2 ⟨i,j,q1,q2,hP i j hc,k _ H (Same.refl H) (RpF.scal (hf i j) (hg i j H))⟩
    · cases e
  · cases e
theorem Bq{f:Value->Value->Sem Value}{g:Int->Int->V}{g':Int->Int->Dt}(ho:OpR X f (rI0 g))(hf:∀ i j,(g' i j).flat=true)(hg:∀ i j H,Rp X.K emp (g' i j) H (g i j)):OpF X f (rII (λ_ _=>true) g') :=
 λπ s σ H x y v u Q I r1 r2 ⟨d1,d2,f,d,q1,q2,e,k⟩=>by
  unfold rII at e;split at e
  · rename_i i j;rw[if_pos rfl]at e;cases e;rw[Rp.int_]at q1 q2;exact ho π s σ H x y v u Q I r1 r2 ⟨i,j,q1,q2,k _ H (Same.refl H) (RpF.scal (hf i j) (hg i j H))⟩
  · cases e
def OpF.or{f:Value->Value->Sem Value}{r r':FO}(h:OpF X f r)(h':OpF X f r'):OpF X f (λx y=>(r x y).orElse λ_=>r' x y) :=
 λπ s σ H x y v u Q I r1 r2⟨d1,d2,f,d,q1,q2,e,k⟩=>by
  replace e:((r d1 d2).orElse λ_=>r' d1 d2)=some (f,d):=e;cases q:r d1 d2 with
  | some z =>
   rw[q]at e;cases e;exact h π s σ H x y v u Q I r1 r2 ⟨d1,d2,_,_,q1,q2,q,k⟩
  | none =>
   rw[q]at e;exact h' π s σ H x y v u Q I r1 r2 ⟨d1,d2,_,_,q1,q2,e,k⟩
def D1(i j:Int):Bool:=decide (Builtin.Int.intBits i+Builtin.Int.intBits j<=134217728)||(decide (i.natAbs<2 ^ 64)||decide (j.natAbs<2 ^ 64))
def J5(_ j:Int):Bool:=decide (j≠0)&&decide (j.natAbs.log2<9000)
def Y2(_ j:Int):Bool:=decide (j≠0)
def Ey(i j:Int):Bool:=decide (0<=j)&&decide (j<=1000000)&&decide (i.natAbs<2 ^ 64)
theorem Ve:OpR X (binaryOp .Mult) (rI (λi j=>D1 i j=true) λi j => .int (i*j)):=opI λi j _ _ _ _ _ hc q=>by
 refine mul_int q ?_;unfold D1 at hc;rw[WU,WU]at hc;rcases hc with hc|hc|hc
 · exact IntMulOk.of_le (wf _) (wf _) (of_decide_eq_true hc)
 · have:=of_decide_eq_true hc;exact CMul.ok (.inl ⟨by rfl',by rfl'⟩)
 · have:=of_decide_eq_true hc;exact CMul.ok (.inr ⟨by rfl',by rfl'⟩)
def RH:FO:=rII (λ_ _=>true) λi j => .int (i+j)
def L6:FO:=rII (λ_ _=>true) λi j => .int (i-j)
def L7:FO:=rII D1 λi j => .int (i*j)
def X1:FO:=rII J5 λi j => .int (i.fdiv j)
def S8:FO:=rII Y2 λi j => .int (i.fmod j)
def GV:FO:=rII Ey λi j => .int (i ^ j.toNat)
def opLt:FO:=rII (λ_ _=>true) λi j => .bl (decide (i<j))
def opLe:FO:=rII (λ_ _=>true) λi j => .bl (decide (i<=j))
def opGt:FO:=rII (λ_ _=>true) λi j => .bl (decide (j<i))
def opGe:FO:=rII (λ_ _=>true) λi j => .bl (decide (j<=i))
theorem o_addI:OpF X (binaryOp .Add) RH:=Bq Rr (λ_ _=>rfl) λ_ _ _=>Rp.int_.mpr rfl
theorem GW:OpF X (binaryOp .Sub) L6:=Bq Iw (λ_ _=>rfl) λ_ _ _=>Rp.int_.mpr rfl
theorem GX:OpF X (binaryOp .Mult) L7:=IE Ve (λ_ _ h=>h) (λ_ _=>rfl) λ_ _ _=>Rp.int_.mpr rfl
theorem AQ:OpF X (binaryOp .FloorDiv) X1:=IE RE (λi j h=>by unfold J5 at h;rw[wE]at h;exact⟨of_decide_eq_true h.1,of_decide_eq_true h.2⟩) (λ_ _=>rfl) λ_ _ _=>Rp.int_.mpr rfl
theorem Dn:OpF X (binaryOp .Mod) S8:=IE UX (λi j h=>of_decide_eq_true h) (λ_ _=>rfl) λ_ _ _=>Rp.int_.mpr rfl
theorem RI:OpF X (binaryOp .Pow) GV:=IE op_pow (λi j h=>by unfold Ey at h;rw[wE,wE]at h;exact⟨of_decide_eq_true h.1.1,of_decide_eq_true h.1.2,of_decide_eq_true h.2⟩) (λ_ _=>rfl) λ_ _ _=>Rp.int_.mpr rfl
theorem o_lt:OpF X (compareOp .Lt) opLt:=Bq op_lt (λ_ _=>rfl) λ_ _ _=>Rp.bl_.mpr rfl
theorem o_le:OpF X (compareOp .LtE) opLe:=Bq op_le (λ_ _=>rfl) λ_ _ _=>Rp.bl_.mpr rfl
theorem o_gt:OpF X (compareOp .Gt) opGt:=Bq op_gt (λ_ _=>rfl) λ_ _ _=>Rp.bl_.mpr rfl
def lfl(ds:List Dt):Fl:=if E3 ds then .nw else .tn
def newL(ds:List Dt):Dv:=(lfl ds,.lst ds)
theorem Eb{X:Ky}{H:Hp}{ds:List Dt}{vs:List V}{p:Addr}(hp:H p=none)(r:Rps X.K emp ds H vs):RpF X H (lfl ds) (.lst ds) (upd H p (.lst vs)) (.ref p):=by
 unfold lfl;by_cases q:E3 ds=true
 · rw[if_pos q];exact Rp.new hp hp (Rps.flat ds q r)
 · rw[if_neg q];exact⟨Rp.new hp rfl r,⟨ds,rfl⟩,λa e=>by cases e;exact hp⟩
def Bs:FO
 | .lst xs,.lst ys=>if xs.length+ys.length<=1000000 then some (newL (xs++ys)) else none
 | _,_=>none
theorem Rp.items{K:aE}{B H:Hp}{ds:List Dt}{v:V}(h:Rp K B (.lst ds) H v):∃ a vs,v = .ref a/\B a=none/\H a=some (.lst vs)/\Rps K B ds H vs:=by
 obtain⟨a,vs,e,h0,h1,h2⟩:=Rp.lst_.mp h;exact⟨a,vs,e,h0,h1,Rps.mono _ k8 h2⟩
theorem o_cat:OpF X (binaryOp .Add) Bs:=by
 rintro π s σ H x y v u Q I r1 r2 ⟨d1,d2,f,d,q1,q2,e,k⟩;unfold Bs at e;split at e
 · rename_i xs ys;split at e
   · rename_i hc;cases e;obtain⟨a,vs,rfl,_,ha,ra⟩:=q1.items;obtain⟨b,ws,rfl,_,hb,rb⟩:=q2.items;exact op_cat π s σ H _ _ v u Q I r1 r2 ⟨a,b,vs,ws,rfl,rfl,ha,hb,wB (by rw[ra.length,rb.length];exact hc) (by decide),λp hp=>k _ _ (j6 hp) (Eb hp (ra.append rb))⟩
   · cases e
 · cases e
def l9:FO:=λx y=>(RH x y).orElse λ_=>Bs x y
theorem M5:OpF X (binaryOp .Add) l9:=o_addI.or o_cat
def truD:Dt->Option Bool
 | .non=>some false
 | .bl b=>some b
 | .int i=>some (i != 0)
 | .lst ds=>some (!ds.isEmpty)
 | .tup ds=>some (!ds.isEmpty)
 | _=>none
theorem Rps.isEmpty{K:aE}{B H:Hp}{ds:List Dt}{vs:List V}(h:Rps K B ds H vs):(!vs.isEmpty)=!ds.isEmpty:=by
 have:=h.length;cases ds<;>cases vs<;>first|rfl|(simp at this)
theorem Vf{H:Hp}{d:Dt}{v:V}{k:Bool}(r:Rp X.K emp d H v)(e:truD d=some k):TruV X.K v H k:=by
 cases d with
 | non=>rw[Rp.non_.mp r];cases e;rfl
 | bl b=>rw[Rp.bl_.mp r];cases e;rfl
 | int i=>rw[Rp.int_.mp r];cases e;rfl
 | str x=>cases e
 | dic=>cases e
 | obj _ _ _ _=>cases e
 | scr x=>cases e
 | lst ds =>
  obtain⟨p,vs,rfl,_,h1,h2⟩:=r.items;cases e;exact .inl ⟨vs,SqL.of h1,h2.isEmpty.symm⟩
 | tup ds =>
  obtain⟨p,vs,rfl,h1,h2⟩:=Rp.tup_.mp r;cases e;exact .inr (.inl ⟨vs,h1,h2.isEmpty.symm⟩)
def blD:Dt->Option Bool
 | .bl b=>some b
 | _=>none
def k6(F:FE):FT:=λρ=>(F ρ).bind λx=>blD x.2
def fTru(F:FE):FT:=λρ=>(F ρ).bind λx=>truD x.2
theorem t_cmp{op:CmpOp}{r:FO}(ho:OpF X (compareOp op) r)(ha:PF X a Fa)(hb:PF X b Fb)(hm:behindInMarks op b=false):PFT X (.Compare a [op] [b] pos) (k6 (fOp r Fa Fb)) :=
 (Ix ho ha hb hm).imp fun σ H Q hZ=>hZ.elim fun ρ hZ=>hZ.elim fun k hZ=>hZ.elim fun rs hZ=>hZ.elim fun e q=>by
  obtain⟨⟨f,d⟩,e1,e2⟩:=bind_some e;refine LS ⟨ρ,f,d,rs,e1,λv H' s r=>?_⟩;cases d<;>first|cases e2|skip
  exact⟨k,Rp.bl_.mp r.sh,q H' s⟩
theorem X2(ha:PF X a Fa)(he:∀ whole,isTrue a X.env whole=(do let v ←whole;standAt a.pos;holding [v] (truthy v))):PFT X a (fTru Fa) :=
 (Rx ha he).imp fun σ H Q hZ=>hZ.elim fun ρ hZ=>hZ.elim fun k hZ=>hZ.elim fun rs hZ=>hZ.elim fun e q=>by
  obtain⟨⟨f,d⟩,e1,e2⟩:=bind_some e;exact⟨ρ,f,d,rs,e1,λv H' s r=>⟨k,Vf r.sh e2,q H' s⟩⟩
def fNot(F:FT):FT:=λρ=>(F ρ).map not
theorem X3{F:FT}(ha:PFT X a F):PFT X (.UnaryOp .Not a pos) (fNot F):=(Rl ha).imp λσ H Q⟨ρ,k,rs,e,q⟩=>by
 unfold fNot at e;cases h:F ρ with
 | none=>rw[h]at e;cases e
 | some b=>rw[h]at e;cases e;exact⟨ρ,b,rs,h,q⟩
def fAnd(F G:FT):FT:=λρ=>(F ρ).bind λb=>if b then G ρ else some false
def fOr(F G:FT):FT:=λρ=>(F ρ).bind λb=>if b then some true else G ρ
theorem RJ{F:FT}(ha:PFT X a F):PFW X (.BoolOp .And [a] pos) F:=UV ha
theorem Bt{F:FT}(ha:PFT X a F):PFW X (.BoolOp .Or [a] pos) F:=LC ha
theorem w_and{rest:List Expr}{F G:FT}(ha:PFT X a F)(hb:PFW X (.BoolOp .And (b::rest) pos) G):PFW X (.BoolOp .And (a::b::rest) pos) (fAnd F G) :=
 (pw_and ha hb).imp fun σ H Q hZ=>hZ.elim fun ρ hZ=>hZ.elim fun k hZ=>hZ.elim fun rs hZ=>hZ.elim fun e q=>by
  obtain⟨z,e1,e2⟩:=bind_some e;refine⟨ρ,z,rs,e1,λH' s=>?_⟩;dsimp only;cases z with
  | true=>rw[if_pos rfl]at e2 ⊢;exact⟨ρ,k,rs.mono s,e2,λH'' s'=>q H'' (s.trans s')⟩
  | false=>rw[if_neg wD]at e2 ⊢;cases e2;exact q H' s
theorem w_or{rest:List Expr}{F G:FT}(ha:PFT X a F)(hb:PFW X (.BoolOp .Or (b::rest) pos) G):PFW X (.BoolOp .Or (a::b::rest) pos) (fOr F G) :=
 (Rk ha hb).imp fun σ H Q hZ=>hZ.elim fun ρ hZ=>hZ.elim fun k hZ=>hZ.elim fun rs hZ=>hZ.elim fun e q=>by
  obtain⟨z,e1,e2⟩:=bind_some e;refine⟨ρ,z,rs,e1,λH' s=>?_⟩;dsimp only;cases z with
  | true=>rw[if_pos rfl]at e2 ⊢;cases e2;exact q H' s
  | false=>rw[if_neg wD]at e2 ⊢;exact⟨ρ,k,rs.mono s,e2,λH'' s'=>q H'' (s.trans s')⟩
def vAnd(F G:FE):FE:=λρ=>(k6 F ρ).bind λb=>if b then G ρ else some (.nw,.bl false)
def vNot(F:FE):FE:=λρ=>(k6 F ρ).map λb=>(.nw,.bl (!b))
theorem Pg{op}(h:PF X a Fa):PF X (.BoolOp op [a] pos) Fa:=pe_one h
theorem Ph{rest:List Expr}(ha:PF X a Fa)(hb:PF X (.BoolOp .And (b::rest) pos) Fb):PF X (.BoolOp .And (a::b::rest) pos) (vAnd Fa Fb) :=
 (pe_and ha hb).imp fun σ H Q hZ=>hZ.elim fun ρ hZ=>hZ.elim fun f hZ=>hZ.elim fun d hZ=>hZ.elim fun rs hZ=>hZ.elim fun e k=>by
  obtain⟨z,e1,e2⟩:=bind_some e;obtain⟨⟨f1,d1⟩,e3,e4⟩:=bind_some e1;refine⟨ρ,f1,d1,rs,e3,λv H' s r=>?_⟩;cases d1<;>first|cases e4|skip
  refine⟨z,Rp.bl_.mp r.sh,?_⟩;cases z with
  | true=>rw[if_pos rfl]at e2 ⊢;exact⟨ρ,f,d,rs.mono s,e2,λv H'' s' r=>k v H'' (s.trans s') (r.early s)⟩
  | false=>rw[if_neg wD]at e2 ⊢;cases e2;exact k _ H' s RpF.b_
theorem p_not(ha:PF X a Fa):PF X (.UnaryOp .Not a pos) (vNot Fa):=(pe_not ha).imp λσ H Q⟨ρ,f,d,rs,e,k⟩=>by
 unfold vNot at e;cases h:k6 Fa ρ with
 | none=>rw[h]at e;cases e
 | some z =>
  rw[h]at e;cases e;obtain⟨⟨f1,d1⟩,e3,e4⟩:=bind_some h;refine⟨ρ,f1,d1,rs,e3,λv H' s r=>?_⟩;cases d1<;>first|cases e4|skip
  exact⟨z,Rp.bl_.mp r.sh,k _ H' s RpF.b_⟩
def fIf(F:FT)(Fa Fb:FE):FE:=λρ=>(F ρ).bind λb=>if b then Fa ρ else Fb ρ
theorem p_if{F:FT}(hc:PFT X c F)(ha:PF X a Fa)(hb:PF X b Fb):PF X (.IfExp c a b pos) (fIf F Fa Fb) :=
 (Rm hc ha hb).imp fun σ H Q hZ=>hZ.elim fun ρ hZ=>hZ.elim fun f hZ=>hZ.elim fun d hZ=>hZ.elim fun rs hZ=>hZ.elim fun e k=>by
  obtain⟨z,e1,e2⟩:=bind_some e;refine⟨ρ,z,rs,e1,λH' s=>?_⟩;dsimp only;cases z with
  | true=>rw[if_pos rfl]at e2 ⊢;exact⟨ρ,f,d,rs.mono s,e2,λv H'' s' r=>k v H'' (s.trans s') (r.early s)⟩
  | false=>rw[if_neg wD]at e2 ⊢;exact⟨ρ,f,d,rs.mono s,e2,λv H'' s' r=>k v H'' (s.trans s') (r.early s)⟩
def fNeg(F:FE):FE:=λρ=>(F ρ).bind λx=>match x.2 with|.int i=>some (.nw,.int (-i))|_=>none
theorem JN(ha:PF X a Fa):PF X (.UnaryOp .USub a pos) (fNeg Fa):=(pe_un Rs ha).imp λσ H Q ⟨ρ,f,d,rs,e,k⟩=>by
 obtain⟨⟨f1,d1⟩,e1,e2⟩:=bind_some e;refine⟨ρ,f1,d1,rs,e1,λv H' s r=>?_⟩;cases d1<;>first|cases e2|skip
 rename_i i;exact⟨i,Rp.int_.mp r.sh,k _ H' s RpF.i_⟩
def IF(r r':FO)(Fa Fb Fc:FE):FE:=λρ=>(Fa ρ).bind λx=>(Fb ρ).bind λy=>(r x.2 y.2).bind λz=>(blD z.2).bind λk=>if k then(Fc ρ).bind λw=>r' y.2 w.2 else some (.nw,.bl false)
theorem Qq{r r':FO}{σ:St}{H:Hp}{Q:VK}(h:upF X (IF r r' Fa Fb Fc) σ H Q):
  Rv (λx y H Q=>∃ dx dy f d,Rp X.K emp dx H x/\Rp X.K emp dy H y/\r dx dy=some (f,d)/\∀ v H',Same H H'->RpF X.ky H f d H' v->Q v H') (λx y H Q=>∃ dx dy f d,Rp X.K emp dx H x/\Rp X.K emp dy H y/\r' dx dy=some (f,d)/\∀ v H',Same H H'->RpF X.ky H f d H' v->Q v H')
   (upF X Fa) (upF X Fb) (upF X Fc) σ H Q:=by
 obtain⟨ρ,f,d,rs,e0,k⟩:=h;obtain⟨⟨fa,da⟩,ea,e1⟩:=bind_some e0;obtain⟨⟨fb,db⟩,eb,e2⟩:=bind_some e1;obtain⟨⟨fz,dz⟩,ez,e3⟩:=bind_some e2;obtain⟨z,ek,e⟩:=bind_some e3;clear e3 e2 e1 e0;refine⟨ρ,fa,da,rs,ea,λv H1 s1 r1=>⟨ρ,fb,db,rs.mono s1,eb,λu H2 s2 r2=>⟨da,db,fz,dz,Rp.mono _ s2 r1.sh,r2.sh,ez,λw H3 s3 r3=>?_⟩⟩⟩;cases dz<;>first|cases ek|skip
 refine⟨z,Rp.bl_.mp r3.sh,?_⟩;cases z with
 | true =>
  rw[if_pos rfl]at e ⊢;obtain⟨⟨fc,dc⟩,ec,e⟩:=bind_some e;exact⟨ρ,fc,dc,rs.mono (s1.trans (s2.trans s3)),ec,λw' H4 s4 r4=>⟨db,dc,f,d,Rp.mono _ (s3.trans s4) r2.sh,r4.sh,e,λy H' s' r'=>k y H' (s1.trans (s2.trans (s3.trans (s4.trans s')))) (r'.early (s1.trans (s2.trans (s3.trans s4))))⟩⟩
 | false =>
  rw[if_neg wD]at e ⊢;cases e;exact k _ _ (s1.trans (s2.trans s3)) RpF.b_
theorem Vg{op op':CmpOp}{r r':FO}(ho:OpF X (compareOp op) r)(ho':OpF X (compareOp op') r')(ha:PF X a Fa)(hb:PF X b Fb)(hc:PF X c Fc)
 (hm:lastMarks [op,op'] [b,c]=false:=by with_unfolding_all rfl):PF X (.Compare a [op,op'] [b,c] pos) (IF r r' Fa Fb Fc):=(Rw ho ho' ha hb hc hm).imp λσ H Q h=>Qq h
def isN:Dt->Bool
 | .non=>true
 | _=>false
def Pi:FO:=λx y=>match y with|.non=>some (.nw,.bl (isN x))|_=>none
theorem isNon{H:Hp}{d:Dt}{v:V}(r:Rp X.K emp d H v):decide (v=V.non)=isN d:=by
 cases d with
 | non=>rw[Rp.non_.mp r];rfl
 | bl b=>rw[Rp.bl_.mp r];rfl
 | int i=>rw[Rp.int_.mp r];rfl
 | str x=>rw[Rp.str_.mp r];rfl
 | lst ds=>obtain⟨a,_,rfl,_⟩:=Rp.lst_.mp r;rfl
 | tup ds=>obtain⟨a,_,rfl,_⟩:=Rp.tup_.mp r;rfl
 | scr ds=>obtain⟨a,rfl,_⟩:=Rp.scr_.mp r;rfl
 | dic=>obtain⟨a,rfl,_⟩:=Rp.dic_.mp r;rfl
 | obj _ _ _ _=>obtain⟨a,_,_,_,_,_,rfl,_⟩:=Rp.obj_.mp r;rfl
theorem o_isN:OpF X (compareOp .Is) Pi:=by
 rintro π s σ H x y v u Q I r1 r2 ⟨d1,d2,f,d,q1,q2,e,k⟩;unfold Pi at e;split at e
 · cases e;refine op_isN π s σ H x y v u Q I r1 r2 ⟨Rp.non_.mp q2,?_⟩;rw[isNon q1];exact k _ H (Same.refl H) RpF.b_
 · cases e
theorem U4{K:aE}{B H:Hp}{ds:List Dt}{vs:List V}{i:Int}{d:Dt}(h:Rps K B ds H vs)(e:atI ds i=some d):∃ v,atI vs i=some v/\Rp K B d H v:=by
 unfold atI at e ⊢;rw[h.length];cases q:ixN ds.length i with
 | none=>rw[q]at e;cases e
 | some j =>
  rw[q]at e;exact h.get e
def Fl.item:Fl->Fl
 | .tn => .sh
 | f=>f
def opAt(x:Dv)(y:Dv):Option Dv:=match x.2,y.2 with
 | .lst ds,.int i=>(atI ds i).map (nrm x.1.item)
 | .tup ds,.int i=>(atI ds i).map (nrm x.1.item)
 | .scr ns,.int i=>(atI ns i).map λn=>(.nw,.int n)
 | _,_=>none
def fAt(Fa Fb:FE):FE:=λρ=>(Fa ρ).bind λx=>(Fb ρ).bind λy=>opAt x y
theorem RpF.item{X:Ky}{H H':Hp}{f:Fl}{ds:List Dt}{v:V}{i:Int}{d:Dt}(h:RpF X H f (.lst ds) H' v)(e:atI ds i=some d):∃ a vs w,v = .ref a/\SqL X.K H' a vs/\atI vs i=some w/\RpF X H f.item d H' w:=by
 cases f with
 | sh=>obtain⟨a,vs,rfl,_,h1,h2⟩:=Rp.items h;obtain⟨w,e1,e2⟩:=U4 h2 e;exact⟨a,vs,w,rfl,SqL.of h1,e1,e2⟩
 | tn=>obtain⟨a,vs,rfl,_,h1,h2⟩:=Rp.items h.1;obtain⟨w,e1,e2⟩:=U4 h2 e;exact⟨a,vs,w,rfl,SqL.of h1,e1,e2⟩
 | fr=>obtain⟨a,vs,rfl,_,h1,h2⟩:=Rp.items h;obtain⟨w,e1,e2⟩:=U4 h2 e;exact⟨a,vs,w,rfl,SqL.of h1,e1,e2⟩
 | nw=>obtain⟨a,vs,rfl,_,h1,h2⟩:=Rp.items h;obtain⟨w,e1,e2⟩:=U4 h2 e;exact⟨a,vs,w,rfl,SqL.of h1,e1,e2⟩
theorem RpF.itemT{X:Ky}{H H':Hp}{f:Fl}{ds:List Dt}{v:V}{i:Int}{d:Dt}(h:RpF X H f (.tup ds) H' v)(e:atI ds i=some d):∃ a vs w,v = .ref a/\SqT X.K H' a vs/\atI vs i=some w/\RpF X H f.item d H' w:=by
 cases f with
 | sh=>obtain⟨a,vs,rfl,h1,h2⟩:=Rp.tup_.mp h;obtain⟨w,e1,e2⟩:=U4 h2 e;exact⟨a,vs,w,rfl,h1,e1,e2⟩
 | tn=>obtain⟨⟨_,h2⟩,_⟩:=h.2;cases h2
 | fr=>obtain⟨a,vs,rfl,h1,h2⟩:=Rp.tup_.mp h;obtain⟨w,e1,e2⟩:=U4 h2 e;exact⟨a,vs,w,rfl,h1,e1,e2⟩
 | nw=>obtain⟨a,vs,rfl,h1,h2⟩:=Rp.tup_.mp h;obtain⟨w,e1,e2⟩:=U4 h2 e;exact⟨a,vs,w,rfl,h1,e1,e2⟩
theorem Vh{α β:Type}{g:α->β}{xs:List α}{i:Int}{x:α}(h:atI xs i=some x):atI (xs.map g) i=some (g x):=by
 unfold atI at h ⊢;rw[we];cases q:ixN xs.length i with
 | none=>rw[q]at h;cases h
 | some j=>rw[q]at h;have h:xs[j]?=some x:=h;show(xs.map g)[j]?=_;rw[wq,h];rfl
theorem p_ix(ha:PF X a Fa)(hb:PF X b Fb)(hs:IB b):PF X (.Subscript a b pos) (fAt Fa Fb) :=
 (J4 ix_seq ha hb hs).imp fun σ H Q hZ=>hZ.elim fun ρ hZ=>hZ.elim fun f hZ=>hZ.elim fun d hZ=>hZ.elim fun rs hZ=>hZ.elim fun e0 k=>by
  obtain⟨⟨fa,da⟩,ea,e1⟩:=bind_some e0;obtain⟨⟨fb,db⟩,eb,e⟩:=bind_some e1;clear e1 e0;refine⟨ρ,fa,da,rs,ea,λv H1 s1 r1=>⟨ρ,fb,db,rs.mono s1,eb,λu H2 s2 r2=>?_⟩⟩;have r1:=r1.mono s2;unfold opAt at e;split at e
  · rename_i ds i ed ei;cases ed;cases ei;cases q:atI ds i with
    | none=>rw[q]at e;cases e
    | some d0 =>
     rw[q]at e;obtain⟨p,vs,w,rfl,h1,h2,h3⟩:=r1.item q;have e:nrm fa.item d0=(f,d):=Option.some.inj e;have h4:=h3.nrm;have e1:d0=d:=congrArg Prod.snd e;subst e1;rw[e]at h4;exact .inl ⟨p,vs,i,w,rfl,Rp.int_.mp r2.sh,h1,h2,k _ _ (s1.trans s2) h4⟩
  · rename_i ds i ed ei;cases ed;cases ei;cases q:atI ds i with
    | none=>rw[q]at e;cases e
    | some d0 =>
     rw[q]at e;obtain⟨p,vs,w,rfl,h1,h2,h3⟩:=r1.itemT q;have e:nrm fa.item d0=(f,d):=Option.some.inj e;have h4:=h3.nrm;have e1:d0=d:=congrArg Prod.snd e;subst e1;rw[e]at h4;exact .inr (.inl ⟨p,vs,i,w,rfl,Rp.int_.mp r2.sh,h1,h2,k _ _ (s1.trans s2) h4⟩)
  · rename_i ns i ed ei;cases ed;cases ei;cases q:atI ns i with
    | none=>rw[q]at e;cases e
    | some n =>
     rw[q]at e;cases e;obtain⟨p,rfl,_,h1⟩:=Rp.scr_.mp r1.sh;exact .inl ⟨p,_,i,_,rfl,Rp.int_.mp r2.sh,h1.sq,Vh q,k _ _ (s1.trans s2) RpF.i_⟩
  · cases e
end
end L2

end
section
local macro_rules|`(tactic|rfl')=>`(tactic|first|lia|omega +splitDisjunctions)
namespace L2
open PySem PySem.Spec PyProof.Rows
mutual
def Dt.py:Dt->PyData
 | .non => .none
 | .bl b => .bool b
 | .int i => .int i
 | .str x => .str x
 | .lst ds => .list (pys ds)
 | .tup ds => .tuple (pys ds)
 | .scr ns => .list (ns.map .int)
 | .dic => .dict []
 | .obj _ _ _ _ => .none
def pys:List Dt->List PyData
 | []=>[]
 | d::ds=>d.py::pys ds
end
mutual
def Dt.okN:Nat->Dt->Bool
 | _,.str x=>PyData.strOk x
 | 0,.lst _=>false
 | 0,.tup _=>false
 | n+1,.lst ds=>oksN n ds
 | n+1,.tup ds=>oksN n ds
 | 0,.scr _=>false
 | _,.dic=>false
 | _,.obj _ _ _ _=>false
 | _,_=>true
def oksN:Nat->List Dt->Bool
 | _,[]=>true
 | n,d::ds=>d.okN n&&oksN n ds
end
theorem IG:∀ ns:aH,PyData.canLayAll0 (ns.map PyData.int)=true/\PyData.depthAll (ns.map PyData.int)=0
 | []=>⟨rfl,rfl⟩
 | n::ns=>⟨by rw[wj,PyData.canLayAll0,(IG ns).1];rfl,by rw[wj,PyData.depthAll,(IG ns).2];rfl⟩
mutual
theorem Ec:∀(n:Nat) (d:Dt),d.okN n=true->d.py.canLay0=true/\d.py.depth<=n
 | n,.non,_=>⟨rfl,by rw[Dt.py,PyData.depth];exact wx _⟩
 | n,.bl b,_=>⟨rfl,by rw[Dt.py,PyData.depth];exact wx _⟩
 | n,.int i,_=>⟨rfl,by rw[Dt.py,PyData.depth];exact wx _⟩
 | n,.str x,h=>by
  have h:PyData.strOk x=true:=by cases n<;>simpa[Dt.okN]using h
  exact⟨by rw[Dt.py,PyData.canLay0];exact h,by rw[Dt.py,PyData.depth];exact wx _⟩
 | 0,.lst ds,h=>by rw[Dt.okN]at h;cases h
 | 0,.tup ds,h=>by rw[Dt.okN]at h;cases h
 | 0,.scr ds,h=>by rw[Dt.okN]at h;cases h
 | n,.dic,h=>by cases n<;>(unfold Dt.okN at h;cases h)
 | n,.obj _ _ _ _,h=>by cases n<;>(unfold Dt.okN at h;cases h)
 | n+1,.lst ds,h=>by
  rw[Dt.okN]at h;obtain⟨h1,h2⟩:=Ez n ds h;exact⟨by rw[Dt.py,PyData.canLay0];exact h1,by rw[Dt.py,PyData.depth];rfl'⟩
 | n+1,.tup ds,h=>by
  rw[Dt.okN]at h;obtain⟨h1,h2⟩:=Ez n ds h;exact⟨by rw[Dt.py,PyData.canLay0];exact h1,by rw[Dt.py,PyData.depth];rfl'⟩
 | n+1,.scr ns,h=>by
  obtain⟨h1,h2⟩:=IG ns;exact⟨by rw[Dt.py,PyData.canLay0];exact h1,by rw[Dt.py,PyData.depth];rfl'⟩
theorem Ez:∀(n:Nat) (ds:List Dt),oksN n ds=true->PyData.canLayAll0 (pys ds)=true/\PyData.depthAll (pys ds)<=n
 | n,[],_=>⟨rfl,by rw[pys,PyData.depthAll];exact wx _⟩
 | n,d::ds,h=>by
  rw[oksN,wE]at h;obtain⟨h1,h2⟩:=Ec n d h.1;obtain⟨h3,h4⟩:=Ez n ds h.2;refine⟨by rw[pys,PyData.canLayAll0,h1,h3];rfl,?_⟩;rw[pys,PyData.depthAll];exact Nat.max_le.mpr ⟨h2,h4⟩
end
theorem Ae{d:Dt}{n:Nat}(h:d.okN n=true)(hn:n<=64):SeqAt.shaped d.py=true:=by
 obtain⟨h1,h2⟩:=Ec n d h;unfold SeqAt.shaped;rw[h1,Bool.true_and];exact decide_eq_true (wB h2 hn)
section
variable {X:Cx}{π:aB}{σ:St}{H:Hp}{s:Shared}
theorem EA{h:Heap}:∀{ns:aH} {us:aG},Vals (ns.map V.int) us->∃ as,ReadsAll h us (ns.map PyData.int) as
 | [],us,r=>by cases r;exact⟨_,.nil⟩
 | n::ns,us,r=>by
  rw[wj]at r;cases r with
  | cons r1 r2 =>
   obtain⟨t,rfl⟩:=r1;obtain⟨as,q⟩:=EA r2;exact⟨_,.cons (.int n t) q⟩
mutual
theorem N9(I:Inv X π σ H s):∀(n:Nat) (d:Dt) {v:V} {u:Value},d.okN n=true->Rp X.K emp d H v->RelV v u->∃ as,Reads s.heap u d.py as
 | n,.non,v,u,_,h,r=>by rw[Rp.non_]at h;subst h;cases r;exact⟨_,.none⟩
 | n,.bl b,v,u,_,h,r=>by rw[Rp.bl_]at h;subst h;cases r;exact⟨_,.bool b⟩
 | n,.int i,v,u,_,h,r=>by rw[Rp.int_]at h;subst h;obtain⟨t,rfl⟩:=r;exact⟨_,.int i t⟩
 | n,.str x,v,u,_,h,r=>by rw[Rp.str_]at h;subst h;obtain⟨t,rfl⟩:=r;exact⟨_,.str x t⟩
 | n,.dic,v,u,o,h,r=>by cases n<;>(unfold Dt.okN at o;cases o)
 | n,.obj _ _ _ _,v,u,o,h,r=>by cases n<;>(unfold Dt.okN at o;cases o)
 | 0,.lst ds,v,u,o,h,r=>by rw[Dt.okN]at o;cases o
 | 0,.tup ds,v,u,o,h,r=>by rw[Dt.okN]at o;cases o
 | n+1,.lst ds,v,u,o,h,r=>by
  rw[Dt.okN]at o;obtain⟨a,vs,rfl,_,h1,h2⟩:=Rp.lst_.mp h;cases r;obtain⟨its,rv,⟨o,n,e,c,dd,dt⟩,_⟩:=I.list (SqL.of (K:=X.K) h1);obtain⟨as,q⟩:=Y3 I _ ds (by assumption) (Rps.mono ds k8 h2) rv;exact⟨_,by rw[Dt.py];exact .list e c dt q⟩
 | n+1,.tup ds,v,u,o,h,r=>by
  rw[Dt.okN]at o;obtain⟨a,vs,rfl,h1,h2⟩:=Rp.tup_.mp h;cases r;obtain⟨its,rv,⟨o,e,c,n,dt⟩,_⟩:=I.tuple h1;obtain⟨as,q⟩:=Y3 I _ ds (by assumption) h2 rv;exact⟨_,by rw[Dt.py];exact .tuple e c dt q⟩
 | n,.scr ns,v,u,_,h,r=>by
  obtain⟨a,rfl,_,h1⟩:=Rp.scr_.mp h;cases r;obtain⟨its,rv,⟨o,n,e,c,dd,dt⟩,_⟩:=I.list h1.sq;obtain⟨as,q⟩:=EA (h:=s.heap) rv;exact⟨_,by rw[Dt.py];exact .list e c dt q⟩
theorem Y3(I:Inv X π σ H s):∀(n:Nat) (ds:List Dt) {vs:List V} {us:aG},oksN n ds=true->Rps X.K emp ds H vs->Vals vs us->∃ as,ReadsAll s.heap us (pys ds) as
 | n,[],vs,us,_,h,r=>by rw[Rps.nil_]at h;subst h;cases r;exact⟨_,by rw[pys];exact .nil⟩
 | n,d::ds,vs,us,o,h,r=>by
  rw[oksN,wE]at o;obtain⟨v,ws,rfl,h1,h2⟩:=Rps.cons_.mp h;cases r with
  | cons r1 r2 =>
   obtain⟨as,q1⟩:=N9 I n d o.1 h1 r1;obtain⟨bs,q2⟩:=Y3 I n ds o.2 h2 r2;exact⟨_,by rw[pys];exact .cons q1 q2⟩
end
end
def eqD(x y:Dt):Bool:=PyData.eqv x.py y.py
section
variable {X:Cx}{a b c e:Expr}{Fa Fb Fc:FE}{pos:Pos}
def opEq:FO:=λx y=>if x.okN 8&&y.okN 8 then some (.nw,.bl (eqD x y)) else none
def opNe:FO:=λx y=>if x.okN 8&&y.okN 8 then some (.nw,.bl (!eqD x y)) else none
theorem o_eq(hu:X.A.units+64<cLine):OpF X (compareOp .Eq) opEq:=by
 rintro π s σ H x y v u Q I r1 r2 ⟨d1,d2,f,d,q1,q2,e,k⟩;unfold opEq at e;split at e
 · rename_i h;rw[wE]at h;cases e;obtain⟨as,ra⟩:=N9 I _ d1 h.1 q1 r1;obtain⟨bs,rb⟩:=N9 I _ d2 h.2 q2 r2;exact eq_dataH ra rb (Ae h.1 (by decide)) (Ae h.2 (by decide)) hu ⟨.bl _,H,I,rfl,k _ H (Same.refl H) RpF.b_⟩
 · cases e
theorem o_ne(hu:X.A.units+64<cLine):OpF X (compareOp .NotEq) opNe:=by
 rintro π s σ H x y v u Q I r1 r2 ⟨d1,d2,f,d,q1,q2,e,k⟩;unfold opNe at e;split at e
 · rename_i h;rw[wE]at h;cases e;obtain⟨as,ra⟩:=N9 I _ d1 h.1 q1 r1;obtain⟨bs,rb⟩:=N9 I _ d2 h.2 q2 r2;exact ne_dataH ra rb (Ae h.1 (by decide)) (Ae h.2 (by decide)) hu ⟨.bl _,H,I,rfl,k _ H (Same.refl H) RpF.b_⟩
 · cases e
end
def RpFs(X:Ky)(H:Hp):List Dv->Hp->List V->Prop
 | [],_,vs=>vs=[]
 | x::xs,H',vs=>∃ v r,vs=v::r/\RpF X H x.1 x.2 H' v/\RpFs X H xs H' r
def upAs(X:Cx)(F:FA):TA:=λσ H Q=>∃ ρ xs,RepS X.ky H ρ σ/\F ρ=some xs/\∀ vs H',Same H H'->RpFs X.ky H xs H' vs->Q vs H'
def PFA(X:Cx)(es:List Expr)(F:FA):Prop:=PA X es (upAs X F)
def sndL:List Dv->List Dt
 | []=>[]
 | x::xs=>x.2::sndL xs
def Bu:List Dv->Bool
 | []=>true
 | x::xs=>x.1.isNw&&Bu xs
def Q0:List Dv->Bool
 | []=>true
 | x::xs=>x.1.isFr&&Q0 xs
section
variable {X:Ky}{H H' H1:Hp}
theorem RpFs.sh:∀{xs:List Dv} {vs:List V},RpFs X H xs H' vs->Rps X.K emp (sndL xs) H' vs
 | [],vs,h=>Rps.nil_.mpr h
 | x::xs,vs,⟨v,r,e,h1,h2⟩=>Rps.cons_.mpr ⟨v,r,e,h1.sh,RpFs.sh h2⟩
theorem RpFs.nw:∀{xs:List Dv} {vs:List V},Bu xs=true->RpFs X H xs H' vs->Rps X.K H (sndL xs) H' vs
 | [],vs,_,h=>Rps.nil_.mpr h
 | ⟨f,d⟩::xs,vs,q,⟨v,r,e,h1,h2⟩=>by
  unfold Bu at q;rw[wE]at q;cases f<;>first|(exact absurd q.1 wD)|exact Rps.cons_.mpr ⟨v,r,e,h1,RpFs.nw q.2 h2⟩
theorem RpFs.fr(h0:Same X.H₀ H):∀{xs:List Dv} {vs:List V},Q0 xs=true->RpFs X H xs H' vs->Rps X.K X.H₀ (sndL xs) H' vs
 | [],vs,_,h=>Rps.nil_.mpr h
 | ⟨f,d⟩::xs,vs,q,⟨v,r,e,h1,h2⟩=>by
  unfold Q0 at q;rw[wE]at q;exact Rps.cons_.mpr ⟨v,r,e,h1.fr h0 q.1,RpFs.fr h0 q.2 h2⟩
theorem RpFs.mono:∀{xs:List Dv} {vs:List V},RpFs X H xs H' vs->Same H' H1->RpFs X H xs H1 vs
 | [],vs,h,_=>h
 | x::xs,vs,⟨v,r,e,h1,h2⟩,s=>⟨v,r,e,h1.mono s,RpFs.mono h2 s⟩
theorem RpFs.early(s:Same H H1):∀{xs:List Dv} {vs:List V},RpFs X H1 xs H' vs->RpFs X H xs H' vs
 | [],vs,h=>h
 | x::xs,vs,⟨v,r,e,h1,h2⟩=>⟨v,r,e,h1.early s,RpFs.early s h2⟩
end
section
variable {X:Cx}{a b c e:Expr}{es:List Expr}{Fa Fb Fe:FE}{Fs:FA}{pos:Pos}
def fNil:FA:=λ_=>some []
def b8(Fa:FE)(Fs:FA):FA:=λρ=>(Fa ρ).bind λx=>(Fs ρ).bind λxs=>some (x::xs)
theorem e9:PFA X [] fNil:=l7.imp (by rintro σ H Q ⟨ρ,xs,rs,e,k⟩;cases e;exact k [] H (Same.refl H) rfl)
theorem j3(ha:PF X e Fe)(hr:PFA X es Fs)(hs:starEach (e::es) X.env=(false,eval e X.env)::starEach es X.env:=by rfl):PFA X (e::es) (b8 Fe Fs) :=
 (i8 ha hr hs).imp fun σ H Q hZ=>hZ.elim fun ρ hZ=>hZ.elim fun xs hZ=>hZ.elim fun rs hZ=>hZ.elim fun e0 k=>by
  obtain⟨⟨f,d⟩,e1,e2⟩:=bind_some e0;obtain⟨ys,e3,e4⟩:=bind_some e2;cases e4;exact⟨ρ,f,d,rs,e1,λv H1 s1 r1=>⟨ρ,ys,rs.mono s1,e3,λvs H2 s2 r2=>k _ _ (s1.trans s2) ⟨v,vs,rfl,r1.mono s2,r2.early s1⟩⟩⟩
theorem RpFs.length{X:Ky}{H H':Hp}:∀{xs:List Dv} {vs:List V},RpFs X H xs H' vs->vs.length=xs.length
 | [],vs,h=>by rw[show vs=[]from h];rfl
 | x::xs,vs,⟨v,r,e,_,h2⟩=>by rw[e,wm,wm,RpFs.length h2]
def fLst(Fs:FA):FE:=λρ=>(Fs ρ).bind λxs=>if xs.length<=1000 then some (if Bu xs then .nw else .tn,.lst (sndL xs)) else none
def fTup(Fs:FA):FE:=λρ=>(Fs ρ).bind λxs=>if xs.length<=1000 then some (if Bu xs then .nw else if Q0 xs then .fr else .sh,.tup (sndL xs)) else none
theorem AH(h:PFA X es Fs):PF X (.List es pos) (fLst Fs):=(Eu h).imp λσ H Q⟨ρ,f,d,rs,e0,k⟩=>by
 obtain⟨xs,e1,e2⟩:=bind_some e0;split at e2
 · rename_i hl;cases e2;refine⟨ρ,xs,rs,e1,λvs H1 s1 r1=>⟨wB (by rw[r1.length];exact hl) (by decide),λp hp=>k _ _ (s1.trans (j6 hp)) ?_⟩⟩;have hp0:H p=none:=s1.free hp;by_cases q:Bu xs=true
   · rw[if_pos q];exact Rp.new (K:=X.K) (B:=H) hp hp0 (r1.nw q)
   · rw[if_neg q];exact⟨Rp.new hp rfl r1.sh,⟨_,rfl⟩,λa e=>by cases e;exact hp0⟩
 · cases e2
theorem JO{x1}(h:PFA X es Fs):PF X (.Tuple es x1 pos) (fTup Fs):=(Et h).imp λσ H Q⟨ρ,f,d,rs,e0,k⟩=>by
 obtain⟨xs,e1,e2⟩:=bind_some e0;split at e2
 · rename_i hl;cases e2;refine⟨ρ,xs,rs,e1,λvs H1 s1 r1=>⟨wB (by rw[r1.length];exact hl) (by decide),λp hp=>k _ _ (s1.trans (j6 hp)) ?_⟩⟩;have r2:=r1.mono (j6 (o := .tup vs) hp);by_cases q:Bu xs=true
   · rw[if_pos q];exact(Rp.tup_ (K:=X.K) (B:=H)).mpr ⟨p,vs,rfl,SqT.of i7,r2.nw q⟩
   · rw[if_neg q];by_cases q2:Q0 xs=true
     · rw[if_pos q2];exact(Rp.tup_ (K:=X.K) (B:=X.H₀)).mpr ⟨p,vs,rfl,SqT.of i7,r2.fr rs.base q2⟩
     · rw[if_neg q2];exact(Rp.tup_ (K:=X.K) (B:=emp)).mpr ⟨p,vs,rfl,SqT.of i7,r2.sh⟩
 · cases e2
abbrev FC:=List Dt->Option Dt
def spc(K:aE)(fr:Bool)(c:FC):Sp:=λvs H Q _=>∃ ds d,Rps K emp ds H vs/\c ds=some d/\∀ v H',Same H H'->Rp K (if fr then H else emp) d H' v->Q v H'
def f8(fr:Bool)(c:FC)(Fs:FA):FE:=λρ=>(Fs ρ).bind λxs=>(c (sndL xs)).map (nrm (if fr then .nw else .sh))
theorem JP{X:Ky}{fr:Bool}{H H1 H':Hp}{d:Dt}{v:V}(s:Same H H1)(r:Rp X.K (if fr then H1 else emp) d H' v):RpF X H (nrm (if fr then .nw else .sh) d).1 d H' v:=by
 cases fr with
 | true=>exact RpF.nrm (f := .nw) (RpF.early s (show RpF X H1 .nw d H' v from r))
 | false=>exact RpF.nrm (f := .sh) r
theorem p_call{fr:Bool}{k:Nat}{f:Addr}{fd:FuncData}{ps:List Str}{ct:FC}{x:Str}{p:Pos}(F:FnOk X.prog X.w X.K X.mg X.base CX0 k f fd ps (spc X.K fr ct))(hr:Room k X.A)(hg:Gl X x)(hm:X.mg x=some (.ref f))(hk:PySem.W.keepIn X.K (.ref f)=true)(hb:Binds X.K fd ps [])
  (ha:PFA X (e::es) Fs) (hdb:(x==("__debug__" : Str))=false:=by decide) (hst:starEach (e::es) X.env=(false,eval e X.env)::starEach es X.env:=by rfl) (hpl:(backTo pos (starEach es X.env)).any (·.1)=false:=by rfl):PF X (.Call (.Name x p) (e::es) [] pos) (f8 fr ct Fs) :=
 (D8 (E:=E0) (dvs:=[]) F hr hg hm hk hb .nil S5 ha hdb hst hpl).imp fun σ H Q hZ=>hZ.elim fun ρ hZ=>hZ.elim fun f hZ=>hZ.elim fun d hZ=>hZ.elim fun rs hZ=>hZ.elim fun e0 k=>by
  obtain⟨xs,e1,e2⟩:=bind_some e0;cases q:ct (sndL xs) with
  | none=>rw[q]at e2;cases e2
  | some d0 =>
   rw[q]at e2;have e2:nrm (if fr then .nw else .sh) d0=(f,d):=Option.some.inj e2;have e3:d0=d:=congrArg Prod.snd e2;subst e3;refine⟨ρ,xs,rs,e1,λvs H1 s1 r1=>?_⟩;dsimp only;rw[Wp];refine⟨_,d0,r1.sh,q,λv H' s' r'=>k v H' (s1.trans s') ?_⟩;have:=JP (X:=X.ky) s1 r';rw[e2]at this;exact this
abbrev FB:=List Dt->Option Dv
def Bv(X:Cx)(f:Value)(r:FB):Prop:=Dl X f (λxs H Q=>∃ ds f d,Rps X.K emp ds H xs/\r ds=some (f,d)/\∀ v H',Same H H'->RpF X.ky H f d H' v->Q v H')
def fBlt(r:FB)(Fs:FA):FE:=λρ=>(Fs ρ).bind λxs=>r (sndL xs)
theorem Pj{r:FB}{σ:St}{H:Hp}{Q:VK}(h:upF X (fBlt r Fs) σ H Q):upAs X Fs σ H λvs H1=>∃ ds f d,Rps X.K emp ds H1 vs/\r ds=some (f,d)/\∀ v H',Same H1 H'->RpF X.ky H1 f d H' v->Q v H':=by
 obtain⟨ρ,f,d,rs,e0,k⟩:=h;obtain⟨xs,e1,e2⟩:=bind_some e0;exact⟨ρ,xs,rs,e1,λvs H1 s1 r1=>⟨_,f,d,r1.sh,e2,λv H' s' r'=>k v H' (s1.trans s') (r'.early s1)⟩⟩
theorem Vi{id:String}{r:FB}{x:Str}{p:Pos}(hc:Bv X (.builtin id) r)(hg:Gl X x)(hm:X.mg x=none)(hv:bootBuiltins x=some (.builtin id))(ha:PFA X (e::es) Fs)(hn:x ≠ "__name__" := by decide)(hdb:(x==("__debug__" : Str))=false:=by decide)(hst:starEach (e::es) X.env=(false,eval e X.env)::starEach es X.env:=by rfl)(hpl:(backTo pos (starEach es X.env)).any (·.1)=false:=by rfl):
 PF X (.Call (.Name x p) (e::es) [] pos) (fBlt r Fs):=(Ev hc hg hm hv ha hn hdb hst hpl).imp λσ H Q h=>Pj h
theorem RK{T:String}{r:FB}{x:Str}{p:Pos}(hc:Bv X (.type T) r)(hg:Gl X x)(hm:X.mg x=none)(hv:bootBuiltins x=some (.type T))(ha:PFA X (e::es) Fs)(hn:x ≠ "__name__" := by decide)(hdb:(x==("__debug__" : Str))=false:=by decide)(hst:starEach (e::es) X.env=(false,eval e X.env)::starEach es X.env:=by rfl)(hpl:(backTo pos (starEach es X.env)).any (·.1)=false:=by rfl):
 PF X (.Call (.Name x p) (e::es) [] pos) (fBlt r Fs):=(F6 hc hg hm hv ha hn hdb hst hpl).imp λσ H Q h=>Pj h
end
section
variable {X:Cx}
theorem Rps.one'{K:aE}{B H:Hp}{d:Dt}{vs:List V}(h:Rps K B [d] H vs):∃ v,vs=[v]/\Rp K B d H v:=by
 obtain⟨v,r,rfl,h1,h2⟩:=Rps.cons_.mp h;rw[Rps.nil_.mp h2];exact⟨v,rfl,h1⟩
def bLen:FB
 | [.lst xs]=>some (.nw,.int xs.length)
 | [.tup xs]=>some (.nw,.int xs.length)
 | [.scr xs]=>some (.nw,.int xs.length)
 | _=>none
theorem O0:Bv X (.builtin "len") bLen:=by
 rintro π s σ H xs us Q I r ⟨ds,f,d,rs,e,k⟩;unfold bLen at e;split at e
 · cases e;obtain⟨v,rfl,h⟩:=rs.one';obtain⟨p,vs,rfl,_,q1,q2⟩:=h.items;exact U0 π s σ H _ us Q I r ⟨p,vs,rfl,.inl (SqL.of q1),by rw[q2.length];exact k _ H (Same.refl H) RpF.i_⟩
 · cases e;obtain⟨v,rfl,h⟩:=rs.one';obtain⟨p,vs,rfl,q1,q2⟩:=Rp.tup_.mp h;exact U0 π s σ H _ us Q I r ⟨p,vs,rfl,.inr q1,by rw[q2.length];exact k _ H (Same.refl H) RpF.i_⟩
 · cases e;obtain⟨v,rfl,h⟩:=rs.one';obtain⟨p,rfl,_,q1⟩:=Rp.scr_.mp h;exact U0 π s σ H _ us Q I r ⟨p,_,rfl,.inl q1.sq,by rw[we];exact k _ H (Same.refl H) RpF.i_⟩
 · cases e
def bTup:FB
 | [.lst xs]=>some (if E3 xs then .nw else .sh,.tup xs)
 | [.tup xs]=>some (if E3 xs then .nw else .sh,.tup xs)
 | _=>none
theorem Pk{X:Ky}{H H':Hp}{xs:List Dt}{v:V}(h:Rp X.K emp (.tup xs) H' v):RpF X H (if E3 xs then .nw else .sh) (.tup xs) H' v:=by
 by_cases q:E3 xs=true
 · rw[if_pos q];exact RpF.scal (by rw[Dt.flat];exact q) h
 · rw[if_neg q];exact h
theorem RL:Bv X (.type "tuple") bTup:=by
 rintro π s σ H xs us Q I r ⟨ds,f,d,rs,e,k⟩;unfold bTup at e;split at e
 · cases e;obtain⟨v,rfl,h⟩:=rs.one';obtain⟨p,vs,rfl,_,q1,q2⟩:=h.items;exact A2 π s σ H _ us Q I r ⟨p,vs,rfl,.inl ⟨SqL.of q1,λl hl=>k _ _ (j6 hl) (Pk (Rp.tup_.mpr ⟨l,vs,rfl,SqT.of i7,Rps.mono _ (j6 hl) q2⟩))⟩⟩
 · cases e;obtain⟨v,rfl,h⟩:=rs.one';obtain⟨p,vs,rfl,q1,q2⟩:=Rp.tup_.mp h;exact A2 π s σ H _ us Q I r ⟨p,vs,rfl,.inr ⟨q1,k _ H (Same.refl H) (Pk h)⟩⟩
 · cases e
def bLst:FB
 | [.lst xs]=>some (newL xs)
 | [.tup xs]=>some (newL xs)
 | _=>none
theorem JQ:Bv X (.type "list") bLst:=by
 rintro π s σ H xs us Q I r ⟨ds,f,d,rs,e,k⟩;unfold bLst at e;split at e
 · cases e;obtain⟨v,rfl,h⟩:=rs.one';obtain⟨p,vs,rfl,_,q1,q2⟩:=h.items;exact U1 π s σ H _ us Q I r ⟨p,vs,rfl,.inl (SqL.of q1),λl hl=>k _ _ (j6 hl) (Eb hl q2)⟩
 · cases e;obtain⟨v,rfl,h⟩:=rs.one';obtain⟨p,vs,rfl,q1,q2⟩:=Rp.tup_.mp h;exact U1 π s σ H _ us Q I r ⟨p,vs,rfl,.inr q1,λl hl=>k _ _ (j6 hl) (Eb hl q2)⟩
 · cases e
def bAbs:FB
 | [.int i]=>some (.nw,.int (if i<0 then -i else i))
 | _=>none
theorem c_abs:Bv X (.builtin "abs") bAbs:=by
 rintro π s σ H xs us Q I r ⟨ds,f,d,rs,e,k⟩;unfold bAbs at e;split at e
 · rename_i i;cases e;obtain⟨v,rfl,h⟩:=rs.one';rw[Rp.int_]at h;subst h;exact JG π s σ H _ us Q I r ⟨i,rfl,k _ H (Same.refl H) RpF.i_⟩
 · cases e
def Dp:List Dt->Option (List Bool)
 | []=>some []
 | .bl b::ds=>(Dp ds).map (b::·)
 | _=>none
theorem GY{K:aE}{B H:Hp}:∀{ds:List Dt} {bs:List Bool} {vs:List V},Dp ds=some bs->Rps K B ds H vs->vs=bs.map V.bl
 | [],bs,vs,e,r=>by cases e;exact Rps.nil_.mp r
 | .bl b::ds,bs,vs,e,r=>by
  obtain⟨v,ws,rfl,h1,h2⟩:=Rps.cons_.mp r;unfold Dp at e;cases q:Dp ds with
  | none=>rw[q]at e;cases e
  | some cs=>rw[q]at e;cases e;rw[Rp.bl_.mp h1,GY q h2];rfl
 | .non::ds,bs,vs,e,r=>by cases e
 | .int _::ds,bs,vs,e,r=>by cases e
 | .str _::ds,bs,vs,e,r=>by cases e
 | .lst _::ds,bs,vs,e,r=>by cases e
 | .tup _::ds,bs,vs,e,r=>by cases e
 | .scr _::ds,bs,vs,e,r=>by cases e
 | .dic::ds,bs,vs,e,r=>by cases e
 | .obj _ _ _ _::ds,bs,vs,e,r=>by cases e
def bAll:FB
 | [.lst xs]=>(Dp xs).map λbs=>(.nw,.bl (bs.all id))
 | _=>none
theorem Qr(bs:List Bool):(List.range bs.length).all (λi=>bs.getD i false)=bs.all id:=by
 rw[uR,vg,vg];constructor
 · intro h b hb;obtain⟨i,hi,e⟩:=wH hb;have:=h i (wM.mpr hi);simp[List.getD,wa hi,e]at this;exact this
 · intro h i hi;have hi:=wM.mp hi;have:=h _ (WO hi);simpa[List.getD,wa hi]using this
theorem Vj{bs:List Bool}{us:aG}(r:Vals (bs.map V.bl) us){prog:Program}{w:World}{A:Around}:TruthOf prog w A (λi v=>us.toArray[i]?=some v) (λi=>bs.getD i false):=by
 intro i v s Q E hP hQ;have e:us[i]?=some v:=by simpa using hP
 cases q:bs[i]? with
 | none =>
  have:=r.none_of (i:=i) (by rw[wq,q];rfl);rw[this]at e;cases e
 | some b =>
  obtain⟨u,h1,h2⟩:=r.get (i:=i) (x:=V.bl b) (by rw[wq,q];rfl);rw[e]at h1;cases h1;cases h2;have hQ':Q b s:=by simpa[List.getD,q]using hQ
  exact wpAny_truthy_bool hQ'
theorem c_all(hc:X.calm=true):Bv X (.builtin "all") bAll:=by
 rintro π s σ H xs us Q I r ⟨ds,f,d,rs,e,k⟩;unfold bAll at e;split at e
 · rename_i ys;cases q:Dp ys with
   | none=>rw[q]at e;cases e
   | some bs =>
    rw[q]at e;cases e;obtain⟨v,rfl,h⟩:=rs.one';obtain⟨p,vs,rfl,_,q1,q2⟩:=h.items;obtain⟨u,rfl,ru⟩:=r.one;cases ru;have ev:=GY q q2;subst ev;obtain⟨its,rv,pl,hz⟩:=I.list (SqL.of (K:=X.K) q1);have hlen:its.toArray.size=bs.length:=by rw[wr,←rv.length,we]
    refine call_all_walk (wpAny_pyIter_list pl.isList ?_);have hne:p≠s.heap.objs.size:=wJ (by obtain⟨o,e,_⟩:=pl.isList;exact wo e);refine⟨_,_,_,_,_,_,λi=>bs.getD i false,rfl,Walks.list (A:=X.A.in1) (I.ok.hd hc) s.heap.objs.size p hne its.toArray,⟨⟨_,wp _ rfl,rfl,rfl⟩,pl.isList.at λo e=>wd _ e⟩,Vj rv,λh' tk hk=>?_⟩;rw[hlen,Qr];exact⟨.bl _,H,I.kept λb o e=>hk b o (by simp;exact wJ (wo e)) (wd _ e),rfl,k _ H (Same.refl H) RpF.b_⟩
 · cases e
def tyN:Dt->String
 | .non => "NoneType"
 | .bl _ => "bool"
 | .int _ => "int"
 | .str _ => "str"
 | .lst _ => "list"
 | .scr _ => "list"
 | .tup _ => "tuple"
 | .dic => "dict"
 | .obj _ _ _ _ => "Book"
def JR(t T:String):Bool:=t==T||(t == "bool" && T == "int")
def okT(T:String):Bool:=T == "int" || T == "bool" || T == "str" || T == "list" || T == "tuple" || T == "dict"
theorem Cl{T:String}(h:okT T=true):T = "int" \/ T = "bool" \/ T = "str" \/ T = "list" \/ T = "tuple" \/ T = "dict" := by
 unfold okT at h;simp only[WU,beq_iff_eq]at h;rcases h with((((h|h)|h)|h)|h)|h
 · exact .inl h
 · exact .inr (.inl h)
 · exact .inr (.inr (.inl h))
 · exact .inr (.inr (.inr (.inl h)))
 · exact .inr (.inr (.inr (.inr (.inl h))))
 · exact .inr (.inr (.inr (.inr (.inr h))))
def Dt.isO:Dt->Bool
 | .obj _ _ _ _=>true
 | _=>false
theorem kit_D{K:aE}{d:Dt}{T:String}(h:okT T=true)(ho:d.isO=false):PySem.W.kitOne K (.type (tyN d)) (.type T)=some (JR (tyN d) T):=by
 rcases Cl h with rfl|rfl|rfl|rfl|rfl|rfl<;>cases d<;>first|rfl|cases ho
def fIsi(T:String)(F:FE):FE:=λρ=>(F ρ).map λx=>(.nw,.bl (JR (tyN x.2) T))
theorem Vk{T:String}(hT:okT T=true):Dl X (.builtin "isinstance") (λxs H Q=>∃ d v,xs=[v,.ty T]/\Rp X.K emp d H v/\Q (.bl (JR (tyN d) T)) H):=by
 intro π s σ H xs us Q I r ⟨d,v,ex,h1,fin⟩;subst ex;obtain⟨u,u',rfl,r1,r2⟩:=vals2 r;cases r2;have e:d.isO=false->_:=λho=>kit_D (K:=X.K) (d:=d) hT ho;cases d with
 | obj C k b es =>
  obtain⟨a,dx,vk,vb,l,vs,rfl,_,q,_,_,_,bk,_⟩:=Rp.obj_.mp h1;cases r1;have sub:JR (tyN (.obj C k b es)) T=false:=by rcases Cl hT with rfl|rfl|rfl|rfl|rfl|rfl<;>rfl
  have mem:T∈["int", "bool", "str", "list", "tuple", "dict"]:=by rcases Cl hT with rfl|rfl|rfl|rfl|rfl|rfl<;>decide
  refine S4 (x := .ref a) I rfl (.ins q bk.cls bk.ha bk.hn bk.tk bk.hm) (bk.is T mem) λtk=>⟨.bl _,H,I.tok tk,rfl,?_⟩;rw[sub]at fin;exact fin
 | non=>rw[Rp.non_.mp h1]at r1;exact S4 I r1 .non (e rfl) λtk=>⟨.bl _,H,I.tok tk,rfl,fin⟩
 | bl b=>rw[Rp.bl_.mp h1]at r1;exact S4 I r1 (.bl b) (e rfl) λtk=>⟨.bl _,H,I.tok tk,rfl,fin⟩
 | int i=>rw[Rp.int_.mp h1]at r1;exact S4 I r1 (.int i) (e rfl) λtk=>⟨.bl _,H,I.tok tk,rfl,fin⟩
 | str x=>rw[Rp.str_.mp h1]at r1;exact S4 I r1 (.str x) (e rfl) λtk=>⟨.bl _,H,I.tok tk,rfl,fin⟩
 | dic =>
  obtain⟨a,rfl,q⟩:=Rp.dic_.mp h1;cases r1;exact PySem.W.kia_one PySem.W.kitx_dict I.kIn ⟨_,(I.hok a _ q).1,rfl⟩ (e rfl) (λz=>nomatch z) λtk=>⟨.bl _,H,I.tok tk,rfl,fin⟩
 | lst ys =>
  obtain⟨p,vs,rfl,_,q1,q2⟩:=h1.items;cases r1;obtain⟨its,_,pl,_⟩:=I.list (SqL.of (K:=X.K) q1);obtain⟨o,ho,hc,_⟩:=pl.isList;exact PySem.W.kia_one PySem.W.kitx_list I.kIn ⟨o,ho,hc⟩ (e rfl) (λz=>nomatch z) λtk=>⟨.bl _,H,I.tok tk,rfl,fin⟩
 | scr ys =>
  obtain⟨p,rfl,_,q1⟩:=Rp.scr_.mp h1;cases r1;obtain⟨its,_,pl,_⟩:=I.list q1.sq;obtain⟨o,ho,hc,_⟩:=pl.isList;exact PySem.W.kia_one PySem.W.kitx_list I.kIn ⟨o,ho,hc⟩ (e rfl) (λz=>nomatch z) λtk=>⟨.bl _,H,I.tok tk,rfl,fin⟩
 | tup ys =>
  obtain⟨p,vs,rfl,q1,q2⟩:=Rp.tup_.mp h1;cases r1;obtain⟨its,_,pl,_⟩:=I.tuple q1;obtain⟨o,ho,hc,_⟩:=pl;exact PySem.W.kia_one PySem.W.kitx_tuple I.kIn ⟨o,ho,hc⟩ (e rfl) (λz=>nomatch z) λtk=>⟨.bl _,H,I.tok tk,rfl,fin⟩
theorem Bw{a:Expr}{Fa:FE}{x:Str}{T:String}{p q pos:Pos}(hT:okT T=true)(hg:Gl X "isinstance")(hm:X.mg "isinstance" = none)(hgT:Gl X x)(hmT:X.mg x=none)(hvT:bootBuiltins x=some (.type T))(ha:PF X a Fa)
  (hn:x ≠ "__name__" := by decide) (hd:(x==("__debug__" : Str))=false:=by decide) (hs1:starEach [.Name x q] X.env=[(false,eval (.Name x q) X.env)]:=by rfl)
  (hs:starEach [a,.Name x q] X.env=(false,eval a X.env)::starEach [.Name x q] X.env:=by rfl):PF X (.Call (.Name "isinstance" p) [a,.Name x q] [] pos) (fIsi T Fa) :=
 (Ev (Vk hT) hg hm boot_isinstance (i8 ha (i8 (pe_ty hgT hmT hvT hn hd) l7 hs1) hs) (by decide) (by decide) hs (by rw[hs1];rfl)).imp fun σ H Q hZ=>hZ.elim fun ρ hZ=>hZ.elim fun f hZ=>hZ.elim fun d hZ=>hZ.elim fun rs hZ=>hZ.elim fun e0 k=>by
  unfold fIsi at e0;cases h:Fa ρ with
  | none=>rw[h]at e0;cases e0
  | some z =>
   rw[h]at e0;cases e0;exact⟨ρ,z.1,z.2,rs,h,λv H1 s1 r1=>⟨z.2,v,rfl,r1.sh,k _ H1 s1 RpF.b_⟩⟩
abbrev FP:=Rho->Option (Option Int)
def Vl:FP:=λ_=>some none
def intD:Dt->Option Int
 | .int i=>some i
 | _=>none
def fPart(F:FE):FP:=λρ=>(F ρ).bind λx=>(intD x.2).map some
def cutD{α:Type}(xs:List α)(lo hi:Option Int):List α:=(xs.drop (HT.sIx xs.length 0 lo)).take (HT.sIx xs.length xs.length hi-HT.sIx xs.length 0 lo)
def fSl(F:FE)(L U:FP):FE:=λρ=>(F ρ).bind λx=>(L ρ).bind λlo=>(U ρ).bind λhi=>match x.2 with|.lst ds=>some (newL (cutD ds lo hi))|_=>none
end
end L2

end
section
local macro_rules|`(tactic|rfl')=>`(tactic|first|lia|omega +splitDisjunctions)
namespace L2
open PySem PySem.Spec PyProof.Rows
def Walk(K:aE)(J:It)(items:List Dt)(H1:Hp):Prop:=∀(A:List Addr) (H:Hp),Same H1 (hidL A H)->(∀ a∈A,∃ o,H a=some o) ->
 (∀(i:Nat) (d:Dt),items[i]?=some d->J.go i H/\∀ x H',J.yld i H x H'->Same (hidL A H) (hidL A H')/\(∀ a∈A,H' a=H a)/\Rp K emp d (hidL A H') x)/\∀ i,items.length<=i->J.stop i H
abbrev FI:=Rho->Option (List Dt)
def upIK(Y:Ky)(F:FI):TI:=λσ H R=>∃ ρ items,RepS Y H ρ σ/\F ρ=some items/\∀ J H',Same H H'->items.length<=sizeLine->Walk Y.K J items H'->R J H'
abbrev upI(X:Cx)(F:FI):TI:=upIK X.ky F
def PFI(X:Cx)(tg e:Expr)(F:FI):Prop:=PI X tg e (upI X F)
theorem PI.imp{X:Cx}{tg e:Expr}{t t':TI}(h:PI X tg e t)(q:∀ σ H Q,t' σ H Q->t σ H Q):PI X tg e t':=λπ s σ H Q I z=>h π s σ H Q I (q σ H Q z)
section
variable {X:Cx}{tg a b e:Expr}{Fa Fb Fe:FE}{pos:Pos}
theorem Qs{K:aE}{p:Addr}{ds:List Dt}{vs:List V}{H1:Hp}(h1:SqL K H1 p vs)(h2:Rps K emp ds H1 vs):Walk K (Itl K p) ds H1:=by
 intro A H sm hA;have s2:Same H1 H:=sm.trans k8;refine⟨λi d e=>?_,λi hi=>⟨vs,s2.seq h1,by rw[h2.length];exact hi⟩⟩;obtain⟨v,e1,e2⟩:=h2.get e;refine⟨⟨vs,v,s2.seq h1,e1⟩,?_⟩;rintro x H' ⟨z,y⟩;subst z;have hx:=y vs (s2.seq h1);rw[e1]at hx;cases hx;exact⟨Same.refl _,λ_ _=>rfl,Rp.mono _ sm e2⟩
theorem RM{K:aE}{p:Addr}{ds:List Dt}{vs:List V}{H1:Hp}(h1:SqT K H1 p vs)(h2:Rps K emp ds H1 vs):Walk K (Itt K p) ds H1:=by
 intro A H sm hA;have s2:Same H1 H:=sm.trans k8;refine⟨λi d e=>?_,λi hi=>⟨vs,s2.seqT h1,by rw[h2.length];exact hi⟩⟩;obtain⟨v,e1,e2⟩:=h2.get e;refine⟨⟨vs,v,s2.seqT h1,e1⟩,?_⟩;rintro x H' ⟨z,y⟩;subst z;have hx:=y vs (s2.seqT h1);rw[e1]at hx;cases hx;exact⟨Same.refl _,λ_ _=>rfl,Rp.mono _ sm e2⟩
def U5(lo:Int)(n:Nat):List Dt:=(List.range n).map λ(k:Nat) => .int (lo+(k:Int))
theorem LU{K:aE}{lo:Int}{n:Nat}{H1:Hp}:Walk K (Itr lo n) (U5 lo n) H1:=by
 intro A H sm hA;refine⟨λi d e=>?_,λi hi=>by unfold U5 at hi;rw[we,wW]at hi;exact hi⟩;unfold U5 at e;rw[wq]at e;have hi:i<n:=by
  by_cases hi:i<n
  · exact hi
  · rw[wO (by simp;rfl')]at e;cases e
 rw[uj hi]at e;cases e;refine⟨hi,λx H'⟨z,y⟩=>?_⟩;subst z;subst y;exact⟨Same.refl _,λ_ _=>rfl,Rp.int_.mpr rfl⟩
def seqD:Dt->Option (List Dt)
 | .lst ds=>some ds
 | .tup ds=>some ds
 | _=>none
def iSeq(F:FE):FI:=λρ=>(F ρ).bind λx=>seqD x.2
theorem M6(ha:PF X a Fa):PFI X tg a (iSeq Fa):=by
 intro π s σ H R I ⟨ρ,items,rs,e0,k⟩;obtain⟨⟨f,d⟩,e1,e2⟩:=bind_some e0;refine thn (ha π s σ H (λx H1=>Same H H1/\Rp X.K emp d H1 x) I ⟨ρ,f,d,rs,e1,λv H1 s1 r1=>⟨s1,r1.sh⟩⟩) λv s1⟨x,H1,I1,r1,sm,rd⟩=>?_;cases d<;>first|cases e2|skip
 · rename_i ds;obtain⟨p,vs,rfl,_,h1,h2⟩:=rd.items;cases r1;obtain⟨its,rv,pl,hz⟩:=I1.list (SqL.of (K:=X.K) h1);refine wpAny_pyIter_list pl.isList ?_;refine⟨s1.heap.objs.size,[s1.heap.objs.size],_,_,H1,rfl,I1.kept (t':=s1.toks) λb o e=>wd _ e,GL p _,⟨_,wp _ rfl,rfl,rfl⟩,λb hb=>?_,k _ H1 sm (by rw[←h2.length];exact hz) (Qs (SqL.of h1) h2)⟩;have e:b=s1.heap.objs.size:=by simpa using hb
   subst e;exact I1.fpOk (wf _) (I1.hok.fresh (wf _))
 · rename_i ds;obtain⟨p,vs,rfl,h1,h2⟩:=Rp.tup_.mp rd;cases r1;obtain⟨its,rv,pl,hz⟩:=I1.tuple h1;refine wpAny_pyIter_tuple (show s1.heap.IsTuple p its.toArray from pl) ?_;refine⟨s1.heap.objs.size,[s1.heap.objs.size],_,_,H1,rfl,I1.kept (t':=s1.toks) λb o e=>wd _ e,LD p _,⟨_,wp _ rfl,rfl,rfl⟩,λb hb=>?_,k _ H1 sm (by rw[←h2.length];exact hz) (RM h1 h2)⟩;have e:b=s1.heap.objs.size:=by simpa using hb
   subst e;exact I1.fpOk (wf _) (I1.hok.fresh (wf _))
def Bx(i:Int):Bool:=decide (-1000000<=i)&&decide (i<=1000000)
theorem rngOk_{i:Int}(h:Bx i=true): -1000000<=i/\i<=1000000:=by
 unfold Bx at h;rw[wE]at h;exact⟨of_decide_eq_true h.1,of_decide_eq_true h.2⟩
def k9(F:FE):FI:=λρ=>(F ρ).bind λx=>(intD x.2).bind λj=>if Bx j then some (U5 0 j.toNat) else none
theorem LV{lo:Int}{n:Nat}:(U5 lo n).length=n:=by unfold U5;simp
theorem II{d:Dt}{i:Int}(h:intD d=some i):d = .int i:=by
 cases d<;>first|cases h|skip
 rfl
theorem E4{p:Pos}(hg:Gl X "range")(hm:X.mg "range" = none)(ha:PF X a Fa)(hs:starEach [a] X.env=[(false,eval a X.env)]:=by rfl):PFI X tg (.Call (.Name "range" p) [a] [] pos) (k9 Fa) :=
 (GM hg hm (i8 ha l7 hs) hs).imp fun σ H R hZ=>hZ.elim fun ρ hZ=>hZ.elim fun items hZ=>hZ.elim fun rs hZ=>hZ.elim fun e0 k=>by
  obtain⟨⟨f,d⟩,e1,e2⟩:=bind_some e0;obtain⟨j,e3,e4⟩:=bind_some e2;clear e0 e2;have ed:=II e3;cases (show d = .int j from ed);split at e4
  · rename_i hr;cases e4;obtain⟨h1,h2⟩:=rngOk_ hr;refine⟨ρ,f,_,rs,e1,λv H1 s1 r1=>⟨j,by rw[Rp.int_.mp r1.sh],by rfl',by rfl',k _ H1 s1 ?_ LU⟩⟩;rw[LV];have:sizeLine=16777216:=rfl;rfl'
  · cases e4
end
inductive Tg where
 | one (i:Nat)|many (is:List Nat)
def G5:List Nat->TGs
 | []=>gNil
 | i::is=>gCons (u5 i) (G5 is)
def Tg.low(K:aE):Tg->TG
 | .one i=>u5 i
 | .many is=>gTup K is.length (G5 is)
def R7:Rho->List Nat->List Dt->Rho
 | ρ,i::is,d::ds=>R7 (ρ.set i (.sh false d)) is ds
 | ρ,_,_=>ρ
def Tg.put:Tg->Dt->Rho->Option Rho
 | .one i,d,ρ=>some (ρ.set i (.sh false d))
 | .many is,.tup ds,ρ=>if ds.length=is.length then some (R7 ρ is ds) else none
 | .many _,_,_=>none
def Tg.below(nt:Nat):Tg->Prop
 | .one i=>i<nt
 | .many is=>∀ i∈is,i<nt
def KeepS(nt:Nat)(σ σ':St):Prop:=σ'.length=σ.length/\∀ i,nt<=i->σ'[i]?=σ[i]?
theorem KeepS.refl{nt:Nat}{σ:St}:KeepS nt σ σ:=⟨rfl,λ_ _=>rfl⟩
theorem KeepS.set{nt i:Nat}{σ:St}{v:V}(h:i<nt):KeepS nt σ (σ.set i (some v)):=⟨wC,λj hj=>Wa (by rfl')⟩
theorem KeepS.trans{nt:Nat}{a b c:St}(h:KeepS nt a b)(k:KeepS nt b c):KeepS nt a c:=⟨k.1.trans h.1,λi hi=>(k.2 i hi).trans (h.2 i hi)⟩
theorem Dq:∀{is:List Nat} {vs:List V} {σ:St} {H:Hp} {Q Q':St->Hp->Prop},G5 is vs σ H Q->(∀ σ H,Q σ H->Q' σ H)->G5 is vs σ H Q':=by
 intro is
 induction is with
 | nil=>intro vs σ H Q Q' ⟨e,q⟩ k;exact⟨e,k _ _ q⟩
 | cons j js ih=>intro vs σ H Q Q' ⟨v,r,e,q⟩ k;exact⟨v,r,e,ih q k⟩
theorem GZ{nt:Nat}:∀{is:List Nat} {vs:List V} {σ:St} {H:Hp} {Q:St->Hp->Prop},(∀ i∈is,i<nt)->G5 is vs σ H Q->G5 is vs σ H λσ2 H2=>KeepS nt σ σ2/\Q σ2 H2
 | [],vs,σ,H,Q,_,⟨e,q⟩=>⟨e,KeepS.refl,q⟩
 | i::is,vs,σ,H,Q,hi,⟨v,r,e,q⟩=>by
  refine⟨v,r,e,?_⟩;have q:G5 is r (σ.set i (some v)) H Q:=q;have z:=GZ (nt:=nt) (λj hj=>hi j (wb _ hj)) q;show G5 is r (σ.set i (some v)) H _;exact Dq z λσ2 H2⟨k1,k2⟩=>⟨(KeepS.set (hi i wc)).trans k1,k2⟩
theorem Tg.ok{K:aE}{nt:Nat}{g:Tg}(h:g.below nt):TgOk nt (g.low K):=by
 intro x σ H Q q;cases g with
 | one i=>exact⟨KeepS.set h,q⟩
 | many is =>
  obtain⟨a,xs,e,hq,hl,q⟩:=q;exact⟨a,xs,e,hq,hl,GZ h q⟩
theorem Tg.low_mono{K:aE}{g:Tg}{v:V}{σ:St}{H:Hp}{Q Q':St->Hp->Prop}(h:g.low K v σ H Q)(k:∀ σ H,Q σ H->Q' σ H):g.low K v σ H Q':=by
 cases g with
 | one i=>exact k _ _ h
 | many is =>
  obtain⟨a,xs,e,hq,hl,q⟩:=h;exact⟨a,xs,e,hq,hl,Dq q k⟩
section
variable {Y:Ky}{H H':Hp}{ρ:Rho}{σ:St}
theorem RepS.set(h:RepS Y H ρ σ){i:Nat}{f:Bool}{d:Dt}{v:V}(r:Rp Y.K (bsOf Y f) d H v):RepS Y H (ρ.set i (.sh f d)) (σ.set i (some v)):=by
 refine⟨by rw[wC,wC];exact h.len,h.base,λj c q=>?_⟩;by_cases e:i=j
 · subst e;rw[wX]at q ⊢;rw[if_pos rfl]at q ⊢;split at q
   · rename_i hl;cases q;rw[if_pos (by rw[←h.len];exact hl)];exact⟨_,rfl,v,rfl,r⟩
   · cases q
 · rw[Wa e]at q ⊢;exact h.at_ j c q
theorem EB{Hh:Hp}{ρ':Rho}:∀{is:List Nat} {ds:List Dt} {vs:List V} {ρ:Rho} {σ:St},RepS Y Hh ρ σ->Rps Y.K emp ds Hh vs->ds.length=is.length->R7 ρ is ds=ρ' ->
  G5 is vs σ H λσ' H'=>H'=H/\RepS Y Hh ρ' σ'
 | [],[],vs,ρ,σ,rs,r,hl,q=>⟨Rps.nil_.mp r,rfl,by rw[←q];exact rs⟩
 | [],d::ds,vs,ρ,σ,rs,r,hl,q=>by cases hl
 | i::is,[],vs,ρ,σ,rs,r,hl,q=>by cases hl
 | i::is,d::ds,vs,ρ,σ,rs,r,hl,q=>by
  obtain⟨v,r',rfl,h1,h2⟩:=Rps.cons_.mp r;exact⟨v,r',rfl,EB (rs.set (f:=false) h1) h2 (by simpa using hl) q⟩
theorem Tg.sim{Hh:Hp}{g:Tg}{d:Dt}{v:V}{ρ':Rho}(sm:Same Hh H)(rs:RepS Y Hh ρ σ)(r:Rp Y.K emp d Hh v)(h:g.put d ρ=some ρ'):
  g.low Y.K v σ H λσ' H'=>H'=H/\RepS Y Hh ρ' σ':=by
 cases g with
 | one i=>cases h;exact⟨rfl,rs.set (f:=false) r⟩
 | many is =>
  cases d<;>first|cases h|skip
  rename_i ds;replace h:(if ds.length=is.length then some (R7 ρ is ds) else none)=some ρ':=h;split at h
  · rename_i hl;obtain⟨a,vs,rfl,h1,h2⟩:=Rp.tup_.mp r;exact⟨a,vs,rfl,sm.seqT h1,by rw[h2.length];exact hl,EB rs h2 hl (Option.some.inj h)⟩
  · cases h
end
section
variable {X:Cx}{pos:Pos}
theorem Y4{i:Nat}{x:Str}(hN:X.N.Nodup)(hi:X.N[i]?=some x)(hx:Loc X.env.scope x)(hf:X.fn x=true\/X.env.scope.names.lookup x=some .local):PG X (.Name x pos) ((Tg.one i).low X.K):=A6 hN hi hx hf
theorem EC:PGs X [] (G5 []):=UW
theorem L1{e:Expr}{es:List Expr}{i:Nat}{is:List Nat}(h1:PG X e (u5 i))(h2:PGs X es (G5 is))(hs:(assignEach (e::es) X.env).map (·.2)=assign e X.env::(assignEach es X.env).map (·.2):=by rfl):PGs X (e::es) (G5 (i::is)):=Rn h1 h2 hs
theorem ED{es:List Expr}{k:Nat}{is:List Nat}(hc:X.calm=true)(h:PGs X es (G5 is))(hn:(assignEach es X.env).length=is.length:=by rfl)(hst:(assignEach es X.env).findIdx? (·.1)=none:=by rfl):PG X (.Tuple es k pos) ((Tg.many is).low X.K):=pg_tup hc h hn hst
end
def S9(g:Tg)(Fc:FT)(Fe:FE)(ρ0:Rho):List Dt->Option (List Dv)
 | []=>some []
 | x::xs=>(g.put x ρ0).bind λρ1=>(Fc ρ1).bind λb=>if b then(Fe ρ1).bind λv=>(S9 g Fc Fe ρ0 xs).bind λr=>some (v::r) else S9 g Fc Fe ρ0 xs
def Ha:Cell->Cell
 | .no => .no
 | .ex => .no
 | .sh _ d => .sh false d
 | .ow _ ds => .sh false (.lst ds)
def sigD(nt:Nat)(js:List Nat)(ρ:Rho):Rho:=List.replicate nt Cell.no++js.map λj=>match ρ[j]? with|some c=>Ha c|none => .no
def j9(nt:Nat)(js:List Nat)(Fi:FI)(g:Tg)(Fc:FT)(Fe:FE):FE:=λρ=>(Fi ρ).bind λitems=>(S9 g Fc Fe (sigD nt js ρ) items).bind λvs=>some (if Q0 vs then .nw else .tn,.lst (sndL vs))
theorem Cm{g:Tg}{Fc:FT}{Fe:FE}{ρ0:Rho}:∀{xs:List Dt} {vs:List Dv},S9 g Fc Fe ρ0 xs=some vs->vs.length<=xs.length
 | [],vs,h=>by cases h;exact wf _
 | x::xs,vs,h=>by
  unfold S9 at h;obtain⟨ρ1,_,h⟩:=bind_some h;obtain⟨b,_,h⟩:=bind_some h;split at h
  · obtain⟨v,_,h⟩:=bind_some h;obtain⟨r,h1,h⟩:=bind_some h;cases h;have:=Cm h1;rw[wm,wm];rfl'
  · have:=Cm h;rw[wm];rfl'
def PFTs(X:Cx)(ifs:List Expr)(F:FT):Prop:=PTs X ifs (upB X F)
def fYes:FT:=λ_=>some true
theorem EE{X:Cx}:PFTs X [] fYes:=λπ s σ H Q I⟨ρ,b,rs,e,k⟩=>by cases e;exact Va π s σ H Q I (k H (Same.refl H))
theorem ts_one{X:Cx}{c:Expr}{F:FT}(h:PFT X c F):PFTs X [c] F:=Vb h
theorem RpC.shS{Y:Ky}{H H1:Hp}{c:Cell}{o:Option V}(h:RpC Y H c o):RpC ⟨Y.K,H1⟩ H (Ha c) o:=by
 cases c with
 | no=>trivial
 | ex=>trivial
 | sh f d=>obtain⟨v,q,r⟩:=h;exact⟨v,q,Rp.anti Same.emp d r⟩
 | ow f ds=>obtain⟨v,q,r⟩:=h;exact⟨v,q,Rp.anti Same.emp _ r⟩
theorem RepS.sigs{Y:Ky}{H H1:Hp}{ρ:Rho}{σ:St}{nt:Nat}{js:List Nat}(h:RepS Y H ρ σ)(hj:∀ j∈js,j<σ.length)(h1:Same H1 H):RepS ⟨Y.K,H1⟩ H (sigD nt js ρ) (sig nt js σ):=by
 unfold sigD sig;refine⟨by simp,h1,λi c q=>?_⟩;by_cases hi:i<nt
 · rw[wL (by simpa using hi),wQ,if_pos hi]at q;cases q;exact⟨none,by rw[wL (by simpa using hi),wQ,if_pos hi],trivial⟩
 · rw[wN (by simp;rfl'),Wj,wq]at q;rw[wN (by simp;rfl'),Wj,wq];cases ej:js[i-nt]? with
   | none=>rw[ej]at q;cases q
   | some j =>
    rw[ej]at q;have hlt:=hj j (Wd ej);have hlt':j<ρ.length:=by rw[h.len];exact hlt
    rw[uS,wa hlt']at q;cases q;obtain⟨o,e1,e2⟩:=h.at_ j _ (wa hlt');refine⟨o,?_,e2.shS⟩;rw[uS,e1];rfl
def frE(t:Hp->TE)(H1:Hp):TE:=λσ H Q=>∃ A:List Addr,(∀ a∈A,(∃ vs,H a=some (.lst vs))/\H1 a=none)/\t H1 σ (hidL A H) λv H'=>(∀ a∈A,H' a=none)->Q v (B9 A H H')
def frT(t:Hp->TT)(H1:Hp):TT:=λσ H Q=>∃ A:List Addr,(∀ a∈A,(∃ vs,H a=some (.lst vs))/\H1 a=none)/\t H1 σ (hidL A H) λv H'=>(∀ a∈A,H' a=none)->Q v (B9 A H H')
theorem PTs.frame{Y:Cx}{ifs:List Expr}{t:Hp->TT}(h:PTs Y ifs (t Y.H₀)):PTs Y ifs (frT t Y.H₀):=by
 intro π s σ H Q I ⟨A,hA,z⟩;refine thn (h _ s σ _ _ (I.hide hA) z) ?_;rintro u s' ⟨H',J,q⟩;obtain⟨hn,J'⟩:=I.unhide hA J;exact⟨_,J',q hn⟩
theorem IJ{D:Addr}{H:Hp}{o:HO}:hidL [D] (upd H D o)=hidL [D] H:=funext λb=>by
 by_cases q:b=D
 · subst q;rw[F0 (by simp),F0 (by simp)]
 · rw[i9 (by simpa using q),i9 (by simpa using q),i6 q]
theorem RN{D:Addr}{H:Hp}(h:H D=none):hidL [D] H=H:=funext λb=>by
 by_cases q:b=D
 · subst q;rw[F0 (by simp),h]
 · rw[i9 (by simpa using q)]
section
variable {X:Cx}{N:List Str}{scope:Scope}{nt:Nat}{js:List Nat}{tg elt iter:Expr}{ifs:List Expr}{Fi:FI}{g:Tg}{Fc:FT}{Fe:FE}{pos:Pos}
def RpE(Y:Ky)(x:Dv)(H':Hp)(v:V):Prop:=if x.1.isFr then Rp Y.K Y.H₀ x.2 H' v else Rp Y.K emp x.2 H' v
def RpEs(Y:Ky):List Dv->Hp->List V->Prop
 | [],_,vs=>vs=[]
 | x::xs,H',vs=>∃ v r,vs=v::r/\RpE Y x H' v/\RpEs Y xs H' r
theorem RpE.of{Y:Ky}{H H':Hp}{x:Dv}{v:V}(h0:Same Y.H₀ H)(h:RpF Y H x.1 x.2 H' v):RpE Y x H' v:=by
 unfold RpE;by_cases q:x.1.isFr=true
 · rw[if_pos q];exact h.fr h0 q
 · rw[if_neg q];exact h.sh
theorem RpE.mono{Y:Ky}{H H':Hp}{x:Dv}{v:V}(h:RpE Y x H v)(s:Same H H'):RpE Y x H' v:=by
 unfold RpE at h ⊢;by_cases q:x.1.isFr=true
 · rw[if_pos q]at h ⊢;exact Rp.mono _ s h
 · rw[if_neg q]at h ⊢;exact Rp.mono _ s h
theorem RpEs.mono{Y:Ky}{H H':Hp}(s:Same H H'):∀{xs:List Dv} {vs:List V},RpEs Y xs H vs->RpEs Y xs H' vs
 | [],vs,h=>h
 | x::xs,vs,⟨v,r,e,h1,h2⟩=>⟨v,r,e,h1.mono s,RpEs.mono s h2⟩
theorem RpEs.append{Y:Ky}{H':Hp}:∀{xs ys:List Dv} {vs ws:List V},RpEs Y xs H' vs->RpEs Y ys H' ws->RpEs Y (xs++ys) H' (vs++ws)
 | [],ys,vs,ws,h,h'=>by rw[show vs=[]from h];exact h'
 | x::xs,ys,vs,ws,⟨v,r,e,h1,h2⟩,h'=>⟨v,r++ws,by rw[e];rfl,h1,RpEs.append h2 h'⟩
theorem RpEs.length{Y:Ky}{H':Hp}:∀{xs:List Dv} {vs:List V},RpEs Y xs H' vs->vs.length=xs.length
 | [],vs,h=>by rw[show vs=[]from h];rfl
 | x::xs,vs,⟨v,r,e,_,h2⟩=>by rw[e,wm,wm,RpEs.length h2]
theorem RpEs.sh{Y:Ky}{H':Hp}:∀{xs:List Dv} {vs:List V},RpEs Y xs H' vs->Rps Y.K emp (sndL xs) H' vs
 | [],vs,h=>Rps.nil_.mpr h
 | x::xs,vs,⟨v,r,e,h1,h2⟩=>by
  refine Rps.cons_.mpr ⟨v,r,e,?_,RpEs.sh h2⟩;unfold RpE at h1;split at h1
  · exact Rp.anti Same.emp _ h1
  · exact h1
theorem RpEs.fr{Y:Ky}{H':Hp}:∀{xs:List Dv} {vs:List V},Q0 xs=true->RpEs Y xs H' vs->Rps Y.K Y.H₀ (sndL xs) H' vs
 | [],vs,_,h=>Rps.nil_.mpr h
 | x::xs,vs,q,⟨v,r,e,h1,h2⟩=>by
  unfold Q0 at q;rw[wE]at q;refine Rps.cons_.mpr ⟨v,r,e,?_,RpEs.fr q.2 h2⟩;unfold RpE at h1;rw[if_pos q.1]at h1;exact h1
theorem Pl{σ:St}{H:Hp}{Q:VK}(hj:∀ j∈js,j<σ.length)(h:upF X (j9 nt js Fi g Fc Fe) σ H Q):
   Pe nt js (upI X Fi) (g.low X.K) (frT λH1=>upBK ⟨X.K,H1⟩ Fc) (frE λH1=>upK ⟨X.K,H1⟩ Fe) σ H Q:=by
 obtain⟨ρ,f,d,rs,e0,k⟩:=h;obtain⟨items,ei,e1⟩:=bind_some e0;obtain⟨vs0,ec,e2⟩:=bind_some e1;cases e2;clear e0 e1;refine⟨ρ,items,rs,ei,λJ H1 sm hsz wk D hD=>?_⟩;have nD:H D=none:=sm.free hD;refine⟨λi m ys H2=>m=items.length-i/\H2 D=some (.lst ys)/\Same H1 (hidL [D] H2)/\∃ ds rest,RpEs ⟨X.K,H1⟩ ds (hidL [D] H2) ys/\S9 g Fc Fe (sigD nt js ρ) (items.drop i)=some rest/\ds++rest=vs0,⟨_,rfl,i7,?_,[],vs0,rfl,ec,rfl⟩,?_⟩
 · rw[IJ,RN hD];exact Same.refl _
 rintro i m ys H2 ⟨rfl,e2,s2,ds,rest,r2,c2,es⟩;obtain⟨w1,w2⟩:=wk [D] H2 s2 (λa ha=>by rw[wu.mp ha];exact⟨_,e2⟩);by_cases hlt:i<items.length
 · obtain⟨x,hx⟩:∃ x,items[i]?=some x:=⟨_,wa hlt⟩;have hdrop:items.drop i=x::items.drop (i+1):=by
     rw[WQ hlt];rw[wa hlt]at hx;cases hx;rfl
   rw[hdrop]at c2;unfold S9 at c2;obtain⟨ρ1,p1,c3⟩:=bind_some c2;obtain⟨b,p2,c4⟩:=bind_some c3;obtain⟨go,yl⟩:=w1 i x hx;refine .inr ⟨go,λxv H3 y3=>?_⟩;obtain⟨s3,k3,r3⟩:=yl xv H3 y3;have e3:H3 D=some (.lst ys):=by rw[k3 D (by simp)];exact e2
   have s13:Same H1 (hidL [D] H3):=s2.trans s3;refine Tg.low_mono (Tg.sim (Y:=⟨X.K,H1⟩) (Hh:=hidL [D] H3) k8 ((rs.mono (sm.trans s13)).sigs hj s13) r3 p1) ?_;rintro σ4 H4 ⟨eH,rs4⟩;subst eH;have own:∀{H':Hp},H' D=some (.lst ys)->∀ a∈[D],(∃ vs,H' a=some (.lst vs))/\H1 a=none:=λ{H'} z a ha=>by
     rw[wu.mp ha];exact⟨⟨ys,z⟩,hD⟩
   refine⟨[D],own e3,ρ1,b,rs4,p2,λH5 s5 n5=>?_⟩;have h5:hidL [D] (B9 [D] H4 H5)=H5:=N8 n5;have e5:B9 [D] H4 H5 D=some (.lst ys):=by rw[Ad (by simp)];exact e3
   have m5:items.length-(i+1)<items.length-i:=by rfl'
   dsimp only;cases b with
   | true =>
     rw[if_pos rfl]at c4 ⊢;obtain⟨⟨fv,dv⟩,p3,c5⟩:=bind_some c4;obtain⟨rest',p4,c6⟩:=bind_some c5;cases c6;have rs5:RepS ⟨X.K,H1⟩ H5 ρ1 σ4:=rs4.mono s5;refine⟨[D],own e5,ρ1,fv,dv,by rw[h5];exact rs5,p3,λv H6 s6 r6 n6=>?_⟩;rw[h5]at s6 r6;have h6:hidL [D] (B9 [D] (B9 [D] H4 H5) H6)=H6:=N8 n6;have r2':RpEs ⟨X.K,H1⟩ ds H6 ys:=r2.mono (s3.trans (s5.trans s6));have hlen:ys.length<sizeLine:=by
       have a1:=Cm ec;have a2:=r2.length;rw[←es,ww,wm]at a1;rfl'
     refine⟨by rw[Ad (by simp)];exact e5,hlen,_,m5,rfl,i7,?_,ds++[(fv,dv)],rest',?_,p4,by rw[We];exact es⟩
     · rw[IJ,h6];exact s13.trans (s5.trans s6)
     · rw[IJ,h6];exact r2'.append ⟨v,[],rfl,RpE.of rs5.base r6,rfl⟩
   | false =>
     rw[if_neg wD]at c4 ⊢;refine⟨_,m5,rfl,e5,?_,ds,rest,?_,c4,es⟩
     · rw[h5];exact s13.trans s5
     · rw[h5];exact r2.mono (s3.trans s5)
 · have hd:items.drop i=[]:=vY (by rfl');rw[hd]at c2;cases c2;rw[Wp]at es;subst es;refine .inl ⟨w2 i (by rfl'),k _ H2 (sm.trans (s2.trans k8)) ?_⟩;by_cases q:Q0 ds=true
   · rw[if_pos q];exact(Rp.lst_ (K:=X.K) (B:=H)).mpr ⟨D,ys,rfl,nD,e2,Rps.anti (show Same H H1 from sm) _ (r2.fr q)⟩
   · rw[if_neg q];exact⟨Rp.lst_.mpr ⟨D,ys,rfl,rfl,e2,r2.sh⟩,⟨_,rfl⟩,λa e=>by cases e;exact nD⟩
theorem IK(S:CompScope X N scope nt js)(hc:X.calm=true)(hi:PFI X tg iter Fi)(hg:∀ cl C fp s H,PG (w6 X N scope cl C fp s H) tg (g.low X.K))(hb:g.below nt)
  (hcs:∀ cl C fp s H,PFTs (w6 X N scope cl C fp s H) ifs Fc) (he:∀ cl C fp s H,PF (w6 X N scope cl C fp s H) elt Fe) (hj:∀ j∈js,j<X.N.length)
  (hs:∀ x,foldedSetIterable iter X.env x=pure x:=by intro _;rfl):PF X (.ListComp elt [⟨tg,iter,ifs,0⟩] scope pos) (j9 nt js Fi g Fc Fe):=by
 intro π s σ H Q I h;exact Vc S hc hi hg (Tg.ok hb) (λcl C fp s H=>PTs.frame (t:=λH1=>upBK ⟨X.K,H1⟩ Fc) (hcs cl C fp s H)) (λcl C fp s H=>PE.frame (he cl C fp s H)) hs π s σ H Q I (Pl (λj z=>by rw[I.len];exact hj j z) h)
end
end L2

end
section
namespace L2
open PySem PySem.Spec PySem.W PyProof.Rows
section
variable {M:Model}{A:Around}{E:aC}{s:Shared}{base:Heap}{env:Env}{outer l:List Env}{L e:Addr}{cls a0:Value}{Q:Unit->Shared->Prop}
end
end L2

end
section
namespace L2
open PySem PySem.Spec PySem.W PyProof.Rows
def Fly(h0:Heap)(H:Hp)(e C:Addr)(c:Value)(h:Heap):Prop :=
 h0.get? e=none/\H e=none/\∃ oe vs T oT ts a0,h.get? e=some oe/\oe.cls = .ref C/\vs[0]?=some a0/\oe.data = .fields vs/\vs[1]?=some (.ref T)/\h0.get? T=none/\H T=none/\T≠e/\h.get? T=some oT/\oT.data = .fields ts/\ts[3]?=some .none/\vs[2]?=some c
def ctxO:Value->Option Addr
 | .none=>none
 | _=>some 0
section
variable {P:Program}{w:World}{fs ex:List Addr}{H0 H:Hp}{h0 h h':Heap}{l:List Env}{bas:Heap}{e C:Addr}{c:Value}
end
def CX1(P:Program)(w:World):CXT:=λouter H s E e s' =>
 ∃ ea C H' c,e = .ref ea/\s'.os=s.os/\AllBare s'.gens/\Un (frs outer) [] H H' s.heap s'.heap/\HOk P w H' s'.heap/\Fly s.heap H' ea C c s'.heap/\E (.ref C) (ctxO c) H'
section
variable {P:Program}{w:World}{K:aE}{mg:aF}{base:Heap}{N:List Str}{qual:Str}{scope:Scope}{f:Addr}{cd:Value}{A:Around}{outer:List Env}{s₀:Shared}{H₀:Hp}{E:XK}
end
def exN:Nat->Str
 | 0 => "HallError"
 | 1 => "NoHall"
 | 2 => "NoBasket"
 | 3 => "NoPlace"
 | 4 => "NoText"
 | 5 => "Unlike"
 | 6 => "TooMany"
 | 8 => "NoText"
 | _ => "NotWithin"
def wk(n:Nat):Bool:=n==8
def HFly(h0:Heap)(H:Hp)(e C L:Addr)(c:Value)(h:Heap):Prop :=
 h0.get? e=none/\H e=none/\∃ oe vs T oT ts a0,h.get? e=some oe/\oe.cls = .ref C/\vs[0]?=some a0/\oe.data = .fields vs/\vs[1]?=some (.ref T)/\h0.get? T=none/\H T=none/\T≠e/\h.get? T=some oT/\oT.data = .fields ts/\ts[3]?=some (rawInt L)/\vs[2]?=some c
def LandsH(X:Cx)(E:XK):Prop:=∀(π:aB) (σ:St) (H:Hp) (s:Shared) (ea C L:Addr) (c:Value),X.env.frame=some L->Inv X π σ H s->HFly X.s₀.heap H ea C L c s.heap->E (.ref C) (ctxO c) H->X.xe (.ref ea) s
def XOk(X:Cx)(H₀:Hp)(wk:Bool)(C:Addr):Prop:=∃ E:XK,(∀ H o,Same H₀ H->(o=none\/wk=true)->E (.ref C) o H)/\Iy (CX1 X.prog X.w) X E /\
 (∀(π:aB) (σ:St) (H:Hp) (s s':Shared) (ea:Addr) (args:aG),Inv X π σ H s->s.heap.MadeExcOf s'.heap ea (.ref C) args->s'.os=s.os->s'.gens=s.gens->E (.ref C) none H->X.xe (.ref ea) s')/\LandsH X E
theorem XOk.base{X:Cx}{H₀ H1:Hp}{wk:Bool}{C:Addr}(h:XOk X H₀ wk C)(s:Same H₀ H1):XOk X H1 wk C:=by
 obtain⟨E,a,b,c⟩:=h;exact⟨E,λH o z=>a H o (s.trans z),b,c⟩
end L2

end
section
local macro_rules|`(tactic|rfl')=>`(tactic|first|lia|omega +splitDisjunctions)
namespace L2
open PySem PySem.Spec PyProof.Rows
abbrev Own:=List (Nat×Addr)
abbrev Own.adr(O:Own):List Addr:=O.map (·.2)
def CellB(X:Cx)(H:Hp)(O:Own)(i:Nat):Cell->Option V->Prop
 | .no,_=>True
 | .ex,o=>∃ a φ,o=some (.ref a)/\hidL O.adr H a=some (.ext φ)/\∀ h,φ h->ExcAt X.K a h
 | .sh f d,o=>∃ v,o=some v/\Rp X.K (bsOf X.ky f) d (hidL O.adr H) v
 | .ow f ds,o=>∃ a vs,(i,a)∈O/\o=some (.ref a)/\H a=some (.lst vs)/\Rps X.K (bsOf X.ky f) ds (hidL O.adr H) vs
structure RepO(X:Cx)(H₀ H:Hp)(O:Own)(ρ:Rho)(σ:St):Prop where
 ndA:O.adr.Nodup
 ndI:(O.map (·.1)).Nodup
 own:OwnL X O.adr H
 len:ρ.length=σ.length
 b0:Same X.H₀ H₀
 same:Same H₀ (hidL O.adr H)
 at_:∀(i:Nat) (c:Cell),ρ[i]?=some c->∃ o,σ[i]?=some o/\CellB X H O i c o
def RepB(X:Cx)(H₀ H:Hp)(ρ:Rho)(σ:St):Prop:=∃ O,RepO X H₀ H O ρ σ
def Bz:Cell->Cell
 | .ow _ _ => .no
 | c=>c
def L8:Rho->Rho
 | []=>[]
 | c::ρ=>Bz c::L8 ρ
theorem Hb:∀ ρ:Rho,L8 ρ=ρ.map Bz
 | []=>rfl
 | c::ρ=>by rw[L8,Hb ρ,wj]
section
variable {X:Cx}{H₀ H H':Hp}{O:Own}{ρ:Rho}{σ:St}
theorem RepO.mono(h:RepO X H₀ H O ρ σ)(sm:Same H H'):RepO X H₀ H' O ρ σ:=by
 refine⟨h.ndA,h.ndI,λa ha=>?_,h.len,h.b0,h.same.trans (z9 sm),λi c e=>?_⟩
 · obtain⟨⟨vs,q⟩,z⟩:=h.own a ha;exact⟨⟨vs,sm _ _ q⟩,z⟩
 · obtain⟨o,e1,e2⟩:=h.at_ i c e;refine⟨o,e1,?_⟩;cases c with
   | no=>trivial
   | ex=>obtain⟨a,φ,q,r,z⟩:=e2;exact⟨a,φ,q,z9 sm _ _ r,z⟩
   | sh f d=>obtain⟨v,q,r⟩:=e2;exact⟨v,q,Rp.mono _ (z9 sm) r⟩
   | ow f ds=>obtain⟨a,vs,q1,q2,q3,r⟩:=e2;exact⟨a,vs,q1,q2,sm _ _ q3,Rps.mono _ (z9 sm) r⟩
theorem RepO.base(h:RepO X H₀ H O ρ σ){H1:Hp}(sm:Same H1 H₀)(b:Same X.H₀ H1):RepO X H1 H O ρ σ:=⟨h.ndA,h.ndI,h.own,h.len,b,sm.trans h.same,h.at_⟩
theorem RepO.below(h:RepO X H₀ H O ρ σ):Same X.H₀ H:=h.b0.trans (h.same.trans k8)
theorem RepO.bsFree(h:RepO X H₀ H O ρ σ){a:Addr}(ha:a∈O.adr)(f:Bool):bsOf X.ky f a=none:=by
 cases f with
 | false=>rfl
 | true=>exact(h.own a ha).2
theorem U6{i:Nat}{a:Addr}(h:(i,a)∈O):a∈O.adr:=wg.mpr ⟨_,h,rfl⟩
theorem RepO.all(h:RepO X H₀ H O ρ σ):RepS X.ky H ρ σ:=by
 refine⟨h.len,h.below,λi c e=>?_⟩;obtain⟨o,e1,e2⟩:=h.at_ i c e;refine⟨o,e1,?_⟩;cases c with
 | no=>trivial
 | ex=>obtain⟨a,φ,q,r,z⟩:=e2;exact⟨a,φ,q,k8 _ _ r,z⟩
 | sh f d=>obtain⟨v,q,r⟩:=e2;exact⟨v,q,Rp.mono _ k8 r⟩
 | ow f ds =>
  obtain⟨a,vs,q1,q2,q3,r⟩:=e2;exact⟨_,q2,Rp.lst_.mpr ⟨a,vs,rfl,h.bsFree (U6 q1) f,q3,Rps.mono _ (S7 λb hb=>by rw[wu.mp hb];exact U6 q1) r⟩⟩
theorem RepO.rest(h:RepO X H₀ H O ρ σ):RepS X.ky (hidL O.adr H) (L8 ρ) σ:=by
 rw[Hb];refine⟨by rw[we];exact h.len,h.b0.trans h.same,λi c e=>?_⟩;rw[wq]at e;cases q:ρ[i]? with
 | none=>rw[q]at e;cases e
 | some c' =>
  rw[q]at e;obtain⟨o,e1,e2⟩:=h.at_ i c' q;refine⟨o,e1,?_⟩;cases c' with
  | no=>cases e;trivial
  | ex=>cases e;exact e2
  | sh f d=>cases e;obtain⟨v,q,r⟩:=e2;exact⟨v,q,r⟩
  | ow f ds=>cases e;trivial
def T0(O:Own)(i:Nat):Own:=O.filter λp=>p.1 != i
theorem J8{p:Nat×Addr}{i:Nat}:p∈T0 O i↔p∈O/\p.1≠i:=by
 unfold T0;rw[vZ];simp
theorem D9{i:Nat}:∀ a∈(T0 O i).adr,a∈O.adr:=λa ha=>by
 obtain⟨p,hp,e⟩:=wg.mp ha;exact wg.mpr ⟨p,(J8.mp hp).1,e⟩
theorem RepO.set(h:RepO X H₀ H O ρ σ){i:Nat}{f:Bool}{d:Dt}{v:V}(r:Rp X.K (bsOf X.ky f) d (hidL O.adr H) v):RepO X H₀ H (T0 O i) (ρ.set i (.sh f d)) (σ.set i (some v)):=by
 have sm:Same (hidL O.adr H) (hidL (T0 O i).adr H):=S7 D9;refine⟨h.ndA.sublist (List.Sublist.map _ (Wq)),h.ndI.sublist (List.Sublist.map _ (Wq)),λa ha=>h.own a (D9 a ha),by rw[wC,wC];exact h.len,h.b0,h.same.trans sm,λj c q=>?_⟩;by_cases e:i=j
 · subst e;rw[wX,if_pos rfl]at q;rw[wX,if_pos rfl];split at q
   · rename_i hl;cases q;rw[if_pos (by rw[←h.len];exact hl)];exact⟨_,rfl,v,rfl,Rp.mono _ sm r⟩
   · cases q
 · rw[Wa e]at q ⊢;obtain⟨o,e1,e2⟩:=h.at_ j c q;refine⟨o,e1,?_⟩;cases c with
   | no=>trivial
   | ex=>obtain⟨a,φ,q,r,z⟩:=e2;exact⟨a,φ,q,sm _ _ r,z⟩
   | sh f d=>obtain⟨v,q,r⟩:=e2;exact⟨v,q,Rp.mono _ sm r⟩
   | ow f ds=>obtain⟨a,vs,q1,q2,q3,r⟩:=e2;exact⟨a,vs,J8.mpr ⟨q1,λz=>e z.symm⟩,q2,q3,Rps.mono _ sm r⟩
theorem EG{D:Addr}{A:List Addr}{H:Hp}:hidL A (hidL [D] H)=hidL (D::A) H:=funext λb=>by
 unfold hidL;by_cases q1:b=D
 · subst q1;simp
 · by_cases q2:b∈A
   · simp[q1,q2]
   · simp[q1,q2]
theorem RepO.setNew(h:RepO X H₀ H' O ρ σ){i:Nat}{D:Addr}{f:Bool}{ds:List Dt}{vs:List V}(hi:i<ρ.length)(sm0:Same H' H)(hN:H' D=none)(hD:H D=some (.lst vs))(hn:D ∉ O.adr)(hX:X.H₀ D=none)
   (r:Rps X.K (bsOf X.ky f) ds (hidL (D::O.adr) H) vs):RepO X H₀ H ((i,D)::T0 O i) (ρ.set i (.ow f ds)) (σ.set i (some (.ref D))):=by
 have sub:∀ a∈(Own.adr ((i,D)::T0 O i)),a∈D::O.adr:=λa ha=>by
   rcases wn.mp ha with z|z
   · rw[z];exact wc
   · exact wb _ (D9 a z)
 have sm:Same (hidL (D::O.adr) H) (hidL (Own.adr ((i,D)::T0 O i)) H):=S7 sub;have sm1:Same H' (hidL [D] H):=λb o e=>by
   rw[i9 (by rw[wu];rintro rfl;rw[hN]at e;cases e)];exact sm0 _ _ e
 have sm2:Same (hidL O.adr H') (hidL (D::O.adr) H):=by rw[←EG];exact z9 sm1
 have nD:D ∉ (T0 O i).adr:=λz=>hn (D9 D z);refine⟨wV.mpr ⟨nD,h.ndA.sublist (List.Sublist.map _ (Wq))⟩,wV.mpr ⟨λz=>?_,h.ndI.sublist (List.Sublist.map _ (Wq))⟩,λa ha=>?_,by rw[wC,wC];exact h.len,h.b0,h.same.trans (sm2.trans sm),λj c q=>?_⟩
 · obtain⟨p,hp,e⟩:=wg.mp z;exact(J8.mp hp).2 e
 · rcases wn.mp ha with z|z
   · rw[z];exact⟨⟨vs,hD⟩,hX⟩
   · obtain⟨⟨ws,q⟩,z2⟩:=h.own a (D9 a z);exact⟨⟨ws,sm0 _ _ q⟩,z2⟩
 · by_cases e:i=j
   · subst e;rw[wX,if_pos rfl,if_pos hi]at q;rw[wX,if_pos rfl,if_pos (by rw[←h.len];exact hi)];cases q;exact⟨_,rfl,D,vs,wc,rfl,hD,Rps.mono _ sm r⟩
   · rw[Wa e]at q ⊢;obtain⟨o,e1,e2⟩:=h.at_ j c q;refine⟨o,e1,?_⟩;cases c with
     | no=>trivial
     | ex=>obtain⟨a,φ,q,r,z⟩:=e2;exact⟨a,φ,q,(sm2.trans sm) _ _ r,z⟩
     | sh f d=>obtain⟨v,q,r⟩:=e2;exact⟨v,q,Rp.mono _ (sm2.trans sm) r⟩
     | ow f ds' =>
      obtain⟨a,vs',q1,q2,q3,r⟩:=e2;exact⟨a,vs',wb _ (J8.mpr ⟨q1,λz=>e z.symm⟩),q2,sm0 _ _ q3,Rps.mono _ (sm2.trans sm) r⟩
theorem Pm{O:Own}(nd:O.adr.Nodup):∀{p q:Nat×Addr},p∈O->q∈O->p.2=q.2->p=q:=by
 induction O with
 | nil=>intro p q hp;cases hp
 | cons o O ih =>
  intro p q hp hq e;have nd:(o.2::O.map (·.2)).Nodup:=nd;obtain⟨n1,n2⟩:=wV.mp nd;rcases wn.mp hp with hp|hp<;>rcases wn.mp hq with hq|hq
  · rw[hp,hq]
  · exact absurd (wg.mpr ⟨q,hq,by rw[←e,hp]⟩) n1
  · exact absurd (wg.mpr ⟨p,hp,by rw[e,hq]⟩) n1
  · exact ih n2 hp hq e
theorem Vm{O:Own}(nd:(O.map (·.1)).Nodup):∀{p q:Nat×Addr},p∈O->q∈O->p.1=q.1->p=q:=by
 induction O with
 | nil=>intro p q hp;cases hp
 | cons o O ih =>
  intro p q hp hq e;have nd:(o.1::O.map (·.1)).Nodup:=nd;obtain⟨n1,n2⟩:=wV.mp nd;rcases wn.mp hp with hp|hp<;>rcases wn.mp hq with hq|hq
  · rw[hp,hq]
  · exact absurd (wg.mpr ⟨q,hq,by rw[←e,hp]⟩) n1
  · exact absurd (wg.mpr ⟨p,hp,by rw[e,hq]⟩) n1
  · exact ih n2 hp hq e
theorem LW{A:List Addr}{a:Addr}{o:HO}{H:Hp}(h:a∈A):hidL A (upd H a o)=hidL A H:=funext λb=>by
 by_cases q:b∈A
 · rw[F0 q,F0 q]
 · rw[i9 q,i9 q,i6 λz=>q (by rw[z];exact h)]
theorem RepO.upd(h:RepO X H₀ H O ρ σ){i:Nat}{a:Addr}{f g:Bool}{ds ds0:List Dt}{vs:List V}(hc:ρ[i]?=some (.ow g ds0))(hi:(i,a)∈O)(r:Rps X.K (bsOf X.ky f) ds (hidL O.adr H) vs):
   RepO X H₀ (upd H a (.lst vs)) O (ρ.set i (.ow f ds)) σ:=by
 have ha:a∈O.adr:=U6 hi;have hh:hidL O.adr (L2.upd H a (.lst vs))=hidL O.adr H:=LW ha;have hlt:i<ρ.length:=by
   by_cases hlt:i<ρ.length
   · exact hlt
   · rw[wO (by rfl')]at hc;cases hc
 refine⟨h.ndA,h.ndI,λb hb=>?_,by rw[wC];exact h.len,h.b0,by rw[hh];exact h.same,λj c q=>?_⟩
 · by_cases e:b=a
   · subst e;exact⟨⟨vs,i7⟩,(h.own b hb).2⟩
   · rw[i6 e];exact h.own b hb
 · by_cases e:i=j
   · subst e;rw[wX,if_pos rfl,if_pos hlt]at q;cases q;obtain⟨o,e1,a',vs',q1,q2,q3,r'⟩:=h.at_ i _ hc;have e2:(i,a')=(i,a):=Vm h.ndI q1 hi rfl;cases e2;exact⟨o,e1,a,vs,hi,q2,i7,by rw[hh];exact r⟩
   · rw[Wa e]at q;obtain⟨o,e1,e2⟩:=h.at_ j c q;refine⟨o,e1,?_⟩;cases c with
     | no=>trivial
     | ex=>obtain⟨b,φ,q,r,z⟩:=e2;exact⟨b,φ,q,by rw[hh];exact r,z⟩
     | sh f d=>obtain⟨v,q,r⟩:=e2;exact⟨v,q,by rw[hh];exact r⟩
     | ow f ds' =>
      obtain⟨b,vs',q1,q2,q3,r'⟩:=e2;have hne:b≠a:=λz=>by
       have:=Pm h.ndA q1 hi z;exact e (congrArg Prod.fst this).symm
      exact⟨b,vs',q1,q2,by rw[i6 hne];exact q3,by rw[hh];exact r'⟩
def relC:Cell->Cell
 | .ow f ds => .sh f (.lst ds)
 | c=>c
def JS(ρ:Rho)(i:Nat):Rho:=match ρ[i]? with|some c=>ρ.set i (relC c)|none=>ρ
def relS:List Nat->Rho->Rho
 | [],ρ=>ρ
 | i::is,ρ=>relS is (JS ρ i)
theorem RepO.rel(h:RepO X H₀ H O ρ σ)(i:Nat):RepO X H₀ H (T0 O i) (JS ρ i) σ:=by
 have sm:Same (hidL O.adr H) (hidL (T0 O i).adr H):=S7 D9;have hl:(JS ρ i).length=ρ.length:=by
  unfold JS;split
  · exact wC
  · rfl
 refine⟨h.ndA.sublist (List.Sublist.map _ (Wq)),h.ndI.sublist (List.Sublist.map _ (Wq)),λa ha=>h.own a (D9 a ha),hl.trans h.len,h.b0,h.same.trans sm,λj c q=>?_⟩;have other:∀{c:Cell},ρ[j]?=some c->(∀ f ds,c = .ow f ds->j≠i)->∃ o,σ[j]?=some o/\CellB X H (T0 O i) j c o:=λ{c} q hne=>by
  obtain⟨o,e1,e2⟩:=h.at_ j c q;refine⟨o,e1,?_⟩;cases c with
  | no=>trivial
  | ex=>obtain⟨a,φ,q,r,z⟩:=e2;exact⟨a,φ,q,sm _ _ r,z⟩
  | sh f d=>obtain⟨v,q,r⟩:=e2;exact⟨v,q,Rp.mono _ sm r⟩
  | ow f ds=>obtain⟨a,vs,q1,q2,q3,r⟩:=e2;exact⟨a,vs,J8.mpr ⟨q1,hne f ds rfl⟩,q2,q3,Rps.mono _ sm r⟩
 unfold JS at q;cases e:ρ[i]? with
 | none =>
  rw[e]at q;exact other q λf ds _ z=>by rw[z,e]at q;cases q
 | some c' =>
  rw[e]at q;dsimp only at q;by_cases hij:i=j
  · subst hij;have hlt:i<ρ.length:=by
     by_cases hlt:i<ρ.length
     · exact hlt
     · rw[wO (by rfl')]at e;cases e
    rw[wX,if_pos rfl,if_pos hlt]at q;cases q;cases c' with
    | no=>obtain⟨o,e1,e2⟩:=h.at_ i _ e;exact⟨o,e1,trivial⟩
    | ex=>exact other e λf ds z=>by cases z
    | sh f d=>exact other e λf ds z=>by cases z
    | ow f ds =>
     obtain⟨o,e1,a,vs,q1,q2,q3,r⟩:=h.at_ i _ e;have hna:a ∉ (T0 O i).adr:=λz=>by
       obtain⟨p,hp,ep⟩:=wg.mp z;have:=Pm h.ndA (J8.mp hp).1 q1 ep;exact(J8.mp hp).2 (by rw[this])
     refine⟨o,e1,.ref a,q2,Rp.lst_.mpr ⟨a,vs,rfl,h.bsFree (U6 q1) f,by rw[i9 hna];exact q3,Rps.mono _ ?_ r⟩⟩;rw[S6,EG];refine S7 λb hb=>?_;rcases wn.mp hb with z|z
     · rw[z];exact U6 q1
     · exact D9 b z
  · rw[Wa hij]at q;exact other q λf ds _ z=>hij z.symm
theorem RepO.rels(h:RepO X H₀ H O ρ σ):∀ is:List Nat,∃ O',RepO X H₀ H O' (relS is ρ) σ:=λis=>by
 induction is generalizing O ρ with
 | nil=>exact⟨O,h⟩
 | cons i is ih=>exact ih (h.rel i)
end
inductive Oc where
 | nx (ρ:Rho)|rt (f:Fl) (d:Dt)|bk (ρ:Rho)|ct (ρ:Rho)|ex (n:Nat)
def OcOk(X:Cx)(H₀:Hp)(D:Ends):Oc->Prop
 | .nx ρ=>∀ σ H,RepB X H₀ H ρ σ->D.nx σ H
 | .rt f d=>∀ v H,Same H₀ H->Rp X.K (bsOf X.ky f.isFr) d H v->D.rt v H
 | .bk ρ=>∀ σ H,RepB X H₀ H ρ σ->D.bk σ H
 | .ct ρ=>∀ σ H,RepB X H₀ H ρ σ->D.ct σ H
 | .ex n=>∀ C,X.mg (exN n)=some (.ref C)->XOk X H₀ (wk n) C
abbrev FS:=Rho->Option Oc
def upS(X:Cx)(F:FS):TS:=λD σ H=>∃ H₀ ρ oc,RepB X H₀ H ρ σ/\F ρ=some oc/\OcOk X H₀ D oc
def PFS(X:Cx)(st:Stmt)(F:FS):Prop:=PS X st (upS X F)
def PFSs(X:Cx)(sts:List Stmt)(F:FS):Prop:=PSs X sts (upS X F)
theorem PS.imp{X:Cx}{st:Stmt}{t t':TS}(h:PS X st t)(q:∀ D σ H,t' D σ H->t D σ H):PS X st t':=λπ s σ H D I z=>h π s σ H D I (q D σ H z)
theorem PSs.imp{X:Cx}{st:List Stmt}{t t':TS}(h:PSs X st t)(q:∀ D σ H,t' D σ H->t D σ H):PSs X st t':=λπ s σ H D I z=>h π s σ H D I (q D σ H z)
section
variable {X:Cx}{st:Stmt}{rest:List Stmt}{F G:FS}{e:Expr}{Fe:FE}{pos:Pos}
def A3:FS:=λρ=>some (.nx ρ)
def seqO(G:FS):Oc->Option Oc
 | .nx ρ=>G ρ
 | o=>some o
noncomputable def sSeq(F G:FS):FS:=λρ=>(F ρ).bind (seqO G)
theorem A8:PFSs X [] A3:=P9.imp (by rintro D σ H ⟨H₀,ρ,oc,rb,e,k⟩;cases e;exact k σ H rb)
theorem f9(h:PFS X st F):PFSs X [st] F:=y4 h
theorem f7(h1:PFS X st F)(h2:PFSs X rest G):PFSs X (st::rest) (sSeq F G):=(j8 h1 h2).imp λD σ H⟨H₀,ρ,oc,rb,e,k⟩=>by
 obtain⟨o1,e1,e2⟩:=bind_some e;refine⟨H₀,ρ,o1,rb,e1,?_⟩;cases o1 with
 | nx ρ'=>exact λσ' H' rb'=>⟨H₀,ρ',oc,rb',e2,k⟩
 | rt f d=>cases e2;exact k
 | ex C=>cases e2;exact k
 | bk ρ'=>cases e2;exact k
 | ct ρ'=>cases e2;exact k
def EH:FS:=λ_=>none
theorem Ed:PFS X st EH:=λπ s σ H D I⟨H₀,ρ,oc,rb,e,k⟩=>by cases e
noncomputable def sRet(F:FE):FS:=λρ=>(F ρ).map λx => .rt x.1 x.2
theorem k7(he:PF X e Fe):PFS X (.Return (some e) pos) (sRet Fe):=(N7 he).imp λD σ H ⟨H₀,ρ,oc,⟨O,rb⟩,e0,k⟩=>by
 unfold sRet at e0;cases h:Fe ρ with
 | none=>rw[h]at e0;cases e0
 | some x =>
  rw[h]at e0;cases e0;refine⟨ρ,x.1,x.2,rb.all,h,λv H' sm r=>k v H' (rb.same.trans (k8.trans sm)) ?_⟩;by_cases q:x.1.isFr=true
  · rw[q];exact r.fr rb.below q
  · rw[show x.1.isFr=false by simpa using q];exact r.sh
noncomputable def sIf(c:FT)(F G:FS):FS:=λρ=>(c ρ).bind λb=>if b then F ρ else G ρ
theorem s_if{c:Expr}{a b:List Stmt}{Fc:FT}(hc:PFT X c Fc)(ha:PFSs X a F)(hb:PFSs X b G):PFS X (.If c a b pos) (sIf Fc F G):=(Dj hc ha hb).imp λD σ H ⟨H₀,ρ,oc,⟨O,rb⟩,e0,k⟩=>by
 obtain⟨z,e1,e2⟩:=bind_some e0;refine⟨ρ,z,rb.all,e1,λH' sm=>?_⟩;dsimp only;cases z with
 | true=>rw[if_pos rfl]at e2 ⊢;exact⟨H₀,ρ,oc,⟨O,rb.mono sm⟩,e2,k⟩
 | false=>rw[if_neg wD]at e2 ⊢;exact⟨H₀,ρ,oc,⟨O,rb.mono sm⟩,e2,k⟩
def EI(F:FE):FS:=λρ=>(F ρ).map λ_ => .nx ρ
theorem RO(he:PF X e Fe)(hs:swapsWith e none pos.line X.env=pure false:=by rfl):PFS X (.Expr e pos) (EI Fe):=(Aa he hs).imp λD σ H ⟨H₀,ρ,oc,⟨O,rb⟩,e0,k⟩=>by
 unfold EI at e0;cases h:Fe ρ with
 | none=>rw[h]at e0;cases e0
 | some x =>
  rw[h]at e0;cases e0;exact⟨ρ,x.1,x.2,rb.all,h,λv H' sm r=>k σ H' ⟨O,rb.mono sm⟩⟩
def AsgF(X:Cx)(st:Stmt)(i:Nat)(F:FE):Prop:=PS X st (tAsg (upF X F) (u5 i))
theorem B4{i:Nat}{x:Str}{pos':Pos}(he:PF X e Fe)(hN:X.N.Nodup)(hi:X.N[i]?=some x)(hx:Loc X.env.scope x)(hs:swapsWith e (some (.Name x pos')) pos.line X.env=pure false)(hf:X.fn x=true\/X.env.scope.names.lookup x=some .local):
 AsgF X (.Assign [.Name x pos'] e pos) i Fe:=B8 hN hi hx he hs hf
theorem JT{N:List Str}{scope:Scope}{nt:Nat}{js:List Nat}{tg elt iter:Expr}{ifs:List Expr}{Fi:FI}{g:Tg}{Fc:FT}{i:Nat}{x:Str}{pos' spos:Pos}(hN:X.N.Nodup)(hix:X.N[i]?=some x)(hx:X.env.scope.names.lookup x=some .local)
  (hsw:swapsWith (.ListComp elt [⟨tg,iter,ifs,0⟩] scope pos) (some (.Name x pos')) spos.line X.env=pure true)
  (S:CompScope X N scope nt js) (hc:X.calm=true) (hi:PFI X tg iter Fi) (hg:∀ cl C fp s H,PG (w6 X N scope cl C fp s H) tg (g.low X.K)) (hb:g.below nt)
  (hcs:∀ cl C fp s H,PFTs (w6 X N scope cl C fp s H) ifs Fc) (he:∀ cl C fp s H,PF (w6 X N scope cl C fp s H) elt Fe) (hj:∀ j∈js,j<X.N.length)
  (hs:∀ x,foldedSetIterable iter X.env x=pure x:=by intro _;rfl):AsgF X (.Assign [.Name x pos'] (.ListComp elt [⟨tg,iter,ifs,0⟩] scope pos) spos) i (j9 nt js Fi g Fc Fe):=by
 intro π s σ H D I h;exact Vd hN hix hx S hc hi hg (Tg.ok hb) (λcl C fp s H=>PTs.frame (t:=λH1=>upBK ⟨X.K,H1⟩ Fc) (hcs cl C fp s H)) (λcl C fp s H=>PE.frame (he cl C fp s H)) hsw hs π s σ H D I
  (Pl (λj z=>by rw[I.len];exact hj j z) h)
def sSet(rels:List Nat)(i:Nat)(F:FE):FS:=λρ=>(F (L8 (relS rels ρ))).map λx => .nx ((relS rels ρ).set i (.sh x.1.isFr x.2))
theorem AI{rels:List Nat}{i:Nat}(ha:AsgF X st i Fe):PFS X st (sSet rels i Fe):=(PS.frame ha).imp λD σ H ⟨H₀,ρ,oc,⟨O,rb⟩,e0,k⟩=>by
 unfold sSet at e0;cases h:Fe (L8 (relS rels ρ)) with
 | none=>rw[h]at e0;cases e0
 | some x =>
  rw[h]at e0;cases e0;obtain⟨O',rb'⟩:=rb.rels rels;refine⟨O'.adr,rb'.own,L8 (relS rels ρ),x.1,x.2,rb'.rest,h,λv H' sm r hn=>?_⟩;have hg:hidL O'.adr (B9 O'.adr H H')=H':=N8 hn;have rb2:RepO X H₀ (B9 O'.adr H H') O' (relS rels ρ) σ:=rb'.mono (Same.glue sm hn);refine k _ _ ⟨_,rb2.set (f:=x.1.isFr) ?_⟩;rw[hg];by_cases q:x.1.isFr=true
  · rw[q];exact r.fr (rb'.b0.trans rb'.same) q
  · rw[show x.1.isFr=false by simpa using q];exact r.sh
def Q1(i:Nat)(F:FE):FS:=λρ=>(F ρ).bind λx=>if x.1.isNw then some (.nx (ρ.set i (.sh true x.2))) else none
theorem RP{H H':Hp}{O:Own}{f:Fl}{d:Dt}{v:V}(ho:OwnL X O.adr H)(sm:Same H H')(q:f.isNw=true)(r:RpF X.ky H f d H' v):Rp X.K H d (hidL O.adr H') v:=by
 cases f<;>first|cases q|skip
 refine Rp.hid (λb hb=>?_) d (λb hb o e=>?_) r
 · obtain⟨⟨vs,z⟩,_⟩:=ho b hb;rw[z];exact λw=>nomatch w
 · obtain⟨⟨vs,z⟩,_⟩:=ho b hb;rw[sm _ _ z]at e;cases e;exact⟨vs,rfl⟩
theorem IL{i:Nat}(ha:AsgF X st i Fe):PFS X st (Q1 i Fe):=PS.imp ha λD σ H ⟨H₀,ρ,oc,⟨O,rb⟩,e0,k⟩=>by
 obtain⟨x,e1,e2⟩:=bind_some e0;split at e2
 · rename_i q;cases e2;refine⟨ρ,x.1,x.2,rb.all,e1,λv H' sm r=>k _ _ ⟨_,(rb.mono sm).set (f:=true) ?_⟩⟩;exact Rp.anti rb.below _ (RP rb.own sm q r)
 · cases e2
def sOwn(i:Nat)(F:FE):FS:=λρ=>(F (L8 ρ)).bind λx=>match x with
 | (.nw,.lst ds)=>if i<ρ.length then some (.nx (ρ.set i (.ow true ds))) else none
 | (.tn,.lst ds)=>if i<ρ.length then some (.nx (ρ.set i (.ow false ds))) else none
 | _=>none
theorem Pn{i:Nat}(ha:AsgF X st i Fe):PFS X st (sOwn i Fe):=(PS.frame ha).imp λD σ H ⟨H₀,ρ,oc,⟨O,rb⟩,e0,k⟩=>by
 obtain⟨x,e1,e2⟩:=bind_some e0;refine⟨O.adr,rb.own,L8 ρ,x.1,x.2,rb.rest,e1,λv H' sm r hn=>?_⟩;have hg:hidL O.adr (B9 O.adr H H')=H':=N8 hn;have sg:Same H (B9 O.adr H H'):=Same.glue sm hn;have new:∀{f:Bool} {ds:List Dt} {D:Addr} {vs:List V},hidL O.adr H D=none->H' D=some (.lst vs)->Rps X.K (bsOf X.ky f) ds (hidL [D] H') vs->i<ρ.length->RepB X H₀ (B9 O.adr H H') (ρ.set i (.ow f ds)) (σ.set i (some (.ref D))):=by
   intro f ds D vs hD hv hr hi;have nO:D ∉ O.adr:=λz=>by rw[hn D z]at hv;cases hv
   have hH:H D=none:=by rw[i9 nO]at hD;exact hD
   refine⟨_,rb.setNew hi sg hH (by rw[A5 nO];exact hv) nO (rb.below.free hH) ?_⟩;rw[←EG,S6,hg];exact hr
 split at e2
 · rename_i ds;split at e2
   · rename_i hi;cases e2;obtain⟨D,vs,rfl,h0,h1,h2⟩:=(Rp.lst_ (K:=X.K)).mp (show Rp X.K (hidL O.adr H) (.lst ds) H' v from r);exact k _ _ (new (f:=true) h0 h1 (Rps.anti (rb.b0.trans rb.same) _ h2) hi)
   · cases e2
 · rename_i ds;split at e2
   · rename_i hi;cases e2;obtain⟨D,vs,rfl,h0,h1,h2⟩:=Rp.lst_.mp r.1;exact k _ _ (new (f:=false) (r.2.2 D rfl) h1 h2 hi)
   · cases e2
 · cases e2
def C1(c:FT)(F:FS):Nat->FS
 | 0,_=>none
 | n+1,ρ=>(c ρ).bind λb=>if b then(F ρ).bind λoc=>match oc with|.nx ρ'=>C1 c F n ρ'|.ct ρ'=>C1 c F n ρ'|.bk ρ'=>some (.nx ρ')|.rt f d=>some (.rt f d)|.ex C=>some (.ex C) else some (.nx ρ)
open Classical in
noncomputable def O1(c:FT)(F:FS):FS:=λρ=>if h:∃ n o,C1 c F n ρ=some o then some (choose (choose_spec h)) else none
theorem Q2{c:FT}{F:FS}:∀{n m:Nat} {ρ:Rho} {o:Oc},n<=m->C1 c F n ρ=some o->C1 c F m ρ=some o
 | 0,m,ρ,o,_,h=>by cases h
 | n+1,0,ρ,o,hl,h=>by rfl'
 | n+1,m+1,ρ,o,hl,h=>by
  unfold C1 at h ⊢;obtain⟨b,e1,e2⟩:=bind_some h;rw[e1];show(if b=true then _ else _)=_;cases b with
  | false=>exact e2
  | true =>
   rw[if_pos rfl]at e2 ⊢;obtain⟨oc,e3,e4⟩:=bind_some e2;rw[e3];cases oc with
   | nx ρ'=>exact Q2 (by rfl') e4
   | ct ρ'=>exact Q2 (by rfl') e4
   | bk ρ'=>exact e4
   | rt f d=>exact e4
   | ex C=>exact e4
theorem Af{c:FT}{F:FS}{n:Nat}{ρ:Rho}{o:Oc}(h:C1 c F n ρ=some o):O1 c F ρ=some o:=by
 have hx:∃ n o,C1 c F n ρ=some o:=⟨n,o,h⟩;unfold O1;rw[dif_pos hx];have z:=Wc (Wc hx);have a:=Q2 (Nat.le_max_left n (vi hx)) h;have b:=Q2 (Nat.le_max_right n (vi hx)) z;rw[a]at b;exact b.symm
theorem Qt{c:FT}{F:FS}{ρ:Rho}{o:Oc}(h:O1 c F ρ=some o):∃ n,C1 c F n ρ=some o:=by
 unfold O1 at h;split at h
 · rename_i hx;cases h;exact⟨_,Wc (Wc hx)⟩
 · cases h
theorem IM{c:Expr}{body:List Stmt}{Fc:FT}(hp:PassesOwn (model X.prog X.w) X.A X.env X.xe)(hc:PFT X c Fc)(hb:PFSs X body F):PFS X (.While c body [] pos) (O1 Fc F):=(JD hp hc hb).imp λD σ H⟨H₀,ρ,oc,rb,e0,k⟩=>by
 obtain⟨n0,e1⟩:=Qt e0;refine⟨λm σ' H'=>∃ ρ',RepB X H₀ H' ρ' σ'/\C1 Fc F m ρ'=some oc,⟨n0,ρ,rb,e1⟩,?_⟩;rintro m σ' H' ⟨ρ',⟨O,rb'⟩,w'⟩;cases m with
 | zero=>cases w'
 | succ n =>
  unfold C1 at w';obtain⟨z,p1,p2⟩:=bind_some w';refine⟨ρ',z,rb'.all,p1,λH2 sm=>?_⟩;dsimp only;cases z with
  | false =>
   rw[if_neg wD]at p2 ⊢;cases p2;exact k _ _ ⟨O,rb'.mono sm⟩
  | true =>
   rw[if_pos rfl]at p2 ⊢;obtain⟨oc',p3,p4⟩:=bind_some p2;refine⟨λσ' H'=>∃ ρ'',RepB X H₀ H' ρ'' σ'/\C1 Fc F n ρ''=some oc,λσ3 H3⟨ρ3,rb3,w3⟩=>⟨n,wR n,ρ3,rb3,w3⟩,H₀,ρ',oc',⟨O,rb'.mono sm⟩,p3,?_⟩;cases oc' with
   | nx ρ3=>exact λσ3 H3 rb3=>⟨ρ3,rb3,p4⟩
   | ct ρ3=>exact λσ3 H3 rb3=>⟨ρ3,rb3,p4⟩
   | bk ρ3=>cases p4;exact k
   | rt f d=>cases p4;exact k
   | ex C=>cases p4;exact k
def forF(g:Tg)(F:FS):List Dt->FS
 | [],ρ=>some (.nx ρ)
 | x::xs,ρ=>(g.put x ρ).bind λρ2=>(F ρ2).bind λoc=>match oc with|.nx ρ'=>forF g F xs ρ'|.ct ρ'=>forF g F xs ρ'|.bk ρ'=>some (.nx ρ')|.rt f d=>some (.rt f d)|.ex C=>some (.ex C)
def sFor(rels:List Nat)(Fi:FI)(g:Tg)(F:FS):FS:=λρ=>(Fi (L8 (relS rels ρ))).bind λitems=>forF g F items (relS rels ρ)
end
section
variable {X:Cx}{H₀ H H':Hp}{O:Own}{ρ ρ':Rho}{σ:St}
theorem Dr:∀{is:List Nat} {ds:List Dt} {vs:List V} {O:Own} {ρ:Rho} {σ:St},RepO X H₀ H O ρ σ->Rps X.K emp ds (hidL O.adr H) vs->ds.length=is.length->R7 ρ is ds=ρ' ->
  G5 is vs σ H λσ' H'=>H'=H/\∃ O',RepO X H₀ H O' ρ' σ'
 | [],[],vs,O,ρ,σ,rs,r,hl,q=>⟨Rps.nil_.mp r,rfl,O,by rw[←q];exact rs⟩
 | [],d::ds,vs,O,ρ,σ,rs,r,hl,q=>by cases hl
 | i::is,[],vs,O,ρ,σ,rs,r,hl,q=>by cases hl
 | i::is,d::ds,vs,O,ρ,σ,rs,r,hl,q=>by
  obtain⟨v,r',rfl,h1,h2⟩:=Rps.cons_.mp r;exact⟨v,r',rfl,Dr (rs.set (f:=false) h1) (Rps.mono _ (S7 D9) h2) (by simpa using hl) q⟩
theorem Tg.simO{g:Tg}{d:Dt}{v:V}(rs:RepO X H₀ H O ρ σ)(r:Rp X.K emp d (hidL O.adr H) v)(h:g.put d ρ=some ρ'):
  g.low X.K v σ H λσ' H'=>H'=H/\∃ O',RepO X H₀ H O' ρ' σ':=by
 cases g with
 | one i=>cases h;exact⟨rfl,_,rs.set (f:=false) r⟩
 | many is =>
  cases d<;>first|cases h|skip
  rename_i ds;replace h:(if ds.length=is.length then some (R7 ρ is ds) else none)=some ρ':=h;split at h
  · rename_i hl;obtain⟨a,vs,rfl,h1,h2⟩:=Rp.tup_.mp r;exact⟨a,vs,rfl,k8.seqT h1,by rw[h2.length];exact hl,Dr rs h2 hl (Option.some.inj h)⟩
  · cases h
end
section
variable {X:Cx}{tg iter:Expr}{body:List Stmt}{Fi:FI}{g:Tg}{F:FS}{pos:Pos}
theorem AJ{rels:List Nat}(hp:PassesOwn (model X.prog X.w) X.A X.env X.xe)(hc:X.calm=true)(hi:PFI X tg iter Fi)(hg:PG X tg (g.low X.K))(hb:PFSs X body F)
   (hs:∀ x,foldedSetIterable iter X.env x=pure x:=by intro _;rfl):PFS X (.For tg iter body [] pos) (sFor rels Fi g F):=(X9 hp hc (PI.frame hi) hg hb hs).imp λD σ H ⟨H₀,ρ,oc,⟨O,rb⟩,e0,k⟩=>by
 obtain⟨items,e1,e2⟩:=bind_some e0;obtain⟨O',rb'⟩:=rb.rels rels;refine⟨O'.adr,rb'.own,L8 (relS rels ρ),items,rb'.rest,e1,λJ H1 sm hsz wk hn=>?_⟩;have hg1:hidL O'.adr (B9 O'.adr H H1)=H1:=N8 hn;have s01:Same H₀ H1:=rb'.same.trans sm;have start:RepO X H1 (B9 O'.adr H H1) O' (relS rels ρ) σ:=by
   have z:=rb'.mono (Same.glue sm hn);exact⟨z.ndA,z.ndI,z.own,z.len,rb'.b0.trans s01,by rw[hg1];exact Same.refl _,z.at_⟩
 have back:∀{oc:Oc},OcOk X H₀ D oc->OcOk X H1 D oc:=λ{oc} z=>by
   cases oc with
   | nx ρ5=>exact λσ5 H5⟨O5,r5⟩=>z σ5 H5 ⟨O5,r5.base s01 rb'.b0⟩
   | bk ρ5=>exact λσ5 H5⟨O5,r5⟩=>z σ5 H5 ⟨O5,r5.base s01 rb'.b0⟩
   | ct ρ5=>exact λσ5 H5⟨O5,r5⟩=>z σ5 H5 ⟨O5,r5.base s01 rb'.b0⟩
   | rt f d=>exact λv H5 s5 r5=>z v H5 (s01.trans s5) r5
   | ex n=>exact λC q=>(z C q).base s01
 refine⟨λi m σ' H'=>m=items.length-i/\∃ ρ',RepB X H1 H' ρ' σ'/\forF g F (items.drop i) ρ'=some oc,⟨_,rfl,_,⟨O',start⟩,e2⟩,?_⟩;rintro i m σ' H' ⟨rfl,ρ',⟨O2,r2⟩,f2⟩;obtain⟨w1,w2⟩:=wk O2.adr H' r2.same λa ha=>by obtain⟨⟨vs,q⟩,_⟩:=r2.own a ha;exact⟨_,q⟩
 by_cases hlt:i<items.length
 · obtain⟨x,hx⟩:∃ x,items[i]?=some x:=⟨_,wa hlt⟩;have hdrop:items.drop i=x::items.drop (i+1):=by
    rw[WQ hlt];rw[wa hlt]at hx;cases hx;rfl
   rw[hdrop]at f2;unfold forF at f2;obtain⟨ρ2,p1,f3⟩:=bind_some f2;obtain⟨oc',p2,f4⟩:=bind_some f3;obtain⟨go,yl⟩:=w1 i x hx;refine .inr ⟨go,λσ3 H3=>∃ ρ3,RepB X H1 H3 ρ3 σ3/\forF g F (items.drop (i+1)) ρ3=some oc,λσ3 H3⟨ρ3,r3,f3⟩=>⟨items.length-(i+1),by rfl',rfl,ρ3,r3,f3⟩,λxv H3 y3=>?_⟩;obtain⟨s3,k3,r3⟩:=yl xv H3 y3;have sm3:Same H' H3:=λb o e=>by
    by_cases hb:b∈O2.adr
    · rw[k3 b hb];exact e
    · exact(B0 (s3 b o (by rw[i9 hb];exact e))).2
   refine Tg.low_mono (Tg.simO (r2.mono sm3) r3 p1) ?_;rintro σ4 H4 ⟨eH,O4,r4⟩;subst eH;refine⟨H1,ρ2,oc',⟨O4,r4⟩,p2,?_⟩;cases oc' with
   | nx ρ5=>exact λσ5 H5 r5=>⟨ρ5,r5,f4⟩
   | ct ρ5=>exact λσ5 H5 r5=>⟨ρ5,r5,f4⟩
   | bk ρ5=>cases f4;exact back k
   | rt f d=>cases f4;exact back k
   | ex C=>cases f4;exact back k
 · have hd:items.drop i=[]:=vY (by rfl');rw[hd]at f2;cases f2;exact .inl ⟨w2 i (by rfl'),back k σ' H' ⟨O2,r2⟩⟩
end
section
variable {P:Program}{w:World}{K:aE}{mg:aF}{base:Heap}
def rho0(n:Nat)(ds:List Dt):Rho:=ds.map (Cell.sh false)++List.replicate (n-ds.length) Cell.no
theorem LX{X:Cx}{H:Hp}{ds:List Dt}{vs:List V}{N:List Str}(h0:X.H₀=H)(h:Rps X.K emp ds H vs):RepO X H H [] (rho0 N.length ds) (start N vs):=by
 have hl:=h.length;refine⟨WW,WW,λa ha=>(nomatch ha),by unfold rho0 start;simp[hl],by rw[h0];exact Same.refl H,by show Same H (hidL [] H);rw[JL];exact Same.refl H,λi c e=>?_⟩;unfold rho0 at e;unfold start;by_cases hi:i<ds.length
 · rw[wL (by simpa using hi),wq]at e;cases q:ds[i]? with
   | none=>rw[q]at e;cases e
   | some d =>
     rw[q]at e;cases e;obtain⟨v,e1,e2⟩:=h.get q;refine⟨some v,?_,v,rfl,by show Rp X.K emp d (hidL [] H) v;rw[JL];exact e2⟩;rw[wL (by simp;rfl'),wq,e1];rfl
 · rw[wN (by simp;rfl'),wQ]at e;split at e
   · cases e;rename_i hlt;simp at hlt;refine⟨none,?_,trivial⟩;rw[wN (by simp;rfl'),wQ,if_pos (by simp;rfl')]
   · cases e
noncomputable def cOf(np n:Nat)(fr:Bool)(F:FS):FC:=λds=>if ds.length=np then
 (F (rho0 n ds)).bind λoc=>match oc with|.rt f d=>if fr&&!(f.isFr||d.flat) then none else some d|.nx _=>some .non|_=>none
 else none
theorem Fun.dataP{Pre:Hp→Prop}{x qual:Str}{st:Stmt}{f:Addr}{fd:FuncData}{N ps:List Str}{k:Nat}{fr:Bool}{F:FS}(Fu:Fun K x qual st f fd)(S:FnScope N ps (d7 st))
    (body:∀(cdv:Value) (A:Around) (outer:List Env) (s:Shared) (H:Hp) (E:XK),Room k (A.deeper (envOfC qual (d7 st) s.heap.objs.size f cdv))->Pre H ->
      PFSs (cxOf CX0 P w K mg base N qual (d7 st) f cdv A outer s H E).nox (x9 st) F):FnOk P w K mg base CX0 (k+1) f fd ps (λvs H Q E=>Pre H/\spc K fr (cOf ps.length N.length fr F) vs H Q E):=by
  refine Fu.ok S (λvs H Q E h=>?_) (λcdv A outer s H vs Q E hr h=>?_)
  · obtain⟨_,ds,d,r,e,q⟩:=h;unfold cOf at e;split at e
    · rename_i hl;rw[r.length];exact hl
    · cases e
  · obtain⟨ hP,ds,d,r,e,q⟩:=h
    unfold cOf at e;split at e
    · rename_i hl;obtain⟨oc,e1,e2⟩:=bind_some e;refine⟨_,body cdv A outer s H E hr hP,H,rho0 N.length ds,oc,⟨[],LX rfl r⟩,e1,?_⟩;cases oc with
      | nx ρ=>cases e2;exact λσ H'⟨O,rb⟩=>q _ H' (rb.same.trans k8) (Rp.non_.mpr rfl)
      | bk ρ=>cases e2
      | ct ρ=>cases e2
      | ex C=>cases e2
      | rt f d' =>
        have e2:(if(fr&&!(f.isFr||d'.flat))=true then none else some d')=some d:=e2;split at e2
        · cases e2
        · rename_i hf;cases e2;refine λv H' sm r'=>q v H' sm ?_;cases fr with
          | false=>exact Rp.anti Same.emp _ r'
          | true =>
            have hf:f.isFr=true\/d.flat=true:=by
              cases h1:f.isFr<;>cases h2:d.flat<;>simp[h1,h2]at hf ⊢
            rcases hf with hf|hf
            · rw[hf]at r';exact r'
            · exact Rp.flat d hf r'
    · cases e
theorem Fun.data{x qual:Str}{st:Stmt}{f:Addr}{fd:FuncData}{N ps:List Str}{k:Nat}{fr:Bool}{F:FS}(Fu:Fun K x qual st f fd)(S:FnScope N ps (d7 st))
 (body:∀(cdv:Value) (A:Around) (outer:List Env) (s:Shared) (H:Hp) (E:XK),Room k (A.deeper (envOfC qual (d7 st) s.heap.objs.size f cdv)) →
  PFSs (cxOf CX0 P w K mg base N qual (d7 st) f cdv A outer s H E).nox (x9 st) F):FnOk P w K mg base CX0 (k+1) f fd ps (spc K fr (cOf ps.length N.length fr F)):=(Fu.dataP (Pre:=λ_=>True) S λcdv A outer s H E hr _=>body cdv A outer s H E hr).imp λ_ _ _ _ h=>⟨trivial,h⟩
end
def IN(XN:List Str)(xs:List (Str×NameKind))(scope:Scope)(N:List Str)(nt:Nat)(js:List Nat):Bool :=
 decide ((scope.names.map (·.1)).Nodup)&&(N.length==nt+js.length)&&((List.range js.length).all λk=>match js[k]? with
  | some j=>(match N[nt+k]?,XN[j]? with|some x,some y=>x==y&&scope.names.lookup x==some .free|_,_=>false)
  | none=>false)&&scope.names.all λp=>p.2 != .free||xs.lookup p.1==some .cell||xs.lookup p.1==some .free
theorem J9{X:Cx}{N:List Str}{scope:Scope}{nt:Nat}{js:List Nat}(XN:List Str)(xs:List (Str×NameKind))(h1:X.N=XN)(h2:X.env.scope.names=xs)(hk:scope.kind = .function)(c:IN XN xs scope N nt js=true):CompScope X N scope nt js:=by
 unfold IN at c;rw[wE,wE,wE]at c;obtain⟨⟨⟨c1,c2⟩,c3⟩,c4⟩:=c;have nd:=of_decide_eq_true c1;refine⟨hk,nd,λx hx e=>by rw[M1 nd hx,e],beq_iff_eq.mp c2,λk j e=>?_,λx hx e=>?_⟩
 · have hk:k<js.length:=by
     by_cases hk:k<js.length
     · exact hk
     · rw[wO (by rfl')]at e;cases e
   have z:=vg.mp c3 k (wM.mpr hk);rw[e]at z;dsimp only at z;rw[h1];cases q1:N[nt+k]? with
   | none=>rw[q1]at z;cases z
   | some x =>
     cases q2:XN[j]? with
     | none=>rw[q1,q2]at z;cases z
     | some y =>
       rw[q1,q2]at z;dsimp only at z;rw[wE]at z;have exy:x=y:=beq_iff_eq.mp z.1;subst exy;exact⟨x,rfl,rfl,beq_iff_eq.mp z.2⟩
 · have z:=vg.mp c4 x hx;rw[e]at z;have z:(xs.lookup x.1==some .cell||xs.lookup x.1==some .free)=true:=by simpa using z
   show X.env.scope.names.lookup x.1=_\/X.env.scope.names.lookup x.1=_;rw[h2];rcases WU _ _ |>.mp z with z|z
   · exact .inl (beq_iff_eq.mp z)
   · exact .inr (beq_iff_eq.mp z)
structure Df(K:aE)(mg:aF)(name:Str)(st:Stmt)(ps:List Str)(f:Addr)(fd:FuncData):Prop where
 fn:Fun K name name st f fd
 mg:mg name=some (.ref f)
 bd:Binds K fd ps []
theorem df_mk{K:aE}{h:Heap}{mg:aF}(X:K.In h)(G:h.Ns mainGlobals mg){x:Str}{st:Stmt}{f:Addr}{oc:Value}{od an:Option Addr}{osl:Array (Option Value)}{kV doc pm cdv ct:Value}{ps:List Str}
  (e:PySem.W.nsIn K mainGlobals x=some (some (.ref f))) (l:K.lookup f=some ⟨oc,od,.func (PySem.W.fnOf x x (E9 st) (x9 st) (d7 st) .none kV doc pm an cdv ct),osl⟩) (c:PySem.W.codeIn K cdv x=true) (k:PySem.W.keepIn K (.ref f)=true)
  (hb:∀(kV doc pm:Value) (an:Option Addr) (cdv ct:Value) (us:aG),us.length=ps.length->bindArgs (PySem.W.fnOf x x (E9 st) (x9 st) (d7 st) .none kV doc pm an cdv ct) ⟨us,[]⟩=pure (ps.zip us)) :
  Df K mg x st ps f (PySem.W.fnOf x x (E9 st) (x9 st) (d7 st) .none kV doc pm an cdv ct) :=
 ⟨Rz l c k,PySem.W.mg_of X G e,(Rz (st:=st) l c k).binds hb⟩
end L2

end
section
namespace ZL
open PySem PyProof.Rows
def ItAt(h:Heap)(tu:Bool)(it l:Addr)(k:Nat):Prop:=if tu then h.IsTupleIter it l k else h.IsListIter it l k
def SqAt(h:Heap)(tu:Bool)(l:Addr)(xs:Array Value):Prop:=if tu then h.IsTuple l xs else h.IsList l xs
section
variable {h h':Heap}{tu:Bool}{it l c:Addr}{k:Nat}{xs:Array Value}
theorem ItAt.at(x:ItAt h tu it l k)(q:∀ o,h.get? it=some o->h'.get? it=some o):ItAt h' tu it l k:=by
 unfold ItAt at x ⊢;cases tu with
 | true=>obtain⟨o,e,r⟩:=x;exact⟨o,q o e,r⟩
 | false=>obtain⟨o,e,r⟩:=x;exact⟨o,q o e,r⟩
theorem SqAt.at(x:SqAt h tu l xs)(q:∀ o,h.get? l=some o->h'.get? l=some o):SqAt h' tu l xs:=by
 unfold SqAt at x ⊢;cases tu with
 | true=>obtain⟨o,e,r⟩:=x;exact⟨o,q o e,r⟩
 | false=>obtain⟨o,e,r⟩:=x;exact⟨o,q o e,r⟩
theorem ItAt.lt(x:ItAt h tu it l k):it<h.objs.size:=by
 unfold ItAt at x;cases tu with
 | true=>obtain⟨o,e,_⟩:=x;exact wo e
 | false=>obtain⟨o,e,_⟩:=x;exact wo e
theorem SqAt.lt(x:SqAt h tu l xs):l<h.objs.size:=by
 unfold SqAt at x;cases tu with
 | true=>obtain⟨o,e,_⟩:=x;exact wo e
 | false=>obtain⟨o,e,_⟩:=x;exact wo e
end
section
variable {prog:Program}{w:World}{A:Around}{E:aC}{s:Shared}
theorem LY{it t:Addr}{i:Nat}{items:Array Value}{x:Value}{Q:aC}(a:s.heap.IsTupleIter it t i)(b:s.heap.IsTuple t items)(c:items[i]?=some x)
  (q:∀ h',h'.IsTupleIter it t (i+1)->Heap.SameBut it s.heap h'->Q x { s with heap:=h' }):wpAny (model prog w) A (Builtin.SmallTypes.nextOf (.ref it)) Q E s:=by
 obtain⟨o,e1,e2,e3⟩:=id a;obtain⟨p,f1,_,n,f2⟩:=b;unfold Builtin.SmallTypes.nextOf;refine wpAny_bind (wpAny_callSpecial?_slot (name:=Str.ofString "__next__") a.typeIs F.slot_tuple_iterator_next (wpAny_call_entry F.slot_tuple_iterator_next a.typeIs F.entry_tuple_iterator_next ?_ (F.args_tuple_iterator_next_1 _)));show wpAny _ _ (field (.ref it) 0 >>= λz=>_) _ _ s;refine wpAny_bind (wpAny_field e1 e3 (x:=Value.ref t) rfl ?_);show wpAny _ _ (if(Value.ref t==Value.none)=true then _ else _) _ _ s;rw[if_neg (by exact wD)];show wpAny _ _ (field (.ref it) 1 >>= λz=>_) _ _ s;refine wpAny_bind (wpAny_field e1 e3 (x:=Value.int i 0) rfl ?_);show wpAny _ _ (seqItems? (.ref t) >>= λz=>_) _ _ s;refine wpAny_bind (wpAny_seqItems f1 f2 ?_);simp only[wY,c];refine wpAny_bind (wpAny_setField e1 e3 (by simp) (wpAny_pure ⟨x,rfl,wpAny_pure (q _ ⟨_,VZ _ e1 (Obj.isFreed_of_fields (Obj.data_mapFields e3 _)),(Obj.cls_mapFields ..).trans e2,?_⟩ (Heap.SameBut.update ..))⟩));rw[Obj.data_mapFields e3];simp[rawInt]
theorem Qu{it t:Addr}{i:Nat}{items:Array Value}{Q:aC}(hn:A.handled=none)(a:s.heap.IsTupleIter it t i)(b:s.heap.IsTuple t items)(c:items[i]?=none)
  (q:∀ h' e,Heap.ExtBut it s.heap h'->(∃ o,h'.get? e=some o/\o.cls = .type "StopIteration")->E (.ref e) { s with heap:=h' }):wpAny (model prog w) A (Builtin.SmallTypes.nextOf (.ref it)) Q E s:=by
 obtain⟨o,e1,e2,e3⟩:=id a;obtain⟨p,f1,_,n,f2⟩:=b;unfold Builtin.SmallTypes.nextOf;refine wpAny_bind (wpAny_callSpecial?_slot (name:=Str.ofString "__next__") a.typeIs F.slot_tuple_iterator_next (wpAny_call_entry F.slot_tuple_iterator_next a.typeIs F.entry_tuple_iterator_next ?_ (F.args_tuple_iterator_next_1 _)));show wpAny _ _ (field (.ref it) 0 >>= λz=>_) _ _ s;refine wpAny_bind (wpAny_field e1 e3 (x:=Value.ref t) rfl ?_);show wpAny _ _ (if(Value.ref t==Value.none)=true then _ else _) _ _ s;rw[if_neg (by exact wD)];show wpAny _ _ (field (.ref it) 1 >>= λz=>_) _ _ s;refine wpAny_bind (wpAny_field e1 e3 (x:=Value.int i 0) rfl ?_);show wpAny _ _ (seqItems? (.ref t) >>= λz=>_) _ _ s;refine wpAny_bind (wpAny_seqItems f1 f2 ?_);simp only[wY,c];refine wpAny_bind (wpAny_rule (wpAny_bind (wpAny_setField e1 e3 (by simp) ?_)));show wpAny _ _ (newExc (.type "StopIteration") [] >>= λz=>_) _ _ _;refine wpAny_bind ?_;simp only[newExc,newTuple];refine wpAny_bind (wpAny_newObj_type ?_ (by size_fits));refine wpAny_bind (m:=firstArgMember _ _) (wpAny_of_eq (a:=Value.none) (by first|(simp only[firstArgMember];rfl)|rfl) ?_);refine wpAny_newObj_type ?_ (by size_fits);simp only[raiseNew];refine wpAny_bind (wpAny_handled ?_)
 first|rw[hn]|rw[show A.in1.handled=none from hn]
 refine wpAny_bind (wpAny_pure (wpAny_throw ?_));exact q _ _ (((Heap.SameBut.update ..).extBut.push _).push _) ⟨_,wp _ rfl,rfl⟩
theorem Hc{tu:Bool}{it l:Addr}{i:Nat}{items:Array Value}{x:Value}{Q:Option Value->Shared->Prop}(a:ItAt s.heap tu it l i)(b:SqAt s.heap tu l items)(c:items[i]?=some x)
  (q:∀ h',ItAt h' tu it l (i+1)->Heap.SameBut it s.heap h'->Q (some x) { s with heap:=h' }):wpAny (model prog w) A (Builtin.SmallTypes.nextOrEnd (.ref it)) Q E s:=by
 unfold Builtin.SmallTypes.nextOrEnd;cases tu with
 | true=>exact wpAny_bind (wpAny_attempt (LY a b c λh' p1 p2=>wpAny_pure (q h' p1 p2)))
 | false=>exact wpAny_bind (wpAny_attempt (wpAny_nextOf_list_item a b c λh' p1 p2=>wpAny_pure (q h' p1 p2)))
theorem JU{tu:Bool}{it l:Addr}{i:Nat}{items:Array Value}{Q:Option Value->Shared->Prop}(hn:A.handled=none)(a:ItAt s.heap tu it l i)(b:SqAt s.heap tu l items)(c:items[i]?=none)
  (q:∀ h',Heap.ExtBut it s.heap h'->Q none { s with heap:=h' }):wpAny (model prog w) A (Builtin.SmallTypes.nextOrEnd (.ref it)) Q E s:=by
 unfold Builtin.SmallTypes.nextOrEnd;cases tu with
 | true=>exact wpAny_bind (wpAny_attempt (Qu hn a b c λh' e p1⟨o,p2,p3⟩=>wpAny_bind (wpAny_isInstance (T := "StopIteration") (b:=true) ⟨o,p2,p3⟩ isSubtype_stop (wpAny_pure (q h' p1)))))
 | false=>exact wpAny_bind (wpAny_attempt (wpAny_nextOf_list_end hn a b c λh' e p1⟨o,p2,p3⟩=>wpAny_bind (wpAny_isInstance (T := "StopIteration") (b:=true) ⟨o,p2,p3⟩ isSubtype_stop (wpAny_pure (q h' p1)))))
def L9(h:Heap)(z ti to:Addr)(f:Value):Prop:=h.get? z=some { cls := .type "zip",dict:=none,data := .fields #[f,.bool false,.bool true,.ref ti,.ref to],slots:=#[] }
structure Apart(z ti to i j a b:Addr):Prop where
 p1:ti≠z
 p2:to≠z
 p3:i≠z
 p4:j≠z
 p5:ti≠to
 p6:ti≠i
 p7:ti≠j
 p8:to≠i
 p9:to≠j
 p10:i≠j
 a1:a≠z
 a2:a≠to
 a3:a≠i
 a4:a≠j
 b1:b≠z
 b2:b≠to
 b3:b≠i
 b4:b≠j
def zEnd(l:aG)(n:Nat):Sem PySem.Fin:=do
 if n > 0 then
  rule "zip.__next__.shorter";raiseError "ValueError" s!"zip() argument {n + 1} is shorter than {if n == 1 then "argument 1" else s!"arguments 1-{n}"}"
 for (e,m) in (l.drop 1).zipIdx 1 do
  if(←Builtin.SmallTypes.nextOrEnd e).isSome then
   rule "zip.__next__.longer";raiseError "ValueError" s!"zip() argument {m + 1} is longer than {if m == 1 then "argument 1" else s!"arguments 1-{m}"}"
 rule "zip.__next__.all-ended";Builtin.SmallTypes.stopIteration
theorem RQ{z ti to i j a b:Addr}{ta tb:Bool}{k:Nat}{xs ys:Array Value}{x y u v:Value}{Q:aC}(D:Apart z ti to i j a b)
  (hz:L9 s.heap z ti to .none) (hI:IsPair s.heap ti (.ref i) (.ref j)) (hO:IsPair s.heap to u v) (hi:ItAt s.heap ta i a k) (hj:ItAt s.heap tb j b k) (ha:SqAt s.heap ta a xs) (hb:SqAt s.heap tb b ys) (hx:xs[k]?=some x) (hy:ys[k]?=some y)
  (hQ:∀ h',L9 h' z ti to (rawInt s.heap.objs.size)→IsPair h' to x y→ItAt h' ta i a (k+1)→ItAt h' tb j b (k+1)→IsPair h' s.heap.objs.size x y→h'.objs.size=s.heap.objs.size+1 →
   (∀ c o,c≠z->c≠to->c≠i->c≠j->s.heap.get? c=some o->h'.get? c=some o)->Q (.ref s.heap.objs.size) { s with heap:=h' }) :
  wpAny (model prog w) A (Builtin.«zip.__next__» ⟨[.ref z],[]⟩) (λfin s'=>∃ v,fin = .done (.ret v)/\Q v s') E s:=by
 show wpAny _ _ (field (.ref z) 2 >>= λt=>_) _ _ _;refine wpAny_bind (wpAny_field hz rfl (x:=Value.bool true) rfl ?_);show wpAny _ _ (field (.ref z) 3 >>= λt=>_) _ _ _;refine wpAny_bind (wpAny_field hz rfl (x:=Value.ref ti) rfl ?_);refine wpAny_bind (wpAny_seqItems hI rfl ?_);show wpAny _ _ (Builtin.SmallTypes.ownedTupleIsFree (.ref z) >>= λt=>_) _ _ _;refine wpAny_bind ?_;unfold Builtin.SmallTypes.ownedTupleIsFree;refine wpAny_bind (wpAny_field hz rfl (x:=Value.none) rfl (wpAny_pure ?_));simp only[if_true];refine wpAny_bind (wpAny_rule ?_);refine wpAny_bind (wpAny_field hz rfl (x:=Value.ref to) rfl ?_);refine wpAny_bind (wpAny_setField_rec hz (by simp) λg1 z1 m1=>?_);replace z1:L9 g1 z ti to .ellipsis:=z1;refine wpAny_bind ?_;simp only[uH,WT,uT,WM];refine wpAny_bind (wpAny_bind (wpAny_onRaise ?_));show wpAny _ _ (Builtin.SmallTypes.nextOrEnd (.ref i)) _ _ _;refine Hc (hi.at λo e=>m1.extBut _ _ D.p3 e) (ha.at λo e=>m1.extBut _ _ D.a1 e) hx λg2 i2 m2=>?_;have o2:IsPair g2 to u v:=m2.extBut _ _ D.p8 (m1.extBut _ _ D.p2 hO);refine wpAny_bind (wpAny_seqItems o2 rfl ?_);refine wpAny_bind (wpAny_updateSeq_pair o2 λg3 o3 m3=>?_);replace o3:IsPair g3 to x v:=o3;refine wpAny_bind (wpAny_letGo (wpAny_pure ?_));refine wpAny_bind (wpAny_bind (wpAny_onRaise ?_));show wpAny _ _ (Builtin.SmallTypes.nextOrEnd (.ref j)) _ _ _;refine Hc (hj.at λo e=>m3.extBut _ _ D.p9.symm (m2.extBut _ _ D.p10.symm (m1.extBut _ _ D.p4 e))) (hb.at λo e=>m3.extBut _ _ D.b2 (m2.extBut _ _ D.b3 (m1.extBut _ _ D.b1 e))) hy λg4 j4 m4=>?_;have o4:IsPair g4 to x v:=m4.extBut _ _ D.p9 o3;refine wpAny_bind (wpAny_seqItems o4 rfl ?_);refine wpAny_bind (wpAny_updateSeq_pair o4 λg5 o5 m5=>?_);replace o5:IsPair g5 to x y:=o5;refine wpAny_bind (wpAny_letGo (wpAny_pure (wpAny_pure ?_)));refine wpAny_bind (wpAny_seqItems o5 rfl ?_);refine wpAny_bind (wpAny_newTuple ?_);have sz:g5.objs.size=s.heap.objs.size:=by rw[m5.1,m4.1,m3.1,m2.1,m1.1]
 have z5:L9 g5 z ti to .ellipsis:=m5.extBut _ _ D.p2.symm (m4.extBut _ _ D.p4.symm (m3.extBut _ _ D.p2.symm (m2.extBut _ _ D.p3.symm z1)));have k5:∀ c o,c≠z->c≠to->c≠i->c≠j->s.heap.get? c=some o->g5.get? c=some o:=λc o c1 c2 c3 c4 e=>m5.extBut _ _ c2 (m4.extBut _ _ c4 (m3.extBut _ _ c2 (m2.extBut _ _ c3 (m1.extBut _ _ c1 e))));have i5:ItAt g5 ta i a (k+1):=i2.at λo e=>m5.extBut _ _ D.p8.symm (m4.extBut _ _ D.p10 (m3.extBut _ _ D.p8.symm e));have j5:ItAt g5 tb j b (k+1):=j4.at λo e=>m5.extBut _ _ D.p9.symm e;have zl:z<g5.objs.size:=wo z5;show wpAny _ _ (Builtin.SmallTypes.ownedTupleHandOut (.ref z) (.ref g5.objs.size) >>= λt=>_) _ _ _;refine wpAny_bind ?_;unfold Builtin.SmallTypes.ownedTupleHandOut;have z6:L9 (g5.push { cls := .type "tuple",data := .seq #[x,y] }) z ti to .ellipsis:=wd _ z5;refine wpAny_bind (wpAny_setField_rec z6 (by simp) λg7 z7 m7=>?_);replace z7:L9 g7 z ti to (rawInt g5.objs.size):=z7;refine wpAny_setField_rec z7 (by simp) λg8 z8 m8=>?_;replace z8:L9 g8 z ti to (rawInt g5.objs.size):=z8;have up:∀ c o,c≠z->g5.get? c=some o->g8.get? c=some o:=λc o c1 e=>m8.extBut _ _ c1 (m7.extBut _ _ c1 (wd _ e));have t8:IsPair g8 g5.objs.size x y:=m8.extBut _ _ (WN zl) (m7.extBut _ _ (WN zl) (wp _ rfl));have s8:g8.objs.size=g5.objs.size+1:=by rw[m8.1,m7.1,Wn]
 rw[sz]at z8 t8 s8;refine wpAny_pure ⟨_,rfl,?_⟩;show Q (.ref g5.objs.size) _;rw[sz];exact hQ g8 z8 (up _ _ D.p2 o5) (i5.at λo e=>up _ o D.p3 e) (j5.at λo e=>up _ o D.p4 e) t8 s8 λc o c1 c2 c3 c4 e=>up c o c1 (k5 c o c1 c2 c3 c4 e)
theorem Vn{z ti to i j a b:Addr}{ta tb:Bool}{k:Nat}{xs ys:Array Value}{u v:Value}{Q:Fin->Shared->Prop}(hn:A.handled=none)(D:Apart z ti to i j a b)
  (hz:L9 s.heap z ti to .none) (hI:IsPair s.heap ti (.ref i) (.ref j)) (hO:IsPair s.heap to u v) (hi:ItAt s.heap ta i a k) (hj:ItAt s.heap tb j b k) (ha:SqAt s.heap ta a xs) (hb:SqAt s.heap tb b ys) (hx:xs[k]?=none) (hy:ys[k]?=none)
  (hE:∀ h' e,(∀ c o,c≠z->c≠to->c≠i->c≠j->s.heap.get? c=some o->h'.get? c=some o)->(∃ o,h'.get? e=some o/\o.cls = .type "StopIteration")->E (.ref e) { s with heap:=h' }) :
  wpAny (model prog w) A (Builtin.«zip.__next__» ⟨[.ref z],[]⟩) Q E s:=by
 show wpAny _ _ (field (.ref z) 2 >>= λt=>_) _ _ _;refine wpAny_bind (wpAny_field hz rfl (x:=Value.bool true) rfl ?_);show wpAny _ _ (field (.ref z) 3 >>= λt=>_) _ _ _;refine wpAny_bind (wpAny_field hz rfl (x:=Value.ref ti) rfl ?_);refine wpAny_bind (wpAny_seqItems hI rfl ?_);show wpAny _ _ (Builtin.SmallTypes.ownedTupleIsFree (.ref z) >>= λt=>_) _ _ _;refine wpAny_bind ?_;unfold Builtin.SmallTypes.ownedTupleIsFree;refine wpAny_bind (wpAny_field hz rfl (x:=Value.none) rfl (wpAny_pure ?_));simp only[if_true];refine wpAny_bind (wpAny_rule ?_);refine wpAny_bind (wpAny_field hz rfl (x:=Value.ref to) rfl ?_);refine wpAny_bind (wpAny_setField_rec hz (by simp) λg1 z1 m1=>?_);replace z1:L9 g1 z ti to .ellipsis:=z1;refine wpAny_bind ?_;simp only[uH,WT,uT,WM];refine wpAny_bind (wpAny_bind (wpAny_onRaise ?_));show wpAny _ _ (Builtin.SmallTypes.nextOrEnd (.ref i)) _ _ _;refine JU hn (hi.at λo e=>m1.extBut _ _ D.p3 e) (ha.at λo e=>m1.extBut _ _ D.a1 e) hx λg2 m2=>?_;have z2:L9 g2 z ti to .ellipsis:=m2 _ _ D.p3.symm z1;refine wpAny_bind (wpAny_setField_rec z2 (by simp) λg3 z3 m3=>?_);refine wpAny_bind ?_;show wpAny _ _ (zEnd [.ref i,.ref j] 0) _ _ _;unfold zEnd;rw[if_neg (wT 0)];show wpAny _ _ (forIn [(Value.ref j,1)] PUnit.unit _ >>= λt=>_) _ _ _;simp only[WT,WM];refine wpAny_bind (wpAny_bind (wpAny_bind (JU hn (hj.at λo e=>m3.extBut _ _ D.p4 (m2 _ _ D.p10.symm (m1.extBut _ _ D.p4 e))) (hb.at λo e=>m3.extBut _ _ D.b1 (m2 _ _ D.b3 (m1.extBut _ _ D.b1 e))) hy λg4 m4=>?_)));simp only[Option.isSome_none,Bool.false_eq_true,if_false];refine wpAny_pure (wpAny_pure (wpAny_bind (wpAny_rule ?_)));unfold Builtin.SmallTypes.stopIteration;refine wpAny_bind ?_;simp only[newExc,newTuple];refine wpAny_bind (wpAny_newObj_type ?_ (by size_fits));refine wpAny_bind (m:=firstArgMember _ _) (wpAny_of_eq (a:=Value.none) (by first|(simp only[firstArgMember];rfl)|rfl) ?_);refine wpAny_newObj_type ?_ (by size_fits);simp only[raiseNew];refine wpAny_bind (wpAny_handled ?_)
 first|rw[hn]|rw[show A.in1.handled=none from hn]
 refine wpAny_bind (wpAny_pure (wpAny_throw ?_));refine hE _ _ (λc o c1 c2 c3 c4 e=>?_) ⟨_,wp _ rfl,rfl⟩;exact wd _ (wd _ (m4 _ _ c4 (m3.extBut _ _ c1 (m2 _ _ c3 (m1.extBut _ _ c1 e)))))
theorem Qv{z ti to i j a b:Addr}{ta tb:Bool}{k:Nat}{xs ys:Array Value}{x y u v:Value}{Q:Option Value->Shared->Prop}(D:Apart z ti to i j a b)
  (hz:L9 s.heap z ti to .none) (hI:IsPair s.heap ti (.ref i) (.ref j)) (hO:IsPair s.heap to u v) (hi:ItAt s.heap ta i a k) (hj:ItAt s.heap tb j b k) (ha:SqAt s.heap ta a xs) (hb:SqAt s.heap tb b ys) (hx:xs[k]?=some x) (hy:ys[k]?=some y)
  (hQ:∀ h',L9 h' z ti to (rawInt s.heap.objs.size)→IsPair h' to x y→ItAt h' ta i a (k+1)→ItAt h' tb j b (k+1)→IsPair h' s.heap.objs.size x y→h'.objs.size=s.heap.objs.size+1 →
   (∀ c o,c≠z->c≠to->c≠i->c≠j->s.heap.get? c=some o->h'.get? c=some o)->Q (some (.ref s.heap.objs.size)) { s with heap:=h' }):wpAny (model prog w) A (pyNext (.ref z)) Q E s:=by
 have t:s.TypeIs (.ref z) "zip" := ⟨_,hz,rfl⟩;unfold pyNext;exact wpAny_bind (wpAny_attempt (wpAny_callSpecial?_slot (name:=Str.ofString "__next__") t F.slot_zip_next (wpAny_call_entry F.slot_zip_next t F.entry_zip_next
  (RQ D hz hI hO hi hj ha hb hx hy λh' q1 q2 q3 q4 q5 q6 q7=>wpAny_pure (hQ h' q1 q2 q3 q4 q5 q6 q7)) (F.args_zip_next_1 _))))
theorem RR{z ti to i j a b:Addr}{ta tb:Bool}{k:Nat}{xs ys:Array Value}{u v:Value}{Q:Option Value->Shared->Prop}(hn:A.handled=none)(D:Apart z ti to i j a b)
  (hz:L9 s.heap z ti to .none) (hI:IsPair s.heap ti (.ref i) (.ref j)) (hO:IsPair s.heap to u v) (hi:ItAt s.heap ta i a k) (hj:ItAt s.heap tb j b k) (ha:SqAt s.heap ta a xs) (hb:SqAt s.heap tb b ys) (hx:xs[k]?=none) (hy:ys[k]?=none)
  (hQ:∀ h',(∀ c o,c≠z->c≠to->c≠i->c≠j->s.heap.get? c=some o->h'.get? c=some o)->Q none { s with heap:=h' }):wpAny (model prog w) A (pyNext (.ref z)) Q E s:=by
 have t:s.TypeIs (.ref z) "zip" := ⟨_,hz,rfl⟩;unfold pyNext;refine wpAny_bind (wpAny_attempt (wpAny_callSpecial?_slot (name:=Str.ofString "__next__") t F.slot_zip_next (wpAny_call_entry F.slot_zip_next t F.entry_zip_next
  (Vn hn D hz hI hO hi hj ha hb hx hy λh' e q1⟨o,q2,q3⟩=>?_) (F.args_zip_next_1 _))))
 exact wpAny_bind (wpAny_isInstance (T := "StopIteration") (b:=true) ⟨o,q2,q3⟩ isSubtype_stop (wpAny_pure (hQ _ q1)))
theorem let_go{elts:List Expr}{n:Nat}{pos:Pos}{z ti to t:Addr}{Q:Unit->Shared->Prop}(hz:L9 s.heap z ti to (rawInt t))
  (hQ:∀ h',L9 h' z ti to .none->Heap.SameBut z s.heap h'->Q () { s with heap:=h' }):wpAny (model prog w) A (letOwnedTupleGo (.Tuple elts n pos) (.ref z) (.ref t)) Q E s:=by
 unfold letOwnedTupleGo;refine wpAny_bind (wpAny_load hz ?_);show wpAny _ _ (if(["enumerate", "zip", "dict_itemiterator", "dict_reverseitemiterator", "odict_iterator", "itertools.zip_longest", "itertools.pairwise"].contains "zip" && (#[rawInt t,.bool false,.bool true,.ref ti,.ref to]:Array Value)[0]?==some (rawInt t))=true then _ else _) Q E s;rw[if_pos (by simp)];refine wpAny_bind (wpAny_rule ?_);show wpAny _ _ (setField (.ref z) 0 .none) Q E s;exact wpAny_setField_rec hz (by simp) λh' q1 q2=>hQ h' q1 q2
theorem JV{z ti to:Addr}{f:Value}{Q:aC}(hz:L9 s.heap z ti to f)(h:Q (.ref z) s):wpAny (model prog w) A (pyIter (.ref z)) Q E s:=by
 have t:s.TypeIs (.ref z) "zip" := ⟨_,hz,rfl⟩;refine wpAny_pyIter_slot t F.slot_zip_iter (wpAny_call_entry F.slot_zip_iter t F.entry_zip_iter ?_ (F.args_zip_iter_1 _));show wpAny _ _ (ret (.ref z)) _ _ s;exact wpAny_pure ⟨_,rfl, "zip",_,t,F.slot_zip_next.lookup,h⟩
def JW(tu:Bool)(l:Addr):Obj:={ cls := .type (if tu then "tuple_iterator" else "list_iterator"),data := .fields #[.ref l,.int 0 0] }
theorem JX{tu:Bool}{l:Addr}{xs:Array Value}{Q:aC}(h:SqAt s.heap tu l xs)(q:Q (.ref s.heap.objs.size) { s with heap:=s.heap.push (JW tu l) }):wpAny (model prog w) A (pyIter (.ref l)) Q E s:=by
 cases tu with
 | true=>exact wpAny_pyIter_tuple h q
 | false=>exact wpAny_pyIter_list h q
theorem JY{h:Heap}{tu:Bool}{l p:Addr}(e:h.get? p=some (JW tu l)):ItAt h tu p l 0:=by
 unfold ItAt;cases tu with
 | true=>exact⟨_,e,rfl,rfl⟩
 | false=>exact⟨_,e,rfl,rfl⟩
abbrev h1(h:Heap)(ta:Bool)(a:Addr):Heap:=h.push (JW ta a)
abbrev h2(h:Heap)(ta tb:Bool)(a b:Addr):Heap:=(h1 h ta a).push (JW tb b)
abbrev h3(h:Heap)(ta tb:Bool)(a b:Addr):Heap:=(h2 h ta tb a b).push { cls := .type "tuple",data := .seq #[.ref h.objs.size,.ref (h1 h ta a).objs.size] }
abbrev h4(h:Heap)(ta tb:Bool)(a b:Addr):Heap:=(h3 h ta tb a b).push { cls := .type "tuple",data := .seq #[.none,.none] }
abbrev h5(h:Heap)(ta tb:Bool)(a b:Addr):Heap:=(h4 h ta tb a b).push { cls := .type "zip",data := .fields #[.none,.bool false,.bool true,.ref (h2 h ta tb a b).objs.size,.ref (h3 h ta tb a b).objs.size] }
theorem Qw(a b:Addr)(ta tb:Bool)(xs ys:Array Value):Meets (Builtin.«zip.__new__» ⟨[.type "zip",.ref a,.ref b],[(Str.ofString "strict",.bool true)]⟩)
  (λ_ R s=>SqAt s.heap ta a xs/\SqAt s.heap tb b ys/\R (.ok (.ret (.ref (h4 s.heap ta tb a b).objs.size))) { s with heap:=h5 s.heap ta tb a b }) :=
 .of_wp λprog w A R s⟨qa,qb,q⟩=>by
  obtain⟨hp,g,d,tk,os⟩:=s;have f1:=sub_zip;have e1:SqAt (Shared.heap ⟨hp,g,d,tk,os⟩) ta a xs:=qa;have e2:SqAt (Shared.heap ⟨hp.push (JW ta a),g,d,tk,os⟩) tb b ys:=qb.at λo e=>wd _ e
  wp_walk using JX e1,JX e2
  exact⟨_,rfl,q⟩
end
end ZL

end
section
set_option maxHeartbeats 4000000
namespace ZL
open PySem PyProof.Rows
theorem okT(a b v:Value):checkTypeCall "zip" ⟨[a,b],[(Str.ofString "strict",v)]⟩=pure ():=by kernel_rfl
theorem okN(a b v:Value):checkBuiltinCall "zip.__new__" ⟨[.type "zip",a,b],[(Str.ofString "strict",v)]⟩=pure ():=by kernel_rfl
theorem okI(a b c v:Value):argsOk "object.__init__" ⟨[a,b,c],[(Str.ofString "strict",v)]⟩:=by
 unfold argsOk;rw[signature?_of (id := "object.__init__") (n := "__init__".toList.reverse) (o := "object".toList.reverse) (by kernel_rfl) F.owner_object];kernel_rfl
section
variable {prog:Program}{w:World}{A:Around}{E:aC}{s:Shared}
theorem LZ(self a b v:Value):Meets (Builtin.«object.__init__» ⟨[self,a,b],[(Str.ofString "strict",v)]⟩) (λ_ R s=>s.TypeIs self "zip" /\ R (.ok (.ret .none)) s):=by
 refine Meets.of_wp ?_;rintro prog w A R s ⟨t,q⟩;have hl:=F.called_zip.init.lookup;have hm:=F.called_zip.made;have hne:(some "zip.__new__" != some "object.__new__")=true:=by decide
 repeat (any_goals first|assumption|wp_step)
 exact⟨_,rfl,q⟩
theorem RS{a b:Addr}{ta tb:Bool}{xs ys:Array Value}{Q:aC}(qa:SqAt s.heap ta a xs)(qb:SqAt s.heap tb b ys)
   (q:Q (.ref (h4 s.heap ta tb a b).objs.size) { s with heap:=h5 s.heap ta tb a b }):wpAny (model prog w) A (call (.type "zip") [.ref a,.ref b] [(Str.ofString "strict",.bool true)]) Q E s:=by
 obtain⟨c,tl,hmro⟩:=F.called_zip.mro;have m1:=F.called_zip.made;have m2:=F.called_zip.sub;have m3:=okT (.ref a) (.ref b) (.bool true);refine wpAny_call (codeAny_of_tree ?_);show wpAny _ _ (callAny (.type "zip") _) _ _ _;refine wpAny_pure ⟨Code.quiet_builtin _ (by decide +kernel),codeAny_builtin F.entry_type_call ?_⟩;rw[Around.under_plain (weight_type_call_type "zip" _ _) (units_type_call_type "zip" _ _)];have m4:=F.called_zip.notType;have m5:=F.called_zip.canCreate
 repeat (any_goals first|assumption|wp_step)
 refine codeAny_mono (codeAny_call_builtin F.called_zip.plain F.entry_zip_new (wpAny_of_eq (okN _ _ _) (Qw a b ta tb xs ys prog w A.in1 (wants (λo s1=>s1.TypeIs o "zip" /\ Q o s1) E) s ⟨qa,qb,?_⟩))) λr s1 hr=>?_
 · exact⟨⟨_,wp _ rfl,rfl⟩,q⟩
 cases r with
 | error e=>exact hr
 | ok fl =>
   cases fl with
   | ret o =>
    obtain⟨ty,hq⟩:=hr;have n1:=F.called_zip.init.lookup;have n2:=F.called_zip.init.bind o
    repeat (any_goals first|assumption|wp_step)
    refine codeAny_mono (codeAny_call_builtin F.called_zip.init.plain F.entry_object_init (F.called_zip.init.check _ _ _ _ _ _ _ _ ty (okI o _ _ _) (LZ o _ _ _ prog w A.in1 (wants (λr s2=>r = .none/\Q o s2) E) s1 ⟨ty,rfl,hq⟩))) λr2 s2 hr2=>?_;cases r2 with
    | error e=>exact hr2
    | ok f2 =>
     cases f2 with
     | ret r =>
      obtain⟨rfl,hq⟩:=hr2
      repeat (any_goals first|assumption|wp_step)
     | _=>exact hr2.elim
   | _=>exact hr.elim
end
end ZL

end
section
local macro_rules|`(tactic|rfl')=>`(tactic|first|lia|omega +splitDisjunctions)
set_option maxHeartbeats 1000000
namespace L2
open PySem PySem.Spec PyProof.Rows ZL
section
variable {X:Cx}{π:aB}{σ:St}{H:Hp}{s:Shared}{h':Heap}
theorem Inv.turnedL{t':Nat}{ch:List Addr}(I:Inv X π σ H s)(k:∀ b o,b ∉ ch->s.heap.get? b=some o->h'.get? b=some o)(hc:∀ b∈ch,FpOk X π H b):Inv X π σ H { s with heap:=h',toks:=t' }:=by
 have nit:∀ b u,H b=some u->b ∉ ch:=λb u e z=>by rw[(hc b z).1]at e;cases e
 refine I.step (g':=s.gens) (d':=s.drawn) (ch:=ch) (λb hb=>?_) (λb o _ _ hn e _=>k b o hn e) (λb o _ _ hn e _=>⟨o.slots,k b o hn e⟩) (λ_ _ _ _ n=>n)
   (λb o hn e=>⟨o,k b o hn e⟩) (λ_ _ e=>e) (λ_ _ _ e=>e) (λ_ _ _ e=>e) (λm hm=>?_) (λb u e=>?_) I.bare
 · obtain⟨f0,f1,f2,f3,f4,f5⟩:=hc b hb;exact⟨f3,f1,f4,f5⟩
 · obtain⟨o,es,ep,ho,r⟩:=hm;exact⟨o,es,ep,k _ o (λz=>(hc _ z).2.1 rfl) ho,r⟩
 · refine(I.hok b u e).stay (λc v hcc q=>k c v ?_ q) (λ_ q=>q) (λ_ _ q=>q) λ_ _ _ q=>q;rcases hcc with z|z
   · rw[z];exact nit b u e
   · exact nit c _ z
theorem Inv.pair{t':Nat}{ch:List Addr}{x y:V}{u v:Value}(I:Inv X π σ H s)(rx:RelV x u)(ry:RelV y v)(hp:h'.get? s.heap.objs.size=some { cls := .type "tuple",data := .seq #[u,v] })
   (k:∀ b o,b ∉ ch->s.heap.get? b=some o->h'.get? b=some o) (hc:∀ b∈ch,FpOk X π H b) (hl:∀ b∈ch,b<s.heap.objs.size) :
   H s.heap.objs.size=none/\Inv X π σ (upd H s.heap.objs.size (.tup [x,y])) { s with heap:=h',toks:=t' }:=by
 have hn:H s.heap.objs.size=none:=I.hok.fresh (wf _);have I1:Inv X π σ (upd H s.heap.objs.size (.tup [x,y])) { s with heap:=s.heap.push { cls := .type "tuple",data := .seq #[u,v] },toks:=t' } :=
   I.laid (λb o e=>wd _ e) (wf _) ⟨by show 2<=sizeLine;decide,[u,v],.cons rx (.cons ry .nil),⟨_,wp _ rfl,rfl,_,rfl⟩⟩
 refine⟨hn,Inv.turnedL (s:={ s with heap:=s.heap.push { cls := .type "tuple",data := .seq #[u,v] },toks:=t' }) (h':=h') (t':=t') (ch:=ch) I1 (λb o hb e=>?_) λb hb=>?_⟩
 · by_cases q:b=s.heap.objs.size
   · subst q;have e2:(s.heap.push { cls := .type "tuple",data := .seq #[u,v] }).get? s.heap.objs.size=some _:=wp _ rfl;have e:(s.heap.push { cls := .type "tuple",data := .seq #[u,v] }).get? s.heap.objs.size=some o:=e;rw[e2]at e;rw[hp];exact e
   · refine k b o hb ?_;have e:(s.heap.push { cls := .type "tuple",data := .seq #[u,v] }).get? b=some o:=e;rw[vG _ _ _ q]at e;exact e
 · obtain⟨f0,f⟩:=hc b hb;exact⟨by rw[i6 (wJ (hl b hb))];exact f0,f⟩
end
def SqV(K:aE)(tu:Bool)(H:Hp)(a:Addr)(xs:List V):Prop:=if tu then SqT K H a xs else SqL K H a xs
theorem SqV.mono{K:aE}{tu:Bool}{H H':Hp}{a:Addr}{xs:List V}(e:Same H H')(h:SqV K tu H a xs):SqV K tu H' a xs:=by
 unfold SqV at h ⊢;cases tu with
 | true=>exact e.seqT h
 | false=>exact e.seq h
theorem Inv.sq{X:Cx}{π:aB}{σ:St}{H:Hp}{s:Shared}{tu:Bool}{a:Addr}{xs:List V}(I:Inv X π σ H s)(h:SqV X.K tu H a xs):∃ its:aG,Vals xs its/\SqAt s.heap tu a its.toArray/\xs.length<=sizeLine:=by
 unfold SqV at h;unfold SqAt;cases tu with
 | true=>obtain⟨its,r,p,z⟩:=I.tuple h;exact⟨its,r,p,z⟩
 | false=>obtain⟨its,r,p,z⟩:=I.list h;exact⟨its,r,p.isList,z⟩
theorem Inv.sq_inj{X:Cx}{π:aB}{σ:St}{H:Hp}{s:Shared}{tu:Bool}{a:Addr}{xs ys:List V}(I:Inv X π σ H s)(h:SqV X.K tu H a xs)(h':SqV X.K tu H a ys):xs=ys:=by
 unfold SqV at h h';cases tu with
 | true=>exact I.tuple_inj h h'
 | false=>exact I.list_inj h h'
def Itz(K:aE)(ta tb:Bool)(a b:Addr):It where
 go:=λi H=>∃ xs ys x y,SqV K ta H a xs/\SqV K tb H b ys/\xs[i]?=some x/\ys[i]?=some y
 yld:=λi H v H'=>∃ p x y,(∀ xs,SqV K ta H a xs->xs[i]?=some x)/\(∀ ys,SqV K tb H b ys->ys[i]?=some y)/\H p=none/\v = .ref p/\H'=upd H p (.tup [x,y])
 stop:=λi H=>∃ xs ys,SqV K ta H a xs/\SqV K tb H b ys/\xs.length<=i/\ys.length<=i
theorem mem5{z ti to i j c:Addr}(h:c ∉ [z,ti,to,i,j]):c≠z/\c≠ti/\c≠to/\c≠i/\c≠j:=by simpa using h
theorem RT{P:Program}{w:World}{K:aE}{elts:List Expr}{n:Nat}{pos:Pos}{ta tb:Bool}{z ti to i j a b:Addr}(D:Apart z ti to i j a b):
  Turn P w K (.Tuple elts n pos) (Itz K ta tb a b) [z,ti,to,i,j] z (λk h=>L9 h z ti to .none/\IsPair h ti (.ref i) (.ref j)/\(∃ u v,IsPair h to u v)/\ItAt h ta i a k/\ItAt h tb j b k) where
 mem:=by simp
 obj:=λk h ⟨q1,q2,⟨u,v,q3⟩,q4,q5⟩ c hc=>by
  have it:∀{tu:Bool} {it l:Addr} {k:Nat},ItAt h tu it l k->∃ o,h.get? it=some o/\∀ v,o.data ≠ .cell v:=λ{tu it l k} q=>by
    unfold ItAt at q;cases tu with
    | true=>obtain⟨o,e,_,d⟩:=q;exact⟨o,e,λv z=>by rw[d]at z;cases z⟩
    | false=>obtain⟨o,e,_,d⟩:=q;exact⟨o,e,λv z=>by rw[d]at z;cases z⟩
  simp only[wn,WD,or_false]at hc;rcases hc with rfl|rfl|rfl|rfl|rfl
  · exact⟨_,q1,λv z=>by have z':Data.fields _=Data.cell v:=z;cases z'⟩
  · exact⟨_,q2,λv z=>by have z':Data.seq _ _=Data.cell v:=z;cases z'⟩
  · exact⟨_,q3,λv z=>by have z':Data.seq _ _=Data.cell v:=z;cases z'⟩
  · exact it q4
  · exact it q5
 keep:=λk h h' ⟨q1,q2,⟨u,v,q3⟩,q4,q5⟩ kk=>⟨kk z (by simp) _ q1,kk ti (by simp) _ q2,⟨u,v,kk to (by simp) _ q3⟩,q4.at λo e=>kk i (by simp) o e,q5.at λo e=>kk j (by simp) o e⟩
 item:=by
  intro X hP hw hK hc k π s σ H E I hf ⟨q1,q2,⟨u,v,q3⟩,q4,q5⟩ hg;subst hP hw hK;obtain⟨xs,ys,x,y,hx,hy,ex,ey⟩:=hg;obtain⟨its,rx,px,_⟩:=I.sq hx;obtain⟨jts,ry,py,_⟩:=I.sq hy;obtain⟨ux,hux,rux⟩:=rx.get ex;obtain⟨uy,huy,ruy⟩:=ry.get ey;have lt:∀ b∈[z,ti,to,i,j],b<s.heap.objs.size:=λb hb=>by
    simp only[wn,WD,or_false]at hb;rcases hb with rfl|rfl|rfl|rfl|rfl
    · exact wo q1
    · exact wo q2
    · exact wo q3
    · exact q4.lt
    · exact q5.lt
  refine Qv D q1 q2 q3 q4 q5 px py (x:=ux) (y:=uy) (by simpa using hux) (by simpa using huy) λh' a1 a2 a3 a4 a5 a6 a7=>⟨_,rfl,let_go a1 λh'' b1 b2=>?_⟩;have hzp:s.heap.objs.size≠z:=WN (lt z (by simp));have kk:∀ b o,b ∉ [z,ti,to,i,j]->s.heap.get? b=some o->h''.get? b=some o:=λb o hb e=>by
    obtain⟨c1,c2,c3,c4,c5⟩:=mem5 hb;exact b2.extBut _ _ c1 (a7 b o c1 c3 c4 c5 e)
  obtain⟨hn,I1⟩:=I.pair (t':=s.toks) (h':=h'') rux ruy (b2.extBut _ _ hzp a5) kk hf lt;refine⟨.ref s.heap.objs.size,_,I1,rfl,⟨_,x,y,λzs hz=>by rw[I.sq_inj hz hx];exact ex,λzs hz=>by rw[I.sq_inj hz hy];exact ey,hn,rfl,rfl⟩,?_,λb hb=>by rw[i6 (wJ (lt b hb))];exact(hf b hb).1⟩;exact⟨b1,b2.extBut _ _ D.p1 (a7 _ _ D.p1 D.p5 D.p6 D.p7 q2),⟨_,_,b2.extBut _ _ D.p2 a2⟩,a3.at λo e=>b2.extBut _ _ D.p3 e,a4.at λo e=>b2.extBut _ _ D.p4 e⟩
 done:=by
  intro X hP hw hK hc k π s σ H E I hf ⟨q1,q2,⟨u,v,q3⟩,q4,q5⟩ hg;subst hP hw hK;obtain⟨xs,ys,hx,hy,ex,ey⟩:=hg;obtain⟨its,rx,px,_⟩:=I.sq hx;obtain⟨jts,ry,py,_⟩:=I.sq hy;have l1:=rx.length;have l2:=ry.length;refine RR (I.ok.hd hc) D q1 q2 q3 q4 q5 px py (by simp;rfl') (by simp;rfl') λh' a7=>⟨rfl,I.turnedL (t':=s.toks) (ch:=[z,ti,to,i,j]) (λb o hb e=>?_) hf⟩;obtain⟨c1,c2,c3,c4,c5⟩:=mem5 hb;exact a7 b o c1 c3 c4 c5 e
 self:=λ_ _ _ _ _ q h=>JV q.1 h
def Ite(K:aE)(a:Addr):It where
 go:=λi H=>∃ xs x,SqL K H a xs/\xs[i]?=some x
 yld:=λi H v H'=>∃ p x,(∀ xs,SqL K H a xs->xs[i]?=some x)/\H p=none/\v = .ref p/\H'=upd H p (.tup [.int i,x])
 stop:=λi H=>∃ xs,SqL K H a xs/\xs.length<=i
theorem Qx{P:Program}{w:World}{K:aE}{elts:List Expr}{n:Nat}{pos:Pos}{e it a:Addr}(hne:e≠it):
  Turn P w K (.Tuple elts n pos) (Ite K a) [e,it] e (λk h=>(∃ old,IsEnum h e it k old)/\h.IsListIter it a k) where
 mem:=by simp
 obj:=λk h ⟨⟨old,q1⟩,q2⟩ c hc=>by
  simp only[wn,WD,or_false]at hc;rcases hc with rfl|rfl
  · exact⟨_,q1,λv z=>by have z':Data.fields _=Data.cell v:=z;cases z'⟩
  · obtain⟨o,e,_,d⟩:=q2;exact⟨o,e,λv z=>by rw[d]at z;cases z⟩
 keep:=λk h h' ⟨⟨old,q1⟩,q2⟩ kk=>⟨⟨old,kk e (by simp) _ q1⟩,q2.at λo q=>kk it (by simp) o q⟩
 item:=by
  intro X hP hw hK hc k π s σ H E I hf ⟨⟨old,q1⟩,q2⟩ hg;subst hP hw hK;obtain⟨xs,x,hx,ex⟩:=hg;obtain⟨its,rx,px,_⟩:=I.list hx;obtain⟨ux,hux,rux⟩:=rx.get ex;have lt:∀ b∈[e,it],b<s.heap.objs.size:=λb hb=>by
    simp only[wn,WD,or_false]at hb;rcases hb with rfl|rfl
    · exact wo q1
    · obtain⟨o,z,_⟩:=q2;exact wo z
  refine wpAny_pyNext_enum_item q1 q2 px.isList (x:=ux) (by simpa using hux) hne λh' a1 a2 a3 a4 a5=>⟨_,rfl,wpAny_letOwnedTupleGo_enum a1 λh'' b1 b2=>?_⟩;have hzp:s.heap.objs.size≠e:=WN (lt e (by simp));have kk:∀ b o,b ∉ [e,it]->s.heap.get? b=some o->h''.get? b=some o:=λb o hb q=>by
    have c:b≠e/\b≠it:=by simpa using hb
    exact b2.extBut _ _ c.1 (a5 b o c.1 c.2 q)
  obtain⟨hn,I1⟩:=I.pair (x := .int k) (t':=s.toks+1) (h':=h'') ⟨s.toks,rfl⟩ rux (b2.extBut _ _ hzp a3) kk hf lt;refine⟨.ref s.heap.objs.size,_,I1,rfl,⟨_,x,λzs hz=>by rw[I.list_inj hz hx];exact ex,hn,rfl,rfl⟩,⟨⟨_,b1⟩,a2.at λo q=>b2.extBut _ _ (Ne.symm hne) q⟩,λb hb=>by rw[i6 (wJ (lt b hb))];exact(hf b hb).1⟩
 done:=by
  intro X hP hw hK hc k π s σ H E I hf ⟨⟨old,q1⟩,q2⟩ hg;subst hP hw hK;obtain⟨xs,hx,ex⟩:=hg;obtain⟨its,rx,px,_⟩:=I.list hx;have l1:=rx.length;refine wpAny_pyNext_enum_end (I.ok.hd hc) q1 q2 px.isList (by simp;rfl') λh' a5=>⟨rfl,I.turnedL (t':=s.toks) (ch:=[e,it]) (λb o hb q=>?_) hf⟩;have c:b≠e/\b≠it:=by simpa using hb
  exact a5 b o c.2 q
 self:=λ_ _ _ _ _ q h=>by obtain⟨⟨old,q1⟩,_⟩:=q;exact wpAny_pyIter_enum q1 h
def Itv(K:aE)(a:Addr)(n:Nat):It where
 go:=λi H=>i<n/\∃ xs,SqL K H a xs/\xs.length=n
 yld:=λi H v H'=>H'=H/\∀ xs,SqL K H a xs->xs[n-1-i]?=some v
 stop:=λi H=>n<=i
theorem RU{P:Program}{w:World}{K:aE}{tg:Expr}{it a:Addr}{n:Nat}:Turn P w K tg (Itv K a n) [it] it (λk h=>k<=n/\h.IsRevIter it a ((n:Int)-1-(k:Int))) where
 mem:=by simp
 obj:=λk h ⟨_,q⟩ c hc=>by
  have e:c=it:=by simpa using hc
  subst e;obtain⟨o,e,_,d⟩:=q;exact⟨o,e,λv z=>by rw[d]at z;cases z⟩
 keep:=λk h h' ⟨q0,q⟩ kk=>⟨q0,q.at λo z=>kk it (by simp) o z⟩
 item:=by
  intro X hP hw hK hc k π s σ H E I hf ⟨q0,q⟩ hg;subst hP hw hK;obtain⟨hk,xs,hx,hn⟩:=hg;obtain⟨its,rx,px,_⟩:=I.list hx;have hlt:n-1-k<xs.length:=by rfl'
  obtain⟨ux,hux,rux⟩:=rx.get (wa hlt);obtain⟨f0,f1,f2,f3,f4,f5⟩:=hf it (by simp);have e1:(n:Int)-1-(k:Int)=((n-1-k:Nat):Int):=by rfl'
  rw[e1]at q;refine wpAny_pyNext_rev_item q px.isList (x:=ux) (by simpa using hux) λh' b1 b2=>?_;have I1:Inv X π σ H { s with heap:=h' }:=I.turned (t':=s.toks) (λb o hb e=>(b2.2 b hb).trans e) f0 f1 f3 f4 f5;have e2:((n-1-k:Nat):Int)-1=(n:Int)-1-((k+1:Nat):Int):=by rfl'
  rw[e2]at b1;obtain⟨o,e,c,d⟩:=id b1;exact⟨ux,rfl,OY (s:={ s with heap:=h' }) e c d (by decide) ⟨_,H,I1,rux,⟨rfl,λys hy=>by rw[I.list_inj hy hx];exact wa hlt⟩,⟨by rfl',b1⟩,λb hb=>(hf b hb).1⟩⟩
 done:=by
  intro X hP hw hK hc k π s σ H E I hf ⟨q0,q⟩ hg;subst hP hw hK;have hg:n<=k:=hg;obtain rfl:k=n:=by rfl'
  obtain⟨f0,f1,f2,f3,f4,f5⟩:=hf it (by simp);have e1:(k:Int)-1-(k:Int) = -1:=by rfl'
  rw[e1]at q;exact wpAny_pyNext_rev_end (I.ok.hd hc) q λh' eb=>⟨rfl,I.turned (t':=s.toks) (λb o hb e=>eb b o hb e) f0 f1 f3 f4 f5⟩
 self:=λ_ _ _ _ _ st h=>wpAny_pyIter_revIter st.2 h
section
variable {K:aE}{H1:Hp}
theorem Vo{A:List Addr}{H:Hp}{p:Addr}{o:HO}(hp:H p=none)(hA:∀ a∈A,∃ o,H a=some o):hidL A (upd H p o)=upd (hidL A H) p o:=funext λb=>by
 have np:p ∉ A:=λz=>by obtain⟨u,e⟩:=hA p z;rw[hp]at e;cases e
 by_cases q:b=p
 · subst q;rw[i9 np,i7,i7]
 · rw[i6 q];by_cases z:b∈A
   · rw[F0 z,F0 z]
   · rw[i9 z,i9 z,i6 q]
theorem JZ{A:List Addr}{H:Hp}{p:Addr}{d d':Dt}{x y:V}(hp:H p=none)(hA:∀ a∈A,∃ o,H a=some o)(rx:Rp K emp d (hidL A H) x)(ry:Rp K emp d' (hidL A H) y):
  Same (hidL A H) (hidL A (upd H p (.tup [x,y])))/\(∀ a∈A,upd H p (.tup [x,y]) a=H a)/\Rp K emp (.tup [d,d']) (hidL A (upd H p (.tup [x,y]))) (.ref p):=by
 have np:p ∉ A:=λz=>by obtain⟨u,e⟩:=hA p z;rw[hp]at e;cases e
 have hq:hidL A H p=none:=by rw[i9 np];exact hp
 rw[Vo hp hA];refine⟨j6 hq,λa ha=>i6 λz=>np (z ▸ ha),Rp.tup_.mpr ⟨p,_,rfl,SqT.of i7,?_⟩⟩;exact Rps.cons_.mpr ⟨x,[y],rfl,Rp.mono _ (j6 hq) rx,Rps.one (Rp.mono _ (j6 hq) ry)⟩
def zipD:List Dt->List Dt->List Dt
 | x::xs,y::ys => .tup [x,y]::zipD xs ys
 | _,_=>[]
theorem Kb:∀{xs ys:List Dt} {i:Nat} {d:Dt},(zipD xs ys)[i]?=some d->∃ x y,xs[i]?=some x/\ys[i]?=some y/\d = .tup [x,y]
 | [],ys,i,d,h=>by simp[zipD]at h
 | x::xs,[],i,d,h=>by simp[zipD]at h
 | x::xs,y::ys,0,d,h=>by simp[zipD]at h;exact⟨x,y,rfl,rfl,h.symm⟩
 | x::xs,y::ys,i+1,d,h=>by
  have h:(zipD xs ys)[i]?=some d:=by simpa[zipD]using h
  obtain⟨a,b,q1,q2,q3⟩:=Kb h;exact⟨a,b,by simpa using q1,by simpa using q2,q3⟩
theorem BA:∀{xs ys:List Dt},(zipD xs ys).length=min xs.length ys.length
 | [],ys=>by simp[zipD]
 | x::xs,[]=>by simp[zipD]
 | x::xs,y::ys=>by rw[zipD,wm,BA,wm,wm];rfl'
theorem RV{ta tb:Bool}{a b:Addr}{ds es:List Dt}{vs ws:List V}(h1:SqV K ta H1 a vs)(h2:SqV K tb H1 b ws)(r1:Rps K emp ds H1 vs)(r2:Rps K emp es H1 ws)(hl:ds.length=es.length):Walk K (Itz K ta tb a b) (zipD ds es) H1:=by
 intro A H sm hA;have s2:Same H1 H:=sm.trans k8;refine⟨λi d e=>?_,λi hi=>⟨vs,ws,h1.mono s2,h2.mono s2,?_,?_⟩⟩
 · obtain⟨x,y,ex,ey,rfl⟩:=Kb e;obtain⟨v,e1,p1⟩:=r1.get ex;obtain⟨u,e2,p2⟩:=r2.get ey;refine⟨⟨vs,ws,v,u,h1.mono s2,h2.mono s2,e1,e2⟩,?_⟩;rintro z H' ⟨p,v',u',f1,f2,hp,ez,eH⟩;have g1:=f1 vs (h1.mono s2);have g2:=f2 ws (h2.mono s2);rw[e1]at g1;rw[e2]at g2;cases g1;cases g2;subst ez;subst eH;exact JZ hp hA (Rp.mono _ sm p1) (Rp.mono _ sm p2)
 · rw[BA]at hi;rw[r1.length];rfl'
 · rw[BA]at hi;rw[r2.length];rfl'
def O3:Nat->List Dt->List Dt
 | _,[]=>[]
 | n,x::xs => .tup [.int n,x]::O3 (n+1) xs
theorem Hd:∀{xs:List Dt} {n i:Nat} {d:Dt},(O3 n xs)[i]?=some d->∃ x,xs[i]?=some x/\d = .tup [.int ((n+i:Nat):Int),x]
 | [],n,i,d,h=>by simp[O3]at h
 | x::xs,n,0,d,h=>by simp[O3]at h;exact⟨x,rfl,h.symm⟩
 | x::xs,n,i+1,d,h=>by
  have h:(O3 (n+1) xs)[i]?=some d:=by simpa[O3]using h
  obtain⟨a,q1,q3⟩:=Hd h;exact⟨a,by simpa using q1,by rw[q3,show n+1+i=n+(i+1) by rfl']⟩
theorem Cn:∀{xs:List Dt} {n:Nat},(O3 n xs).length=xs.length
 | [],n=>rfl
 | x::xs,n=>by rw[O3,wm,wm,Cn]
theorem Qy{a:Addr}{ds:List Dt}{vs:List V}(h1:SqL K H1 a vs)(r1:Rps K emp ds H1 vs):Walk K (Ite K a) (O3 0 ds) H1:=by
 intro A H sm hA;have s2:Same H1 H:=sm.trans k8;refine⟨λi d e=>?_,λi hi=>⟨vs,s2.seq h1,?_⟩⟩
 · obtain⟨x,ex,rfl⟩:=Hd e;rw[wZ];obtain⟨v,e1,p1⟩:=r1.get ex;refine⟨⟨vs,v,s2.seq h1,e1⟩,?_⟩;rintro z H' ⟨p,v',f1,hp,ez,eH⟩;have g1:=f1 vs (s2.seq h1);rw[e1]at g1;cases g1;subst ez;subst eH;exact JZ hp hA (Rp.int_.mpr rfl) (Rp.mono _ sm p1)
 · rw[Cn]at hi;rw[r1.length];rfl'
theorem RW{a:Addr}{ds:List Dt}{vs:List V}(h1:SqL K H1 a vs)(r1:Rps K emp ds H1 vs):Walk K (Itv K a vs.length) ds.reverse H1:=by
 intro A H sm hA;have s2:Same H1 H:=sm.trans k8;have hl:=r1.length;refine⟨λi d e=>?_,λi hi=>?_⟩
 · have hi:i<ds.length:=by
    by_cases hi:i<ds.length
    · exact hi
    · rw[wO (by simp;rfl')]at e;cases e
   rw[List.getElem?_reverse hi]at e;obtain⟨v,e1,p1⟩:=r1.get e;refine⟨⟨by rfl',vs,s2.seq h1,rfl⟩,?_⟩;rintro z H' ⟨eH,f1⟩;subst eH;have g1:=f1 vs (s2.seq h1);rw[hl,e1]at g1;cases g1;exact⟨Same.refl _,λ_ _=>rfl,Rp.mono _ sm p1⟩
 · show vs.length<=i;rw[ul]at hi;rfl'
end
section
variable {X:Cx}{a b e:Expr}{Fa Fb:FE}{elts:List Expr}{n:Nat}{tpos pos:Pos}
theorem Qz{M:Model}{A:Around}{E:aC}{s:Shared}{env:Env}{T:String}{es:List Expr}{kws:List Keyword}{Q:aC}
  (h:wpAny M A (spliced (backTo pos (starEach (e::es) env))) (λvs s1=>wpAny M A (evalAll ((backToKw pos (keywordEach kws env)).map (·.2))) (λks s2=>wpAny M A (call (.type T) vs (((backToKw pos (keywordEach kws env)).filterMap (·.1)).zip ks)) Q E s2) E s1) E s)
  (h1:backTo pos (starEach (e::es) env)=(false,eval e env)::backTo pos (starEach es env)) (h2:(backTo pos (starEach (e::es) env)).any (·.1)=false) (h3:(backToKw pos (keywordEach kws env)).all (·.1.isSome)=true) (h4:(backToKw pos (keywordEach kws env)).any (·.1.isNone)=false) :
  wpAny M A (callWith pos (.type T) [] (backTo pos (starEach (e::es) env)) (backToKw pos (keywordEach kws env))) Q E s:=by
 unfold callWith;have g:wpAny M A (evalArgs (.type T) true (backTo pos (starEach (e::es) env)) (backToKw pos (keywordEach kws env))) (λz s1=>wpAny M A (call (.type T) ([]++z.pos) z.kw) Q E s1) E s:=by
  rw[h1]at h ⊢;exact evalArgs_kwB h3 h
 refine wpAny_bind (wpAny_holding (wpAny_mono g (λz s1 g1=>wpAny_bind (wpAny_standAt ?_)) λ_ _ x=>x));simp only[h2,h4,Bool.or_false];refine wpAny_bind (wpAny_pure ?_);exact wpAny_bind (wpAny_mono g1 (λr s2 hr=>wpAny_bind (wpAny_holding (wpAny_point (wpAny_pure hr)))) λ_ _ x=>x)
theorem RX{H:Hp}{d:Dt}{ds:List Dt}{v:V}(e:seqD d=some ds)(r:Rp X.K emp d H v):∃ tu p vs,v = .ref p/\SqV X.K tu H p vs/\Rps X.K emp ds H vs:=by
 cases d<;>first|cases e|skip
 · obtain⟨p,vs,rfl,_,h1,h2⟩:=r.items;exact⟨false,p,vs,rfl,SqL.of h1,h2⟩
 · obtain⟨p,vs,rfl,h1,h2⟩:=Rp.tup_.mp r;exact⟨true,p,vs,rfl,h1,h2⟩
def iZip(F G:FE):FI:=λρ=>(F ρ).bind λx=>(G ρ).bind λy=>(seqD x.2).bind λxs=>(seqD y.2).bind λys=>if xs.length=ys.length then some (zipD xs ys) else none
theorem i_zip{p kp kpos:Pos}{jc:Nat}(hg:Gl X "zip")(hm:X.mg "zip" = none)(ha:PF X a Fa)(hb:PF X b Fb)(hs:starEach [a,b] X.env=[(false,eval a X.env),(false,eval b X.env)]:=by rfl)(hs1:starEach [b] X.env=[(false,eval b X.env)]:=by rfl):
   PFI X (.Tuple elts n tpos) (.Call (.Name "zip" p) [a,b] [⟨some "strict",.Constant (.bool true) jc kp,kpos⟩] pos) (iZip Fa Fb):=by
 intro π s σ H R I ⟨ρ,items,rs,e0,k⟩;obtain⟨⟨fa,da⟩,ea,e1⟩:=bind_some e0;obtain⟨⟨fb,db⟩,eb,e2⟩:=bind_some e1;obtain⟨xs,ex,e3⟩:=bind_some e2;obtain⟨ys,ey,e4⟩:=bind_some e3;clear e0 e1 e2 e3;split at e4
 · rename_i hl;cases e4;have hA:PA X [a,b] (upAs X (b8 Fa (b8 Fb fNil))):=j3 ha (j3 hb e9 hs1) (by rw[hs,hs1]);refine wpAny_Call_Name_kw (Q8 I hg hm (by decide +kernel:bootBuiltins "zip" = some (.type "zip")) ?_);refine Qz (T := "zip") (thn (hA pos π s σ H (λvs H1=>Same H H1/\∃ va vb,vs=[va,vb]/\Rp X.K emp da H1 va/\Rp X.K emp db H1 vb) I ⟨ρ,[(fa,da),(fb,db)],rs,by simp[b8,fNil,ea,eb],λvs H1 s1 ⟨va,r1,ee1,q1,vb,r2,ee2,q2,q3⟩=>⟨s1,va,vb,by rw[ee1,ee2,show r2=[]from q3],q1.sh,q2.sh⟩⟩) λus s1 ⟨vs,H1,I1,rv,s1H,va,vb,ev,ra,rb⟩=>?_) (by rw[hs,hs1];rfl) (by rw[hs];rfl) rfl rfl;subst ev;obtain⟨ua,ub,rfl,rua,rub⟩:=rv.two;obtain⟨ta,pa,vsa,rfl,qa1,qa2⟩:=RX ex ra;obtain⟨tb,pb,vsb,rfl,qb1,qb2⟩:=RX ey rb;cases rua;cases rub;have hk:=Iz (X:=X) (nm:=some "strict") (kpos:=kpos) (X0 (X:=X) (b:=true) (j:=jc) (pos:=kp)) LJ;refine thn (hk pos π s1 σ H1 (λzs H2=>zs=[.bl true]/\H2=H1) I1 ⟨rfl,rfl⟩) ?_;rintro ks s2 ⟨zs,H2,I2,rz,ez,eH⟩;subst ez;subst eH;obtain⟨uk,rfl,ruk⟩:=rz.one;cases ruk;obtain⟨ita,rva,sa,hza⟩:=I2.sq qa1;obtain⟨itb,rvb,sb,hzb⟩:=I2.sq qb1;refine RS sa sb ?_;have z1:(h1 s2.heap ta pa).objs.size=s2.heap.objs.size+1:=Wn ..;have z2:(h2 s2.heap ta tb pa pb).objs.size=s2.heap.objs.size+2:=by rw[Wn,z1]
   have z3:(h3 s2.heap ta tb pa pb).objs.size=s2.heap.objs.size+3:=by rw[Wn,z2]
   have z4:(h4 s2.heap ta tb pa pb).objs.size=s2.heap.objs.size+4:=by rw[Wn,z3]
   have g5:(h5 s2.heap ta tb pa pb).get? (h4 s2.heap ta tb pa pb).objs.size=some _:=wp _ rfl;have g4:(h5 s2.heap ta tb pa pb).get? (h3 s2.heap ta tb pa pb).objs.size=some _:=wd _ (wp _ rfl);have g3:(h5 s2.heap ta tb pa pb).get? (h2 s2.heap ta tb pa pb).objs.size=some _:=wd _ (wd _ (wp _ rfl));have g2:(h5 s2.heap ta tb pa pb).get? (h1 s2.heap ta pa).objs.size=some _:=wd _ (wd _ (wd _ (wp _ rfl)));have g1:(h5 s2.heap ta tb pa pb).get? s2.heap.objs.size=some _:=wd _ (wd _ (wd _ (wd _ (wp _ rfl))));have up:∀ c o,s2.heap.get? c=some o->(h5 s2.heap ta tb pa pb).get? c=some o:=λc o x=>wd _ (wd _ (wd _ (wd _ (wd _ x))));refine JV (z:=(h4 s2.heap ta tb pa pb).objs.size) (ti:=(h2 s2.heap ta tb pa pb).objs.size) (to:=(h3 s2.heap ta tb pa pb).objs.size) (f := .none) g5 ?_;have la:=sa.lt;have lb:=sb.lt;have D:Apart (h4 s2.heap ta tb pa pb).objs.size (h2 s2.heap ta tb pa pb).objs.size (h3 s2.heap ta tb pa pb).objs.size s2.heap.objs.size (h1 s2.heap ta pa).objs.size pa pb:=by
     rw[z1,z2,z3,z4];constructor<;>exact λz=>by simp only[Addr]at *;rfl'
   refine⟨_,[(h4 s2.heap ta tb pa pb).objs.size,(h2 s2.heap ta tb pa pb).objs.size,(h3 s2.heap ta tb pa pb).objs.size,s2.heap.objs.size,(h1 s2.heap ta pa).objs.size],_,_,H2,rfl,I2.kept (t':=s2.toks) up,RT (ta:=ta) (tb:=tb) D,⟨g5,g3,⟨_,_,g4⟩,JY g1,JY g2⟩,λc hc=>?_,k _ H2 s1H ?_ (RV qa1 qb1 qa2 qb2 hl)⟩
   · have hge:s2.heap.objs.size<=c:=by
      rw[z1,z2,z3,z4]at hc;simp only[wn,WD,or_false]at hc;rcases hc with rfl|rfl|rfl|rfl|rfl<;>rfl'
     exact I2.fpOk hge (I2.hok.fresh hge)
   · rw[BA,←qa2.length];rfl'
 · cases e4
def lstD:Dt->Option (List Dt)
 | .lst ds=>some ds
 | _=>none
def BB(F:FE):FI:=λρ=>(F ρ).bind λx=>(lstD x.2).map (O3 0)
theorem RY{H:Hp}{d:Dt}{ds:List Dt}{v:V}(e:lstD d=some ds)(r:Rp X.K emp d H v):∃ p vs,v = .ref p/\SqL X.K H p vs/\Rps X.K emp ds H vs:=by
 cases d<;>first|cases e|skip
 obtain⟨p,vs,rfl,_,h1,h2⟩:=r.items;exact⟨p,vs,rfl,SqL.of h1,h2⟩
theorem RZ{p:Pos}(hg:Gl X "enumerate")(hm:X.mg "enumerate" = none)(ha:PF X a Fa)(hs:starEach [a] X.env=[(false,eval a X.env)]:=by rfl):PFI X (.Tuple elts n tpos) (.Call (.Name "enumerate" p) [a] [] pos) (BB Fa):=by
 intro π s σ H R I ⟨ρ,items,rs,e0,k⟩;obtain⟨⟨fa,da⟩,ea,e1⟩:=bind_some e0;cases ex:lstD da with
 | none=>rw[ex]at e1;cases e1
 | some xs =>
  rw[ex]at e1;cases e1;have hA:PA X [a] (upAs X (b8 Fa fNil)):=j3 ha e9 hs;refine wpAny_Call_Name_kw (Q8 I hg hm (by decide +kernel:bootBuiltins "enumerate" = some (.type "enumerate")) ?_);refine PyProof.Rows.callWith_type1 (thn (hA pos π s σ H (λvs H1=>Same H H1/\∃ va,vs=[va]/\Rp X.K emp da H1 va) I ⟨ρ,[(fa,da)],rs,by simp[b8,fNil,ea],λvs H1 s1 ⟨va,r1,ee1,q1,q3⟩=>⟨s1,va,by rw[ee1,show r1=[]from q3],q1.sh⟩⟩) λus s1 ⟨vs,H1,I1,rv,s1H,va,ev,ra⟩=>?_) hs rfl;subst ev;obtain⟨ua,rfl,rua⟩:=rv.one;obtain⟨pa,vsa,rfl,qa1,qa2⟩:=RY ex ra;cases rua;obtain⟨ita,rva,pl,hza⟩:=I1.list qa1;refine call_enumerate_list pl.isList λh' b1 b2 b3 b4=>wpAny_pyIter_enum b1 ?_;refine⟨_,[s1.heap.objs.size+1,s1.heap.objs.size],_,_,H1,rfl,I1.kept (t':=s1.toks) b4,Qx (Nat.succ_ne_self _),⟨⟨_,b1⟩,b2⟩,λc hc=>?_,k _ H1 s1H ?_ (Qy qa1 qa2)⟩
  · have hge:s1.heap.objs.size<=c:=by
     simp only[wn,WD,or_false]at hc;rcases hc with rfl|rfl
     · exact Nat.le_succ _
     · exact wf _
    exact I1.fpOk hge (I1.hok.fresh hge)
  · rw[Cn,←qa2.length];exact hza
def iRev(F:FE):FI:=λρ=>(F ρ).bind λx=>(lstD x.2).map List.reverse
theorem i_rev{tg:Expr}{p:Pos}(hg:Gl X "reversed")(hm:X.mg "reversed" = none)(ha:PF X a Fa)(hs:starEach [a] X.env=[(false,eval a X.env)]:=by rfl):PFI X tg (.Call (.Name "reversed" p) [a] [] pos) (iRev Fa):=by
 intro π s σ H R I ⟨ρ,items,rs,e0,k⟩;obtain⟨⟨fa,da⟩,ea,e1⟩:=bind_some e0;cases ex:lstD da with
 | none=>rw[ex]at e1;cases e1
 | some xs =>
  rw[ex]at e1;cases e1;have hA:PA X [a] (upAs X (b8 Fa fNil)):=j3 ha e9 hs;refine wpAny_Call_Name_kw (Q8 I hg hm (by decide +kernel:bootBuiltins "reversed" = some (.type "reversed")) ?_);refine PyProof.Rows.callWith_type1 (thn (hA pos π s σ H (λvs H1=>Same H H1/\∃ va,vs=[va]/\Rp X.K emp da H1 va) I ⟨ρ,[(fa,da)],rs,by simp[b8,fNil,ea],λvs H1 s1 ⟨va,r1,ee1,q1,q3⟩=>⟨s1,va,by rw[ee1,show r1=[]from q3],q1.sh⟩⟩) λus s1 ⟨vs,H1,I1,rv,s1H,va,ev,ra⟩=>?_) hs rfl;subst ev;obtain⟨ua,rfl,rua⟩:=rv.one;obtain⟨pa,vsa,rfl,qa1,qa2⟩:=RY ex ra;cases rua;obtain⟨ita,rva,pl,hza⟩:=I1.list qa1;have hn:ita.toArray.size=vsa.length:=by rw[wr,←rva.length]
  refine call_reversed_list pl.isList ?_;rw[hn];have g1:(s1.heap.push (revObj pa ((vsa.length:Int)-1))).get? s1.heap.objs.size=some _:=wp _ rfl;have it1:(s1.heap.push (revObj pa ((vsa.length:Int)-1))).IsRevIter s1.heap.objs.size pa ((vsa.length:Int)-1-((0:Nat):Int)):=⟨_,g1,rfl,by show Data.fields _=_;simp⟩;refine wpAny_pyIter_revIter it1 ?_;refine⟨_,[s1.heap.objs.size],_,_,H1,rfl,I1.kept (t':=s1.toks) (λc o x=>wd _ x),RU (n:=vsa.length),⟨wx _,it1⟩,λc hc=>?_,k _ H1 s1H ?_ (RW qa1 qa2)⟩
  · rw[wu.mp hc];exact I1.fpOk (wf _) (I1.hok.fresh (wf _))
  · rw[ul,←qa2.length];exact hza
end
end L2

end
section
set_option maxHeartbeats 1000000
namespace L2
open PySem PySem.Spec PyProof.Rows
section
variable {X:Cx}
def Sa:V->List V->Hp->VK->Prop:=λx vs H Q=>∃ l xs y,x = .ref l/\vs=[.int 0,y]/\H l=some (.lst xs)/\xs.length<sizeLine/\Q .non (upd H l (.lst (y::xs)))
theorem Ma:MtM X "list.insert" Sa:=by
 intro π s σ H x vs v us Q I rx rv h;obtain⟨l,xs,y,rfl,rfl,hH,hz,q⟩:=h;cases rx;obtain⟨u0,u,rfl,ru0,ru⟩:=rv.two;obtain⟨t0,rfl⟩:=ru0;obtain⟨z,its,n,r,hl,e⟩:=I.lstM hH;refine call_meets F.slot_list_insert ⟨_,e,rfl⟩ F.entry_list_insert (F.args_list_insert_3 _ _ _) (AutoSeq1.list_insert_list_int_val_1 l its.toArray n 0 t0 u (by decide) (by rw[wr];rfl')) ⟨e,?_⟩;refine⟨.non,_,I.lset (its':=u::its) hH e ?_ (.cons ru r) ?_,rfl,q⟩
 · simp
 · rw[wm];rfl'
theorem Po{Y:Ky}{f g:Bool}:Same (bsOf Y (f&&g)) (bsOf Y f):=by
 cases f<;>cases g<;>first|exact Same.refl _|exact Same.emp
theorem Pp{Y:Ky}{f g:Bool}:Same (bsOf Y (f&&g)) (bsOf Y g):=by
 cases f<;>cases g<;>first|exact Same.refl _|exact Same.emp
section
variable {H₀ H H':Hp}{O:Own}{ρ:Rho}{σ:St}{i:Nat}{f:Bool}{ds:List Dt}
theorem RepO.get(h:RepO X H₀ H O ρ σ)(e:ρ[i]?=some (.ow f ds)):∃ a vs,(i,a)∈O/\σ[i]?=some (some (.ref a))/\H a=some (.lst vs)/\Rps X.K (bsOf X.ky f) ds (hidL O.adr H) vs:=by
 obtain⟨o,e1,a,vs,q1,q2,q3,q4⟩:=h.at_ i _ e;subst q2;exact⟨a,vs,q1,e1,q3,q4⟩
theorem Kc{x:Dv}{v:V}(rb:RepO X H₀ H O ρ σ)(r:RpF X.ky (hidL O.adr H) x.1 x.2 H' v):Rp X.K (bsOf X.ky x.1.isFr) x.2 H' v:=by
 by_cases q:x.1.isFr=true
 · rw[q];exact r.fr (rb.b0.trans rb.same) q
 · rw[show x.1.isFr=false by simpa using q];exact r.sh
theorem Vp{x:Dv}{v:V}(rb:RepO X H₀ H O ρ σ)(sm:Same H H')(q:x.1.isNw=true)(r:RpF X.ky H x.1 x.2 H' v):Rp X.K (bsOf X.ky true) x.2 (hidL O.adr H') v :=
 Rp.anti rb.below _ (RP rb.own sm q r)
end
abbrev FW:=List Dt->Dt->Option (List Dt)
def He(ρ:Rho)(i:Nat):Option (Bool×List Dt):=match ρ[i]? with|some (.ow f ds)=>some (f,ds)|_=>none
theorem Co{ρ:Rho}{i:Nat}{f:Bool}{ds:List Dt}(h:He ρ i=some (f,ds)):ρ[i]?=some (.ow f ds):=by
 unfold He at h;split at h
 · rename_i e;cases h;exact e
 · cases h
def sWr(w:FW)(i:Nat)(F:FE):FS:=λρ=>(He ρ i).bind λo=>(F (L8 ρ)).bind λx=>(w o.2 x.2).map λds => .nx (ρ.set i (.ow (o.1&&x.1.isFr) ds))
def sWrA(w:FW)(i:Nat)(F:FE):FS:=λρ=>(He ρ i).bind λo=>(F ρ).bind λx=>if x.1.isNw then(w o.2 x.2).map λds => .nx (ρ.set i (.ow o.1 ds)) else none
def wApp:FW:=λds d=>if ds.length<1000000 then some (ds++[d]) else none
def EJ:FW:=λds d=>if ds.length<1000000 then some (d::ds) else none
def MtW(X:Cx)(id:String)(pre:List V)(w:FW):Prop:=∀(H:Hp) (B:Hp) (Hh:Hp) (l:Addr) (vs:List V) (y:V) (ds:List Dt) (d:Dt) (ds':List Dt) (Q:VK),H l=some (.lst vs)->Same Hh H->Rps X.K B ds Hh vs->Rp X.K B d Hh y->w ds d=some ds' ->
 (∀ vs',Rps X.K B ds' Hh vs'->Q .non (upd H l (.lst vs')))->∃ r,MtM X id r/\r (.ref l) (pre++[y]) H Q
theorem Mb:MtW X "list.append" [] wApp:=λH B Hh l vs y ds d ds' Q hl sm rs r e k=>by
 unfold wApp at e;split at e
 · rename_i h;cases e;exact⟨_,Ck,l,vs,y,rfl,rfl,hl,by rw[rs.length];exact uB h (by decide),k _ (rs.append (Rps.one r))⟩
 · cases e
theorem Vq:MtW X "list.insert" [.int 0] EJ:=λH B Hh l vs y ds d ds' Q hl sm rs r e k=>by
 unfold EJ at e;split at e
 · rename_i h;cases e;exact⟨_,Ma,l,vs,y,rfl,rfl,hl,by rw[rs.length];exact uB h (by decide),k _ (Rps.cons_.mpr ⟨y,vs,rfl,r,rs⟩)⟩
 · cases e
section
variable {id:String}{w:FW}{x:Str}{name:Str}{e:Expr}{Fe:FE}{i:Nat}{px apos cpos pos:Pos}{pre:List V}
theorem Sb(hw:MtW X id [] w)(slot:Slot "list" name id)(hty:typeOf (.builtin id)=pure (.type "method_descriptor"))(hN:X.N[i]?=some x)(hv:Vis X.env.scope x)(he:PF X e Fe)(hd:(x==("__debug__" : Str))=false:=by decide)(hcd:(x==("__classdict__" : Str))=false:=by decide)
  (hbase:attributeBase (.Name x px) name X.env (eval (.Name x px) X.env)=eval (.Name x px) X.env:=by rfl)
  (hfew:((backTo cpos (starEach [e] X.env)).all (λx=>!x.1)&&(backToKw cpos (keywordEach [] X.env)).all (λx=>x.1.isSome)&&decide ([e].length+([]:List Keyword).length+(if([]:List Keyword).isEmpty then 0 else 1)<30))=true:=by rfl)
  (hline:(apos.endLine==cpos.line)=true:=by rfl) (hs:starEach [e] X.env=[(false,eval e X.env)]:=by rfl) (hsw:swapsWith (.Call (.Attribute (.Name x px) name apos) [e] [] cpos) none pos.line X.env=pure false:=by rfl) :
  PFS X (.Expr (.Call (.Attribute (.Name x px) name apos) [e] [] cpos) pos) (sWr w i Fe):=by
 intro π s σ H D I ⟨H₀,ρ,oc,⟨O,rb⟩,e0,k⟩;obtain⟨⟨f,ds⟩,e1,e2⟩:=bind_some e0;obtain⟨z,e3,e4⟩:=bind_some e2;cases hw':w ds z.2 with
 | none=>rw[hw']at e4;cases e4
 | some ds' =>
  rw[hw']at e4;cases e4;obtain⟨a,vs,q1,q2,q3,q4⟩:=rb.get (Co e1);have hm:MtM X id (λo us H' Q=>∃ y,o = .ref a/\us=[y]/\Same (hidL O.adr H) (hidL O.adr H')/\H' a=some (.lst vs)/\Rp X.K (bsOf X.ky z.1.isFr) z.2 (hidL O.adr H') y/\∀ vs',Rps X.K (bsOf X.ky (f&&z.1.isFr)) ds' (hidL O.adr H') vs'->Q .non (upd H' a (.lst vs'))):=by
   intro π s σ H' o us v vs2 Q I ro ru ⟨y,eo,eu,sm,ha,ry,kk⟩;subst eo;subst eu;obtain⟨r,hr,hq⟩:=hw H' (bsOf X.ky (f&&z.1.isFr)) (hidL O.adr H') a vs y ds z.2 ds' Q ha k8 (Rps.anti Po _ (Rps.mono _ sm q4)) (Rp.anti Pp _ ry) hw' kk;exact hr π s σ H' _ _ v vs2 Q I ro ru hq
  refine Aa (Pb F.plainAttrs_list slot hty hm (Ep hN hv hd hcd) (PA.frame (j3 he e9 hs)) hbase hfew hline hs rfl) hsw π s σ H D I ⟨.ref a,q2,.inl ⟨rfl,vs,SqL.of q3⟩,O.adr,rb.own,L8 ρ,[z],rb.rest,by simp[b8,fNil,e3],?_⟩;rintro us H' sm ⟨y,r,eu,ry,er⟩ hn;have er:r=[]:=er;subst er;subst eu;have hg:hidL O.adr (B9 O.adr H H')=H':=N8 hn;refine⟨y,rfl,rfl,by rw[hg];exact sm,by rw[Ad (U6 q1)];exact q3,by rw[hg];exact Kc rb ry,λvs' rs'=>k _ _ ⟨O,?_⟩⟩;exact(rb.mono (Same.glue sm hn)).upd (Co e1) q1 rs'
theorem s_insA{j0:Nat}{p0:Pos}(hN:X.N[i]?=some x)(hv:Vis X.env.scope x)(he:PF X e Fe)(hd:(x==("__debug__" : Str))=false:=by decide)(hcd:(x==("__classdict__" : Str))=false:=by decide)
   (hbase:attributeBase (.Name x px) "insert" X.env (eval (.Name x px) X.env)=eval (.Name x px) X.env:=by rfl)
   (hfew:((backTo cpos (starEach [.Constant (.int 0) j0 p0,e] X.env)).all (λx=>!x.1)&&(backToKw cpos (keywordEach [] X.env)).all (λx=>x.1.isSome)&&decide ([Expr.Constant (.int 0) j0 p0,e].length+([]:List Keyword).length+(if([]:List Keyword).isEmpty then 0 else 1)<30))=true:=by rfl)
   (hline:(apos.endLine==cpos.line)=true:=by rfl) (hs:starEach [e] X.env=[(false,eval e X.env)]:=by rfl) (hs2:starEach [.Constant (.int 0) j0 p0,e] X.env=(false,eval (.Constant (.int 0) j0 p0) X.env)::starEach [e] X.env:=by rfl)
   (hsw:swapsWith (.Call (.Attribute (.Name x px) "insert" apos) [.Constant (.int 0) j0 p0,e] [] cpos) none pos.line X.env=pure false:=by rfl) :
   PFS X (.Expr (.Call (.Attribute (.Name x px) "insert" apos) [.Constant (.int 0) j0 p0,e] [] cpos) pos) (sWrA EJ i Fe):=by
 intro π s σ H D I ⟨H₀,ρ,oc,⟨O,rb⟩,e0,k⟩;obtain⟨⟨f,ds⟩,e1,e2⟩:=bind_some e0;obtain⟨z,e3,e5⟩:=bind_some e2;split at e5
 · rename_i qn;cases hw':EJ ds z.2 with
   | none=>rw[hw']at e5;cases e5
   | some ds' =>
    rw[hw']at e5;cases e5;obtain⟨a,vs,q1,q2,q3,q4⟩:=rb.get (Co e1);have hm:MtM X "list.insert" (λo us H' Q=>∃ y,o = .ref a/\us=[.int 0,y]/\Same H H'/\RpF X.ky H z.1 z.2 H' y/\∀ vs',Rps X.K (bsOf X.ky f) ds' (hidL O.adr H') vs'->Q .non (upd H' a (.lst vs'))):=by
     intro π s σ H' o us v vs2 Q I ro ru ⟨y,eo,eu,sm,ry,kk⟩;subst eo;subst eu;have r1:=Vp rb sm qn ry;obtain⟨r,hr,hq⟩:=Vq (X:=X) H' (bsOf X.ky f) (hidL O.adr H') a vs y ds z.2 ds' Q (sm _ _ q3) k8 (Rps.mono _ (z9 sm) q4) (Rp.anti (by cases f<;>first|exact Same.refl _|exact Same.emp) _ r1) hw' kk;exact hr π s σ H' _ _ v vs2 Q I ro ru hq
    refine Aa (Pb F.plainAttrs_list F.slot_list_insert F.type_list_insert hm (Ep hN hv hd hcd) (j3 (i4 (X:=X)) (j3 he e9 hs) hs2) hbase hfew hline hs2 (by rw[hs];rfl)) hsw π s σ H D I ⟨.ref a,q2,.inl ⟨rfl,vs,SqL.of q3⟩,ρ,[(.nw,.int 0),z],rb.all,by simp[b8,fNil,fC,e3],?_⟩;rintro us H' sm ⟨y0,r0,eu0,ry0,y,r,eu,ry,er⟩;have er:r=[]:=er;subst er;subst eu;subst eu0;have e00:y0 = .int 0:=Rp.int_.mp ry0.sh;subst e00;exact⟨y,rfl,rfl,sm,ry,λvs' rs'=>k _ _ ⟨O,(rb.mono sm).upd (Co e1) q1 rs'⟩⟩
 · cases e5
end
def setD(ds:List Dt)(j:Int)(d:Dt):Option (List Dt):=(ixN ds.length j).map λk=>ds.set k d
def sPut(i:Nat)(Fj Fe:FE):FS:=λρ=>(He ρ i).bind λo=>(Fe (L8 ρ)).bind λx=>(Fj ρ).bind λj=>(intD j.2).bind λn=>(setD o.2 n x.2).map λds => .nx (ρ.set i (.ow (o.1&&x.1.isFr) ds))
section
variable {x:Str}{e j:Expr}{Fe Fj:FE}{i:Nat}{px spos pos:Pos}
theorem s_put(hN:X.N[i]?=some x)(hv:Vis X.env.scope x)(hj:PF X j Fj)(he:PF X e Fe)(hd:(x==("__debug__" : Str))=false:=by decide)(hcd:(x==("__classdict__" : Str))=false:=by decide)
  (ha:∀ v,assign (.Subscript (.Name x px) j spos) X.env v=(do
   let ov ←holding [v] (eval (.Name x px) X.env);let iv ←holding [v,ov] (eval j X.env)
   standAt spos
   holding [v,ov,iv] (setItem ov iv v)
   release [v,ov,iv] []):=by intro _;rfl)
  (hs:swapsWithSole [.Subscript (.Name x px) j spos] e pos.line X.env=pure false:=by rfl) (hw:swappedStores [.Subscript (.Name x px) j spos] e X.env=pure none:=by rfl)
  (h1:(assignEach [.Subscript (.Name x px) j spos] X.env).map (·.2)=[assign (.Subscript (.Name x px) j spos) X.env]:=by rfl) :
  PFS X (.Assign [.Subscript (.Name x px) j spos] e pos) (sPut i Fj Fe):=by
 intro π s σ H D I ⟨H₀,ρ,oc,⟨O,rb⟩,e0,k⟩;obtain⟨⟨f,ds⟩,e1,e2⟩:=bind_some e0;obtain⟨z,e3,e4⟩:=bind_some e2;obtain⟨⟨fj,dj⟩,e5,e6⟩:=bind_some e4;obtain⟨n,e7,e8⟩:=bind_some e6;obtain⟨a,vs,q1,q2,q3,q4⟩:=rb.get (Co e1);unfold setD at e8;cases hx:ixN ds.length n with
 | none=>rw[hx]at e8;cases e8
 | some m =>
  rw[hx]at e8;cases e8;refine Rq (PE.frame he) (Ro (Ep hN hv hd hcd) hj JJ ha) hs hw h1 π s σ H D I ⟨O.adr,rb.own,L8 ρ,z.1,z.2,rb.rest,e3,λv H' sm r hn=>?_⟩;have hg:hidL O.adr (B9 O.adr H H')=H':=N8 hn;have rb2:=rb.mono (Same.glue sm hn);refine⟨.ref a,q2,ρ,fj,dj,rb2.all,e5,λv2 H2 s2 r2=>?_⟩;have ed:=II e7;have ed:dj = .int n:=ed;subst ed;have rv:Rp X.K (bsOf X.ky z.1.isFr) z.2 (hidL O.adr H2) v:=Rp.mono _ (by rw[←hg];exact z9 s2) (Kc rb r);have ha2:H2 a=some (.lst vs):=s2 _ _ (by rw[Ad (U6 q1)];exact q3);refine⟨a,vs,n,m,rfl,Rp.int_.mp r2.sh,ha2,by rw[q4.length];exact hx,k _ _ ⟨O,(rb2.mono s2).upd (Co e1) q1 ?_⟩⟩;exact Rps.set m (Rps.anti Po _ (Rps.mono _ (z9 ((Same.glue sm hn).trans s2)) q4)) (Rp.anti Pp _ rv)
end
end
end L2

end
section
set_option maxHeartbeats 1000000
namespace L2
open PySem PySem.Spec PyProof.Rows
section
variable {X:Cx}{tg a b e:Expr}{Fa Fb Fe:FE}{pos:Pos}
end
section
variable {X:Cx}{tg iter:Expr}{body:List Stmt}{Fi:FI}{g:Tg}{F:FS}{pos:Pos}
end
section
variable {P:Program}{w:World}{K:aE}{mg:aF}{base:Heap}
theorem Fun.dat{x qual:Str}{st:Stmt}{f:Addr}{fd:FuncData}{N ps:List Str}{k np nn:Nat}{fr:Bool}{F:FS}(Fu:Fun K x qual st f fd)(S:FnScope N ps (d7 st))(hp:np=ps.length)(hn:nn=N.length)
  (body:∀(cdv:Value) (A:Around) (outer:List Env) (s:Shared) (H:Hp) (E:XK),Room k (A.deeper (envOfC qual (d7 st) s.heap.objs.size f cdv)) →
   PFSs (cxOf CX0 P w K mg base N qual (d7 st) f cdv A outer s H E).nox (x9 st) F):FnOk P w K mg base CX0 (k+1) f fd ps (spc K fr (cOf np nn fr F)):=by
 subst hp hn;exact Fun.data Fu S body
end
theorem p_cal{X:Cx}{e:Expr}{es:List Expr}{pos:Pos}{Fs:FA}{fr:Bool}{k k':Nat}{f:Addr}{fd:FuncData}{ps:List Str}{ct:FC}{x:Str}{st:Stmt}{p:Pos}(F:FnOk X.prog X.w X.K X.mg X.base CX0 k f fd ps (spc X.K fr ct))(D:Df X.K X.mg x st ps f fd)(hr:Room k' X.A)(hg:Gl X x)
  (ha:PFA X (e::es) Fs) (hle:k<=k':=by decide) (hdb:(x==("__debug__" : Str))=false:=by decide) (hst:starEach (e::es) X.env=(false,eval e X.env)::starEach es X.env:=by rfl) (hpl:(backTo pos (starEach es X.env)).any (·.1)=false:=by rfl):PF X (.Call (.Name x p) (e::es) [] pos) (f8 fr ct Fs) :=
 p_call F (hr.mono hle) hg D.mg D.fn.kp D.bd ha hdb hst hpl
def Dh(K:aE)(x:Str)(st:Stmt)(f:Addr):Prop:=∃(oc kV doc pm cdv ct:Value) (od an:Option Addr) (osl:Array (Option Value)),PySem.W.nsIn K mainGlobals x=some (some (.ref f))/\K.lookup f=some ⟨oc,od,.func (PySem.W.fnOf x x (E9 st) (x9 st) (d7 st) .none kV doc pm an cdv ct),osl⟩/\PySem.W.codeIn K cdv x=true/\PySem.W.keepIn K (.ref f)=true
theorem dh{K:aE}{x:Str}{st:Stmt}{f:Addr}{oc kV doc pm cdv ct:Value}{od an:Option Addr}{osl:Array (Option Value)}(e:PySem.W.nsIn K mainGlobals x=some (some (.ref f)))(l:K.lookup f=some ⟨oc,od,.func (PySem.W.fnOf x x (E9 st) (x9 st) (d7 st) .none kV doc pm an cdv ct),osl⟩)(c:PySem.W.codeIn K cdv x=true)(k:PySem.W.keepIn K (.ref f)=true):Dh K x st f:=⟨_,_,_,_,_,_,_,_,_,e,l,c,k⟩
theorem ndp(l:List Str)(h:l.Nodup:=by decide +kernel):l.Nodup:=h
theorem jlt(l:List Nat)(m:Nat)(h:∀ j∈l,j<m:=by decide):∀ j∈l,j<m:=h
theorem scm{N P:List Str}{sc:Scope}(kind:sc.kind = .function:=by rfl)(co:sc.isCoroutine=false:=by rfl)(gen:sc.isGenerator=false:=by rfl)(nd:N.Nodup:=by decide +kernel)(pre:N.take P.length=P:=by rfl)(par:∀ x∈P,sc.names.lookup x=some .local\/sc.names.lookup x=some .cell:=by decide +kernel)(nofree:∀ y∈sc.names,y.2 ≠ .free:=by decide +kernel):FnScope N P sc:=⟨kind,co,gen,nd,pre,par,nofree⟩
end L2

end
section
namespace L2
open PySem PySem.Spec PySem.W PyProof.Rows
section
variable {X:Cx}{C:Addr}{n:Nat}{e:Expr}{es:List Expr}{pos:Pos}{Fs:FA}{fr:Bool}{k k':Nat}{f:Addr}{fd:FuncData}{ps:List Str}{x:Str}{st:Stmt}{p:Pos}
abbrev FX:=List Dt->Option (Dt ⊕ Nat)
end
section
variable {P:Program}{w:World}{K:aE}{mg:aF}{base:Heap}
end
end L2

end
section
namespace L2
open PySem PySem.Spec PySem.W PyProof.Rows
section
variable {X:Cx}{π:aB}{σ:St}{H H1 H' H₀:Hp}{s s1:Shared}{ea C M:Addr}{cx:Value}{E:aC}
end
section
variable {X:Cx}{C:Addr}{n:Nat}{e:Expr}{es:List Expr}{pos pos' tpos hpos np:Pos}{Fs:FA}{fr:Bool}{k k':Nat}{f:Addr}{fd:FuncData}{ps:List Str}{x y:Str}{st:Stmt}{p:Pos}{ct:FX}
end
section
variable {X:Cx}{H₀ H:Hp}{O:Own}{ρ:Rho}{σ:St}{π:aB}{s:Shared}{ea:Addr}
end
end L2

end
section
namespace L2
open PySem PySem.Spec PySem.W PyProof.Rows
section
variable {X:Cx}{C:Addr}{n:Nat}{e:Expr}{es:List Expr}{pos pos' tpos hpos np:Pos}{Fs:FA}{fr:Bool}{k k':Nat}{f:Addr}{fd:FuncData}{ps:List Str}{x y z:Str}{st:Stmt}{p:Pos}{ct:FX}
end
end L2

end
section
namespace L2
open PySem PySem.Spec PySem.W PyProof.Rows
abbrev FR:=Rho->Option Nat
section
variable {X:Cx}{e a b:Expr}{es:List Expr}{pos pos' p:Pos}{Fs:FA}{R:FR}{fr:Bool}{k k':Nat}{f:Addr}{fd:FuncData}{ps:List Str}{x:Str}{st:Stmt}{ct:FX}
end
end L2

end
section
namespace L2
open PySem PySem.Spec PyProof.Rows
section
variable {X:Cx}{x y:Str}{j j2:Expr}{Fj Fk:FE}{i iy:Nat}{px px2 spos spos2 pos pos':Pos}
end
end L2

end
section
namespace L2
open PySem PySem.Spec PyProof.Rows
theorem asn{X:Cx}{e:Expr}{Fe:FE}{pos pos':Pos}{x:Str}(i:Nat)(he:PF X e Fe)(hN:X.N.Nodup)(hi:X.N[i]?=some x:=by rfl)(hx:Loc X.env.scope x:=by exact Or.inl rfl)(hs:swapsWith e (some (.Name x pos')) pos.line X.env=pure false:=by rfl)(hf:X.fn x=true\/X.env.scope.names.lookup x=some .local:=by exact Or.inl rfl):PFS X (.Assign [.Name x pos'] e pos) (sSet [] i Fe):=AI (rels:=[]) (B4 he hN hi hx hs hf)
section
variable {X:Cx}{e:Expr}{es:List Expr}{pos p:Pos}{Fs:FA}{r:FB}{x:Str}
theorem p_bu{id:String}(hc:Bv X (.builtin id) r)(hm:X.mg x=none)(ha:PFA X (e::es) Fs)(hg:Gl X x:=by rfl)(hv:bootBuiltins x=some (.builtin id):=by decide +kernel)(hn:x ≠ "__name__" := by decide)(hdb:(x==("__debug__" : Str))=false:=by decide)(hst:starEach (e::es) X.env=(false,eval e X.env)::starEach es X.env:=by rfl)(hpl:(backTo pos (starEach es X.env)).any (·.1)=false:=by rfl):
 PF X (.Call (.Name x p) (e::es) [] pos) (fBlt r Fs):=Vi hc hg hm hv ha hn hdb hst hpl
theorem p_ty{T:String}(hc:Bv X (.type T) r)(hm:X.mg x=none)(ha:PFA X (e::es) Fs)(hg:Gl X x:=by rfl)(hv:bootBuiltins x=some (.type T):=by decide +kernel)(hn:x ≠ "__name__" := by decide)(hdb:(x==("__debug__" : Str))=false:=by decide)(hst:starEach (e::es) X.env=(false,eval e X.env)::starEach es X.env:=by rfl)(hpl:(backTo pos (starEach es X.env)).any (·.1)=false:=by rfl):
 PF X (.Call (.Name x p) (e::es) [] pos) (fBlt r Fs):=RK hc hg hm hv ha hn hdb hst hpl
theorem p_ca{fr:Bool}{k k':Nat}{f:Addr}{fd:FuncData}{ps:List Str}{ct:FC}{st:Stmt}(F:FnOk X.prog X.w X.K X.mg X.base CX0 k f fd ps (spc X.K fr ct))(D:Df X.K X.mg x st ps f fd)(hr:Room k' X.A)
  (ha:PFA X (e::es) Fs) (hg:Gl X x:=by rfl) (hle:k<=k':=by decide) (hdb:(x==("__debug__" : Str))=false:=by decide) (hst:starEach (e::es) X.env=(false,eval e X.env)::starEach es X.env:=by rfl) (hpl:(backTo pos (starEach es X.env)).any (·.1)=false:=by rfl):PF X (.Call (.Name x p) (e::es) [] pos) (f8 fr ct Fs) :=
 p_cal F D hr hg ha hle hdb hst hpl
end
section
variable {X:Cx}{a b:Expr}{Fa Fb:FE}{pos:Pos}{op:CmpOp}{r:FO}
theorem p_cm(ho:OpF X (compareOp op) r)(ha:PF X a Fa)(hb:PF X b Fb)(h:op ≠ .In:=by decide)(h2:op ≠ .NotIn:=by decide):PF X (.Compare a [op] [b] pos) (fOp r Fa Fb):=p_cmp ho ha hb (Rt _ h h2)
theorem t_cm(ho:OpF X (compareOp op) r)(ha:PF X a Fa)(hb:PF X b Fb)(h:op ≠ .In:=by decide)(h2:op ≠ .NotIn:=by decide):PFT X (.Compare a [op] [b] pos) (k6 (fOp r Fa Fb)):=t_cmp ho ha hb (Rt _ h h2)
end
section
variable {X:Cx}{scope:Scope}{x:Str}{tp pos:Pos}{elt iter:Expr}{Fi:FI}{Fe:FE}
theorem p_co(N:List Str)(nt:Nat)(js:List Nat)(XN:List Str)(xs:List (Str×NameKind))(hi:PFI X (.Name x tp) iter Fi)(he:∀ cl C fp s H,PF (w6 X N scope cl C fp s H) elt Fe)
  (h1:X.N=XN:=by rfl) (h2:X.env.scope.names=xs:=by rfl) (hk:scope.kind = .function:=by rfl) (c:IN XN xs scope N nt js=true:=by decide +kernel) (hc:X.calm=true:=by rfl) (nd:N.Nodup:=by decide +kernel) (h0:N[0]?=some x:=by rfl) (hl:∀ cl C fp s H,(w6 X N scope cl C fp s H).env.scope.names.lookup x=some .local:=by intro _ _ _ _ _;rfl) (hb:0<nt:=by decide) (hj:∀ j∈js,j<XN.length:=by decide)
  (hs:∀ x,foldedSetIterable iter X.env x=pure x:=by intro _;rfl):PF X (.ListComp elt [⟨.Name x tp,iter,[],0⟩] scope pos) (j9 nt js Fi (Tg.one 0) fYes Fe) :=
 IK (J9 XN xs h1 h2 hk c) hc hi (λcl C fp s H=>Y4 nd h0 (Or.inl (hl cl C fp s H)) (Or.inr (hl cl C fp s H))) hb (λ_ _ _ _ _=>EE) he (λj hj'=>by rw[h1];exact hj j hj') hs
theorem a_co{y:Str}{pos' spos:Pos}(i:Nat)(hN:X.N.Nodup)(N:List Str)(nt:Nat)(js:List Nat)(XN:List Str)(xs:List (Str×NameKind))(hi:PFI X (.Name x tp) iter Fi)(he:∀ cl C fp s H,PF (w6 X N scope cl C fp s H) elt Fe)
  (hix:X.N[i]?=some y:=by rfl) (hx:X.env.scope.names.lookup y=some .local:=by rfl) (hsw:swapsWith (.ListComp elt [⟨.Name x tp,iter,[],0⟩] scope pos) (some (.Name y pos')) spos.line X.env=pure true:=by rfl)
  (h1:X.N=XN:=by rfl) (h2:X.env.scope.names=xs:=by rfl) (hk:scope.kind = .function:=by rfl) (c:IN XN xs scope N nt js=true:=by decide +kernel) (hc:X.calm=true:=by rfl) (nd:N.Nodup:=by decide +kernel) (h0:N[0]?=some x:=by rfl) (hl:∀ cl C fp s H,(w6 X N scope cl C fp s H).env.scope.names.lookup x=some .local:=by intro _ _ _ _ _;rfl) (hb:0<nt:=by decide) (hj:∀ j∈js,j<XN.length:=by decide)
  (hs:∀ x,foldedSetIterable iter X.env x=pure x:=by intro _;rfl):AsgF X (.Assign [.Name y pos'] (.ListComp elt [⟨.Name x tp,iter,[],0⟩] scope pos) spos) i (j9 nt js Fi (Tg.one 0) fYes Fe) :=
 JT hN hix hx hsw (J9 XN xs h1 h2 hk c) hc hi (λcl C fp s H=>Y4 nd h0 (Or.inl (hl cl C fp s H)) (Or.inr (hl cl C fp s H))) hb (λ_ _ _ _ _=>EE) he (λj hj'=>by rw[h1];exact hj j hj') hs
end
theorem p_i{X:Cx}{a b:Expr}{Fa Fb:FE}{pos:Pos}(ha:PF X a Fa)(hb:PF X b Fb)(hs:IB b:=by exact λ_ _=>rfl):PF X (.Subscript a b pos) (fAt Fa Fb):=p_ix ha hb hs
theorem Df.d{P:Program}{w:World}{K:aE}{mg:aF}{base:Heap}{x:Str}{st:Stmt}{f:Addr}{fd:FuncData}{N ps:List Str}{np nn:Nat}{fr:Bool}(D:Df K mg x st ps f fd)(k:Nat)(F:FS)(S:FnScope N ps (d7 st))
 (body:∀{cdv:Value} {A:Around} {outer:List Env} {s:Shared} {H:Hp} {E:XK},Room k (A.deeper (envOfC x (d7 st) s.heap.objs.size f cdv))→(A.deeper (envOfC x (d7 st) s.heap.objs.size f cdv)).units+64<cLine →
  PFSs (cxOf CX0 P w K mg base N x (d7 st) f cdv A outer s H E).nox (x9 st) F) (hp:np=ps.length:=by rfl) (hn:nn=N.length:=by rfl):FnOk P w K mg base CX0 (k+1) f fd ps (spc K fr (cOf np nn fr F)):=Fun.dat D.fn S hp hn λcdv A outer s H E hr=>body hr hr.units
theorem q_n{X:Cx}{x:Str}{pos:Pos}{es:List Expr}{Fs:FA}(i:Nat)(hr:PFA X es Fs)(hN:X.N[i]?=some x:=by rfl)(hv:Vis X.env.scope x:=by first|exact Or.inl rfl|exact Or.inr (Or.inl rfl)|exact Or.inr (Or.inr rfl))(hd:(x==("__debug__" : Str))=false:=by decide)(hcd:(x==("__classdict__" : Str))=false:=by decide)(hs:starEach (.Name x pos::es) X.env=(false,eval (.Name x pos) X.env)::starEach es X.env:=by rfl):PFA X (.Name x pos::es) (b8 (fN i) Fs):=j3 (b9 i hN hv hd hcd) hr hs
end L2

end
section
namespace L2
open PySem PySem.Spec PyProof.Rows
end L2

end
section
local macro_rules|`(tactic|rfl')=>`(tactic|first|lia|omega +splitDisjunctions)
set_option maxHeartbeats 2000000
namespace L2
open PySem PySem.Spec PyProof.Rows
section
variable {α β:Type}
def insK(p:Int×α):List (Int×α)->List (Int×α)
 | []=>[p]
 | q::qs=>if p.1<=q.1 then p::q::qs else q::insK p qs
def M7:List (Int×α)->List (Int×α)
 | []=>[]
 | p::ps=>insK p (M7 ps)
theorem Cp(p:Int×α):∀ qs:List (Int×α),(insK p qs).Perm (p::qs)
 | []=>List.Perm.refl _
 | q::qs=>by
  unfold insK;split
  · exact List.Perm.refl _
  · exact((Cp p qs).cons q).trans (List.Perm.swap p q qs)
theorem F5:∀ ps:List (Int×α),(M7 ps).Perm ps
 | []=>List.Perm.refl _
 | p::ps=>(Cp p _).trans ((F5 ps).cons p)
abbrev Le(p q:Int×α):Prop:=p.1<=q.1
theorem Ds(p:Int×α):∀ qs:List (Int×α),qs.Pairwise Le->(insK p qs).Pairwise Le
 | [],_=>List.pairwise_singleton _ _
 | q::qs,h=>by
  obtain⟨h1,h2⟩:=wU.mp h;unfold insK;split
  · rename_i hle;exact wU.mpr ⟨λx hx=>by
      rcases wn.mp hx with rfl|hx
      · exact hle
      · exact Int.le_trans hle (h1 x hx),h⟩
  · rename_i hle;refine wU.mpr ⟨λx hx=>?_,Ds p qs h2⟩;rcases wn.mp ((Cp p qs).mem_iff.mp hx)with rfl|hx
    · show q.1<=x.1;rfl'
    · exact h1 x hx
theorem U7:∀ ps:List (Int×α),(M7 ps).Pairwise Le
 | []=>List.Pairwise.nil
 | p::ps=>Ds p _ (U7 ps)
theorem Kd(g:α->β)(p:Int×α):∀ qs:List (Int×α),insK (p.1,g p.2) (qs.map λq=>(q.1,g q.2))=(insK p qs).map λq=>(q.1,g q.2)
 | []=>rfl
 | q::qs=>by
  rw[wj];unfold insK;by_cases h:p.1<=q.1
  · rw[if_pos h,if_pos h];rfl
  · rw[if_neg h,if_neg h,wj,Kd g p qs]
theorem Ag(g:α->β):∀ ps:List (Int×α),M7 (ps.map λq=>(q.1,g q.2))=(M7 ps).map λq=>(q.1,g q.2)
 | []=>rfl
 | p::ps=>by rw[wj,M7,M7,Ag g ps,Kd g p]
theorem EK:∀{xs ys:List (Int×α)},xs.Perm ys->xs.Pairwise Le->ys.Pairwise Le->(xs.map (·.1)).Nodup->xs=ys
 | [],ys,p,_,_,_=>(List.Perm.nil_eq p)
 | x::xs,[],p,_,_,_=>by have:=p.length_eq;simp at this
 | x::xs,y::ys,p,h1,h2,nd=>by
  obtain⟨a1,a2⟩:=wU.mp h1;obtain⟨b1,b2⟩:=wU.mp h2;have nd':(x.1::xs.map (·.1)).Nodup:=nd;obtain⟨n1,n2⟩:=wV.mp nd';have hx:x∈y::ys:=p.mem_iff.mp wc;have hy:y∈x::xs:=p.mem_iff.mpr wc
  have exy:x=y:=by
   rcases wn.mp hx with e|hx
   · exact e
   · rcases wn.mp hy with e|hy
     · exact e.symm
     · have l1:x.1<=y.1:=a1 y hy;have l2:y.1<=x.1:=b1 x hx;have e:x.1=y.1:=by rfl'
       exact absurd (wg.mpr ⟨y,hy,e.symm⟩) n1
  subst exy;rw[EK (p.cons_inv) a2 b2 n2]
end
section
variable {X:Cx}{π:aB}{σ:St}{H:Hp}{s:Shared}
theorem Inv.track{D:Addr}{its:aG}{ys:List V}{n:Nat}(I:Inv X π σ H s)(hD:H D=none)(f:FpOk X π H D)(hn:X.s₀.heap.objs.size<=D)(ho:s.heap.get? D=some { cls := .type "list",data := .seq its.toArray n })(hv:Vals ys its)(hz:ys.length<=sizeLine):
   Inv X π σ (upd H D (.lst ys)) s:=by
 obtain⟨f0,f1,f2,f3,f4,f5⟩:=f;have ne:∀ b o,X.s₀.heap.get? b=some o->b≠D:=λb o e z=>by
   subst z;exact absurd (wt (wo e) hn) (wT _)
 have nH:∀ b o,H b=some o->b≠D:=λb o e z=>by rw[z,hD]at e;cases e
 refine⟨I.ok,I.os,I.bare,⟨I.base.keep,I.base.slot,λb o e q hx=>?_,I.base.there,λb xs e=>?_,λb o u e=>?_,λb ps _ e=>?_⟩,I.loc,I.cell,?_,λx c e=>?_,λp hp=>?_,λa o e=>?_,I.len⟩
 · rw[i6 (ne b o e)];exact I.base.free b o e q hx
 · have:=I.base.tups b xs e;rw[i6 (nH b _ this)];exact this
 · have:=I.base.frzs b o u e;rw[i6 (nH b _ this)];exact this
 · have this:=I.base.tbls b ps _ e;rw[i6 (nH b _ this)];exact this
 · rw[i6 (Ne.symm f1)];exact I.free
 · rw[i6 (f4 x c e)];exact I.freeC x c e
 · obtain⟨q1,q2,q3⟩:=I.pin p hp;exact⟨q1,by rw[i6 (f5 p hp)];exact q2,q3⟩
 · by_cases z:a=D
   · subst z;rw[i7]at e;cases e;exact⟨hz,its,n,hv,ho⟩
   · rw[i6 z]at e;refine(I.hok a o e).stay (λb u _ q=>q) (λb q=>?_) (λb xs q=>?_) (λb _ _ q=>?_)
     · rw[i6 (nH b _ q)];exact q
     · rw[i6 (nH b _ q)];exact q
     · rw[i6 (nH b _ q)];exact q
theorem ns_inj{h:Heap}{a:Addr}{m m':aF}(p:h.Ns a m)(q:h.Ns a m'):m=m':=by
 obtain⟨o,es,ep,e,d,_,f⟩:=p;obtain⟨o',es',ep',e',d',_,f'⟩:=q;rw[e]at e';cases e';rw[d]at d';cases d'
 funext x
 rw[←f x,←f' x]
def EL(base:Heap)(L a b:Addr)(h:Heap):aB:=(List.range h.objs.size).filterMap λc=>match h.get? c with
 | some o=>if base.get? c=none/\c≠L/\c≠a/\c≠b then some (c,o) else none
 | none=>none
theorem Mc{base:Heap}{L a b c:Addr}{h:Heap}{o:Obj}(e:h.get? c=some o)(h1:base.get? c=none)(h2:c≠L)(h3:c≠a)(h4:c≠b):(c,o)∈EL base L a b h :=
 Wx.mpr ⟨c,wM.mpr (wo e),by rw[e];simp[h1,h2,h3,h4]⟩
theorem Cq{base:Heap}{L a b:Addr}{h:Heap}{p:Addr×Obj}(hp:p∈EL base L a b h):h.get? p.1=some p.2/\base.get? p.1=none/\p.1≠L/\p.1≠a/\p.1≠b:=by
 obtain⟨c,hc,e⟩:=Wx.mp hp;cases q:h.get? c with
 | none=>rw[q]at e;cases e
 | some o =>
  rw[q]at e;dsimp only at e;split at e
  · rename_i hh;cases e;exact⟨q,hh⟩
  · cases e
theorem Inv.turnedN{h':Heap}{t':Nat}{ch:List Addr}{m:aF}(I:Inv X π σ H s)(hm:s.heap.Ns X.env.locals m)(hm':h'.Ns X.env.locals m)(hl:∃ o,h'.get? X.env.locals=some o)(k:∀ b o,b ∉ ch->b≠X.env.locals->s.heap.get? b=some o->h'.get? b=some o)(hc:∀ b∈ch,FpOk X π H b):
   Inv X π σ H { s with heap:=h',toks:=t' }:=by
 have nit:∀ b u,H b=some u->b ∉ ch:=λb u e z=>by rw[(hc b z).1]at e;cases e
 have nL:∀ b u,H b=some u->b≠X.env.locals:=λb u e z=>by rw[z,I.free]at e;cases e
 refine I.step (g':=s.gens) (d':=s.drawn) (ch:=ch) (λb hb=>?_) (λb o nl _ hn e _=>k b o hn nl e) (λb o nl _ hn e _=>⟨o.slots,k b o hn nl e⟩) (λ_ _ _ _ n=>n)
   (λb o hn e=>?_) (λ_ _ e=>e) (λ_ _ _ e=>e) (λ_ _ _ e=>e) (λm' hm2=>by rw[←ns_inj hm hm2];exact hm') (λb u e=>?_) I.bare
 · obtain⟨f0,f1,f2,f3,f4,f5⟩:=hc b hb;exact⟨f3,f1,f4,f5⟩
 · by_cases z:b=X.env.locals
   · subst z;exact hl
   · exact⟨o,k b o hn z e⟩
 · refine(I.hok b u e).stay (λc v hcc q=>k c v ?_ ?_ q) (λ_ q=>q) (λ_ _ q=>q) λ_ _ _ q=>q
   · rcases hcc with z|z
     · rw[z];exact nit b u e
     · exact nit c _ z
   · rcases hcc with z|z
     · rw[z];exact nL b u e
     · exact nL c _ z
end
def M2(c:FC):List Dt->Option (aH)
 | []=>some []
 | d::ds=>(c [d]).bind λr=>(intD r).bind λi=>(M2 c ds).map (i::·)
theorem AR{c:FC}:∀{ds:List Dt} {ks:aH},M2 c ds=some ks->ks.length=ds.length
 | [],ks,h=>by cases h;rfl
 | d::ds,ks,h=>by
  obtain⟨r,_,h⟩:=bind_some h;obtain⟨i,_,h⟩:=bind_some h;cases q:M2 c ds with
  | none=>rw[q]at h;cases h
  | some js=>rw[q]at h;cases h;rw[wm,wm,AR q]
theorem EM{c:FC}:∀{ds:List Dt} {ks:aH} {j:Nat} {d:Dt} {k:Int},M2 c ds=some ks->ds[j]?=some d->ks[j]?=some k->c [d]=some (.int k)
 | [],ks,j,d,k,h,e,_=>by simp at e
 | a::ds,ks,j,d,k,h,e,e'=>by
  obtain⟨r,h1,h⟩:=bind_some h;obtain⟨i,h2,h⟩:=bind_some h;cases q:M2 c ds with
  | none=>rw[q]at h;cases h
  | some js =>
   rw[q]at h;cases h;cases j with
   | zero =>
    simp at e e';subst e;subst e';rw[h1,II h2]
   | succ j=>exact EM q (by simpa using e) (by simpa using e')
section
variable {X:Cx}{π:aB}{σ:St}{H:Hp}{s:Shared}{k:Nat}{f:Addr}{fd:FuncData}{p:Str}{fr:Bool}{ct:FC}{l:Addr}{vs:List V}{ds:List Dt}{ks:aH}{Q:VK}
theorem Vr{H1:Hp}{s1:Shared}{d:Dt}{v:V}{u:Value}{n:Int}(F:FnOk X.prog X.w X.K X.mg X.base CX0 k f fd [p] (spc X.K fr ct))(hr:Room (k+2) X.A)(hb:Binds X.K fd [p] [])(I:Inv X π σ H1 s1)(r:RelV v u)(rd:Rp X.K emp d H1 v)(hc:ct [d]=some (.int n))
  {P:aC} {E:aC} (q:∀ t H2 s2,Inv X π σ H2 s2->Same H1 H2->(∀ b o,s1.heap.get? b=some o->H1 b=none->b ∉ frs X.stack->s2.heap.get? b=some o/\H2 b=none)->P (.int n t) s2):wpAny (model X.prog X.w) X.A.in1.in1 (call (.ref f) [u]) P E s1:=by
 have hr2:Room k X.A.in1.in1:=(show Room (k+1+1) X.A from hr).in1.in1;refine wpAny_call (codeAny_mono (F.run X.A.in1.in1 X.stack s1 H1 ⟨[u],[]⟩ [u] [v] (λw H2=>w = .int n/\Same H1 H2) E0 hr2 I.env0.in1.in1 (hb s1 [u] I.kIn rfl) (.cons r .nil) ⟨[d],_,Rps.one rd,hc,λw H2 sm rw'=>⟨by cases fr<;>exact Rp.int_.mp rw',sm⟩⟩) λres s2 hres=>?_);cases res with
 | error e=>exact hres.elim
 | ok fl =>
  cases fl with
  | ret w =>
   obtain⟨x,H2,os,bare,un,hok,rw',ex,sm⟩:=hres;subst ex;obtain⟨t,rfl⟩:=rw';exact q t H2 s2 (I.call' (ch:=[]) os un hok bare λb hb=>absurd hb (by simp)) sm λb o e hn hf=>⟨un.keep b o e hn hf (by simp),un.free b o e hn (by simp)⟩
  | next=>exact hres.elim
  | brk=>exact hres.elim
  | cont=>exact hres.elim
theorem IP(I:Inv X π σ H s){b:Addr}(hb:b∈frs X.stack):b<s.heap.objs.size:=by
 obtain⟨_,o,e,_⟩:=I.stack.mem hb;exact wo e
theorem QA{D kS:Addr}{e1:Nat}{its:List Value}{P:PySem.Fin→Shared→Prop}{E:Value→Shared→Prop}(F:FnOk X.prog X.w X.K X.mg X.base CX0 k f fd [p] (spc X.K fr ct))(hr:Room (k+2) X.A)(hb:Binds X.K fd [p] [])(I:Inv X π    σ H s)(rv:Vals vs its)(rs:Rps X.K emp ds H vs)(hk:M2 ct ds=some ks)(h64:ds.length<64)
  (hD:s.heap.get? D=some (seqObj "list" #[] e1)) (hS:s.heap.get? kS=some (seqObj "list" #[] 0)) (nDS:kS≠D) (fD:FpOk X π H D) (fS:FpOk X π H kS) (gD:D ∉ frs X.stack) (gS:kS ∉ frs X.stack) (sD:X.s₀.heap.objs.size<=D) (sS:X.s₀.heap.objs.size<=kS)
  (q:∀ H2 s2 (out:aG) c,Inv X π σ H2 s2->Same H H2->H2 D=none->s2.heap.get? D=some (seqObj "list" out.toArray c)->KskOut false ks its out->P (.done (.ret .none)) s2) :
  wpAny (model X.prog X.w) X.A.in1.in1 (ksk_rest D (.ref f) false its.toArray e1 (.ref kS)) P E s:=by
 have hlen:=AR hk;have l1:=rs.length;have l2:=rv.length;unfold ksk_rest;refine wpAny_bind (wpAny_rule ?_);rw[uw];refine wpAny_bind (ksk_fold (λi s'=>∃ H1 kA e,Inv X π σ H1 s'/\Same H H1/\H1 D=none/\H1 kS=none/\s'.heap.get? D=some (seqObj "list" #[] e1)/\s'.heap.get? kS=some (seqObj "list" kA e)/\IntsAre kA.toList (ks.take i)) its 0 s
  ⟨H,#[],0,I,Same.refl H,fD.1,fS.1,hD,hS,by simpa using IntsAre.nil⟩ ?step ?done)
 case step =>
  rintro j u s' hu ⟨H1,kA,e,I1,sm,d1,d2,o1,o2,hka⟩;simp only[wZ]at hka ⊢;have hj:j<its.length:=(wy.mp hu).1;obtain⟨n,hn⟩:∃ n,ks[j]?=some n:=⟨_,wa (by rfl')⟩;obtain⟨d,hd⟩:∃ d,ds[j]?=some d:=⟨_,wa (by rfl')⟩;obtain⟨v,hv,rd⟩:=rs.get hd;obtain⟨u',hu',ru⟩:=rv.get hv;rw[hu]at hu';cases hu';have hz:kA.size<=its.length:=by
    have h1:=hka.length;rw[Array.length_toList,Ww]at h1;rfl'
  refine wpAny_bind (wpAny_attempt (Vr F hr hb I1 ru (Rp.mono _ sm rd) (EM hk hd hn) λt H2 s2 I2 sm2 kk=>?_));obtain⟨p1,p2⟩:=kk D _ o1 d1 gD;obtain⟨p3,p4⟩:=kk kS _ o2 d2 gS
  try dsimp only
  have sb:=Heap.SameBut.update s2.heap kS (Obj.mapSeq (·.push (.int n t)));have g2:=get?_update_seq p3 (·.push (.int n t));have ek:ks.take (j+1)=ks.take j++[n]:=by rw[WX,hn];simp
  have ea:(kA.push (Value.int n t)).toList=kA.toList++[Value.int n t]:=by simp
  refine wpAny_bind (listUpdate_at p3 rfl ?_ (by rw[sizeLine_eq];rfl') (wB (uC (Array.size_push ..)) (by rw[sizeLine_eq];rfl')));have fS2:FpOk X π H2 kS:=⟨p4,fS.2⟩;refine wpAny_pure ⟨rfl,H2,kA.push (.int n t),_,I2.turnedL (t':=s2.toks) (ch:=[kS]) (λb o hb e=>(sb.2 b (by simpa using hb)).trans e) (λb hb=>by rw[wu.mp hb];exact fS2),sm.trans sm2,p2,p4,(sb.2 D (Ne.symm nDS)).trans p1,g2,by rw[ea,ek];exact ksk_snoc hka⟩
 case done =>
  rintro s' ⟨H1,kA,e,I1,sm,d1,d2,o1,o2,hka⟩;have hk':IntsAre kA.toList ks:=by
    rw[Wt (by rfl')]at hka;exact hka
  try dsimp only
  refine wpAny_bind (listItems_at o2 rfl ?_);obtain⟨m,hfr⟩:=I1.fr;have fD1:FpOk X π H1 D:=⟨d1,fD.2⟩;have fS1:FpOk X π H1 kS:=⟨d2,fS.2⟩;have bD:X.base.get? D=none:=vq (wB I.ok.bsz sD);have bS:X.base.get? kS=none:=vq (wB I.ok.bsz sS);refine ksk_end_ (e:=e) (news:=EL X.base X.env.locals kS D s'.heap) hfr (λz hz=>?_) nDS (λz hz=>(Cq hz).2.2.2.1) (λz hz=>(Cq hz).2.2.2.2) hk' (by rfl') (by rfl') λh' tk out c F' N' ko=>?_
  · rcases wl.mp hz with hz|hz
    · obtain⟨z1,z2,z3,_⟩:=Cq hz;exact⟨z1,z3,z2⟩
    · rcases wn.mp hz with rfl|hz
      · exact⟨o2,fS1.2.1,bS⟩
      · rw[wu.mp hz];exact⟨o1,fD1.2.1,bD⟩
  · have nd:=N' (D,seqObj "list" out c) wc;refine q H1 _ out.toList c (I1.turnedN (t':=tk) (ch:=[kS,D]) hfr.ns F'.ns (by obtain⟨o,_,_,e,_⟩:=F'.ns;exact⟨o,e⟩) (λb o hb hl eb=>?_) (λb hb=>?_)) sm d1 nd.1 ko
    · have hb2:b≠kS/\b≠D:=by simpa using hb
      cases z:X.base.get? b with
      | some o' =>
        have e2:=I1.bk b o' z;rw[eb]at e2;cases e2;exact F'.keep b _ z
      | none=>exact(N' _ (wb _ (Mc eb z hl hb2.1 hb2.2))).1
    · rcases wn.mp hb with rfl|hb
      · exact fS1
      · rw[wu.mp hb];exact fD1
theorem QB{D:Addr}{n0:Nat}{its:aG}{P:PySem.Fin->Shared->Prop}{E:aC}(F:FnOk X.prog X.w X.K X.mg X.base CX0 k f fd [p] (spc X.K fr ct))(hr:Room (k+2) X.A)(hb:Binds X.K fd [p] [])(I:Inv X π σ H s)(rv:Vals vs its)(rs:Rps X.K emp ds H vs)(hk:M2 ct ds=some ks)(h64:ds.length<64)
  (hD:s.heap.get? D=some (seqObj "list" its.toArray n0)) (fD:FpOk X π H D) (gD:D ∉ frs X.stack) (sD:X.s₀.heap.objs.size<=D)
  (q:∀ H2 s2 (out:aG) c,Inv X π σ H2 s2->Same H H2->H2 D=none->s2.heap.get? D=some (seqObj "list" out.toArray c)->KskOut false ks its out->P (.done (.ret .none)) s2) :
  wpAny (model X.prog X.w) X.A.in1.in1 (ksk_tree D (.ref f) false) P E s:=by
 have l1:=rs.length;have l2:=rv.length;have hlt:D<s.heap.objs.size:=wo hD;unfold ksk_tree;refine wpAny_bind (listItems_at hD rfl ?_);have sb:=Heap.SameBut.update s.heap D (Obj.mapSeq λ_=>(#[]:Array Value));have o1:=get?_update_seq hD λ_=>(#[]:Array Value);refine wpAny_bind (listUpdate_at hD rfl ?_ (by rw[wr,sizeLine_eq];rfl') (wx _));have I1:Inv X π σ H { s with heap:=s.heap.update D (Obj.mapSeq λ_=>(#[]:Array Value)) }:=I.turnedL (t':=s.toks) (ch:=[D]) (λb o hb e=>(sb.2 b (by simpa using hb)).trans e) (λb hb=>by rw[wu.mp hb];exact fD);refine wpAny_bind (seqEpoch_at o1 rfl ?_);refine wpAny_bind (wpAny_newTuple ?_ (by show its.length<=_;rw[sizeLine_eq];rfl'));refine wpAny_bind (wpAny_newList ?_ (wx _));refine wpAny_holding ?_;generalize hg:s.heap.update D (Obj.mapSeq λ_=>(#[]:Array Value))=g at *;have zg:g.objs.size=s.heap.objs.size:=sb.1;have I2:Inv X π σ H { s with heap:=(g.push (seqObj "tuple" its.toArray 0)).push (seqObj "list" #[] 0) }:=I1.kept (t':=s.toks) λb o e=>wd _ (wd _ e);have zk:(g.push (seqObj "tuple" its.toArray 0)).objs.size=g.objs.size+1:=size_push' _ _;have ge:s.heap.objs.size<=(g.push (seqObj "tuple" its.toArray 0)).objs.size:=by rfl'
 refine QA (s:={ s with heap:=(g.push (seqObj "tuple" its.toArray 0)).push (seqObj "list" #[] 0) }) (kS:=(g.push (seqObj "tuple" its.toArray 0)).objs.size) F hr hb I2 rv rs hk h64 (wd _ (wd _ o1)) (wp _ rfl) (WN (wt hlt ge)) fD (I.fpOk ge (I.hok.fresh ge)) gD (λz=>?_) sD (wB I.sz ge) q;exact absurd (wt (IP I z) ge) (wT _)
theorem Md(F:FnOk X.prog X.w X.K X.mg X.base CX0 k f fd [p] (spc X.K fr ct))(hr:Room (k+2) X.A)(hb:Binds X.K fd [p] [])(I:Inv X π σ H s)(hl:H l=some (.lst vs))(rs:Rps X.K emp ds H vs)(hk:M2 ct ds=some ks)(h64:ds.length<64)(nd:ks.Nodup)
  (q:∀ D H2 ys,Same H H2->H2 D=none->Rps X.K emp ((M7 (ks.zip ds)).map (·.2)) H2 ys->Q (.ref D) (upd H2 D (.lst ys))) :
  wpAny (model X.prog X.w) X.A (call (.builtin "sorted") [.ref l] [(Str.ofString "key",.ref f)]) (EP X π σ Q) X.xe s:=by
 obtain⟨its,rv,pl,hz⟩:=I.list (SqL.of (K:=X.K) hl);have l1:=rs.length;have l2:=rv.length;have l3:=AR hk;refine call_function_entry_kw kind_sorted plain_sorted entry_sorted (ksk_s1 _ _) ?_;unfold Builtin.«sorted»;refine wpAny_bind (m:=checkCount "sorted" 1 1 _) (wpAny_pure ?_);refine wpAny_bind (collect_list pl.isList ?_ (by rw[sizeLine_eq];rfl'));refine wpAny_bind (wpAny_newList ?_ (by rw[sizeLine_eq];rfl'));generalize hg:(s.heap.push (seqObj "list" #[] 0)).update s.heap.objs.size (Obj.mapSeq (·++its.toArray))=g;have zg:g.objs.size=s.heap.objs.size+1:=by rw[←hg,uI,size_push']
 have kg:∀ b o,s.heap.get? b=some o->g.get? b=some o:=λb o e=>by
  have hlt:=wo e;rw[←hg,uo _ _ _ _ (wJ hlt),vG _ _ _ (wJ hlt)];exact e
 have I1:Inv X π σ H { s with heap:=g.push (seqObj "list" its.toArray 0) }:=I.kept (t':=s.toks) λb o e=>wd _ (kg b o e);have oD:(g.push (seqObj "list" its.toArray 0)).get? g.objs.size=some (seqObj "list" its.toArray 0):=wp _ rfl;have ge:s.heap.objs.size<=g.objs.size:=by rfl'
 refine wpAny_bind (wpAny_holding (wpAny_call_entry_kw slot_list_sort ⟨_,oD,rfl⟩ entry_list_sort ?body (ksk_l1 _ _)))
 case body =>
  show wpAny (model X.prog X.w) X.A.in1.in1 (Builtin.«list.sort» ⟨[.ref g.objs.size],[(Str.ofString "key",.ref f)]⟩) _ _ _;rw[ksk_t1];refine QB (s:={ s with heap:=g.push (seqObj "list" its.toArray 0) }) F hr hb I1 rv rs hk h64 oD (I.fpOk ge (I.hok.fresh ge)) (λz=>absurd (wt (IP I z) ge) (wT _)) (wB I.sz ge) λH2 s2 out c I2 sm d2 o2 ⟨ps,pp,eo,so⟩=>⟨_,rfl,?_⟩;refine wpAny_pure ⟨_,rfl,?_⟩;have key:∃ ts:List (Int×(Dt×(V×Value))),(ts.map λt=>(t.1,t.2.2.2))=ps/\(ts.map λt=>(t.1,t.2.1))=M7 (ks.zip ds)/\∀ t∈ts,Rp X.K emp t.2.1 H t.2.2.1/\RelV t.2.2.1 t.2.2.2:=by
   refine⟨M7 (ks.zip (ds.zip (vs.zip its))),?_,?_,λt ht=>?_⟩
   · have e1:ks.zip its=(ks.zip (ds.zip (vs.zip its))).map λt=>(t.1,t.2.2.2):=by
      apply WP
      · simp;rfl'
      · intro i h1 h2;simp
     rw[←Ag (λz:Dt×(V×Value)=>z.2.2),←e1];refine EK ((F5 _).trans pp.symm) (U7 _) (so.imp λh=>by simpa using h) ?_;have:((M7 (ks.zip its)).map (·.1)).Perm ks:=((F5 (ks.zip its)).map _).trans (by rw[vN (by rfl')]);exact this.nodup_iff.mpr nd
   · have e1:ks.zip ds=(ks.zip (ds.zip (vs.zip its))).map λt=>(t.1,t.2.1):=by
      apply WP
      · simp;rfl'
      · intro i h1 h2;simp
     rw[←Ag (λz:Dt×(V×Value)=>z.1),←e1]
   · have ht:=(F5 _).mem_iff.mp ht;obtain⟨i,hi,e⟩:=wH ht;simp at hi;subst e;simp only[vj];obtain⟨v,e1,r1⟩:=rs.get (i:=i) (wa (by rfl'));obtain⟨u,e2,r2⟩:=rv.get e1;rw[wa (by rfl')]at e1 e2;cases e1;cases e2;exact⟨r1,r2⟩
  obtain⟨ts,k1,k2,k3⟩:=key;have ev:Vals (ts.map λt=>t.2.2.1) out:=by
   rw[eo,←k1,wF];clear k1 k2 eo
   induction ts with
   | nil=>exact .nil
   | cons t ts ih=>exact .cons (k3 t wc).2 (ih λz hz=>k3 z (wb _ hz))
  have er:Rps X.K emp ((M7 (ks.zip ds)).map (·.2)) H (ts.map λt=>t.2.2.1):=by
   rw[←k2,wF];clear k1 k2 eo ev
   induction ts with
   | nil=>exact Rps.nil_.mpr rfl
   | cons t ts ih=>exact Rps.cons_.mpr ⟨_,_,rfl,(k3 t wc).1,ih λz hz=>k3 z (wb _ hz)⟩
  have lt:(ts.map λt=>t.2.2.1).length<=sizeLine:=by
   rw[we,←we (f:=λt:Int×(Dt×(V×Value))=>(t.1,t.2.1)),k2,(F5 _).length_eq,WI,sizeLine_eq];rfl'
  exact⟨.ref g.objs.size,_,I2.track d2 ⟨d2,(I.fpOk ge (I.hok.fresh (H:=H) ge)).2⟩ (wB I.sz ge) (by simpa using o2) ev lt,rfl,q _ _ _ sm d2 (Rps.mono _ sm er)⟩
end
section
variable {X:Cx}{a:Expr}{Fa:FE}{k:Nat}{f:Addr}{fd:FuncData}{prm:Str}{fr:Bool}{ct:FC}{x:Str}{p pos kp kpos:Pos}
def AS(c:FC)(F:FE):FE:=λρ=>(F ρ).bind λx=>(lstD x.2).bind λds=>(M2 c ds).bind λks=>if ds.length<64/\ks.Nodup then some (newL ((M7 (ks.zip ds)).map (·.2))) else none
theorem Vs(F:FnOk X.prog X.w X.K X.mg X.base CX0 k f fd [prm] (spc X.K fr ct))(hr:Room (k+2) X.A)(hg:Gl X "sorted")(hm:X.mg "sorted" = none)(hf:X.mg x=some (.ref f))(hgf:Gl X x)(hb:Binds X.K fd [prm] [])(ha:PF X a Fa)(hd:(x==("__debug__" : Str))=false:=by decide)(hs:starEach [a] X.env=[(false,eval a X.env)]:=by rfl):
   PF X (.Call (.Name "sorted" p) [a] [⟨some "key",.Name x kp,kpos⟩] pos) (AS ct Fa):=by
 intro π s σ H Q I ⟨ρ,fz,dz,rs,e0,kk⟩;obtain⟨⟨fa,da⟩,ea,e1⟩:=bind_some e0;obtain⟨ds,ed,e2⟩:=bind_some e1;obtain⟨ks,ek,e3⟩:=bind_some e2;split at e3
 · rename_i hh;cases e3;have hA:PA X [a] (upAs X (b8 Fa fNil)):=j3 ha e9 hs;refine wpAny_Call_Name_kw (Q8 I hg hm (by decide +kernel:bootBuiltins "sorted" = some (.builtin "sorted")) ?_);refine PyProof.Rows.callWith_kw (thn (hA pos π s σ H (λvs H1=>Same H H1/\∃ va,vs=[va]/\Rp X.K emp da H1 va) I ⟨ρ,[(fa,da)],rs,by simp[b8,fNil,ea],λvs H1 s1 ⟨va,r1,ee1,q1,q3⟩=>⟨s1,va,by rw[ee1,show r1=[]from q3],q1.sh⟩⟩) λus s1 ⟨vs,H1,I1,rv,s1H,va,ev,ra⟩=>?_) (by rw[hs];rfl) (by rw[hs];rfl) rfl rfl;subst ev;obtain⟨ua,rfl,rua⟩:=rv.one;have hkw:=Iz (X:=X) (nm:=some "key") (kpos:=kpos) (OW (v:=V.ref f) (pos:=kp) hgf hf rfl hd) LJ;refine thn (hkw pos π s1 σ H1 (λzs H2=>zs=[.ref f]/\H2=H1) I1 ⟨rfl,rfl⟩) ?_;rintro kvs s2 ⟨zs,H2,I2,rz,ez,eH⟩;subst ez;subst eH;obtain⟨uk,rfl,ruk⟩:=rz.one;cases ruk;have ex:∃ l vs,va = .ref l/\H2 l=some (.lst vs)/\Rps X.K emp ds H2 vs:=by
    cases da<;>first|cases ed|skip
    obtain⟨l,vs,e,_,h1,h2⟩:=ra.items;exact⟨l,vs,e,h1,h2⟩
   obtain⟨l,vs,rfl,h1,h2⟩:=ex;cases rua;refine Md F hr hb I2 h1 h2 ek hh.1 hh.2 λD H3 ys sm d3 r3=>kk _ _ (s1H.trans (sm.trans (j6 d3))) ?_;exact(Eb d3 r3).early (s1H.trans sm)
 · cases e3
end
end L2

end
section
namespace L2
open PySem PySem.Spec PyProof.Rows
section
variable {κ:Type}[DecidableEq κ]
def valV(kvs:List (κ×V))(k:κ):Option V:=(kvs.find? λkv=>decide (kv.1=k)).map (·.2)
def putK(kvs:List (κ×V))(k:κ)(v:V):List (κ×V) :=
 if(kvs.any λkv=>decide (kv.1=k))=true then kvs.map (λkv=>if kv.1=k then(kv.1,v) else kv) else kvs++[(k,v)]
theorem BD{p:κ×V}{r:List (κ×V)}{k:κ}(e:p.1=k):valV (p::r) k=some p.2:=by simp[valV,WJ,e]
theorem BE{p:κ×V}{r:List (κ×V)}{k:κ}(e:¬p.1=k):valV (p::r) k=valV r k:=by simp[valV,WJ,e]
theorem EN(k:κ):∀ kvs:List (κ×V),(kvs.any λkv=>decide (kv.1=k))=(valV kvs k).isSome
 | []=>rfl
 | p::r=>by
  rw[List.any_cons];by_cases e:p.1=k
  · simp only[BD e,decide_eq_true e,Bool.true_or,ut]
  · rw[BE e,decide_eq_false e,Bool.false_or];exact EN k r
theorem Kf(kvs:List (κ×V))(k:κ)(v:V):(putK kvs k v).length<=kvs.length+1:=by
 unfold putK;split
 · rw[we];rfl'
 · rw[ww,wm,uU];rfl'
theorem Kg{kvs:List (κ×V)}{k:κ}(v:V)(h:valV kvs k=none):putK kvs k v=kvs++[(k,v)]:=by
 unfold putK;rw[EN,h];exact if_neg (by decide)
theorem RelO.isSome_eq{o:Option V}{u:Option Value}(r:RelO o u):o.isSome=u.isSome:=by
 cases o with
 | none=>cases u with
  | none=>rfl
  | some _=>exact(show False from r).elim
 | some _=>cases u with
  | none=>exact(show False from r).elim
  | some _=>rfl
end
theorem kV_is{P:Program}{w:World}{k:Key}{u:Value}(r:RelV (kV k) u):(E8 P w).is k u=true:=by
 cases k with
 | inl i=>obtain⟨t,e⟩:=(show ∃ t,u=Value.int i t from r);subst e;exact Jz P w i t
 | inr x=>obtain⟨t,e⟩:=(show ∃ t,u=Value.str x t from r);subst e;exact JA P w x t
theorem Hf{P:Program}{w:World}:∀{ks:List Key} {us:aG},Vals (ks.map kV) us->ItemsAre (E8 P w) ks us
 | [],_,r=>by rw[vW]at r;cases r;exact .nil
 | k::ks,_,r=>by
  rw[wj]at r;cases r with
  | cons h t=>exact .cons (kV_is h) (Hf t)
abbrev KT(H:Hp):List (List Key×V)->List (List Key×Addr×Value)->Prop:=Paired λp q=>p.1=q.1/\H q.2.1=some (.tup (p.1.map kV))/\RelV p.2 q.2.2
theorem KT.val{H:Hp}{kvs:List (List Key×V)}{xs:List (List Key×Addr×Value)}(r:KT H kvs xs)(k:List Key):RelO (valV kvs k) ((atKey xs k).map (·.2)):=by
 induction r with
 | nil=>exact True.intro
 | @cons p q ps qs h t ih =>
  obtain⟨h1,_,h2⟩:=h;by_cases e:p.1=k
  · have e':q.1=k:=h1.symm.trans e;have b:atKey (q::qs) k=some q.2:=by simp[atKey,WJ,e']
    rw[BD e,b];exact h2
  · have e':¬q.1=k:=λz=>e (h1.trans z);have b:atKey (q::qs) k=atKey qs k:=by simp[atKey,WJ,e']
    rw[BE e,b];exact ih
theorem KT.repl{H:Hp}{kvs:List (List Key×V)}{xs:List (List Key×Addr×Value)}(r:KT H kvs xs)(k:List Key){y:V}{u:Value}(ry:RelV y u):
  KT H (kvs.map λkv=>if kv.1=k then(kv.1,y) else kv) (xs.map (putAt k u)):=by
 induction r with
 | nil=>exact .nil
 | @cons p q ps qs h t ih =>
  rw[wj,wj];refine .cons ?_ ih;obtain⟨h1,h2,h3⟩:=h;unfold putAt;by_cases e:p.1=k
  · rw[if_pos e,if_pos (h1.symm.trans e)];exact⟨h1,h2,ry⟩
  · rw[if_neg e,if_neg (λz=>e (h1.trans z))];exact⟨h1,h2,h3⟩
theorem KT.put{H:Hp}{kvs:List (List Key×V)}{xs:List (List Key×Addr×Value)}(r:KT H kvs xs)(k:List Key){b:Addr}{y:V}{u:Value}(hb:H b=some (.tup (k.map kV)))(ry:RelV y u):
   KT H (putK kvs k y) (storedH xs k b u):=by
 have e:(kvs.any λkv=>decide (kv.1=k))=(atKey xs k).isSome:=by
   rw[EN,(r.val k).isSome_eq,vH]
 unfold putK storedH;rw[e];by_cases q:(atKey xs k).isSome=true
 · rw[if_pos q,if_pos q];exact r.repl k ry
 · rw[if_neg q,if_neg q];exact Paired.snoc r ⟨rfl,hb,ry⟩
theorem KT.keeps{H H':Hp}{kvs:List (List Key×V)}{xs:List (List Key×Addr×Value)}(r:KT H kvs xs)(ht:∀ b ys,H b=some (.tup ys)->H' b=some (.tup ys)):KT H' kvs xs :=
 Paired.mapP r λ_ _ z=>⟨z.1,ht _ _ z.2.1,z.2.2⟩
section
variable {P:Program}{w:World}{H:Hp}{h:Heap}{a:Addr}
theorem rd_of{u:HO}(ok:HOk P w H h)(e:Rd H a u):ObjOk P w H h a u:=e.ok ok
theorem Cr{ks:List Key}(ok:HOk P w H h)(e:H a=some (.tup (ks.map kV))):(tupleKind (E8 P w)).is h ks a:=by
 obtain⟨_,its,r,o,h1,h2,n,h3⟩:=(show ObjOk P w H h a (.tup (ks.map kV))from ok a _ e);exact⟨o,its.toArray,n,h1,h2,h3,by simpa using Hf r⟩
theorem dt_rd{kvs:List (List Key×V)}(ok:HOk P w H h)(e:Rd H a (.dT kvs)):kvs.length<=sizeLine/\(a==sysModules)=false /\
  ∃ xs,KT H kvs xs/\h.DictOfH (tupleKind (E8 P w)) a xs:=by
 obtain⟨z,y,xs,r,o,es,ep,h1,h2,h3,h4,h5⟩:=(show ObjOk P w H h a (.dT kvs)from rd_of ok e);refine⟨z,y,xs,r,o,es,ep,h1,h2,h3,h4,λx hx=>?_,h5⟩;have all:∀{l:List (List Key×V)} {m:List (List Key×Addr×Value)},KT H l m->∀ x∈m,(tupleKind (E8 P w)).is h x.1 x.2.1:=by
  intro l m q
  induction q with
  | nil=>intro x hx;exact nomatch hx
  | @cons p q ps qs hq t ih =>
   intro x hx;rcases wn.mp hx with e|hx
   · subst e;exact Cr ok (by rw[←hq.1];exact hq.2.1)
   · exact ih x hx
 exact all r x hx
theorem Hg{kvs:List (List Key×V)}(ok:HOk P w H h)(e:H a=some (.dT kvs)):kvs.length<=sizeLine/\(a==sysModules)=false /\
 ∃ xs,KT H kvs xs/\h.DictOfH (tupleKind (E8 P w)) a xs:=dt_rd ok (.inl e)
end
abbrev kI(ns:aH):List Key:=ns.map Sum.inl
theorem EO(ns:aH):(kI ns).map kV=ns.map V.int:=by rw[wF];rfl
section
variable {X:Cx}{π:aB}{σ:St}{H:Hp}{s:Shared}{a b:Addr}{k:List Key}{kvs:List (List Key×V)}{v:V}{r:Value}{A:Around}{E:aC}
theorem Inv.big(I:Inv X π σ H s):sysModules<s.heap.objs.size:=by
 have h:mainGlobals<s.heap.objs.size:=(I.mod.glob.keeps I.bk).lt;exact uB (by decide) h
theorem Me{Q:aC}(hu:A.units+1<cLine)(I:Inv X π σ H s)(e:H a=some (.dT kvs))(eb:H b=some (.tup (k.map kV)))(l:valV kvs k=some v)(h:∀ w' s',Inv X π σ H s'->RelV v w'->Q w' s'):
  wpAny (model X.prog X.w) A (getItem (.ref a) (.ref b)) Q E s:=by
 obtain⟨z,hd,xs,rel,dd⟩:=Hg I.hok e;obtain⟨w',hw,rw'⟩:=RelO.some_of (v:=v) (o:=(atKey xs k).map (·.2)) (by rw[←l];exact rel.val k);obtain⟨p,hp,hp2⟩:=Wf.mp hw;refine wpAny_getItem_heap (tupleKind_room_in1 hu) (Cr I.hok eb) dd hp ?_;rw[hp2];exact h w' _ (I.tok _) rw'
theorem Sc{Q:aC}(hu:A.units+1<cLine)(I:Inv X π σ H s)(e:H a=some (.dT kvs))(eb:H b=some (.tup (k.map kV)))(h:∀ s',Inv X π σ H s'->Q (.bool (!(valV kvs k).isSome)) s'):
  wpAny (model X.prog X.w) A (compareOp .NotIn (.ref b) (.ref a)) Q E s:=by
 obtain⟨z,hd,xs,rel,dd⟩:=Hg I.hok e;refine wpAny_notIn_heap (tupleKind_room_in1 hu) (Cr I.hok eb) hd dd ?_;have q:=(rel.val k).isSome_eq;rw[vH]at q;rw[←q];exact h _ (I.tok _)
theorem dt_in{Q:aC}(hu:A.units+1<cLine)(I:Inv X π σ H s)(e:H a=some (.dT kvs))(eb:H b=some (.tup (k.map kV)))(h:∀ s',Inv X π σ H s'->Q (.bool (valV kvs k).isSome) s'):
  wpAny (model X.prog X.w) A (compareOp .In (.ref b) (.ref a)) Q E s:=by
 obtain⟨z,hd,xs,rel,dd⟩:=Hg I.hok e;refine wpAny_in_heap (tupleKind_room_in1 hu) (Cr I.hok eb) hd dd ?_;have q:=(rel.val k).isSome_eq;rw[vH]at q;rw[←q];exact h _ (I.tok _)
theorem Sd{h':Heap}{t':Nat}{ob:HO}(I:Inv X π σ H s)(mu:Mut (H a))(hs:Heap.SameBut a s.heap h')(he:∃ q,h'.get? a=some q)(new:ObjOk X.prog X.w (upd H a ob) h' a ob):
  Inv X π σ (upd H a ob) { s with heap:=h',toks:=t' } :=
 I.write (x:=a) (e:=a) mu (.inl rfl) (λb q hb z=>(hs.2 b hb).trans z) he new
theorem Se{h':Heap}{t':Nat}{xs:List (List Key×Addr×Value)}(I:Inv X π σ H s)(e:H a=some (.dT kvs))(eb:H b=some (.tup (k.map kV)))(l:kvs.length<sizeLine)(hd:(a==sysModules)=false)(rel:KT H kvs xs)(rv:RelV v r)(dd:h'.DictOfH (tupleKind (E8 X.prog X.w)) a (storedH xs k b r))(hs:Heap.SameBut a s.heap h'):
  Inv X π σ (upd H a (.dT (putK kvs k v))) { s with heap:=h',toks:=t' }:=by
 have hl:(putK kvs k v).length<=sizeLine:=by have:=Kf kvs k v;rfl'
 obtain⟨q,es,ep,hq,h2,h3,h4,_,h5⟩:=dd;refine Sd I (by rw[e];exact True.intro) hs ⟨q,hq⟩ ⟨hl,hd,_,(rel.put k eb rv).keeps λc ys ec=>?_,q,es,ep,hq,h2,h3,h4,h5⟩;rw[i6 (X8 ec e (λz=>nomatch z))];exact ec
theorem Mf{Q:Unit->Shared->Prop}(hu:A.units+1<cLine)(I:Inv X π σ H s)(e:H a=some (.dT kvs))(eb:H b=some (.tup (k.map kV)))(l:kvs.length<sizeLine)(rv:RelV v r)(h:∀ s',Inv X π σ (upd H a (.dT (putK kvs k v))) s'->Q () s'):
  wpAny (model X.prog X.w) A (setItem (.ref a) (.ref b) r) Q E s:=by
 obtain⟨z,hd,xs,rel,dd⟩:=Hg I.hok e;have hz:xs.length<=sizeLine:=by rw[←Paired.length rel];exact z
 exact wpAny_setItem_heap (hsz:=hz) (tupleKind_room_in1 hu) (Cr I.hok eb) dd λh' dd' hs=>h _ (Se I e eb l hd rel rv dd' hs)
theorem Mg{Q:Unit->Shared->Prop}(hu:A.units<cLine)(I:Inv X π σ H s)(e:H a=some (.dT kvs))(eb:H b=some (.tup (k.map kV)))(l:kvs.length<sizeLine)(rv:RelV v r)(h:∀ s',Inv X π σ (upd H a (.dT (putK kvs k v))) s'->Q () s'):
  wpAny (model X.prog X.w) A (dictSet a (.ref b) r) Q E s:=by
 obtain⟨z,hd,xs,rel,dd⟩:=Hg I.hok e;have hz:xs.length<=sizeLine:=by rw[←Paired.length rel];exact z
 exact wpAny_dictSet_heap (hsz:=hz) hu (Cr I.hok eb) dd λh' dd' hs=>h _ (Se I e eb l hd rel rv dd' hs)
theorem QC(I:Inv X π σ H s)(e:H a=some (.dT kvs)):s.TypeIs (.ref a) "dict" := by
 obtain⟨_,_,xs,_,dd⟩:=Hg I.hok e;exact dd.typeIs
end
def NoSl(i:Expr):Prop:=∀ ov iv,subscripted i false ov iv=operate [ov,iv] (getItem ov iv)
theorem Vt{prog:Program}{w:World}{A:Around}{E:aC}{s:Shared}{env:Env}{value slice:Expr}{pos:Pos}{T id:String}{Q:aC}
  (hl:typeLookup (.type T) "__getitem__" = pure (some (.builtin id))) (hs:NoSl slice)
  (h:wpAny (model prog w) A (eval value env) (λo s₁=>wpAny (model prog w) A (eval slice env) (λi s₂=>s₂.TypeIs o T/\wpAny (model prog w) A (getItem o i) Q E s₂) E s₁) E s) :
  wpAny (model prog w) A (eval (.Subscript value slice pos) env) Q E s:=by
 refine Subscript_ (wpAny_mono h (λo s₁ h₁=>wpAny_mono h₁ (λi s₂ h₂=>?_) λ_ _ x=>x) λ_ _ x=>x);obtain⟨hT,h₂⟩:=h₂;unfold subscriptTail;refine wpAny_bind ?_;rw[getitemInPython_of_ne hT.not_modules];refine wpAny_bind (wpAny_specialOf hT hl ?_);have fin:wpAny (model prog w) A (subscripted slice false o i) (λr s₃=>wpAny (model prog w) A (letTemporaryGo value o r >>= λ_=>pure r) Q E s₃) E s₂:=by
  rw[hs o i];exact wpAny_operating (wpAny_mono h₂ (λr s₃ h₃=>wpAny_bind (wpAny_letTemporaryGo (wpAny_pure h₃))) λ_ _ x=>x)
 first
  | exact wpAny_pure (wpAny_bind fin)
  | exact wpAny_bind (wpAny_pure (wpAny_bind fin))
  | exact wpAny_bind fin
def tDGet(td ty:TE):TE:=λσ H Q=>td σ H λx H1=>ty σ H1 λy H2=>∃ a b kvs k v,x = .ref a/\y = .ref b/\H2 a=some (.dT kvs)/\H2 b=some (.tup (k.map kV))/\valV kvs k=some v/\Q v H2
def tDIn(f:Bool->Bool)(ty td:TE):TE:=λσ H Q=>ty σ H λy H1=>td σ H1 λx H2=>∃ a b kvs k,x = .ref a/\y = .ref b/\H2 a=some (.dT kvs)/\H2 b=some (.tup (k.map kV))/\Q (.bl (f (valV kvs k).isSome)) H2
def Sf(td ty tv:TE):TS:=λD σ H=>tv σ H λv H1=>td σ H1 λx H2=>ty σ H2 λy H3=>∃ a b kvs k,x = .ref a/\y = .ref b/\H3 a=some (.dT kvs)/\H3 b=some (.tup (k.map kV))/\kvs.length<sizeLine/\D.nx σ (upd H3 a (.dT (putK kvs k v)))
theorem Kh{P:Program}{w:World}{H:Hp}(h:Heap)(hb:sysModules<h.objs.size):ObjOk P w H (h.push { cls := .type "dict",data := .dict #[] }) h.objs.size (.dT []) :=
 ⟨wx _,beq_eq_false_iff_ne.mpr (Ne.symm (wJ hb)),[],.nil,_,#[],0,wp _ rfl,⟨rfl,rfl,rfl⟩,rfl,rfl,WW⟩
def Sg:TE:=λ_ H Q=>∀ p,H p=none->Q (.ref p) (upd H p (.dT []))
def tDOne(ty tv:TE):TE:=λσ H Q=>∀ p,H p=none->ty σ (upd H p (.dT [])) λy H1=>tv σ H1 λv H2=>∃ b k,y = .ref b/\H2 b=some (.tup (k.map kV))/\H2 p=some (.dT [])/\Q (.ref p) (upd H2 p (.dT [(k,v)]))
section
variable {X:Cx}{o i e value:Expr}{pos pos' tpos:Pos}{td ty tv:TE}
theorem Vu(hu:X.A.units+1<cLine)(ho:PE X o td)(hi:PE X i ty)(hs:NoSl i):PE X (.Subscript o i pos) (tDGet td ty):=by
 intro π s σ H Q I h;refine Vt PySem.F.slot_dict_getitem.lookup hs (thn (ho π s σ H _ I h) λu s1 ⟨x,H1,I1,rx,q1⟩=>thn (hi π s1 σ H1 _ I1 q1) λiv s2 ⟨y,H2,I2,ry,a,b,kvs,k,v,ex,ey,g1,g2,l,q2⟩=>?_);subst ex ey;obtain rfl:u=Value.ref a:=rx;obtain rfl:iv=Value.ref b:=ry;exact⟨QC I2 g1,Me hu I2 g1 g2 l λw' s3 I3 rw'=>⟨v,H2,I3,rw',q2⟩⟩
theorem pc_din(hu:X.A.units+1<cLine)(hi:PE X i ty)(ho:PE X o td):PC X .In i o (tDIn id ty td):=by
 intro π s σ H Q I h;refine thn (hi π s σ H _ I h) λiv s1 ⟨y,H1,I1,ry,q1⟩=>thn (ho π s1 σ H1 _ I1 q1) λu s2 ⟨x,H2,I2,rx,a,b,kvs,k,ex,ey,g1,g2,q2⟩=>?_;subst ex ey;obtain rfl:u=Value.ref a:=rx;obtain rfl:iv=Value.ref b:=ry;exact dt_in hu I2 g1 g2 λs3 I3=>⟨.bl (valV kvs k).isSome,H2,I3,rfl,q2⟩
theorem Hi(hu:X.A.units+1<cLine)(hi:PE X i ty)(ho:PE X o td):PC X .NotIn i o (tDIn not ty td):=by
 intro π s σ H Q I h;refine thn (hi π s σ H _ I h) λiv s1 ⟨y,H1,I1,ry,q1⟩=>thn (ho π s1 σ H1 _ I1 q1) λu s2 ⟨x,H2,I2,rx,a,b,kvs,k,ex,ey,g1,g2,q2⟩=>?_;subst ex ey;obtain rfl:u=Value.ref a:=rx;obtain rfl:iv=Value.ref b:=ry;exact Sc hu I2 g1 g2 λs3 I3=>⟨.bl (!(valV kvs k).isSome),H2,I3,rfl,q2⟩
theorem Pq(hu:X.A.units+1<cLine)(ho:PE X o td)(hi:PE X i ty)(hv:PE X value tv)(hs:swapsWith value (some (.Subscript o i pos')) pos.line X.env=pure false):
  PS X (.Assign [.Subscript o i pos'] value pos) (Sf td ty tv):=by
 intro π s σ H D I h;refine wpAny_Assign_Subscript (thn (hv π s σ H _ I h) λr s1 ⟨v,H1,I1,rv,q1⟩=>thn (ho π s1 σ H1 _ I1 q1) λu s2 ⟨x,H2,I2,rx,q2⟩=>thn (hi π s2 σ H2 _ I2 q2) λiv s3 ⟨y,H3,I3,ry,a,b,kvs,k,ex,ey,g1,g2,l,q3⟩=>?_) hs;subst ex ey;obtain rfl:u=Value.ref a:=rx;obtain rfl:iv=Value.ref b:=ry;exact Mf hu I3 g1 g2 l rv λs4 I4=>⟨σ,_,I4,q3⟩
theorem Vv:PE X (.Dict [] [] pos) Sg:=λπ s σ H Q I h =>
 wpAny_Dict_empty ⟨.ref s.heap.objs.size,_,I.laid (a:=s.heap.objs.size) (o := .dT []) (t':=s.toks) (λ_ _ q=>wd _ q) (wf _) (Kh s.heap I.big),rfl,h _ (I.hok.fresh (wf _))⟩
theorem Vw(hu:X.A.units<cLine)(hi:PE X i ty)(hv:PE X value tv):PE X (.Dict [some i] [value] pos) (tDOne ty tv):=by
 intro π s σ H Q I q;have hn:=I.hok.fresh (wf s.heap.objs.size);have I1:=I.laid (a:=s.heap.objs.size) (o := .dT []) (h':=s.heap.push { cls := .type "dict",data := .dict #[] }) (t':=s.toks) (λ_ _ q=>wd _ q) (wf _) (Kh s.heap I.big);refine wpAny_Dict_any rfl rfl (by simp) (Nat.le_of_ble_eq_true rfl) (pairTrees_cons_walk (thn (hi π _ σ _ _ I1 (q _ hn)) λu s1 ⟨y,H1,I1,ry,q1⟩=>thn (hv π s1 σ H1 _ I1 q1) λw2 s2 ⟨v,H2,I2,rv,b,k,ey,g1,g2,q2⟩=>pairTrees_nil_walk ?_));subst ey;obtain rfl:u=Value.ref b:=ry;unfold storeAll;rw[WT];refine wpAny_bind (wpAny_bind (Mg hu I2 g2 g1 (by decide) rv λs3 I3=>wpAny_pure ?_));show wpAny _ _ (forIn [] PUnit.unit _) _ _ _;rw[WM];exact wpAny_pure ⟨.ref s.heap.objs.size,_,I3,rfl,q2⟩
end
end L2

end
section
namespace L2
open PySem PySem.Spec PyProof.Rows
section
variable {prog:Program}{w:World}{A:Around}{E:aC}{s:Shared}{a₀:Array Keyed}{κ:PyProof.Rows.KeyKind}{st:SortSt}
def U8(prog:Program)(w:World)(A:Around)(s:Shared)(a₀:Array Keyed)(κ:PyProof.Rows.KeyKind):Prop :=
 ∀(x y p q:Value) (a b:κ.α) {Q:Bool->Shared->Prop} {E:aC},(x,p)∈a₀.toList->(y,q)∈a₀.toList->κ.keyOf x=some a->κ.keyOf y=some b->Q (κ.blt a b) s->wpAny (model prog w) A (oneLt' true x y) Q E s
theorem h_mem(B:SBase a₀ st){i:Nat}{z:Keyed}(e:(arrOf st)[i]?=some z):z∈a₀.toList:=by
 have h:z∈(arrOf st).toList:=by
  rw[←Array.getElem?_toList]at e;exact Wd e
 exact(Array.perm_iff_toList_perm.mp B.perm).mem_iff.mp h
theorem h_lt{i j:Nat}{Q:Option Bool->SortSt->Prop}(lt:U8 prog w A s a₀ κ)(hk:PyProof.Rows.KeysOf κ a₀)(B:SBase a₀ st)(hi:i<a₀.size)(hj:j<a₀.size)(q:Q (some (κ.blt (KK κ (arrOf st) i) (KK κ (arrOf st) j))) st):
  wpS (model prog w) A E s (ltAt' i j) Q st:=by
 obtain⟨x,p,a,e1,k1,z1⟩:=B.atK hk hi;obtain⟨y,p',b,e2,k2,z2⟩:=B.atK hk hj;rw[z1,z2]at q;rw[ltAt'_eq];refine wpS_bind (wpS_get ?_)
 try dsimp only
 rw[elem'_eq,e1];refine wpS_bind (wpS_pure ?_);rw[elem'_eq,e2];refine wpS_bind (wpS_pure ?_);rw[lt'_eq];refine wpS_bind (wpS_get ?_);refine wpS_bind (wpS_lift (wpAny_attempt ?_));rw[B.kind,keyLt'_oneType];exact lt x y p p' a b (h_mem B e1) (h_mem B e2) k1 k2 ⟨rfl,wpS_pure q⟩
theorem h_asc{a nrem:Nat}{Q:AscSt->SortSt->Prop}(lt:U8 prog w A s a₀ κ)(hk:PyProof.Rows.KeysOf κ a₀)(hn:nrem<=a₀.size)(h1:1<=a)(ha:a<=nrem)(B:SBase a₀ st)(so:SortedToK κ (arrOf st) a)
   (q:∀ n,a<=n->n<=nrem->SortedToK κ (arrOf st) n->n=nrem\/κ.klt (KK κ (arrOf st) n) (KK κ (arrOf st) (n-1))->Q (none,n) st):wpS (model prog w) A E s (ascLoop a nrem) Q st:=by
 unfold ascLoop;refine wpS_forRange (λi c st'=>st'=st/\c=(none,i)/\SortedToK κ (arrOf st) i) ?_ ?_ ⟨rfl,rfl,so⟩
 · rintro i c st' h2 h3 ⟨rfl,rfl,so'⟩;refine wpS_bind (h_lt lt hk B (by show i<_;rfl') (by show i-1<_;rfl') ?_)
   try dsimp only
   cases e:κ.blt (KK κ (arrOf st') i) (KK κ (arrOf st') (i-1)) with
   | true =>
    rw[if_pos rfl];exact wpS_pure (q i h2 (by rfl') so' (.inr e))
   | false =>
    rw[if_neg (by decide)];refine wpS_pure ⟨rfl,rfl,λx y hxy hy=>?_⟩;by_cases z:y=i
    · subst z;by_cases z2:x=y
      · subst z2;exact KeyOrd.kle_refl _
      · exact KeyOrd.kle_trans (so' x (y-1) (by rfl') (by rfl')) e
    · exact so' x y hxy (by rfl')
 · rintro c st' ⟨rfl,rfl,so'⟩;rw[vO ha]at so' ⊢;exact q nrem ha (wf _) so' (.inl rfl)
theorem h_desc{n nrem:Nat}{Q:DescSt->SortSt->Prop}(lt:U8 prog w A s a₀ κ)(hk:PyProof.Rows.KeysOf κ a₀)(hn:nrem<=a₀.size)(h1:1<=n)(ha:n<=nrem)(B:SBase a₀ st)(so:NonIncK κ (arrOf st) n)
   (nd:∀ i j,i<a₀.size->j<a₀.size->i≠j->KK κ (arrOf st) i≠KK κ (arrOf st) j)
   (q:∀ m,n<=m->m<=nrem->NonIncK κ (arrOf st) m->Q (none,m,0) st):wpS (model prog w) A E s (descLoop n nrem) Q st:=by
 unfold descLoop;refine wpS_forRange (λi c st'=>st'=st/\c=(none,i,0)/\NonIncK κ (arrOf st) i) ?_ ?_ ⟨rfl,rfl,so⟩
 · rintro i c st' h2 h3 ⟨rfl,rfl,so'⟩;refine wpS_bind (h_lt lt hk B (by show i<_;rfl') (by show i-1<_;rfl') ?_)
   try dsimp only
   cases e:κ.blt (KK κ (arrOf st') i) (KK κ (arrOf st') (i-1)) with
   | true =>
    rw[if_pos rfl,if_neg (by decide)];refine wpS_pure ⟨rfl,rfl,λx y hxy hy=>?_⟩;by_cases z:y=i
    · subst z;by_cases z2:x=y
      · subst z2;exact KeyOrd.kle_refl _
      · exact KeyOrd.kle_trans (KeyOrd.kle_of_klt e) (so' x (y-1) (by rfl') (by rfl'))
    · exact so' x y hxy (by rfl')
   | false =>
    rw[if_neg (by decide)];refine wpS_bind (h_lt lt hk B (by show i-1<_;rfl') (by show i<_;rfl') ?_)
    try dsimp only
    cases e2:κ.blt (KK κ (arrOf st') (i-1)) (KK κ (arrOf st') i) with
    | true =>
      rw[if_pos rfl];exact wpS_pure (q i h2 (by rfl') so')
    | false=>exact absurd (κ.total _ _ e e2) (nd i (i-1) (by rfl') (by rfl') (by rfl'))
 · rintro c st' ⟨rfl,rfl,so'⟩;rw[vO ha]at so' ⊢;exact q nrem ha (wf _) so'
theorem h_nd(hk:PyProof.Rows.KeysOf κ a₀)(nd:(a₀.toList.map λp=>κ.keyOf p.1).Nodup)(B:SBase a₀ st):∀ i j,i<a₀.size->j<a₀.size->i≠j->KK κ (arrOf st) i≠KK κ (arrOf st) j:=by
 intro i j hi hj hij e;have pm:((arrOf st).toList.map λp=>κ.keyOf p.1).Perm (a₀.toList.map λp=>κ.keyOf p.1):=(Array.perm_iff_toList_perm.mp B.perm).map _;have nd':=pm.nodup_iff.mpr nd;obtain⟨x,p,a,e1,k1,z1⟩:=B.atK hk hi;obtain⟨y,p',b,e2,k2,z2⟩:=B.atK hk hj;rw[z1,z2]at e;subst e;have l:=B.size;have g1:((arrOf st).toList.map λp=>κ.keyOf p.1)[i]?=some (some a):=by rw[wq,Array.getElem?_toList,e1];exact congrArg some k1
 have g2:((arrOf st).toList.map λp=>κ.keyOf p.1)[j]?=some (some a):=by rw[wq,Array.getElem?_toList,e2];exact congrArg some k2
 exact hij ((List.getElem?_inj (by simpa[l]using hi) nd').mp (g1.trans g2.symm))
theorem Vx{n nrem:Nat}{Q:Option Nat->SortSt->Prop}(lt:U8 prog w A s a₀ κ)(hk:PyProof.Rows.KeysOf κ a₀)(hn:nrem<=a₀.size)(h1:1<=n)(ha:n<=nrem)(B:SBase a₀ st)(so:NonIncK κ (arrOf st) n)
  (q:∀ m st',SBase a₀ st'->1<=m->m<=nrem->SortedToK κ (arrOf st') m->Q (some m) st'):wpS (model prog w) A E s (tail3 n nrem) Q st:=by
 unfold tail3;refine wpS_bind (wpS_reverse ?_);have B2:SBase a₀ (setArr st (mirror (arrOf st) 0 n ((n-0) / 2))):=B.setArr (mirror_perm _ _ _ _);have l:=B.size;refine wpS_bind (h_asc lt hk hn h1 ha B2 (λx y hxy hy=>?_) λm h2 h3 so' _=>wpS_pure (q m _ B2 (by rfl') h3 so'));show κ.kle (KK κ (mirror (arrOf st) 0 n ((n-0) / 2)) x) (KK κ (mirror (arrOf st) 0 n ((n-0) / 2)) y);rw[KK_mirror (by rfl'),KK_mirror (by rfl'),if_pos ⟨wx _,by rfl'⟩,if_pos ⟨wx _,hy⟩];exact so _ _ (by rfl') (by rfl')
theorem Mh{n nrem:Nat}{Q:Option Nat->SortSt->Prop}(lt:U8 prog w A s a₀ κ)(hk:PyProof.Rows.KeysOf κ a₀)(nd:(a₀.toList.map λp=>κ.keyOf p.1).Nodup)(hn:nrem<=a₀.size)(ha:n+1<=nrem)(B:SBase a₀ st)(so:NonIncK κ (arrOf st) (n+1))
  (q:∀ m st',SBase a₀ st'->1<=m->m<=nrem->SortedToK κ (arrOf st') m->Q (some m) st'):wpS (model prog w) A E s (descPart n nrem) Q st:=by
 unfold descPart;refine wpS_bind (wpS_lift (wpAny_rule ⟨rfl,?_⟩));refine wpS_bind (h_desc lt hk hn (by rfl') ha B so (h_nd hk nd B) λm h2 h3 so'=>?_)
 try dsimp only
 rw[if_neg (by decide)];exact Vx lt hk hn (by rfl') h3 B so' q
theorem Vy{nrem:Nat}{Q:Option Nat→SortSt→Prop}(lt:U8 prog w A s a₀ κ)(hk:PyProof.Rows.KeysOf κ a₀)(nd:(a₀.toList.map fun p=>κ.keyOf p.1).Nodup)(hn:nrem≤a₀.size)(h1:1≤nrem)(B:SBase a₀ st)
    (q:∀ m st',SBase a₀ st'->1<=m->m<=nrem->SortedToK κ (arrOf st') m->Q (some m) st'):wpS (model prog w) A E s (countRun' 0 nrem) Q st:=by
  rw[countRun0_eq];refine wpS_bind (h_asc lt hk hn (wf 1) h1 B (λx y hxy hy=>?_) λn h2 h3 so hz=>?_)
  · have:x=y:=by rfl'
    subst this;exact KeyOrd.kle_refl _
  · try dsimp only
    by_cases e:n=nrem
    · rw[if_pos (by simpa using e)];exact wpS_pure (q n st B h2 h3 so)
    · rw[if_neg (by simpa using e)];have hlt:κ.klt (KK κ (arrOf st) n) (KK κ (arrOf st) (n-1)):=hz.resolve_left e;by_cases h:n > 1
      · rw[if_pos h];refine wpS_bind (h_lt lt hk B (by rfl') (by rfl') ?_)
        try dsimp only
        cases e2:κ.blt (KK κ (arrOf st) 0) (KK κ (arrOf st) (n-1)) with
        | true =>
          rw[if_pos rfl];exact wpS_pure (q n st B h2 h3 so)
        | false =>
          have h0:=so 0 (n-1) (by rfl') (by rfl');exact absurd (κ.total _ _ e2 h0) (h_nd hk nd B 0 (n-1) (by rfl') (by rfl') (by rfl'))
      · rw[if_neg h];have hn1:n=1:=by rfl'
        subst hn1;refine Mh lt hk nd hn (by rfl') B (λx y hxy hy=>?_) q;have:y=0\/y=1:=by rfl'
        rcases this with rfl|rfl
        · have:x=0:=by rfl'
          subst this;exact KeyOrd.kle_refl _
        · have:x=0\/x=1:=by rfl'
          rcases this with rfl|rfl
          · exact KeyOrd.kle_of_klt hlt
          · exact KeyOrd.kle_refl _
theorem Sh{n ok:Nat}{Q:Bool->SortSt->Prop}(lt:U8 prog w A s a₀ κ)(hk:PyProof.Rows.KeysOf κ a₀)(hn:n<=a₀.size)(ho:ok<=n)(B:SBase a₀ st)(so:SortedToK κ (arrOf st) ok)
   (q:∀ st',SBase a₀ st'->SortedToK κ (arrOf st') n->Q true st'):wpS (model prog w) A E s (binarySort' 0 n ok) Q st:=by
 rw[binarySort'_eq];have so1:SortedToK κ (arrOf st) (max ok 1):=λx y hxy hy=>by
   by_cases z:y<ok
   · exact so x y hxy z
   · have:x=y:=by rfl'
     subst this;exact KeyOrd.kle_refl _
 refine wpS_bind (wpS_forRange (λk c st'=>c=(none,())/\SBase a₀ st'/\SortedToK κ (arrOf st') k) ?_ ?_ ⟨rfl,B,so1⟩)
 · rintro k c st1 h1 h2 ⟨rfl,B1,so'⟩;have h1':1<=k:=by rfl'
   try dsimp only
   refine wpS_bind (wpS_mono (wpS_forRange (λit c st'=>st'=st1/\∃ l r,c=(none,l,r)/\l<=r/\r<=k/\r-l<=k-it/\(∀ i,i<l->κ.kle (KK κ (arrOf st1) i) (KK κ (arrOf st1) k))/\∀ i,r<=i->i<k->κ.kle (KK κ (arrOf st1) k) (KK κ (arrOf st1) i))
     (Q:=λc st'=>st'=st1/\∃ l,c=(none,l,l)/\l<=k/\(∀ i,i<l->κ.kle (KK κ (arrOf st1) i) (KK κ (arrOf st1) k))/\∀ i,l<=i->i<k->κ.kle (KK κ (arrOf st1) k) (KK κ (arrOf st1) i)) ?_ ?_ ⟨rfl,0,k,rfl,wx _,wf _,wf _,λi h=>absurd h (Nat.not_lt_zero _),λi h h'=>absurd h (by rfl')⟩) ?_)
   · rintro it c st' g1 g2 ⟨rfl,l,r,rfl,lr,rk,fu,lo,hi⟩
     try dsimp only
     by_cases z:l≥r
     · have:l=r:=by rfl'
       subst this;rw[if_pos z];exact wpS_pure ⟨rfl,l,rfl,rk,lo,hi⟩
     · rw[if_neg z];refine wpS_bind (h_lt lt hk B1 (by rfl') (by rfl') ?_);rw[wZ,wZ]
       try dsimp only
       cases e:κ.blt (KK κ (arrOf st') k) (KK κ (arrOf st') ((l+r) / 2)) with
       | true =>
         rw[if_pos rfl];refine wpS_pure ⟨rfl,l,(l+r) / 2,rfl,by rfl',by rfl',by rfl',lo,λi h h'=>?_⟩;exact KeyOrd.kle_trans (KeyOrd.kle_of_klt e) (so' _ _ h h')
       | false =>
         rw[if_neg (by decide)];refine wpS_pure ⟨rfl,(l+r) / 2+1,r,rfl,by rfl',rk,by rfl',λi h=>?_,hi⟩;exact KeyOrd.kle_trans (so' i ((l+r) / 2) (by rfl') (by rfl')) e
   · rintro c st' ⟨rfl,l,r,rfl,lr,rk,fu,lo,hi⟩;have:l=r:=by rfl'
     subst this;exact⟨rfl,l,rfl,rk,lo,hi⟩
   · rintro c st' ⟨rfl,l,rfl,lk,lo,hi⟩
     try dsimp only
     rw[moveDown'_eq];have l0:=B1.size;have B2:SBase a₀ (setArr st' (bubble (arrOf st') (0+k) (0+k-(0+l)))):=B1.setArr (bubble_perm _ _ _);refine wpS_bind (wpS_modify (wpS_pure ⟨rfl,B2,λx y hxy hy=>?_⟩));show κ.kle (KK κ (bubble (arrOf st') (0+k) (0+k-(0+l))) x) (KK κ (bubble (arrOf st') (0+k) (0+k-(0+l))) y);rw[wZ,wZ,KK_bubble (by rfl') (by rfl'),KK_bubble (by rfl') (by rfl'),show k-(k-l)=l by rfl'];by_cases x1:x=l
     · rw[if_pos x1];by_cases y1:y=l
       · rw[if_pos y1];exact KeyOrd.kle_refl _
       · rw[if_neg y1,if_pos ⟨by rfl',by rfl'⟩];exact hi _ (by rfl') (by rfl')
     · rw[if_neg x1];by_cases x2:l<x/\x<=k
       · rw[if_pos x2,if_neg (by rfl'),if_pos ⟨by rfl',by rfl'⟩];exact so' _ _ (by rfl') (by rfl')
       · rw[if_neg x2];by_cases y1:y=l
         · rw[if_pos y1];exact lo _ (by rfl')
         · rw[if_neg y1];by_cases y2:l<y/\y<=k
           · rw[if_pos y2];exact so' _ _ (by rfl') (by rfl')
           · rw[if_neg y2];exact so' _ _ hxy (by rfl')
 · rintro c st' ⟨rfl,B1,so'⟩;exact wpS_pure (q st' B1 λx y hxy hy=>so' x y hxy (by rfl'))
theorem h_runs{Q:Unit->SortSt->Prop}(lt:U8 prog w A s a₀ κ)(hk:PyProof.Rows.KeysOf κ a₀)(nd:(a₀.toList.map λp=>κ.keyOf p.1).Nodup)(B:SBase a₀ st)(h2:2<=a₀.size)(h64:a₀.size<64)
   (q:∀ st',(arrOf st').Perm a₀->failedOf st'=none->SortedToK κ (arrOf st') a₀.size->Q () st'):wpS (model prog w) A E s sortRuns' Q st:=by
 rw[sortRuns'_eq];refine wpS_bind (wpS_get ?_);have l0:=B.size;have mr:minRun' (arrOf st).size (arrOf st).size 0=a₀.size:=by
   rw[l0];obtain⟨k,hk'⟩:∃ k,a₀.size=k+1:=⟨a₀.size-1,by rfl'⟩;rw[hk',minRun'_succ,if_pos (by rfl'),Nat.add_zero]
 try dsimp only
 rw[mr,l0];refine wpS_bind (wpS_mono (wpS_forRange (λit c st'=>if it=0 then st'=st/\c=(none,0) else c=(none,a₀.size)/\(arrOf st').Perm a₀/\failedOf st'=none/\SortedToK κ (arrOf st') a₀.size/\(pendingOf st').size=1)
   (Q:=λc st'=>c=(none,a₀.size)/\(arrOf st').Perm a₀/\failedOf st'=none/\SortedToK κ (arrOf st') a₀.size/\(pendingOf st').size=1) ?_ ?_ ?_) ?_)
 · rintro it c st1 h1 h3 hI;by_cases z:it=0
   · subst z;rw[if_pos rfl]at hI;obtain⟨rfl,rfl⟩:=hI
     try dsimp only
     rw[if_neg (by rfl')];refine wpS_bind (Vy lt hk nd (by rfl') (by rfl') B λm st2 B2 m1 m2 so=>?_)
     try dsimp only
     by_cases c:m<a₀.size
     · rw[if_pos c];refine wpS_bind (wpS_lift (wpAny_rule ⟨rfl,?_⟩));rw[Nat.sub_zero,Nat.min_self];refine wpS_bind (Sh lt hk (wf _) (by rfl') B2 so λst3 B3 so3=>?_);rw[if_neg (by decide)];refine wpS_bind (wpS_get ?_);rw[B3.pend];refine wpS_bind (wpS_modify (wpS_pure ?_))
       try dsimp only
       rw[if_neg (by decide)];refine⟨by rw[wZ],B3.perm,B3.failed,so3,?_⟩;show((pendingOf st3).push _).size=1;rw[B3.pend];rfl
     · rw[if_neg c];have:m=a₀.size:=by rfl'
       subst this;refine wpS_bind (wpS_get ?_);rw[B2.pend];refine wpS_bind (wpS_modify (wpS_pure ?_))
       try dsimp only
       rw[if_neg (by decide)];refine⟨by rw[wZ],B2.perm,B2.failed,so,?_⟩;show((pendingOf st2).push _).size=1;rw[B2.pend];rfl
   · rw[if_neg z]at hI;obtain⟨rfl,h4⟩:=hI
     try dsimp only
     rw[if_pos (wf _)];exact wpS_pure ⟨rfl,h4⟩
 · intro c st1 hI;rw[vO (wx _),if_neg (by rfl')]at hI;exact hI
 · rw[if_pos rfl];exact⟨rfl,rfl⟩
 · rintro c st1 ⟨rfl,pm,fl,so,pd⟩
   try dsimp only
   refine wpS_bind (wpS_mono (wpS_forRange (λit c st'=>st'=st1/\c=(none,())) (Q:=λc st'=>st'=st1/\c=(none,())) ?_ ?_ ⟨rfl,rfl⟩) ?_)
   · rintro it c st2 h1 h3 ⟨rfl,rfl⟩;refine wpS_bind (wpS_get ?_)
     try dsimp only
     rw[if_pos (by rfl')];exact wpS_pure ⟨rfl,rfl⟩
   · rintro c st2 ⟨rfl,rfl⟩;exact⟨rfl,rfl⟩
   · rintro c st2 ⟨rfl,rfl⟩;exact wpS_pure (q _ pm fl so)
end
end L2

end
section
namespace L2
open PySem PySem.Spec PyProof.Rows
section
open PySem.SeqAt
open PySem.AutoSeq1 (wpAny_loadPart')
open PySem.MeetsSeq PySem.MeetsSeq2 PySem.MeetsSeq3
def LiAt(h:Heap)(l:Addr)(items:Array Value):Prop:=∃ o n,h.get? l=some o/\o.cls = .type "list" /\ o.data = .seq items n
theorem BG:∀{vs:aG} {ns:aH} {i:Nat},IntsAre vs ns->i<ns.length->∃ t,vs[i]?=some (.int (ns.getD i 0) t)
 | _,_,0,.cons n t h,_=>⟨t,rfl⟩
 | _,_,i+1,.cons n t h,hi=>by
  obtain⟨u,hu⟩:=BG (i:=i) h (by simpa using hi);exact⟨u,by simpa using hu⟩
theorem Ah{ns:aH}{i:Nat}(h:i<ns.length):ns.drop i=ns.getD i 0::ns.drop (i+1):=by
 rw[WQ h];simp[List.getD,wa h]
theorem Vz(l b:Addr)(items items2:Array Value)(ns ms:List Int)(hi:IntsAre items.toList ns)(hj:IntsAre items2.toList ms):∀(k i:Nat),ns.length-i≤k→i≤ns.length→i≤ms.length →
  Meets (Builtin.«list.__eq__.loop» ⟨[.ref l,.ref b,rawInt (i:Int),rawInt 0],[]⟩)
    (λ_ R s=>LiAt s.heap l items/\LiAt s.heap b items2 /\
      R (.ok (.ret (.bool (HT.lexLt (ns.drop i) (ms.drop i))))) s):=by
 have z1:items.size=ns.length:=by rw[←hi.length];simp
 have z2:items2.size=ms.length:=by rw[←hj.length];simp
 intro k
 induction k with
 | zero =>
  intro i hk h1 h2 prog w A R s ⟨hl,hb,h⟩;obtain⟨o1,n1,hl1,hl2,hl3⟩:=id hl;obtain⟨o2,n2,hb1,hb2,hb3⟩:=id hb;have e:i=ns.length:=by rfl'
  subst e;show wpAny _ _ (Builtin.List.listItems (.ref l) >>= λxs=>_) _ _ _;refine wpAny_bind (listItems_at hl1 hl3 ?_);refine wpAny_bind (listItems_at hb1 hb3 ?_);have g:items[((ns.length:Nat):Int).toNat]?=none:=by rw[wY];exact Array.getElem?_eq_none (by rfl')
  rw[g];refine wpAny_bind (listItems_at hl1 hl3 ?_);refine wpAny_bind (listItems_at hb1 hb3 ?_);refine wpAny_pure ?_;show R (.ok (.ret (.bool (decide (items.size<items2.size))))) s;rw[Wg (wf _)]at h;have:HT.lexLt [] (ms.drop ns.length)=decide (items.size<items2.size):=by
    by_cases c:ns.length<ms.length
    · rw[Ah c,HT.lexLt_nil_cons];exact(decide_eq_true (by rfl')).symm
    · rw[Wg (by rfl'),HT.lexLt_nil_nil];exact(decide_eq_false (by rfl')).symm
  rw[this]at h;exact h
 | succ k ih =>
  intro i hk h1 h2 prog w A R s ⟨hl,hb,h⟩;obtain⟨o1,n1,hl1,hl2,hl3⟩:=id hl;obtain⟨o2,n2,hb1,hb2,hb3⟩:=id hb;by_cases c1:i<ns.length
  · show wpAny _ _ (Builtin.List.listItems (.ref l) >>= λxs=>_) _ _ _;refine wpAny_bind (listItems_at hl1 hl3 ?_);refine wpAny_bind (listItems_at hb1 hb3 ?_);obtain⟨t,g1⟩:=BG hi c1;have g1':items[((i:Nat):Int).toNat]?=some (.int (ns.getD i 0) t):=by rw[wY,←Array.getElem?_toList];exact g1
    rw[g1'];rw[Ah c1]at h;by_cases c2:i<ms.length
    · obtain⟨u,g2⟩:=BG hj c2;have g2':items2[((i:Nat):Int).toNat]?=some (.int (ms.getD i 0) u):=by rw[wY,←Array.getElem?_toList];exact g2
      rw[g2'];rw[Ah c2,HT.lexLt_cons]at h;refine wpAny_bind (wpAny_eqBool_int ?_);by_cases e:ns.getD i 0=ms.getD i 0
      · rw[if_pos e]at h;rw[if_pos (by simpa using e)];exact(meets_again rfl plain_eq_loop entry_eq_loop (ih (i+1) (by rfl') (by rfl') (by rfl'))) prog w A R s ⟨hl,hb,h⟩
      · rw[if_neg e]at h;rw[if_neg (by simpa using e)];refine wpAny_bind (listItems_at hl1 hl3 ?_);refine wpAny_bind (listItems_at hb1 hb3 ?_);rw[g1',g2'];refine wpAny_bind (HT.rcLt_int _ _ _ _ _ _ _ _ _ _ (wpAny_pure ?_));exact h
    · have g:items2[((i:Nat):Int).toNat]?=none:=by rw[wY];exact Array.getElem?_eq_none (by rfl')
      rw[g];refine wpAny_bind (listItems_at hl1 hl3 ?_);refine wpAny_bind (listItems_at hb1 hb3 ?_);refine wpAny_pure ?_;show R (.ok (.ret (.bool (decide (items.size<items2.size))))) s;rw[Wg (by rfl':ms.length<=i),HT.lexLt_cons_nil]at h;rw[decide_eq_false (by rfl')];exact h
  · exact(ih i (by rfl') h1 h2) prog w A R s ⟨hl,hb,h⟩
theorem IQ(l b:Addr)(items items2:Array Value)(ns ms:aH)(hi:IntsAre items.toList ns)(hj:IntsAre items2.toList ms):
  Meets (Builtin.«list.__lt__» ⟨[.ref l,.ref b],[]⟩)
   (fun _ R s=>LiAt s.heap l items∧LiAt s.heap b items2 ∧
    R (.ok (.ret (.bool (HT.lexLt ns ms)))) s):=by
 intro prog w A R s ⟨hl,hb,h⟩;obtain⟨o2,n2,hb1,hb2,hb3⟩:=id hb;show wpAny _ _ (isInstance (.ref b) (.type "list") >>= λr=>_) _ _ _;refine wpAny_bind (wpAny_isInstance (b:=true) ⟨_,hb1,hb2⟩ (by rw[isSubtype_type];kernel_rfl) ?_);exact(meets_again rfl plain_eq_loop entry_eq_loop (Vz l b items items2 ns ms hi hj _ 0 (wf _) (wx _) (wx _))) prog w A R s ⟨hl,hb,h⟩
theorem Mi{prog:Program}{w:World}{A:Around}{E:aC}{s:Shared}{Q:Bool->Shared->Prop}(l b:Addr)(items items2:Array Value)(ns ms:aH)(hi:IntsAre items.toList ns)(hj:IntsAre items2.toList ms)(hl:LiAt s.heap l items)(hb:LiAt s.heap b items2)
  (hu:A.units<cLine) (h:Q (HT.lexLt ns ms) s):wpAny (model prog w) A (oneLt' true (.ref l) (.ref b)) Q E s:=by
 obtain⟨o1,n1,hl1,hl2,hl3⟩:=id hl;rw[oneLt'_eq];show wpAny _ _ (cRoomFor "comparison" [.ref l,.ref b] >>= λ_=>_) _ _ _;refine wpAny_bind (wpAny_cRoom hu ?_);refine wpAny_bind (wpAny_callSpecialIfBound?_slot (T := "list") ⟨_,hl1,hl2⟩ PySem.F.slot_list_lt ?_);refine call_meets PySem.F.slot_list_lt ⟨_,hl1,hl2⟩ PySem.F.entry_list_lt (PySem.F.args_list_lt_2 _ _) (IQ l b items items2 ns ms hi hj) ⟨hl,hb,?_⟩;exact wpAny_truthy_bool h
theorem Pr{β:Type}{M:Model}{A:Around}{E:aC}{s:Shared}{f:Value->Sem β}{g:Value->β}:∀(vs:aG) {Q:List β->Shared->Prop},(∀ v∈vs,∀{Q:β->Shared->Prop},Q (g v) s->wpAny M A (f v) Q E s)->Q (vs.map g) s->wpAny M A (List.mapM f vs) Q E s
 | [],Q,_,q=>by rw[List.mapM_nil];exact wpAny_pure q
 | v::vs,Q,h,q=>by
  rw[List.mapM_cons];refine wpAny_bind (h v wc ?_);refine wpAny_bind (Pr vs (λu hu=>h u (wb _ hu)) ?_);exact wpAny_pure q
theorem Ps{β:Type}{M:Model}{A:Around}{E:aC}{s:Shared}{f:Value->Sem β}{g:Value->β}(vs:aG){Q:Array β->Shared->Prop}(h:∀ v∈vs,∀{Q:β->Shared->Prop},Q (g v) s->wpAny M A (f v) Q E s)(q:Q (vs.map g).toArray s):wpAny M A (Array.mapM f vs.toArray) Q E s:=by
 rw[Array.mapM_eq_mapM_toList];rw[map_eq_pure_bind];refine wpAny_bind (Pr vs h ?_);exact wpAny_pure q
theorem Mj{M:Model}{A:Around}{E:aC}{s:Shared}{vs:aG}{Q:SortKind->Shared->Prop}(h:∀ v∈vs,s.TypeIs v "list")(h0:0<vs.length)(q:Q oneType' s):wpAny M A (keyKind' vs.toArray) Q E s:=by
 rw[keyKind'_eq];refine wpAny_bind (Ps (g:=λ_=>none) vs (λv hv Q' q'=>?_) ?_)
 · show wpAny M A (typeOf v >>= λr=>_) _ _ _;refine wpAny_bind (wpAny_typeOf (h v hv) ?_);exact wpAny_pure q'
 · cases vs with
   | nil=>exact absurd h0 (wT _)
   | cons v vs =>
    rw[if_neg (by simp)];rw[if_neg (by simp)];rw[oneTypeOnly'_eq];refine wpAny_bind (wpAny_bind (Ps (g:=λ_=>Value.type "list") (v::vs) (λu hu Q' q'=>wpAny_typeOf (h u hu) q') ?_));have e:((List.map (λ_=>Value.type "list") (v::vs)).toArray)[0]?=some (Value.type "list"):=by simp
    rw[e];refine wpAny_pure ?_;rw[if_pos (by simp)];exact wpAny_pure q
end
end L2

end
section
namespace L2
open PySem PySem.Spec PyProof.Rows
theorem U9:∀ a:aH,HT.lexLt a a=false
 | []=>rfl
 | x::xs=>by rw[HT.lexLt_cons,if_pos rfl];exact U9 xs
theorem Cs:∀ a b c:aH,HT.lexLt a b=true->HT.lexLt b c=true->HT.lexLt a c=true
 | [],[],_,h,_=>by cases h
 | [],_::_,[],_,h=>by cases h
 | [],_::_,_::_,_,_=>rfl
 | _::_,[],_,h,_=>by cases h
 | _::_,_::_,[],_,h=>by cases h
 | x::xs,y::ys,z::zs,h1,h2=>by
  rw[HT.lexLt_cons]at h1 h2 ⊢;by_cases e1:x=y
  · subst e1;rw[if_pos rfl]at h1;by_cases e2:x=z
    · subst e2;rw[if_pos rfl]at h2 ⊢;exact Cs xs ys zs h1 h2
    · rw[if_neg e2]at h2 ⊢;exact h2
  · rw[if_neg e1]at h1;have h1:=of_decide_eq_true h1;by_cases e2:y=z
    · subst e2;rw[if_neg e1];exact decide_eq_true h1
    · rw[if_neg e2]at h2;have h2:=of_decide_eq_true h2;rw[if_neg (by rfl')];exact decide_eq_true (by rfl')
theorem IR:∀ a b c:List Int,HT.lexLt a c=true→HT.lexLt a b=true∨HT.lexLt b c=true
 | [],[],_,h => .inr h
 | [],_::_,_,_ => .inl rfl
 | _::_,_,[],h=>by cases h
 | _::_,[],_::_,_ => .inr rfl
 | x::xs,y::ys,z::zs,h=>by
  rw[HT.lexLt_cons]at h ⊢;rw[HT.lexLt_cons];by_cases e1:x=y
  · subst e1;by_cases e2:x=z
    · subst e2;rw[if_pos rfl]at h ⊢;rw[if_pos rfl];exact IR xs ys zs h
    · rw[if_neg e2]at h;rw[if_neg e2];exact .inr h
  · rw[if_neg e1];by_cases c:x<y
    · exact .inl (decide_eq_true c)
    · right;by_cases e2:x=z
      · subst e2;rw[if_neg (by rfl')];exact decide_eq_true (by rfl')
      · rw[if_neg e2]at h;have h:=of_decide_eq_true h;rw[if_neg (by rfl')];exact decide_eq_true (by rfl')
theorem Ai:∀ a b:aH,HT.lexLt a b=false->HT.lexLt b a=false->a=b
 | [],[],_,_=>rfl
 | [],_::_,h,_=>by cases h
 | _::_,[],_,h=>by cases h
 | x::xs,y::ys,h1,h2=>by
  rw[HT.lexLt_cons]at h1 h2;by_cases e:x=y
  · subst e;rw[if_pos rfl]at h1 h2;rw[Ai xs ys h1 h2]
  · rw[if_neg e]at h1;rw[if_neg (Ne.symm e)]at h2;have h1:=of_decide_eq_false h1;have h2:=of_decide_eq_false h2;rfl'
def vint:V->Int
 | .int i=>i
 | _=>0
theorem Si(ns:aH):(ns.map V.int).map vint=ns:=by
 rw[wF];exact(Wr (λx _=>rfl)).trans (uN ns)
def kyL(H:Hp):PyProof.Rows.KeyKind where
 α:=aH
 blt:=HT.lexLt
 irrefl:=U9
 trans:=Cs
 negTrans:=IR
 total:=Ai
 keyOf:=λv=>match v with
  | .ref a=>match H a with
   | some (.lst xs)=>some (xs.map vint)
   | _=>none
  | _=>none
 dflt:=[]
theorem IS{H:Hp}{a:Addr}{ns:aH}(e:H a=some (.lst (ns.map V.int))):(kyL H).keyOf (.ref a)=some ns:=by
 show(match H a with|some (.lst xs)=>some (xs.map vint)|_=>none)=_;rw[e];exact congrArg some (Si ns)
def kof(H:Hp)(v:Value):aH:=((kyL H).keyOf v).getD ([]:aH)
theorem kof_of{H:Hp}{a:Addr}{ns:aH}(e:H a=some (.lst (ns.map V.int))):kof H (.ref a)=ns:=by
 unfold kof;rw[IS e];rfl
section
variable {X:Cx}{π:aB}{σ:St}{H:Hp}{s:Shared}
def Mk(kn:aA)(its out:aG):Prop:=∃ ps:List (aH×Value),ps.Perm (kn.zip its)/\out=ps.map (·.2)/\ps.Pairwise λp q=>HT.lexLt q.1 p.1=false
theorem Ki(I:Inv X π σ H s){a:Addr}{ns:aH}(e:H a=some (.lst (ns.map V.int))):∃ its:aG,IntsAre its ns/\LiAt s.heap a its.toArray:=by
 obtain⟨its,rv,⟨o,n,e1,c,dd,dt⟩,_⟩:=I.list (SqL.of (K:=X.K) e);exact⟨its,LK rv,o,n,e1,c,dt⟩
theorem VA(I:Inv X π σ H s){A:Around}{a₀:Array Keyed}(hu:A.units<cLine)(hk:∀ p∈a₀.toList,∃(a:Addr) (ns:aH),p.1 = .ref a/\H a=some (.lst (ns.map V.int))):U8 X.prog X.w A s a₀ (kyL H):=by
 intro x y p q a b Q E hx hy ka kb h;obtain⟨a1,ns,e1,g1⟩:=hk _ hx;obtain⟨b1,ms,e2,g2⟩:=hk _ hy;have e1:x = .ref a1:=e1;have e2:y = .ref b1:=e2;subst e1 e2;rw[IS g1]at ka;rw[IS g2]at kb;cases ka;cases kb;obtain⟨i1,j1,l1⟩:=Ki I g1;obtain⟨i2,j2,l2⟩:=Ki I g2;exact Mi a1 b1 i1.toArray i2.toArray _ _ (by simpa using j1) (by simpa using j2) l1 l2 hu h
theorem VB{a₀ st:List Keyed}{kn:aA}{its:aG}(h0:a₀.map (λp=>(kof H p.1,p.2))=kn.zip its)(pm:st.Perm a₀)(so:st.Pairwise λp q=>HT.lexLt (kof H q.1) (kof H p.1)=false):Mk kn its (st.map (·.2)) :=
 ⟨st.map (λp=>(kof H p.1,p.2)),by rw[←h0];exact pm.map _,by rw[wF];rfl,Wo.mpr so⟩
theorem QD{D kS:Addr}{e e1:Nat}{ka:List Addr}{kn:aA}{its:aG}{A:Around}{P:PySem.Fin->Shared->Prop}{E:aC}(I:Inv X π σ H s)(hu:A.units<cLine)
   (o1:s.heap.get? D=some (seqObj "list" #[] e1)) (o2:s.heap.get? kS=some (seqObj "list" (ka.map Value.ref).toArray e)) (nDS:kS≠D) (fD:FpOk X π H D) (fS:FpOk X π H kS)
   (l1:ka.length=its.length) (l2:kn.length=its.length) (hk:∀(j:Nat) (a:Addr) (ns:aH),ka[j]?=some a->kn[j]?=some ns->H a=some (.lst (ns.map V.int))) (h64:its.length<64) (nd:kn.Nodup)
   (q:∀ s2 (out:aG) c,Inv X π σ H s2->s2.heap.get? D=some (seqObj "list" out.toArray c)->Mk kn its out->P (.done (.ret .none)) s2) :
   wpAny (model X.prog X.w) A (ksk_end D false its.toArray e1 (.ref kS) (ka.map Value.ref).toArray) P E s:=by
 generalize ha:((ka.map Value.ref).toArray.zip its.toArray:Array Keyed)=a₀;have al:a₀.toList=(ka.map Value.ref).zip its:=by rw[←ha];simp
 have asz:a₀.size=its.length:=by rw[←Array.length_toList,al,WI,we];rfl'
 have get:∀ j (h:j<its.length),∃(a:Addr) (ns:aH),ka[j]?=some a/\kn[j]?=some ns/\H a=some (.lst (ns.map V.int)):=λj h=>by
   have e1:ka[j]?=some ka[j]:=wa (by rfl');have e2:kn[j]?=some kn[j]:=wa (by rfl');exact⟨_,_,e1,e2,hk j _ _ e1 e2⟩
 have hm:∀ p∈a₀.toList,∃(a:Addr) (ns:aH),p.1 = .ref a/\H a=some (.lst (ns.map V.int)):=λp hp=>by
   rw[al]at hp;obtain⟨j,hj,e⟩:=wH hp;rw[WI,we]at hj;obtain⟨a,ns,g1,g2,g3⟩:=get j (by rfl');rw[vj,Wk]at e;have g1':ka[j]=a:=by rw[wa (by rfl')]at g1;exact Option.some.inj g1
   exact⟨a,ns,by rw[←e,g1'],g3⟩
 have h0:a₀.toList.map (λp=>(kof H p.1,p.2))=kn.zip its:=by
   rw[al];apply WP
   · simp;rfl'
   · intro j h1 h2;simp only[we,WI]at h1 h2;obtain⟨a,ns,g1,g2,g3⟩:=get j (by rfl');have g1':ka[j]=a:=by rw[wa (by rfl')]at g1;exact Option.some.inj g1
     have g2':kn[j]=ns:=by rw[wa (by rfl')]at g2;exact Option.some.inj g2
     simp only[Wk,vj];rw[g1',g2',kof_of g3]
 have hkk:PyProof.Rows.KeysOf (kyL H) a₀:=λp hp=>by
   obtain⟨a,ns,e,g⟩:=hm p hp;exact⟨ns,by rw[e];exact IS g⟩
 have hnd:(a₀.toList.map λp=>(kyL H).keyOf p.1).Nodup:=by
   have e:a₀.toList.map (λp=>kof H p.1)=kn:=by
     have:a₀.toList.map (λp=>kof H p.1)=(a₀.toList.map (λp=>(kof H p.1,p.2))).map (·.1):=by rw[wF];rfl
     rw[this,h0,vN (by rfl')]
   have n2:(a₀.toList.map (λp=>kof H p.1)).Nodup:=by rw[e];exact nd
   unfold List.Nodup at n2 ⊢;rw[Wo]at n2 ⊢;exact n2.imp λh z=>h (by unfold kof;rw[z])
 have tail:∀ st:SortSt,(arrOf st).Perm a₀→failedOf st=none→SortedToK (kyL H) (arrOf st) a₀.size→wpAny (model X.prog X.w) A (ksk_tail D false e1 (.ref kS) st) P E s:=by
   intro st pm fl so;have sz:(arrOf st).size=its.length:=by rw[pm.size_eq,asz]
   unfold ksk_tail;have sb:=Heap.SameBut.update s.heap kS (Obj.mapSeq λ_=>(#[]:Array Value));refine wpAny_bind (listUpdate_at o2 rfl ?_ (by rw[wr,we,sizeLine_eq];rfl') (wx _));have I2:Inv X π σ H { s with heap:=s.heap.update kS (Obj.mapSeq λ_=>(#[]:Array Value)) }:=I.turnedL (t':=s.toks) (ch:=[kS]) (λb o hb e=>(sb.2 b (by simpa using hb)).trans e) (λb hb=>by rw[wu.mp hb];exact fS);have o3:(s.heap.update kS (Obj.mapSeq λ_=>(#[]:Array Value))).get? D=some (seqObj "list" #[] e1):=(sb.2 D (Ne.symm nDS)).trans o1;refine wpAny_bind (wpAny_letGo ?_);refine wpAny_bind (seqEpoch_at o3 rfl ?_);generalize hg:s.heap.update kS (Obj.mapSeq λ_=>(#[]:Array Value))=g at *;have sb2:=Heap.SameBut.update g D (Obj.mapSeq λ_=>(Array.map (λx=>x.2) (arrOf st)));refine wpAny_bind (listUpdate_at o3 rfl ?_ (wx _) (by rw[if_neg (by decide),Array.size_map,sz,sizeLine_eq];rfl'));have I3:Inv X π σ H { s with heap:=g.update D (Obj.mapSeq λ_=>(Array.map (λx=>x.2) (arrOf st))) }:=I2.turnedL (s:={ s with heap:=g }) (t':=s.toks) (ch:=[D]) (λb o hb e=>(sb2.2 b (by simpa using hb)).trans e) (λb hb=>by rw[wu.mp hb];exact fD);rw[fl];show wpAny _ _ (if(e1 != e1)=true then _ else _) _ _ _;rw[if_neg (by simp)];have oo:=get?_update_seq o3 λ_=>(Array.map (λx=>x.2) (arrOf st));have ee:Array.map (λx:Keyed=>x.2) (arrOf st)=((arrOf st).toList.map (·.2)).toArray:=by rw[←Array.toList_inj,Array.toList_map]
   refine wpAny_pure (q _ ((arrOf st).toList.map (·.2)) _ I3 (oo.trans (by rw[ee])) (VB h0 (Array.perm_iff_toList_perm.mp pm) ?_))
   · rw[vE];intro i j hi hj hij;rw[Array.length_toList]at hi hj;have:=so i j (by rfl') (by rfl');have gk:∀ k (h:k<(arrOf st).size),KK (kyL H) (arrOf st) k=kof H ((arrOf st).toList[k]'(by simpa using h)).1:=λk h=>by
      unfold KK;rw[Array.getElem?_eq_getElem h];rfl
     rw[←gk i hi,←gk j hj];exact this
 unfold ksk_end;show wpAny _ _ (if its.toArray.size<2 then _ else _) _ _ _;by_cases c:its.length<2
 · rw[if_pos (by simpa using c)];refine wpAny_bind (wpAny_pure ?_);rw[if_pos (by simpa using c)];refine wpAny_bind (wpAny_pure ?_);refine tail _ ?_ rfl ?_
   · show Array.Perm _ a₀;rw[if_neg (by decide),ha]
   · intro i j h1 h2;have:i=j:=by rfl'
     subst this;exact KeyOrd.kle_refl _
 · rw[if_neg (by simpa using c)];refine wpAny_bind (Mj (λv hv=>?_) (by rw[we];rfl') ?_)
   · obtain⟨a,ha',rfl⟩:=wg.mp hv;obtain⟨j,hj,e⟩:=wH ha';obtain⟨a2,ns,g1,g2,g3⟩:=get j (by rfl');have g1':ka[j]=a2:=by rw[wa (by rfl')]at g1;exact Option.some.inj g1
     rw[←e,g1'];obtain⟨i1,j1,o,n,l1',l2',l3'⟩:=Ki I g3;exact⟨o,l1',l2'⟩
   · rw[if_neg (by simpa using c),if_neg (by decide),ha];have B:SBase a₀ (SortSt.mk' oneType' a₀ #[] 7 none):=⟨Array.Perm.refl _,rfl,rfl,rfl⟩;have:=h_runs (E:=E) (VA I hu hm) hkk hnd B (by rfl') (by rfl') (Q:=λ_ st=>(arrOf st).Perm a₀/\failedOf st=none/\SortedToK (kyL H) (arrOf st) a₀.size) (λst' h1 h2 h3=>⟨h1,h2,h3⟩);refine wpAny_bind (wpAny_mono this ?_ λ_ _ z=>z);rintro⟨u,st⟩ s' ⟨rfl,h1,h2,h3⟩;exact tail st h1 h2 h3
end
end L2

end
section
namespace L2
open PySem PySem.Spec PyProof.Rows
theorem Ml{pos:Pos}{a b:Int}{c cv:Value}(l:aG)(h:TriplesOk l)(e:codeAmong pos (l++[rawInt a,rawInt b,c])=some cv):codeAmong pos l=some cv\/cv=c:=by
 fun_induction TriplesOk l with
 | case1 =>
  right;simp only[VY,rawInt,codeAmong]at e;split at e
  · cases e;rfl
  · cases e
 | case2 a' t b' u x rest ih =>
  simp only[vP,codeAmong]at e ⊢;split at e
  · rename_i hh;rw[if_pos hh];exact .inl e
  · rename_i hh;rw[if_neg hh];exact ih h e
 | case3=>exact h.elim
structure Lam(base:Heap)(mg:aF)(c P:Addr):Prop where
 code:∃ o vs file tf flags tg inF text tt,base.get? c=some o/\o.cls = .type "code" /\ o.data = .fields vs/\vs[11]?=some (.ref P)/\vs.getD 11 .none = .ref P/\vs.getD 18 .none = .str file tf /\
  vs.getD 7 .none = .int flags tg/\vs.getD 9 .none = .bool inF/\vs.getD 10 .none = .int text tt
 bm:∃ bm o,mg "__builtins__" = some (.ref bm)/\bm≠builtinsNs/\base.get? bm=some o/\o.cls = .type "module" /\ o.dict=some builtinsNs/\o.data = .plain
def Du(q:Str)(params:Arguments)(body:Expr)(scope:Scope)(H:Hp)(f:Addr):Prop :=
 ∃ pm c ctv oc u vs t,H f=some (.frz (PySem.W.kla_obj "<lambda>" q params body scope [] pm c ctv) (.own 0))/\H c=some (.frz oc u)/\oc.data = .fields vs/\vs[1]?=some (.str q t)
section
variable {X:Cx}{π:aB}{σ:St}{H:Hp}{s:Shared}{c P:Addr}{ps:Array Value}{q:Str}{params:Arguments}{body:Expr}{scope:Scope}{pos:Pos}
theorem Inv.coded{h':Heap}{tk:Nat}{more:Array Value}{c':Addr}{oc:Obj}{vs:Array Value}{t:Tok}{la lb:Int}(I:Inv X π σ H s)(hP:H P=some (.tbl ps q))(tr:TriplesOk (ps++more).toList)
   (old:∀ pos cv,codeAmong pos (ps++more).toList=some cv->∃ c o u vs t,cv = .ref c/\H c=some (.frz o u)/\o.data = .fields vs/\vs[1]?=some (.str q t))
   (hx:Heap.ExtBut P s.heap h') (hge:s.heap.objs.size<=c') (hoc:h'.get? c'=some oc) (hd:oc.data = .fields vs) (hv:vs[1]?=some (.str q t))
   (ht:h'.get? P=some { cls := .none,data := .fields ((ps++more)++#[rawInt la,rawInt lb,.ref c']) }) :
   Inv X π σ (upd H c' (.frz oc (.own 0))) { s with heap:=h',toks:=tk }:=by
 have hn:H c'=none:=I.hok.fresh hge;have nb:∀ b u,H b=some u->b≠c':=λb u e z=>by rw[z,hn]at e;cases e
 have nP:∀ b,H b=none->b≠P:=λb e z=>by rw[z,hP]at e;cases e
 have lP:X.env.locals≠P:=λz=>by rw[←z,I.free]at hP;cases hP
 refine I.step (g':=s.gens) (d':=s.drawn) (ch:=[]) (λ_ z=>nomatch z) (λb o _ _ _ e n=>hx b o (nP b n) e) (λb o _ _ _ e n=>⟨o.slots,hx b o (nP b n) e⟩) (λb o _ e n=>?_) (λb o _ e=>?_)
   (λb xs e=>by rw[i6 (nb b _ e)];exact e) (λb o u e=>by rw[i6 (nb b _ e)];exact e) (λb ps q e=>by rw[i6 (nb b _ e)];exact e) (λm hm=>hm.extBut hx lP) (λb u e=>?_) I.bare
 · rw[i6 (wJ (wt (wo e) hge))];exact n
 · by_cases z:b=P
   · subst z;exact⟨_,ht⟩
   · exact⟨o,hx b o z e⟩
 · by_cases z:b=c'
   · subst z;rw[i7]at e;cases e;exact⟨hoc,oc,hoc⟩
   · rw[i6 z]at e
     by_cases y:b=P
     · subst y;rw[hP]at e;cases e;refine⟨more++#[rawInt la,rawInt lb,.ref c'],by rw[←Array.append_assoc];exact ht,?_,λpos cv e=>?_⟩
       · rw[←Array.append_assoc,Array.toList_append];exact TriplesOk_snoc _ _ _ _ tr
       · rw[←Array.append_assoc,Array.toList_append]at e;rcases Ml _ tr e with e|e
         · obtain⟨c1,o,u,vs',t',h1,h2,h3⟩:=old pos cv e;exact⟨c1,o,u,vs',t',h1,by rw[i6 (nb c1 _ h2)];exact h2,h3⟩
         · exact⟨c',oc,_,vs,t,e,i7,hd,hv⟩
     · refine(I.hok b u e).stay (λd v hd' g=>hx d v (λw=>?_) g) (λd g=>?_) (λd xs g=>?_) (λd _ _ g=>?_)
       · rcases hd' with g'|g'
         · exact y (g'.symm.trans w)
         · rw[w,hP]at g';cases g'
       · rw[i6 (nb d _ g)];exact g
       · rw[i6 (nb d _ g)];exact g
       · rw[i6 (nb d _ g)];exact g
theorem Sj{Q:aC}{E:aC}(I:Inv X π σ H s)(L:Lam X.base X.mg c P)(hc:X.env.code = .ref c)(hq:X.env.qual ++ "<lambda>" = q)(hP:H P=some (.tbl ps q))(hcl:closureFor scope X.env=pure [])(hdf:defaultsOf params X.env=([],[]))
  (h:∀ f H' s',Inv X π σ H' s'->Same H H'->Du q params body scope H' f->Q (.ref f) s'):wpAny (model X.prog X.w) X.A (eval (.Lambda params body scope pos) X.env) Q E s:=by
 subst hq;obtain⟨more,e,tr,old⟩:=(show ObjOk X.prog X.w H s.heap P (.tbl ps _)from I.hok P _ hP);have nb:∀ b o,X.base.get? b=some o->b≠P:=λb o g z=>by
  have:=(I.bs b o g).2;rw[z,hP]at this;cases this
 have hg:s.heap.Ns mainGlobals X.mg:=I.mod.glob.keeps I.bk;obtain⟨o,vs,file,tf,flags,tg,inF,text,tt,c1,c2,c3,c4,c5,c6,c7,c8,c9⟩:=L.code;have C:PySem.W.CodeHd s.heap c P:=⟨o,vs,file,tf,flags,tg,inF,text,tt,I.bk _ _ c1,c2,c3,c4,c5,c6,c7,c8,c9,nb _ _ c1⟩;obtain⟨bm,ob,b1,b2,b3,b4,b5,b6⟩:=L.bm;have hgP:mainGlobals≠P:=by
  obtain⟨o,_,_,g,_⟩:=I.mod.glob;exact nb _ _ g
 have hbG:bm≠mainGlobals:=λz=>by
  obtain⟨o,es,ep,g,hd,_⟩:=I.mod.glob;rw[z,g]at b3;cases b3;rw[hd]at b6;cases b6
 have B:s.heap.BuiltinsAt X.mg P:=⟨bm,ob,b1,b2,hbG,nb _ _ b3,I.bk _ _ b3,b4,b5,b6⟩;refine PySem.W.kla_eval hdf ?_;cases z:codeAmong pos (ps++more).toList with
 | none =>
  refine PySem.W.kla_makeFunction (mg:=X.mg) hcl I.ok.glob hg hc C e tr z hgP B λc' ctv h' tk hx hge hlt hrec htb=>?_;obtain⟨c2',oc,vs',t',e2,hoc,hd,hv⟩:=hrec;cases e2;have I1:=I.coded (tk:=tk) hP tr old hx hge hoc hd hv htb;have hf:upd H c' (.frz oc (.own 0)) h'.objs.size=none:=I1.hok.fresh (wf _);have hn:H c'=none:=I.hok.fresh hge;have I2:=I1.laid (a:=h'.objs.size) (o := .frz (PySem.W.kla_obj "<lambda>" (X.env.qual ++ "<lambda>") params body scope [] ((X.mg "__name__").getD .none) c' ctv) (.own 0)) (h':=h'.push (PySem.W.kla_obj "<lambda>" (X.env.qual ++ "<lambda>") params body scope [] ((X.mg "__name__").getD .none) c' ctv)) (t':=tk) (λb u g=>wd _ g) (wf _) ⟨wp _ rfl,_,wp _ rfl⟩;refine h _ _ _ I2 ((j6 hn).trans (j6 hf)) ⟨_,c',ctv,oc,.own 0,vs',t',i7,?_,hd,hv⟩;rw[i6 (wJ hlt),i7]
 | some cv =>
  obtain⟨c',oc,u,vs',t',rfl,hfr,hd,hv⟩:=old _ _ z;refine PySem.W.kla_makeFunctionHit (mg:=X.mg) hcl I.ok.glob hg hc C e tr z B λctv h' tk hk hsz=>?_;have I1:Inv X π σ H { s with heap:=h',toks:=tk }:=I.kept (t':=tk) hk;have hf:H h'.objs.size=none:=I1.hok.fresh (wf _);have I2:=I1.laid (a:=h'.objs.size) (o := .frz (PySem.W.kla_obj "<lambda>" (X.env.qual ++ "<lambda>") params body scope [] ((X.mg "__name__").getD .none) c' ctv) (.own 0)) (h':=h'.push (PySem.W.kla_obj "<lambda>" (X.env.qual ++ "<lambda>") params body scope [] ((X.mg "__name__").getD .none) c' ctv)) (t':=tk) (λb u g=>wd _ g) (wf _) ⟨wp _ rfl,_,wp _ rfl⟩;exact h _ _ _ I2 (j6 hf) ⟨_,c',ctv,oc,u,vs',t',i7,j6 hf _ _ hfr,hd,hv⟩
end
theorem VC{P:Program}{w:World}{K:aE}{mg:aF}{base:Heap}{k:Nat}{f:Addr}{q:Str}{params:Arguments}{body:Expr}{scope:Scope}{N ps:List Str}{A:Around}{outer:List Env}{s:Shared}{H:Hp}{us:aG}{vs:List V}{Q:VK}
  (L:Du q params body scope H f) (S:FnScope N ps scope) (hr:Room (k+1) A) (e0:Env0 P w K mg base A outer s H) (hb:∀ pm cd ct,bindArgs (PySem.W.kla_fn "<lambda>" q params body scope [] pm cd ct) ⟨us,[]⟩=pure (ps.zip us)) (r:Vals vs us) (hl:vs.length=ps.length)
  (hbody:∀ cd,∃ t,PE (cxOf CX0 P w K mg base N q scope f cd A outer s H E0) body t/\t (start N vs) H Q) :
  codeAny (model P w) A (.call (.ref f) ⟨us,[]⟩) (CR CX0 outer P w H s Q E0) s:=by
 obtain⟨pm,c,ctv,oc,u,xs,t,h1,h2,h3,h4⟩:=L;obtain⟨g1,_⟩:=(show ObjOk P w H s.heap f (.frz _ _)from e0.hok f _ h1);obtain⟨g2,_⟩:=(show ObjOk P w H s.heap c (.frz _ _)from e0.hok c _ h2);have lim:s.heap.NoLimit:=e0.mod.nolimit.keeps λb o e=>(e0.bs b o e).1;have hkind:∀ y∈ps.zip us,scope.names.lookup y.1=some .local\/(scope.names.lookup y.1=some .cell/\((cellsFrom (s.heap.objs.size+1) scope.names []).lookup y.1).isSome=true):=λ⟨n,v⟩ hy=>by
  rcases S.par n (vw hy).1 with q|q
  · exact .inl q
  · exact .inr ⟨q,PySem.W.cellsFrom_some _ _ _ (.inl q)⟩
 refine PySem.W.kla_callFunE hr.depth g1 rfl S.co S.gen rfl ⟨c,oc,xs,t,rfl,g2,h3,h4⟩ ?_;rw[hb];refine wpAny_pure ?_;refine wpAny_newFunctionEnv_cells S.kind hkind λenv he s1 x=>?_;subst he;refine⟨lim.keeps x.toInCall.keep,PySem.W.kla_codeExpr ?_⟩;obtain⟨tt,ht,hq⟩:=hbody (.ref c);have I:Inv (cxOf CX0 P w K mg base N q scope f (.ref c) A outer s H E0) [] (start N vs) H s1:=GS S hr.hd e0 hl r x;refine wpAny_mono (ht [] s1 (start N vs) H _ I hq) (λu s' hs=>?_) λe s' hs=>hs;obtain⟨v,H',J,rv,q⟩:=hs;exact⟨v,H',J.os,J.bare,J.base,J.hok,rv,q⟩
end L2

end
section
namespace L2
open PySem PySem.Spec PyProof.Rows
def LexV(kn:aA)(ts ys:List Addr):Prop:=∃ ps:List (aH×Addr),ps.Perm (kn.zip ts)/\ys=ps.map (·.2)/\ps.Pairwise λp q=>HT.lexLt q.1 p.1=false
def Sk:Value->Addr
 | .ref a=>a
 | _=>0
theorem VD{kn:aA}{ts:List Addr}{out:aG}(h:Mk kn (ts.map Value.ref) out):∃ ys,LexV kn ts ys/\out=ys.map Value.ref:=by
 obtain⟨ps,h1,h2,h3⟩:=h;have e:(kn.zip (ts.map Value.ref)).map (λp=>(p.1,Sk p.2))=kn.zip ts:=by
  rw[uz,wF];exact(Wr λp _=>rfl).trans (uN _)
 have all:∀ p∈ps,p.2=Value.ref (Sk p.2):=λp hp=>by
  have:=h1.mem_iff.mp hp;rw[uz]at this;obtain⟨z,_,rfl⟩:=wg.mp this;rfl
 refine⟨_,⟨ps.map (λp=>(p.1,Sk p.2)),by rw[←e];exact h1.map _,rfl,Wo.mpr h3⟩,?_⟩;rw[h2,wF,wF];exact Wr λp hp=>all p hp
theorem Hj:∀{ts:List Addr} {us:aG},Vals (ts.map V.ref) us->us=ts.map Value.ref
 | [],us,h=>by rw[vW]at h;exact h.zero
 | t::ts,us,h=>by
  rw[wj]at h;obtain⟨u,vs,rfl,r,h⟩:=h.uncons;rw[Hj h,show u=Value.ref t from r];rfl
theorem Hk:∀(ts:List Addr),Vals (ts.map V.ref) (ts.map Value.ref)
 | [] => .nil
 | t::ts => .cons rfl (Hk ts)
section
variable {X:Cx}{π:aB}{σ:St}{H:Hp}{s:Shared}{k:Nat}{f:Addr}{q p:Str}{params:Arguments}{body:Expr}{scope:Scope}{l:Addr}{ts ka:List Addr}{kn:aA}{Q:VK}
structure First(X:Cx)(q p:Str)(params:Arguments)(body:Expr)(scope:Scope):Prop where
 sc:FnScope [p] [p] scope
 bind:∀ pm cd ct u,bindArgs (PySem.W.kla_fn "<lambda>" q params body scope [] pm cd ct) ⟨[u],[]⟩=pure [(p,u)]
 body:∀ f cd A outer s H,PE (cxOf CX0 X.prog X.w X.K X.mg X.base [p] q scope f cd A outer s H E0) body (tOp (rIxT X.K) (tVar 0) (tC (.int 0)))
theorem Sl{s1:Shared}{t a:Addr}{b:V}(F:First X q p params body scope)(L:Du q params body scope H f)(hr:Room (k+3) X.A)(I:Inv X π σ H s1)(hv:SqT X.K H t [.ref a,b])
   {P:aC} {E:aC} (z:∀ s2,Inv X π σ H s2->(∀ b o,s1.heap.get? b=some o->H b=none->b ∉ frs X.stack->s2.heap.get? b=some o)->P (.ref a) s2):wpAny (model X.prog X.w) X.A.in1.in1 (call (.ref f) [.ref t]) P E s1:=by
 have hr2:Room (k+1) X.A.in1.in1:=(show Room (k+1+1+1) X.A from hr).in1.in1;refine wpAny_call (codeAny_mono (VC (k:=k) (Q:=λw H2=>w = .ref a/\H2=H) (vs:=[.ref t]) (ps:=[p]) (N:=[p]) L F.sc hr2 I.env0.in1.in1 (λpm cd ct=>F.bind pm cd ct _) (.cons rfl .nil) rfl λcd=>⟨_,F.body f cd _ _ _ _,?_⟩) λres s2 hres=>?_)
 · exact⟨.ref t,rfl,t,_,0,.ref a,rfl,rfl,hv,rfl,rfl,rfl⟩
 cases res with
 | error e=>exact hres.elim
 | ok fl =>
   cases fl with
   | ret w =>
    obtain⟨x,H2,os,bare,un,hok,rw',ex,eH⟩:=hres;subst ex eH;obtain rfl:w=Value.ref a:=rw';exact z s2 (I.call' (ch:=[]) os un hok bare λb hb=>absurd hb (by simp)) λb o e hn hf=>un.keep b o e hn hf (by simp)
   | next=>exact hres.elim
   | brk=>exact hres.elim
   | cont=>exact hres.elim
structure Pairs(K:aE)(H:Hp)(ts ka:List Addr)(kn:aA):Prop where
 l1:ka.length=ts.length
 l2:kn.length=ts.length
 tup:∀(j:Nat) (t a:Addr),ts[j]?=some t->ka[j]?=some a->∃ b,SqT K H t [.ref a,b]
 key:∀(j:Nat) (a:Addr) (ns:aH),ka[j]?=some a->kn[j]?=some ns->H a=some (.lst (ns.map V.int))
 few:ts.length<64
 nd:kn.Nodup
theorem Mm{D kS:Addr}{e1:Nat}{P:PySem.Fin->Shared->Prop}{E:aC}(F:First X q p params body scope)(L:Du q params body scope H f)(hr:Room (k+3) X.A)(I:Inv X π σ H s)(pr:Pairs X.K H ts ka kn)
  (hD:s.heap.get? D=some (seqObj "list" #[] e1)) (hS:s.heap.get? kS=some (seqObj "list" #[] 0)) (nDS:kS≠D) (fD:FpOk X π H D) (fS:FpOk X π H kS) (gD:D ∉ frs X.stack) (gS:kS ∉ frs X.stack)
  (z:∀ s2 (ys:List Addr) c,Inv X π σ H s2->s2.heap.get? D=some (seqObj "list" (ys.map Value.ref).toArray c)->LexV kn ts ys->P (.done (.ret .none)) s2) :
  wpAny (model X.prog X.w) X.A.in1.in1 (ksk_rest D (.ref f) false (ts.map Value.ref).toArray e1 (.ref kS)) P E s:=by
 have l1:=pr.l1;have l2:=pr.l2;have h64:=pr.few;have sl:(64:Nat)<sizeLine:=by rw[sizeLine_eq];rfl'
 unfold ksk_rest;refine wpAny_bind (wpAny_rule ?_);rw[uw];refine wpAny_bind (ksk_fold (λi s'=>∃ e,Inv X π σ H s'/\s'.heap.get? D=some (seqObj "list" #[] e1)/\s'.heap.get? kS=some (seqObj "list" ((ka.take i).map Value.ref).toArray e)) (ts.map Value.ref) 0 s
  ⟨0,I,hD,hS⟩ ?step ?done)
 case step =>
  rintro j u s' hu ⟨e,I1,o1,o2⟩;simp only[wZ]at o2 ⊢;rw[wq]at hu;obtain⟨t,ht,rfl⟩:=Wf.mp hu;have hj:j<ts.length:=(wy.mp ht).1;obtain⟨a,ha⟩:∃ a,ka[j]?=some a:=⟨_,wa (by rfl')⟩;obtain⟨b,hb⟩:=pr.tup j t a ht ha;refine wpAny_bind (wpAny_attempt (Sl F L hr I1 hb λs2 I2 kk=>?_));have p1:=kk D _ o1 fD.1 gD;have p3:=kk kS _ o2 fS.1 gS
  try dsimp only
  have sb:=Heap.SameBut.update s2.heap kS (Obj.mapSeq (·.push (.ref a)));have g2:=get?_update_seq p3 (·.push (.ref a));have ek:ka.take (j+1)=ka.take j++[a]:=by rw[WX,ha];simp
  have ea:((ka.take j).map Value.ref).toArray.push (.ref a)=((ka.take (j+1)).map Value.ref).toArray:=by rw[ek];simp
  have hz:((ka.take j).map Value.ref).toArray.size<=ts.length:=by rw[wr,we,Ww];rfl'
  refine wpAny_bind (listUpdate_at p3 rfl ?_ (by rfl') (wB (uC (Array.size_push ..)) (by rfl')));rw[ea]at g2;exact wpAny_pure ⟨rfl,_,I2.turnedL (t':=s2.toks) (ch:=[kS]) (λb o hb e=>(sb.2 b (by simpa using hb)).trans e) (λb hb=>by rw[wu.mp hb];exact fS),(sb.2 D (Ne.symm nDS)).trans p1,g2⟩
 case done =>
  rintro s' ⟨e,I1,o1,o2⟩;rw[Wt (by rw[we];rfl')]at o2
  try dsimp only
  refine wpAny_bind (listItems_at o2 rfl ?_);refine QD I1 (A:=X.A.in1.in1) (by have:=hr.un;show X.A.units+1+1<cLine;rfl') o1 o2 nDS fD fS (by rw[we];rfl') (by rw[we];rfl') pr.key (by rw[we];exact h64) pr.nd λs2 out c I2 oD lo=>?_;obtain⟨ys,ly,rfl⟩:=VD lo;exact z s2 ys c I2 oD ly
theorem Mn{D:Addr}{n0:Nat}{P:PySem.Fin->Shared->Prop}{E:aC}(F:First X q p params body scope)(L:Du q params body scope H f)(hr:Room (k+3) X.A)(I:Inv X π σ H s)(pr:Pairs X.K H ts ka kn)
  (hD:s.heap.get? D=some (seqObj "list" (ts.map Value.ref).toArray n0)) (fD:FpOk X π H D) (gD:D ∉ frs X.stack)
  (z:∀ s2 (ys:List Addr) c,Inv X π σ H s2->s2.heap.get? D=some (seqObj "list" (ys.map Value.ref).toArray c)->LexV kn ts ys->P (.done (.ret .none)) s2) :
  wpAny (model X.prog X.w) X.A.in1.in1 (ksk_tree D (.ref f) false) P E s:=by
 have h64:=pr.few;have hlt:D<s.heap.objs.size:=wo hD;have sz:(ts.map Value.ref).length<=sizeLine:=by rw[we,sizeLine_eq];rfl'
 unfold ksk_tree;refine wpAny_bind (listItems_at hD rfl ?_);have sb:=Heap.SameBut.update s.heap D (Obj.mapSeq λ_=>(#[]:Array Value));have o1:=get?_update_seq hD λ_=>(#[]:Array Value);refine wpAny_bind (listUpdate_at hD rfl ?_ (by rw[wr];exact sz) (wx _));have I1:Inv X π σ H { s with heap:=s.heap.update D (Obj.mapSeq λ_=>(#[]:Array Value)) }:=I.turnedL (t':=s.toks) (ch:=[D]) (λb o hb e=>(sb.2 b (by simpa using hb)).trans e) (λb hb=>by rw[wu.mp hb];exact fD);refine wpAny_bind (seqEpoch_at o1 rfl ?_);refine wpAny_bind (wpAny_newTuple ?_ (by show(ts.map Value.ref).length<=_;exact sz));refine wpAny_bind (wpAny_newList ?_ (wx _));refine wpAny_holding ?_;generalize hg:s.heap.update D (Obj.mapSeq λ_=>(#[]:Array Value))=g at *;have zg:g.objs.size=s.heap.objs.size:=sb.1;have I2:Inv X π σ H { s with heap:=(g.push (seqObj "tuple" (ts.map Value.ref).toArray 0)).push (seqObj "list" #[] 0) }:=I1.kept (t':=s.toks) λb o e=>wd _ (wd _ e);have zk:(g.push (seqObj "tuple" (ts.map Value.ref).toArray 0)).objs.size=g.objs.size+1:=size_push' _ _;have ge:s.heap.objs.size<=(g.push (seqObj "tuple" (ts.map Value.ref).toArray 0)).objs.size:=by rfl'
 refine Mm (s:={ s with heap:=(g.push (seqObj "tuple" (ts.map Value.ref).toArray 0)).push (seqObj "list" #[] 0) }) (kS:=(g.push (seqObj "tuple" (ts.map Value.ref).toArray 0)).objs.size) F L hr I2 pr (wd _ (wd _ o1)) (wp _ rfl) (WN (wt hlt ge)) fD (I.fpOk ge (I.hok.fresh ge)) gD (λz=>?_) z;exact absurd (wt (IP I z) ge) (wT _)
theorem Mo(F:First X q p params body scope)(L:Du q params body scope H f)(hr:Room (k+3) X.A)(I:Inv X π σ H s)(hl:H l=some (.lst (ts.map V.ref)))(pr:Pairs X.K H ts ka kn)
  (z:∀ D ys,H D=none->LexV kn ts ys->Q (.ref D) (upd H D (.lst (ys.map V.ref)))) :
  wpAny (model X.prog X.w) X.A (call (.builtin "sorted") [.ref l] [(Str.ofString "key",.ref f)]) (EP X π σ Q) X.xe s:=by
 obtain⟨its,rv,pl,hz⟩:=I.list (SqL.of (K:=X.K) hl);have ei:=Hj rv;subst ei;have h64:=pr.few;have sz:(ts.map Value.ref).length<=sizeLine:=by rw[we,sizeLine_eq];rfl'
 refine call_function_entry_kw kind_sorted plain_sorted entry_sorted (ksk_s1 _ _) ?_;unfold Builtin.«sorted»;refine wpAny_bind (m:=checkCount "sorted" 1 1 _) (wpAny_pure ?_);refine wpAny_bind (collect_list pl.isList ?_ (by simpa using sz));refine wpAny_bind (wpAny_newList ?_ (by simpa using sz));generalize hg:(s.heap.push (seqObj "list" #[] 0)).update s.heap.objs.size (Obj.mapSeq (·++(ts.map Value.ref).toArray))=g;have zg:g.objs.size=s.heap.objs.size+1:=by rw[←hg,uI,size_push']
 have kg:∀ b o,s.heap.get? b=some o->g.get? b=some o:=λb o e=>by
  have hlt:=wo e;rw[←hg,uo _ _ _ _ (wJ hlt),vG _ _ _ (wJ hlt)];exact e
 have I1:Inv X π σ H { s with heap:=g.push (seqObj "list" (ts.map Value.ref).toArray 0) }:=I.kept (t':=s.toks) λb o e=>wd _ (kg b o e);have oD:(g.push (seqObj "list" (ts.map Value.ref).toArray 0)).get? g.objs.size=some (seqObj "list" (ts.map Value.ref).toArray 0):=wp _ rfl;have ge:s.heap.objs.size<=g.objs.size:=by rfl'
 refine wpAny_bind (wpAny_holding (wpAny_call_entry_kw slot_list_sort ⟨_,oD,rfl⟩ entry_list_sort ?body (ksk_l1 _ _)))
 case body =>
  show wpAny (model X.prog X.w) X.A.in1.in1 (Builtin.«list.sort» ⟨[.ref g.objs.size],[(Str.ofString "key",.ref f)]⟩) _ _ _;rw[ksk_t1];refine Mn (s:={ s with heap:=g.push (seqObj "list" (ts.map Value.ref).toArray 0) }) F L hr I1 pr oD (I.fpOk ge (I.hok.fresh ge)) (λz=>absurd (wt (IP I z) ge) (wT _)) λs2 ys c I2 o2 ly=>⟨_,rfl,?_⟩;refine wpAny_pure ⟨_,rfl,?_⟩;have hn:H g.objs.size=none:=I.hok.fresh ge;have ll:ys.length=ts.length:=by
   obtain⟨ps,h1,h2,_⟩:=ly;rw[h2,we,h1.length_eq,WI,pr.l2,Nat.min_self]
  exact⟨.ref g.objs.size,_,I2.track hn ⟨hn,(I.fpOk ge (I.hok.fresh (H:=H) ge)).2⟩ (wB I.sz ge) (by simpa using o2) (Hk ys) (by rw[we,sizeLine_eq];rfl'),rfl,z _ _ hn ly⟩
def Sm(K:aE)(P:Addr)(ps:Array Value)(q:Str)(i:Nat):TE:=λσ H Q=>∃ l ts ka kn,σ[i]?=some (some (.ref l))/\H l=some (.lst (ts.map V.ref))/\Pairs K H ts ka kn/\H P=some (.tbl ps q) /\
 ∀ D ys H2,Same H H2->H2 D=none->LexV kn ts ys->Q (.ref D) (upd H2 D (.lst (ys.map V.ref)))
end
theorem Pairs.mono{K:aE}{H H':Hp}{ts ka:List Addr}{kn:aA}(h:Pairs K H ts ka kn)(s:Same H H'):Pairs K H' ts ka kn :=
 ⟨h.l1,h.l2,λj t a e1 e2=>let ⟨b,g⟩:=h.tup j t a e1 e2;⟨b,s.seqT g⟩,λj a ns e1 e2=>s _ _ (h.key j a ns e1 e2),h.few,h.nd⟩
section
variable {X:Cx}{k i:Nat}{c P:Addr}{ps:Array Value}{q p x:Str}{params:Arguments}{body:Expr}{scope:Scope}{p1 p2 pos kpos lpos:Pos}
theorem Sn(F:First X q p params body scope)(hr:Room (k+3) X.A)(L:Lam X.base X.mg c P)(hc:X.env.code = .ref c)(hq:X.env.qual ++ "<lambda>" = q)(hcl:closureFor scope X.env=pure [])(hdf:defaultsOf params X.env=([],[]))
  (hg:Gl X "sorted") (hm:X.mg "sorted" = none) (ha:PE X (.Name x p2) (tVar i)) (hs:starEach [.Name x p2] X.env=[(false,eval (.Name x p2) X.env)]:=by rfl) :
  PE X (.Call (.Name "sorted" p1) [.Name x p2] [⟨some "key",.Lambda params body scope lpos,kpos⟩] pos) (Sm X.K P ps q i):=by
 intro π s σ H Q I ⟨l,ts,ka,kn,e0,hl,pr,hP,z⟩;have hA:PA X [.Name x p2] (o0 (tVar i) tNil):=i8 ha l7;refine wpAny_Call_Name_kw (Q8 I hg hm (by decide +kernel:bootBuiltins "sorted" = some (.builtin "sorted")) ?_);refine PyProof.Rows.callWith_kw (thn (hA pos π s σ H (λvs H1=>vs=[.ref l]/\H1=H) I ⟨_,e0,rfl,rfl⟩) λus s1 hZ=>?_) (by rw[hs];rfl) (by rw[hs];rfl) rfl rfl;obtain⟨vs,H1,I1,rv,ev,eH⟩:=hZ;subst ev eH;obtain⟨ua,rfl,rua⟩:=rv.one;obtain rfl:ua=Value.ref l:=rua;have hkw:PK X [⟨some "key",.Lambda params body scope lpos,kpos⟩] (o0 (λσ H Q=>H P=some (.tbl ps q)/\∀ f H',Same H H'->Du q params body scope H' f->Q (.ref f) H') tNil):=Iz (λπ s σ H Q I ⟨hP,h⟩=>Sj I L hc hq hP hcl hdf λf H' s' I' sm il=>⟨.ref f,H',I',rfl,h f H' sm il⟩) LJ;refine thn (hkw pos π s1 σ H1 (λzs H2=>∃ f,zs=[.ref f]/\Same H1 H2/\Du q params body scope H2 f) I1 ⟨hP,λf H' sm il=>⟨f,rfl,sm,il⟩⟩) ?_;rintro kvs s2 ⟨zs,H2,I2,rz,f,ez,sm,il⟩;subst ez;obtain⟨uk,rfl,ruk⟩:=rz.one;cases ruk;exact Mo F il hr I2 (sm _ _ hl) (pr.mono sm) λD ys hn ly=>z D ys H2 sm hn ly
end
end L2

end
section
namespace L2
open PySem
abbrev L(ns:aH):Dt := .lst (ns.map .int)
abbrev T(ns:aH):Dt := .tup (ns.map .int)
theorem C2{α β:Type}{a:α}{f:α->Option β}:(some a).bind f=f a:=rfl
theorem Pt{α:Type}{xs:List α}{i:Int}(h0:0<=i):atI xs i=xs[i.toNat]?:=by
 unfold atI ixN;rw[if_pos h0];by_cases h:i<xs.length
 · rw[if_pos h];rfl
 · rw[if_neg h,wO (by rfl')];rfl
theorem So{α:Type}{x:α}{xs:List α}:atI (x::xs) 0=some x:=Ab (j:=0) rfl
theorem atI_c1{α:Type}{x y:α}{xs:List α}:atI (x::y::xs) 1=some y:=Ab (j:=1) rfl
theorem atI_c2{α:Type}{x y z:α}{xs:List α}:atI (x::y::z::xs) 2=some z:=Ab (j:=2) rfl
theorem O6:∀ ns:aH,E3 (ns.map Dt.int)=true
 | []=>rfl
 | n::ns=>by rw[wj,E3,O6 ns];rfl
theorem F7:∀(k:Nat) (ns:aH),oksN k (ns.map Dt.int)=true
 | k,[]=>by cases k<;>rfl
 | k,n::ns=>by rw[wj,oksN,F7 k ns];cases k<;>rfl
theorem T1:∀ ns:aH,pys (ns.map Dt.int)=ns.map PyData.int
 | []=>rfl
 | n::ns=>by rw[wj,pys,T1 ns];rfl
theorem Q3:∀ ns ms:aH,PyData.eqvAll (ns.map PyData.int) (ms.map PyData.int)=decide (ns=ms)
 | [],[]=>by simp[PyData.eqvAll]
 | [],m::ms=>by simp[PyData.eqvAll]
 | n::ns,[]=>by simp[PyData.eqvAll]
 | n::ns,m::ms=>by
  rw[wj,wj,PyData.eqvAll,Q3 ns ms,PyData.eqv,uR];simp
theorem Hl(ns ms:aH):opNe (L ns) (L ms)=some (.nw,.bl (!decide (ns=ms))):=by
 unfold opNe L;rw[Dt.okN,Dt.okN,F7,F7];unfold eqD;rw[Dt.py,Dt.py,T1,T1,PyData.eqv,Q3];rfl
theorem VE(ns:aH):(Dt.scr ns).okN 8=true:=by simp[Dt.okN]
theorem Kj(ns ms:aH):opEq (.scr ns) (L ms)=some (.nw,.bl (decide (ns=ms))):=by
 unfold opEq;rw[VE];unfold L;rw[Dt.okN,F7];unfold eqD;rw[Dt.py,Dt.py,T1,PyData.eqv,Q3];rfl
theorem A0(i j:Int):opEq (.int i) (.int j)=some (.nw,.bl (decide (i=j))):=by
 unfold opEq eqD;rw[Dt.py,Dt.py,PyData.eqv,uc];rfl
theorem C6(i j:Int):opNe (.int i) (.int j)=some (.nw,.bl (!decide (i=j))):=by
 unfold opNe eqD;rw[Dt.py,Dt.py,PyData.eqv,uc];rfl
theorem Kk{i j:Int}(h:j.natAbs<2 ^ 64):D1 i j=true:=by unfold D1;rw[decide_eq_true h];simp
theorem M8{i j:Int}(h:i.natAbs<2 ^ 64):D1 i j=true:=by unfold D1;rw[decide_eq_true h];simp
section
variable (i j:Int)
end
def D3(ns:aH)(k:Int):Int:=if k<ns.length then ns.getD k.toNat 0 else if ns=[] then 0 else ns.getD (k.fmod ns.length).toNat 0*31+k
end L2

end
section
namespace L2
open PySem
section
variable {α β γ:Type}{g:Tg}{Fc:FT}{Fe:FE}{ρ0:Rho}
theorem Hm(e:α->Dt)(h:α->Dv):∀(xs:List α),(∀ x∈xs,(g.put (e x) ρ0).bind Fe=some (h x))->S9 g fYes Fe ρ0 (xs.map e)=some (xs.map h)
 | [],_=>rfl
 | x::xs,q=>by
  have q1:=q x wc;have ih:=Hm e h xs λy hy=>q y (wb _ hy);rw[wj,S9];cases p:g.put (e x) ρ0 with
  | none=>rw[p]at q1;cases q1
  | some ρ1 =>
   rw[p]at q1;have q1:Fe ρ1=some (h x):=q1;simp[fYes,q1,ih]
theorem BH(e:α->Dt)(h:α->Dv)(p:α->Bool):∀(xs:List α),(∀ x∈xs,(g.put (e x) ρ0).bind Fc=some (p x))->(∀ x∈xs,p x=true->(g.put (e x) ρ0).bind Fe=some (h x))->S9 g Fc Fe ρ0 (xs.map e)=some ((xs.filter p).map h)
 | [],_,_=>rfl
 | x::xs,q,q'=>by
  have q1:=q x wc;have q2:=q' x wc;have ih:=BH e h p xs (λy hy=>q y (wb _ hy)) (λy hy=>q' y (wb _ hy));rw[wj,S9];cases z:g.put (e x) ρ0 with
  | none=>rw[z]at q1;cases q1
  | some ρ1 =>
   rw[z]at q1 q2;have q1:Fc ρ1=some (p x):=q1;cases w:p x with
   | true =>
    have q2:Fe ρ1=some (h x):=q2 w;simp[q1,w,q2,ih]
   | false=>simp[q1,w,ih]
theorem EQ(h:α->Dv):∀ xs:List α,sndL (xs.map h)=xs.map λx=>(h x).2
 | []=>rfl
 | x::xs=>by rw[wj,sndL,EQ h xs];rfl
theorem Ct{h:α->Dv}:∀{xs:List α},(∀ x∈xs,(h x).1.isFr=true)->Q0 (xs.map h)=true
 | [],_=>rfl
 | x::xs,q=>by rw[wj,Q0,q x wc,Ct λy hy=>q y (wb _ hy)];rfl
theorem n8{nt:Nat}{js:List Nat}{Fi:FI}{ρ:Rho}{e:α->Dt}{h:α->Dt}{xs:List α}(hi:Fi ρ=some (xs.map e))(q:∀ x∈xs,(g.put (e x) (sigD nt js ρ)).bind Fe=some (.nw,h x)):j9 nt js Fi g fYes Fe ρ=some (.nw,.lst (xs.map h)):=by
 unfold j9;rw[hi,C2,Hm e (λx=>(.nw,h x)) xs q,C2,Ct (λx _=>rfl),EQ];rfl
theorem IT{nt:Nat}{js:List Nat}{Fi:FI}{ρ:Rho}{e:α->Dt}{h:α->Dt}{p:α->Bool}{xs:List α}(hi:Fi ρ=some (xs.map e))(q:∀ x∈xs,(g.put (e x) (sigD nt js ρ)).bind Fc=some (p x))(q':∀ x∈xs,p x=true->(g.put (e x) (sigD nt js ρ)).bind Fe=some (.nw,h x)):
  j9 nt js Fi g Fc Fe ρ=some (.nw,.lst ((xs.filter p).map h)):=by
 unfold j9;rw[hi,C2,BH e (λx=>(.nw,h x)) p xs q q',C2,Ct (λx _=>rfl),EQ];rfl
variable {F:FS}
def nextO(G:FS):Oc->Option Oc
 | .nx ρ=>G ρ
 | .ct ρ=>G ρ
 | .bk ρ=>some (.nx ρ)
 | .rt f d=>some (.rt f d)
 | .ex C=>some (.ex C)
theorem Sq{ρ:Rho}:forF g F [] ρ=some (.nx ρ):=rfl
theorem F8{x:Dt}{xs:List Dt}{ρ:Rho}:forF g F (x::xs) ρ=((g.put x ρ).bind F).bind (nextO (forF g F xs)):=by
 rw[forF];cases g.put x ρ with
 | none=>rfl
 | some ρ1 =>
  show(F ρ1).bind _=(F ρ1).bind _;congr 1
  first|done|(funext oc;cases oc<;>rfl)
theorem Aj(e:α->Dt)(R:β->γ->Rho)(step:β->α->β):∀(xs:List α) (b:β) (j:γ),(∀ b x j,x∈xs->∃ j',(g.put (e x) (R b j)).bind F=some (.nx (R (step b x) j')))->∃ j',forF g F (xs.map e) (R b j)=some (.nx (R (xs.foldl step b) j'))
 | [],b,j,_=>⟨j,rfl⟩
 | x::xs,b,j,h=>by
  obtain⟨j1,h1⟩:=h b x j wc;obtain⟨j2,h2⟩:=Aj e R step xs (step b x) j1 λb y j hy=>h b y j (wb _ hy);refine⟨j2,?_⟩;rw[wj,F8,h1];exact h2
end
abbrev LL(rows:aA):Dt := .lst (rows.map L)
abbrev TTu(rows:aA):Dt := .tup (rows.map T)
abbrev G6(k:Int)(bills:aA):Dt := .tup [.int k,TTu bills]
theorem Sr(ns:aH):(T ns).flat=true:=by show E3 _=true;exact O6 ns
theorem Hn:∀ rows:aA,E3 (rows.map T)=true
 | []=>rfl
 | r::rows=>by rw[wj,E3,Sr,Hn rows];rfl
theorem nrm_T(f:Fl)(ns:aH):nrm f (T ns)=(.nw,T ns):=by unfold nrm;rw[Sr];rfl
theorem Ss(ns:aH):lfl (ns.map .int) = .nw:=by unfold lfl;rw[O6];rfl
theorem Cu(ns:aH):newL (ns.map .int)=(.nw,L ns):=by unfold newL;rw[Ss]
theorem Cv{α:Type}(h:α->Bool):∀ xs:List α,Dp (xs.map λx => .bl (h x))=some (xs.map h)
 | []=>rfl
 | x::xs=>by rw[wj,Dp,Cv h xs];rfl
theorem ER{α β:Type}(e:α->Dt)(f:β->Dt):∀(xs:List α) (ys:List β),zipD (xs.map e) (ys.map f)=(xs.zip ys).map λp => .tup [e p.1,f p.2]
 | [],ys=>by simp[zipD]
 | x::xs,[]=>by simp[zipD]
 | x::xs,y::ys=>by rw[wj,wj,zipD,ER e f xs ys];rfl
theorem C3(lo:Int)(n:Nat):U5 lo n=(List.range n).map λ(k:Nat) => .int (lo+(k:Int)):=rfl
theorem V0(c:Int){m:Int}(h:0<m):0<=c.fmod m/\c.fmod m<m:=⟨Wu c h,WE c h⟩
def Ho(c m:Int):Int :=
 if m=2 then(if((c.fdiv (10 ^ 30)).fmod 2)=1 then -(c.fmod (10 ^ 30)) else c.fmod (10 ^ 30))
 else
  let wide:Int:=if m=0 then 9 else 61
  let n:=c.fmod wide
  if wide.fdiv 2<n then n-wide else n
theorem Su(c m:Int):(Ho c m).natAbs<10 ^ 30:=by
 unfold Ho;have a1:=Wu c (show(0:Int)<10 ^ 30 by decide);have a2:=WE c (show(0:Int)<10 ^ 30 by decide);dsimp only;split
 · split<;>rfl'
 · have hw:(if m=0 then(9:Int) else 61)=9\/(if m=0 then(9:Int) else 61)=61:=by split<;>simp
   generalize (if m=0 then(9:Int) else 61)=wide at *;have b1:=Wu c (show(0:Int)<wide by rfl');have b2:=WE c (show(0:Int)<wide by rfl');split<;>rfl'
def BJ(ns:aH)(at_:Int)(n:Nat)(m:Int):aH:=(List.range n).map λ(k:Nat)=>Ho (D3 ns (at_+(k:Int))) m
theorem QE(ns:aH)(a:Int)(n:Nat)(m:Int):(BJ ns a n m).length=n:=by unfold BJ;simp
end L2

end
section
local macro_rules|`(tactic|rfl')=>`(tactic|first|lia|omega +splitDisjunctions)
namespace L2
open PySem
def addR(a b:aH):aH:=List.zipWith (·+·) a b
def subR(a b:aH):aH:=List.zipWith (· - ·) a b
def sclR(k:Int)(a:aH):aH:=a.map (k*·)
def u6(n:Nat):aH:=List.replicate n 0
def isWh:Dt->Bool
 | .int _=>true
 | _=>false
theorem O7{a b:aH}(h:a.length=b.length):(addR a b).length=a.length:=by unfold addR;rw[WR];rfl'
theorem T2{k:Int}{a:aH}:(sclR k a).length=a.length:=by unfold sclR;simp
theorem K1{n:Nat}:(u6 n).length=n:=by unfold u6;simp
theorem Mp{i j:Int}{p q:Nat}(h1:i.natAbs<2 ^ p)(h2:j.natAbs<2 ^ q)(h:p+q<=134217728):D1 i j=true:=by
 unfold D1;have a:=ID h1;have b:=ID h2;rw[decide_eq_true (show Builtin.Int.intBits i+Builtin.Int.intBits j<=134217728 by rfl')];rfl
theorem Sv(a b:aH):(a.zip b).map (λp=>Dt.int (p.1+p.2))=(addR a b).map .int:=by
 unfold addR;rw[List.zip,]
 induction a generalizing b with
 | nil=>rfl
 | cons x a ih=>cases b with
  | nil=>rfl
  | cons y b=>have:=ih b;simp[List.zipWith]
theorem QF(a b:aH):(a.zip b).map (λp=>Dt.int (p.1-p.2))=(subR a b).map .int:=by
 unfold subR;rw[List.zip,]
 induction a generalizing b with
 | nil=>rfl
 | cons x a ih=>cases b with
  | nil=>rfl
  | cons y b=>have:=ih b;simp[List.zipWith]
theorem BK{α β:Type}(g:α->β)(xs:List α)(i:Int):atI (xs.map g) i=(atI xs i).map g:=by
 unfold atI;rw[we];cases ixN xs.length i with
 | none=>rfl
 | some j=>show(xs.map g)[j]?=_;rw[wq];rfl
theorem Mq{α:Type}{xs:List α}{i:Nat}(h:i<xs.length):atI xs (i:Int)=some xs[i]:=Ab (wa h)
def Wide(n:Nat)(rows:aA):Prop:=∀ r∈rows,r.length=n
theorem QG(a b:aH)(h:a.length=b.length)(f:Int->Int->Int):(List.range a.length).map (λk=>f (a.getD k 0) (b.getD k 0))=List.zipWith f a b:=by
 apply WP
 · simp;rfl'
 · intro i h1 h2;simp at h1;simp[List.getD,wa h1,wa (show i<b.length by rfl')]
theorem nrm_nw(d:Dt):nrm .nw d=(.nw,d):=by unfold nrm;split<;>rfl
theorem run{F G:FS}{ρ ρ':Rho}{r:Option Oc}(h:F ρ=some (.nx ρ'))(k:G ρ'=r):sSeq F G ρ=r:=by
 unfold sSeq;rw[h];exact k
theorem Ak{np n:Nat}{fr:Bool}{F:FS}{ds:List Dt}{f:Fl}{d:Dt}(hl:ds.length=np)(h:F (rho0 n ds)=some (.rt f d))(hf:(f.isFr||d.flat)=true):cOf np n fr F ds=some d:=by
 unfold cOf;rw[if_pos hl,h];show(if(fr&&!(f.isFr||d.flat))=true then none else some d)=some d;rw[hf];cases fr<;>rfl
theorem Mr{n:Nat}(h:n<=1000000):Bx (n:Int)=true:=by
 unfold Bx;rw[decide_eq_true (show -1000000<=(n:Int) by rfl'),decide_eq_true (show(n:Int)<=1000000 by rfl')];rfl
theorem addscl(a b:aH)(k:Int)(h:a.length=b.length):(List.range a.length).map (λi=>a.getD i 0+k*b.getD i 0)=addR a (sclR k b):=by
 unfold addR sclR;rw[WY];exact QG a b h λx y=>x+k*y
theorem Sw(f:Nat->Int)(n:Nat):(List.range n).map (λk=>Dt.int (f k))=((List.range n).map f).map .int:=by rw[wF];rfl
theorem Sx{α:Type}{xs:List α}{i:Nat}(d:α)(h:i<xs.length):xs.getD i d∈xs:=by
 simp[List.getD,wa h]
theorem BL{α:Type}{xs:List α}{i:Nat}(d:α)(h:i<xs.length):atI xs (i:Int)=some (xs.getD i d):=by
 rw[Mq h];simp[List.getD,wa h]
theorem Sy(ns:aH)(a:Int)(n:Nat)(m:Int):∀ x∈BJ ns a n m,x.natAbs<10 ^ 30:=λx hx=>by
 unfold BJ at hx;obtain⟨k,_,rfl⟩:=wg.mp hx;exact Su _ _
end L2

end
section
namespace L2
open PySem
@[simp] def x0:=@rho0.eq_1
@[simp] def x1:=@sSeq.eq_1
@[simp] def x2:=@seqO.eq_1
@[simp] def x3:=@seqO.eq_2
@[simp] def x4:=@sIf.eq_1
@[simp] def x5:=@k6.eq_1
@[simp] def x6:=@fOp.eq_1
@[simp] def x7:=@fN.eq_1
@[simp] def x8:=@Pf.eq_1
@[simp] def x10:=@Cell.val.eq_3
@[simp] def x11:=@Cell.val.eq_4
@[simp] def x12:=@flOf.eq_1
@[simp] def x13:=@fBlt.eq_1
@[simp] def x14:=@b8.eq_1
@[simp] def x15:=@fNil.eq_1
@[simp] def x16:=@sndL.eq_1
@[simp] def x17:=@sndL.eq_2
@[simp] def x18:=@bLen.eq_1
@[simp] def x19:=@bLen.eq_2
@[simp] def x20:=@bLen.eq_3
@[simp] def x22:=@blD.eq_1
@[simp] def x25:=@truD.eq_2
@[simp] def x30:=@sRet.eq_1
@[simp] def x31:=@A3.eq_1
@[simp] def x32:=@fAt.eq_1
@[simp] def x33:=@opAt.eq_1
@[simp] def x34:=@fLst.eq_1
@[simp] def x35:=@fTup.eq_1
@[simp] def x37:=@Fl.item.eq_2
@[simp] def x38:=@fC.eq_1
@[simp] def x39:=@fTru.eq_1
@[simp] def x40:=@fNot.eq_1
@[simp] def x41:=@fAnd.eq_1
@[simp] def x42:=@fOr.eq_1
@[simp] def x43:=@vAnd.eq_1
@[simp] def x45:=@vNot.eq_1
@[simp] def x46:=@fNeg.eq_1
@[simp] def x47:=@fIf.eq_1
@[simp] def x48:=@fIsi.eq_1
@[simp] def x49:=@JR.eq_1
@[simp] def x50:=@tyN.eq_1
@[simp] def x51:=@tyN.eq_2
@[simp] def x52:=@tyN.eq_3
@[simp] def x53:=@tyN.eq_4
@[simp] def x54:=@tyN.eq_5
@[simp] def x55:=@tyN.eq_6
@[simp] def x56:=@tyN.eq_7
@[simp] def x57:=@sSet.eq_1
@[simp] def x58:=@relS.eq_1
@[simp] def x60:=@L8.eq_1
@[simp] def x61:=@L8.eq_2
@[simp] def x62:=@Bz.eq_1
@[simp] def x63:=@Bz.eq_2
@[simp] def x64:=@f8.eq_1
@[simp] def x65:=@Fl.isFr.eq_1
@[simp] def x66:=@Fl.isFr.eq_2
@[simp] def x68:=@Fl.isNw.eq_1
@[simp] def x69:=@Fl.isNw.eq_2
@[simp] def x70:=@Bu.eq_1
@[simp] def x71:=@Bu.eq_2
@[simp] def x72:=@Q0.eq_1
@[simp] def x73:=@Q0.eq_2
@[simp] def x74:=@EI.eq_1
@[simp] def x75:=@sFor.eq_1
@[simp] def x76:=@iSeq.eq_1
@[simp] def x77:=@seqD.eq_1
@[simp] def x78:=@seqD.eq_2
@[simp] def x80:=@Q1.eq_1
@[simp] def x81:=@sOwn.eq_1
@[simp] def x83:=@sWr.eq_1
@[simp] def x84:=@sWrA.eq_1
@[simp] def x85:=@sPut.eq_1
@[simp] def x86:=@He.eq_1
@[simp] def x87:=@BB.eq_1
@[simp] def x88:=@iRev.eq_1
@[simp] def x89:=@lstD.eq_1
@[simp] def x92:=@k9.eq_1
@[simp] def x93:=@intD.eq_1
@[simp] def x95:=@wApp.eq_1
@[simp] def x96:=@EJ.eq_1
@[simp] def x97:=@setD.eq_1
@[simp] def x98:=@bLst.eq_1
@[simp] def x99:=@bLst.eq_2
@[simp] def x101:=@bTup.eq_1
@[simp] def x104:=@Tg.put.eq_1
@[simp] def x105:=@Tg.put.eq_2
@[simp] def x107:=@R7.eq_1
@[simp] def x108:=@R7.eq_2
@[simp] def x110:=@Ha.eq_3
@[simp] def x112:=@sigD.eq_1
@[simp] def x114:=@AS.eq_1
@[simp] theorem x115:∀(i j:Int),opLt (Dt.int i) (Dt.int j)=some (Fl.nw,Dt.bl (decide (i<j))):=by intros;rfl
@[simp] theorem x116:∀(i j:Int),opLe (Dt.int i) (Dt.int j)=some (Fl.nw,Dt.bl (decide (i<=j))):=by intros;rfl
@[simp] theorem x117:∀(i j:Int),opGt (Dt.int i) (Dt.int j)=some (Fl.nw,Dt.bl (decide (j<i))):=by intros;rfl
@[simp] theorem x118:∀(i j:Int),opGe (Dt.int i) (Dt.int j)=some (Fl.nw,Dt.bl (decide (j<=i))):=by intros;rfl
@[simp] theorem x119:∀(i j:Int),L6 (Dt.int i) (Dt.int j)=some (Fl.nw,Dt.int (i-j)):=by intros;rfl
@[simp] theorem x120:∀(i j:Int),S8 (Dt.int i) (Dt.int j)=if Y2 i j=true then some (Fl.nw,Dt.int (Int.fmod i j)) else none:=by intros;rfl
@[simp] theorem x121:∀(i j:Int),L7 (Dt.int i) (Dt.int j)=if D1 i j=true then some (Fl.nw,Dt.int (i*j)) else none:=by intros;rfl
@[simp] theorem x122:∀(i j:Int),X1 (Dt.int i) (Dt.int j)=if J5 i j=true then some (Fl.nw,Dt.int (Int.fdiv i j)) else none:=by intros;rfl
@[simp] theorem x123:∀(i j:Int),GV (Dt.int i) (Dt.int j)=if Ey i j=true then some (Fl.nw,Dt.int (i ^ Int.toNat j)) else none:=by intros;rfl
@[simp] theorem x124:∀(i j:Int),l9 (Dt.int i) (Dt.int j)=some (Fl.nw,Dt.int (i+j)):=by intros;rfl
@[simp] theorem x125:∀(f:Fl) (i:Int),nrm f (Dt.int i)=(Fl.nw,Dt.int i):=by intros;rfl
@[simp] theorem x126:∀(f:Fl) (i:Bool),nrm f (Dt.bl i)=(Fl.nw,Dt.bl i):=by intros;rfl
@[simp] theorem x127:∀(f:Fl),nrm f Dt.non=(Fl.nw,Dt.non):=by intros;rfl
@[simp] theorem x128:∀(f:Fl) (ns:aH),nrm f (Dt.scr ns)=(f,Dt.scr ns):=by intros;rfl
@[simp] theorem x129:∀(f:Fl) (ns:aH),nrm f (L ns)=(f,L ns):=by intros;rfl
@[simp] theorem x130:∀(f:Fl) (ns:aA),nrm f (LL ns)=(f,LL ns):=by intros;rfl
@[simp] theorem x134:∀{α β:Type} {a:α} {f:α->Option β},Option.bind (some a) f=f a:=by intros;rfl
@[simp] theorem x135:∀{α β:Type} {f:α->Option β},Option.bind none f=none:=by intros;rfl
@[simp] def x136:=@So
@[simp] def x137:=@atI_c1
@[simp] def x138:=@atI_c2
@[simp] theorem y1(ns:aH):newL (List.map Dt.int ns)=(Fl.nw,Dt.lst (List.map Dt.int ns)):=Cu ns
@[simp] theorem y2:newL []=(Fl.nw,Dt.lst []):=rfl
@[simp] theorem y3(ns:aH):E3 (List.map Dt.int ns)=true:=O6 ns
@[simp] theorem y5(i:Int):Dt.flat (Dt.int i)=true:=rfl
@[simp] theorem y6(i:Bool):Dt.flat (Dt.bl i)=true:=rfl
@[simp] theorem y7(f:Fl)(ds:List Dt):nrm f (Dt.lst ds)=(f,Dt.lst ds):=rfl
@[simp] theorem y8:E3 []=true:=rfl
@[simp] theorem y9(d:Dt)(ds:List Dt):E3 (d::ds)=(d.flat&&E3 ds):=by rw[E3]
@[simp] theorem y10(ds:List Dt):Dt.flat (Dt.lst ds)=false:=by rw[Dt.flat]
@[simp] theorem y11(ds:List Dt):Dt.flat (Dt.tup ds)=E3 ds:=by rw[Dt.flat]
@[simp] theorem y12(f:Fl)(ds:List Dt):nrm f (Dt.tup ds)=(if E3 ds=true then Fl.nw else f,Dt.tup ds):=rfl
@[simp] theorem xd1:tyN Dt.dic = "dict" := rfl
end L2

end
section
local macro_rules|`(tactic|rfl')=>`(tactic|first|lia|omega +splitDisjunctions)
namespace L2
open PySem
theorem Dw{γ:Type}{g:Tg}{F:FS}(R:Nat->γ->Rho):∀(n k:Nat) (j:γ),(∀ i j,k<=i->i<k+n->∃ j',(g.put (.int (i:Int)) (R i j)).bind F=some (.nx (R (i+1) j')))->∃ j',forF g F ((List.range n).map λ(i:Nat) => .int (((k+i:Nat):Int))) (R k j)=some (.nx (R (k+n) j'))
 | 0,k,j,_=>⟨j,rfl⟩
 | n+1,k,j,h=>by
  obtain⟨j1,h1⟩:=h k j (wf _) (by rfl');obtain⟨j2,h2⟩:=Dw R n (k+1) j1 λi j hi hl=>h i j (by rfl') (by rfl');refine⟨j2,?_⟩;rw[List.range_succ_eq_map,wj,F8,Nat.add_zero,h1,wF];rw[show k+(n+1)=k+1+n by rfl',←h2];show forF g F _ (R (k+1) j1)=forF g F _ (R (k+1) j1);congr 1;apply Wr;intro i _;show Dt.int ((k+(i+1):Nat):Int)=_;rw[show k+(i+1)=k+1+i by rfl']
theorem Ms{γ:Type}{g:Tg}{F:FS}(R:Nat->γ->Rho)(n:Nat)(j:γ)(h:∀ i j,i<n->∃ j',(g.put (.int (i:Int)) (R i j)).bind F=some (.nx (R (i+1) j'))):∃ j',forF g F (U5 0 n) (R 0 j)=some (.nx (R n j')):=by
 obtain⟨j',e⟩:=Dw R n 0 j λi j _ hi=>h i j (by rfl');refine⟨j',?_⟩;rw[wZ]at e;rw[←e,C3];congr 1
@[simp] theorem y13(n:Nat)(h:n<=1000000):Bx (n:Int)=true:=Mr h
end L2
namespace L2
open PySem
@[simp] theorem y14(F:FE)(A B:FP)(ρ:Rho):fSl F A B ρ=(F ρ).bind λx=>(A ρ).bind λlo=>(B ρ).bind λhi=>match x.2 with|.lst ds=>some (newL (cutD ds lo hi))|_=>none:=rfl
@[simp] theorem y15(F:FE)(ρ:Rho):fPart F ρ=(F ρ).bind λx=>(intD x.2).map some:=rfl
@[simp] theorem y16(ρ:Rho):Vl ρ=some none:=rfl
theorem Kl(a b:aH)(h:a.length+b.length<=1000000):l9 (.lst (a.map Dt.int)) (.lst (b.map Dt.int))=some (.nw,L (a++b)):=by
 have:l9 (.lst (a.map Dt.int)) (.lst (b.map Dt.int))=Bs (.lst (a.map Dt.int)) (.lst (b.map Dt.int)):=rfl;rw[this,Bs,if_pos (by simpa using h),←wI,Cu]
end L2

end
section
local macro_rules|`(tactic|rfl')=>`(tactic|first|lia|omega +splitDisjunctions)
namespace Lat
abbrev Vec:=Nat->Int
def Span:List Vec->Vec->Prop
 | [],v=>∀ k,v k=0
 | r::rs,v=>∃ c:Int,Span rs (λk=>v k-c*r k)
theorem Span.congr{rs:List Vec}{v w:Vec}(h:∀ k,v k=w k)(s:Span rs v):Span rs w:=by
 have:v=w:=funext h;rw[←this];exact s
theorem Span.zero:∀{rs:List Vec},Span rs (λ_=>0)
 | []=>λ_=>rfl
 | r::rs=>⟨0,Span.congr (λk=>by simp) (Span.zero (rs:=rs))⟩
theorem Span.add:∀{rs:List Vec} {v w:Vec},Span rs v->Span rs w->Span rs (λk=>v k+w k)
 | [],v,w,h1,h2=>λk=>by show v k+w k=0;rw[h1 k,h2 k];rfl
 | r::rs,v,w,⟨c,h1⟩,⟨d,h2⟩=>⟨c+d,Span.congr (λk=>by show _=(v k+w k)-(c+d)*r k;rw[Int.add_mul];rfl') (h1.add h2)⟩
theorem Span.smul:∀{rs:List Vec} {v:Vec} (a:Int),Span rs v->Span rs (λk=>a*v k)
 | [],v,a,h=>λk=>by show a*v k=0;rw[h k,Int.mul_zero]
 | r::rs,v,a,⟨c,h⟩=>⟨a*c,Span.congr (λk=>by rw[uO,vL]) (h.smul a)⟩
theorem Span.neg{rs:List Vec}{v:Vec}(h:Span rs v):Span rs (λk =>-v k):=Span.congr (λk=>by rfl') (h.smul (-1))
theorem Span.sub{rs:List Vec}{v w:Vec}(h1:Span rs v)(h2:Span rs w):Span rs (λk=>v k-w k):=Span.congr (λk=>by rfl') (h1.add h2.neg)
theorem Span.head{r:Vec}{rs:List Vec}:Span (r::rs) r:=⟨1,Span.congr (λk=>by rfl') Span.zero⟩
theorem Span.cons{r:Vec}{rs:List Vec}{v:Vec}(h:Span rs v):Span (r::rs) v:=⟨0,Span.congr (λk=>by rfl') h⟩
theorem Span.mem:∀{rs:List Vec} {r:Vec},r∈rs->Span rs r
 | _::_,_,.head _=>Span.head
 | _::_,_,.tail _ h=>(Span.mem h).cons
theorem Span.least{P:Vec->Prop}(z:P (λ_=>0))(a:∀ v w,P v->P w->P (λk=>v k+w k))(m:∀(c:Int) v,P v->P (λk=>c*v k)):
  ∀{rs:List Vec} {v:Vec},(∀ r∈rs,P r)->Span rs v->P v
 | [],v,_,h=>by have:v=λ_=>0:=funext h;rw[this];exact z
 | r::rs,v,hr,⟨c,h⟩=>by
  have h1:=Span.least z a m (λx hx=>hr x (wb _ hx)) h;have h2:=a _ _ h1 (m c r (hr r wc));have:v=λk=>(v k-c*r k)+c*r k:=funext λk=>by rfl'
  rw[this];exact h2
theorem Span.trans{rs ss:List Vec}{v:Vec}(h:∀ r∈rs,Span ss r)(s:Span rs v):Span ss v :=
 Span.least (P:=Span ss) Span.zero (λ_ _=>Span.add) (λc _=>Span.smul c) h s
def SameSpan(rs ss:List Vec):Prop:=(∀ r∈rs,Span ss r)/\∀ s∈ss,Span rs s
theorem SameSpan.iff{rs ss:List Vec}(h:SameSpan rs ss){v:Vec}:Span rs v↔Span ss v:=⟨Span.trans h.1,Span.trans h.2⟩
theorem SameSpan.refl{rs:List Vec}:SameSpan rs rs:=⟨λ_=>Span.mem,λ_=>Span.mem⟩
theorem SameSpan.symm{rs ss:List Vec}(h:SameSpan rs ss):SameSpan ss rs:=⟨h.2,h.1⟩
theorem SameSpan.trans{rs ss ts:List Vec}(h:SameSpan rs ss)(g:SameSpan ss ts):SameSpan rs ts:=⟨λr hr=>(h.1 r hr).trans g.1,λt ht=>(g.2 t ht).trans h.2⟩
def Form:Nat->List (Nat×Vec)->Prop
 | _,[]=>True
 | f,(h,r)::rs=>f<=h/\(∀ k,k<h->r k=0)/\0<r h/\(∀ p∈rs,0<=r p.1/\r p.1<p.2 p.1)/\Form (h+1) rs
abbrev R8(S:List (Nat×Vec)):List Vec:=S.map (·.2)
theorem Form.low:∀{f:Nat} {S:List (Nat×Vec)} {v:Vec},Form f S->Span (R8 S) v->∀ k,k<f->v k=0
 | _,[],v,_,s,k,_=>s k
 | f,(h,r)::S,v,⟨h1,h2,h3,h4,h5⟩,⟨c,s⟩,k,hk=>by
  have:=Form.low h5 s k (by rfl');have e:r k=0:=h2 k (by rfl');have this:v k-c*r k=0:=this;rw[e]at this;simpa using this
theorem Form.coef{f h:Nat}{r v:Vec}{S:List (Nat×Vec)}{c:Int}(F:Form f ((h,r)::S))(s:Span (R8 S) (λk=>v k-c*r k)):v h=c*r h:=by
 have:v h-c*r h=0:=F.2.2.2.2.low s h (by rfl');rfl'
theorem AK{c r v:Int}(e:v=c*r)(hr:0<r)(h1 : -r<v)(h2:v<r):c=0:=by
 rcases uD c 0 with h|h|h
 · exfalso;have:c*r <= -1*r:=Wl (by rfl') (by rfl');rfl'
 · exact h
 · exfalso;have:1*r<=c*r:=Wl (by rfl') (by rfl');rfl'
theorem Form.tail{f h:Nat}{r v:Vec}{S:List (Nat×Vec)}(F:Form f ((h,r)::S))(s:Span (R8 ((h,r)::S)) v)(z:v h=0):Span (R8 S) v:=by
 obtain⟨c,s⟩:=s;have e:=F.coef s;have hr:=F.2.2.1;rw[z]at e;have c0:c=0:=by
  rcases WK.mp e.symm with h|h
  · exact h
  · rfl'
 subst c0;exact Span.congr (λk=>by rfl') s
end Lat

end
section
namespace Lat
theorem E5{α β:Type}[DecidableEq β]:∀{l:List α} {m:List β} (f:α->β),l.Nodup->(∀ x∈l,∀ y∈l,f x=f y->x=y)->(∀ x∈l,f x∈m)->l.length<=m.length
 | [],m,f,_,_,_=>wx _
 | x::l,m,f,hn,hi,hm=>by
  have hx:=hm x wc;have hn':=wV.mp hn;have h1:l.length<=(m.erase (f x)).length:=by
   refine E5 f hn'.2 (λa ha b hb=>hi a (wb _ ha) b (wb _ hb)) (λa ha=>?_);have hne:f a≠f x:=λe=>by
    have:=hi a (wb _ ha) x wc e;subst this;exact hn'.1 ha
   exact(List.mem_erase_of_ne hne).mpr (hm a (wb _ ha))
  have h2:(m.erase (f x)).length=m.length-1:=List.length_erase_of_mem hx;have h3:0<m.length:=List.length_pos_of_mem hx;simp only[wm];rfl'
def box:List Nat->aA
 | []=>[[]]
 | n::ns=>(List.range n).flatMap λ(i:Nat)=>(box ns).map λt=>(i:Int)::t
def prod:List Nat->Nat
 | []=>1
 | n::ns=>n*prod ns
theorem Km{α:Type}(g:Nat->List α)(k:Nat):∀(l:List Nat),(∀ i∈l,(g i).length=k)->(l.flatMap g).length=l.length*k
 | [],_=>by simp
 | i::l,h=>by
  rw[vI,ww,Km g k l (λj hj=>h j (wb _ hj)),h i wc,wm,WZ,Nat.add_comm]
theorem O8:∀ ns:List Nat,(box ns).length=prod ns
 | []=>rfl
 | n::ns=>by
  show((List.range n).flatMap λ(i:Nat)=>(box ns).map λt=>(i:Int)::t).length=n*prod ns;rw[Km _ (prod ns) _ (λi _=>by rw[we,O8 ns]),wW]
def E6:List Nat->aH->Prop
 | [],[]=>True
 | n::ns,x::xs=>0<=x/\x<n/\E6 ns xs
 | _,_=>False
theorem Q4:∀{ns:List Nat} {t:aH},t∈box ns↔E6 ns t
 | [],[]=>by simp[box,E6]
 | [],x::t=>by simp[box,E6]
 | n::ns,[]=>by simp[box,E6]
 | n::ns,x::t=>by
  simp only[box,E6,vm,wM,wg,List.cons.injEq];constructor
  · rintro⟨i,hi,u,hu,rfl,rfl⟩;exact⟨by rfl',by rfl',Q4.mp hu⟩
  · rintro⟨h0,h1,h2⟩;exact⟨x.toNat,by rfl',t,Q4.mpr h2,by rfl',rfl⟩
theorem Cw:∀ ns:List Nat,(box ns).Nodup
 | []=>by simp[box]
 | n::ns=>by
  have ih:=Cw ns;have key:∀ m,((List.range m).flatMap λ(i:Nat)=>(box ns).map λt=>(i:Int)::t).Nodup:=by
   intro m
   induction m with
   | zero=>simp
   | succ m hm =>
    rw[uV,uq,Wy];refine⟨hm,?_,?_⟩
    · rw[vI,List.flatMap_nil,Wp];refine List.Pairwise.map _ (λa b hab e=>hab ?_) ih;exact(List.cons.inj e).2
    · intro a ha b hb e;subst e;simp only[vm,wM,wg,wu]at ha hb;obtain⟨i,hi,u,hu,rfl⟩:=ha;obtain⟨j,hj,w,hw,e⟩:=hb;have:=(List.cons.inj e).1;rfl'
  exact key n
theorem VF{ns ms:List Nat}(f:aH->aH)(hi:∀ s t,E6 ns s->E6 ns t->f s=f t->s=t)(hm:∀ s,E6 ns s->E6 ms (f s)):prod ns<=prod ms:=by
 rw[←O8 ns,←O8 ms];exact E5 f (Cw ns) (λx hx y hy=>hi x y (Q4.mp hx) (Q4.mp hy)) (λx hx=>Q4.mpr (hm x (Q4.mp hx)))
end Lat

end
section
local macro_rules|`(tactic|rfl')=>`(tactic|first|lia|omega +splitDisjunctions)
namespace Br
structure BI(a b u0 u1 u2 l0 l1 l2:Int):Prop where
 up:a*u1+b*u2=u0
 lo:a*l1+b*l2=l0
 gcd:vo u0 l0=vo a b
 p1:u0.natAbs*l1.natAbs+l0.natAbs*u1.natAbs<=a.natAbs+2*b.natAbs
 p2:u0.natAbs*l2.natAbs+l0.natAbs*u2.natAbs<=a.natAbs+2*b.natAbs
 ph:(u0=a/\u1=1/\u2=0/\l0=b/\l1=0/\l2=1)\/(0<=u0*l0/\u0≠0)
 b1:u1.natAbs<=a.natAbs+2*b.natAbs+1
 b2:u2.natAbs<=a.natAbs+2*b.natAbs+1
 b3:l1.natAbs<=a.natAbs+2*b.natAbs+1
 b4:l2.natAbs<=a.natAbs+2*b.natAbs+1
 c1:u0.natAbs<=a.natAbs+b.natAbs
 c2:l0.natAbs<=b.natAbs
theorem BI.start(a b:Int):BI a b a 1 0 b 0 1 where
 up:=by simp
 lo:=by simp
 gcd:=rfl
 p1:=by simp;rfl'
 p2:=by simp
 ph := .inl ⟨rfl,rfl,rfl,rfl,rfl,rfl⟩
 b1:=by simp
 b2:=by simp
 b3:=by simp
 b4:=by simp
 c1:=by rfl'
 c2:=by rfl'
theorem pot(L A R Qa u1 l1 f1 E:Nat)(hA:Qa*L+R<=A+E)(hf:f1<=u1+Qa*l1):L*f1+R*l1<=A*l1+L*u1+E*l1:=by
 have h1:L*f1<=L*(u1+Qa*l1):=wP L hf;have h2:L*(u1+Qa*l1)=L*u1+Qa*L*l1:=by
  rw[vJ,←Wv,WG L Qa]
 have h3:(Qa*L+R)*l1<=(A+E)*l1:=wA l1 hA;rw[vt,vt]at h3;rfl'
theorem Kn(u l:Int)(h:0<l):(u-u.fdiv l*l).natAbs<l.natAbs/\0<=l*(u-u.fdiv l*l)/\(0<=u*l->(u.fdiv l).natAbs*l.natAbs+(u-u.fdiv l*l).natAbs=u.natAbs) /\
  (u.fdiv l).natAbs*l.natAbs<=u.natAbs+(u-u.fdiv l*l).natAbs:=by
 have hs:u.fdiv l*l=u-u.fmod l:=Int.fdiv_mul_self u l;have hq:(u.fdiv l).natAbs*l.natAbs=(u.fdiv l*l).natAbs:=(wS _ _).symm;have e:u-u.fdiv l*l=u.fmod l:=by rfl'
 rw[e,hq,hs];have h1:0<=u.fmod l:=Wu u h;have h2:u.fmod l<l:=WE u h;refine⟨by rfl',Int.mul_nonneg (by rfl') h1,λhu=>?_,by rfl'⟩;have hu0:0<=u:=by
  by_cases hu':0<=u
  · exact hu'
  · have:=Int.mul_neg_of_neg_of_pos (show u<0 by rfl') h;rfl'
 have:u.fmod l<=u:=by
  have q1:0<=u.fdiv l:=Int.fdiv_nonneg hu0 (by rfl');have q2:0<=u.fdiv l*l:=Int.mul_nonneg q1 (by rfl');rfl'
 rfl'
theorem Pu(u l:Int)(hl:l≠0):(u-u.fdiv l*l).natAbs<l.natAbs/\0<=l*(u-u.fdiv l*l)/\(0<=u*l->(u.fdiv l).natAbs*l.natAbs+(u-u.fdiv l*l).natAbs=u.natAbs) /\
   (u.fdiv l).natAbs*l.natAbs<=u.natAbs+(u-u.fdiv l*l).natAbs:=by
 rcases Int.lt_or_gt_of_ne hl with h|h
 · have q:=Kn (-u) (-l) (by rfl');rw[Int.neg_fdiv_neg]at q;have e : -u-u.fdiv l * -l = -(u-u.fdiv l*l):=by rw[uP];rfl'
   rw[e,ue,ue,ue,uW,uW]at q;exact q
 · exact Kn u l h
theorem ES{a b c:Nat}(h:a*b<=c)(ha:a≠0):b<=c:=wB (Nat.le_mul_of_pos_left b (Nat.pos_of_ne_zero ha)) h
theorem Pw(u q l:Int):(u-q*l).natAbs<=u.natAbs+q.natAbs*l.natAbs:=by
 have:=wS q l;rfl'
theorem BI.turn{a b u0 u1 u2 l0 l1 l2:Int}(h:BI a b u0 u1 u2 l0 l1 l2)(hl:l0≠0):
   BI a b l0 l1 l2 (u0-u0.fdiv l0*l0) (u1-u0.fdiv l0*l1) (u2-u0.fdiv l0*l2):=by
 obtain⟨r1,r2,r3,r4⟩:=Pu u0 l0 hl;have hL:l0.natAbs≠0:=λe=>hl (uv.mp e);have hup:=h.up;have hlo:=h.lo;generalize eq:u0.fdiv l0=q at *;have lin:∀(x y:Int),a*(x-q*l1)+b*(y-q*l2)=(a*x+b*y)-q*(a*l1+b*l2):=λx y=>by
   rw[uO,uO,Int.mul_add,vc a q l1,vc b q l2];rfl'
 have f1:(u1-q*l1).natAbs<=u1.natAbs+q.natAbs*l1.natAbs:=Pw u1 q l1;have f2:(u2-q*l2).natAbs<=u2.natAbs+q.natAbs*l2.natAbs:=Pw u2 q l2;have key:∀(x y f:Nat),f<=x+q.natAbs*y->u0.natAbs*y+l0.natAbs*x<=a.natAbs+2*b.natAbs->((0<=u0*l0)\/(y=0)\/(y=1/\x=0/\u0=a/\l0=b)) ->
     l0.natAbs*f+(u0-q*l0).natAbs*y<=a.natAbs+2*b.natAbs:=λx y f hf hp hc=>by
   rcases hc with hc|hc|⟨hc,hx,ha,hb⟩
   · have:=pot l0.natAbs u0.natAbs (u0-q*l0).natAbs q.natAbs x y f 0 (by have:=r3 hc;rfl') hf;rfl'
   · subst hc;have:l0.natAbs*f<=l0.natAbs*x:=wP _ (by rfl');rfl'
   · subst hc;subst hx;have:=pot l0.natAbs u0.natAbs (u0-q*l0).natAbs q.natAbs 0 1 f (2*(u0-q*l0).natAbs) (by rfl') hf;have hab:u0.natAbs=a.natAbs:=by rw[ha]
     have hbb:l0.natAbs=b.natAbs:=by rw[hb]
     generalize (u0-q*l0).natAbs=R at *;generalize l0.natAbs*f=Z at *;rfl'
 have ph1:0<=u0*l0\/l1.natAbs=0\/(l1.natAbs=1/\u1.natAbs=0/\u0=a/\l0=b):=by
   rcases h.ph with⟨_,_,_,_,e,_⟩|⟨e,_⟩
   · exact .inr (.inl (by rw[e];rfl))
   · exact .inl e
 have ph2:0<=u0*l0\/l2.natAbs=0\/(l2.natAbs=1/\u2.natAbs=0/\u0=a/\l0=b):=by
   rcases h.ph with⟨e1,_,e2,e3,_,e4⟩|⟨e,_⟩
   · exact .inr (.inr ⟨by rw[e4];rfl,by rw[e2];rfl,e1,e3⟩)
   · exact .inl e
 have k1:=key _ _ _ f1 h.p1 ph1;have k2:=key _ _ _ f2 h.p2 ph2;have c2:=h.c2;refine⟨hlo,?_,?_,k1' k1,k1' k2,.inr ⟨r2,hl⟩,h.b3,h.b4,?_,?_,by rfl',by rfl'⟩
 · rw[lin,hup,hlo]
 · rw[Int.gcd_sub_mul_right_right,Int.gcd_comm,h.gcd]
 · exact vF (ES (wB (vQ _ _) k1) hL)
 · exact vF (ES (wB (vQ _ _) k2) hL)
where k1' {x y:Nat} (h:x<=y):x<=y:=h
theorem BI.fin{a b u0 u1 u2 l1 l2:Int}(h:BI a b u0 u1 u2 0 l1 l2):(u0.natAbs:Int)=vo a b:=by
 have:=h.gcd;rw[Int.gcd_zero_right]at this;rw[this]
end Br

end
section
namespace St
abbrev Row:=aH
def at0(r:Row)(k:Nat):Int:=r.getD k 0
def b7:Row->Nat
 | []=>0
 | x::r=>if x=0 then b7 r+1 else 0
theorem Al:∀ r:Row,b7 r<=r.length
 | []=>wf _
 | x::r=>by
  unfold b7;split
  · exact uJ (Al r)
  · exact wx _
theorem o6:∀(r:Row) (k:Nat),k<b7 r->at0 r k=0
 | [],k,h=>by simp[b7]at h
 | x::r,k,h=>by
  unfold b7 at h;split at h
  · rename_i hx;cases k with
    | zero=>simp[at0,hx]
    | succ k=>exact o6 r k (by rfl')
  · rfl'
theorem BM:∀(r:Row),b7 r<r.length->at0 r (b7 r)≠0
 | [],h=>by simp[b7]at h
 | x::r,h=>by
  unfold b7 at h ⊢;split at h
  · rename_i hx;rw[if_pos hx];exact BM r (by simpa using h)
  · rename_i hx;rw[if_neg hx];exact hx
theorem F9:∀(r:Row) (h:Nat),(∀ k,k<h->at0 r k=0)->at0 r h≠0->b7 r=h
 | [],h,_,q=>by simp[at0]at q
 | x::r,0,_,q=>by
  unfold b7;rw[if_neg (by simpa[at0]using q)]
 | x::r,h+1,z,q=>by
  have hx:x=0:=by simpa[at0]using z 0 (by rfl')
  unfold b7;rw[if_pos hx,F9 r h (λk hk=>by simpa[at0]using z (k+1) (by rfl')) (by simpa[at0]using q)]
theorem QH(r:Row)(h:Nat)(z:∀ k,k<h->at0 r k=0)(hl:h<=r.length):h<=b7 r:=by
 apply vf;intro hlt;exact BM r (by rfl') (z _ hlt)
theorem V1{r:Row}{k:Nat}(h:r.length<=k):at0 r k=0:=by simp[at0,List.getD,wO h]
theorem ext0{a b:Row}(h:a.length=b.length)(q:∀ k,at0 a k=at0 b k):a=b:=by
 apply WP h;intro i h1 h2;have:=q i;simpa[at0,List.getD,wa h1,wa h2]using this
def sub(a:Row)(q:Int)(b:Row):Row:=List.zipWith (λx y=>x-q*y) a b
theorem L3{a b:Row}{q:Int}(h:a.length=b.length):(sub a q b).length=a.length:=by unfold sub;rw[WR];rfl'
theorem V2{a b:Row}{q:Int}(h:a.length=b.length)(k:Nat):at0 (sub a q b) k=at0 a k-q*at0 b k:=by
 by_cases hk:k<a.length
 · unfold at0 sub;simp[List.getD,ud,wa hk,wa (show k<b.length by rfl')]
 · rw[V1 (by rw[L3 h];rfl'),V1 (by rfl'),V1 (show b.length<=k by rfl')];simp
def lin(x:Int)(a:Row)(y:Int)(b:Row):Row:=List.zipWith (λp q=>x*p+y*q) a b
theorem Ee{a b:Row}{x y:Int}(h:a.length=b.length):(lin x a y b).length=a.length:=by unfold lin;rw[WR];rfl'
theorem Ef{a b:Row}{x y:Int}(h:a.length=b.length)(k:Nat):at0 (lin x a y b) k=x*at0 a k+y*at0 b k:=by
 by_cases hk:k<a.length
 · unfold at0 lin;simp[List.getD,ud,wa hk,wa (show k<b.length by rfl')]
 · rw[V1 (by rw[Ee h];rfl'),V1 (by rfl'),V1 (show b.length<=k by rfl')];simp
def hd(r:Row):Int:=at0 r (b7 r)
def m9(left rung:Row):Int:=(at0 left (b7 rung)).fdiv (hd rung)
def d8:Row->aA->Row
 | left,[]=>left
 | left,r::rs=>d8 (sub left (m9 left r) r) rs
def ET:Row->aA->aH
 | _,[]=>[]
 | left,r::rs=>m9 left r::ET (sub left (m9 left r) r) rs
def Asc(n:Nat):Nat->aA->Prop
 | _,[]=>True
 | f,r::rs=>r.length=n/\f<=b7 r/\b7 r<n/\0<hd r/\Asc n (b7 r+1) rs
theorem Asc.weak{n:Nat}:∀{f g:Nat} {S:aA},Asc n f S->g<=f->Asc n g S
 | _,_,[],_,_=>trivial
 | _,_,r::rs,⟨h1,h2,h3,h4,h5⟩,h=>⟨h1,wB h h2,h3,h4,h5⟩
theorem Asc.mem{n:Nat}:∀{f:Nat} {S:aA} {r:Row},Asc n f S->r∈S->r.length=n/\f<=b7 r/\b7 r<n/\0<hd r
 | _,_::_,_,⟨h1,h2,h3,h4,h5⟩,.head _=>⟨h1,h2,h3,h4⟩
 | _,_::_,_,⟨h1,h2,h3,h4,h5⟩,.tail _ q=>by obtain⟨a,b,c,d⟩:=h5.mem q;exact⟨a,by rfl',c,d⟩
theorem w8{n:Nat}:∀{f:Nat} {S:aA} {left:Row},Asc n f S->left.length=n->(d8 left S).length=n
 | _,[],left,_,h=>h
 | _,r::rs,left,⟨h1,h2,h3,h4,h5⟩,h=>by rw[d8];exact w8 h5 (by rw[L3 (by rfl')];exact h)
theorem V3{n:Nat}:∀{f:Nat} {S:aA} {left:Row},Asc n f S->left.length=n->∀ k,k<f->at0 (d8 left S) k=at0 left k
 | _,[],left,_,h,k,_=>rfl
 | f,r::rs,left,⟨h1,h2,h3,h4,h5⟩,h,k,hk=>by
  rw[d8,V3 h5 (by rw[L3 (by rfl')];exact h) k (by rfl'),V2 (by rfl'),o6 r k (by rfl')];simp
theorem Hq(a:Int){b:Int}(h:0<b):0<=a-a.fdiv b*b/\a-a.fdiv b*b<b:=by
 have h1:=Wu a h;have h2:=WE a h;have h3:=Int.mul_fdiv_add_fmod a b;rw[vC]at h3;rfl'
theorem u7{n:Nat}:∀{f:Nat} {S:aA} {left:Row},Asc n f S->left.length=n->∀ r∈S,0<=at0 (d8 left S) (b7 r)/\at0 (d8 left S) (b7 r)<hd r
 | f,r::rs,left,⟨h1,h2,h3,h4,h5⟩,h,x,hx=>by
  have hl:(sub left (m9 left r) r).length=n:=by rw[L3 (by rfl')];exact h
  rw[d8];cases hx with
  | head =>
   rw[V3 h5 hl _ (wR _),V2 (by rfl')];exact Hq _ h4
  | tail _ hx=>exact u7 h5 hl x hx
def Lt(m:Nat)(r:Row):Prop:=∀ k,(at0 r k).natAbs<m
theorem Lt.mono{m m':Nat}{r:Row}(h:Lt m r)(q:m<=m'):Lt m' r:=λk=>wt (h k) q
theorem BN(a:Int){b:Int}(h:0<b):(a.fdiv b).natAbs<=a.natAbs:=by
 have h1:=Hq a h;generalize a.fdiv b=q at *;rcases uD q 0 with hq|hq|hq
 · have e:(q+1)*b=q*b+b:=by rw[Int.add_mul];rfl'
   have:(q+1)*b<=(q+1)*1:=Int.mul_le_mul_of_nonpos_left (by rfl') (by rfl');rfl'
 · subst hq;simp
 · have:q*1<=q*b:=Int.mul_le_mul_of_nonneg_left (by rfl') (by rfl');rfl'
theorem sub_lt{a b:Row}{q:Int}{s t u:Nat}(hl:a.length=b.length)(ha:Lt s a)(hb:Lt t b)(hq:q.natAbs<=u)(hs:0<s)(ht:0<t):Lt (s+u*t) (sub a q b):=λk=>by
 rw[V2 hl];have h1:=ha k;have h2:=hb k;have h3:(q*at0 b k).natAbs<=u*(t-1):=by rw[wS];exact Wh hq (by rfl')
 have h4:u*(t-1)<=u*t:=wP _ (by rfl');rfl'
theorem SA{left r:Row}{s t:Nat}(hl:left.length=r.length)(hr:0<hd r)(ha:Lt s left)(hb:Lt t r):Lt (s*(t+1)) (sub left (m9 left r) r):=by
 have hs:0<s:=Wm (wx _) (ha 0);have ht:0<t:=Wm (wx _) (hb 0);have:=sub_lt (q:=m9 left r) (u:=s) hl ha hb (wB (BN (at0 left (b7 r)) hr) (Ws (ha (b7 r)))) hs ht;rw[vJ,Nat.mul_one,Nat.add_comm];exact this
end St

end
section
local macro_rules|`(tactic|rfl')=>`(tactic|first|lia|omega +splitDisjunctions)
namespace St
open Lat
abbrev vec(r:Row):Vec:=λk=>at0 r k
abbrev vecs(S:aA):List Vec:=S.map vec
theorem EU{S:aA}{r:Row}(h:r∈S):vec r∈vecs S:=wg.mpr ⟨r,h,rfl⟩
theorem u8{n:Nat}:∀{f:Nat} {S:aA} {left:Row},Asc n f S->left.length=n->Span (vecs S) (λk=>at0 left k-at0 (d8 left S) k)
 | _,[],left,_,h=>λk=>by show at0 left k-at0 left k=0;rfl'
 | f,r::rs,left,⟨h1,h2,h3,h4,h5⟩,h=>by
  have hl:(sub left (m9 left r) r).length=n:=by rw[L3 (by rfl')];exact h
  have ih:=u8 h5 hl;refine⟨m9 left r,Span.congr (λk=>?_) ih⟩;rw[d8];show at0 (sub left (m9 left r) r) k-at0 (d8 (sub left (m9 left r) r) rs) k=at0 left k-at0 (d8 (sub left (m9 left r) r) rs) k-m9 left r*at0 r k;rw[V2 (by rfl')];rfl'
def mix:aA->aH->Vec
 | r::rs,c::cs=>λk=>c*at0 r k+mix rs cs k
 | _,_=>λ_=>0
theorem Asc.low{n:Nat}:∀{f:Nat} {S:aA} {v:Vec},Asc n f S->Span (vecs S) v->∀ k,k<f->v k=0
 | _,[],v,_,s,k,_=>s k
 | f,r::S,v,⟨h1,h2,h3,h4,h5⟩,⟨c,s⟩,k,hk=>by
  have e:=Asc.low h5 s k (by rfl');have e2:at0 r k=0:=o6 r k (by rfl');have e:v k-c*at0 r k=0:=e;rw[e2]at e;simpa using e
theorem Asc.coef{n f:Nat}{r:Row}{v:Vec}{S:aA}{c:Int}(A:Asc n f (r::S))(s:Span (vecs S) (λk=>v k-c*at0 r k)):v (b7 r)=c*hd r:=by
 have:v (b7 r)-c*at0 r (b7 r)=0:=A.2.2.2.2.low s _ (wR _);unfold hd;rfl'
theorem Asc.first{n:Nat}:∀{f:Nat} {S:aA} {v:Vec} {h:Nat},Asc n f S->Span (vecs S) v->(∀ k,k<h->v k=0)->v h≠0->∃ r∈S,b7 r=h
 | _,[],v,h,_,s,_,q=>absurd (s h) q
 | f,r::S,v,h,A,⟨c,s⟩,z,q=>by
  have e:=A.coef s;by_cases hc:c=0
  · subst hc;have s':Span (vecs S) v:=Span.congr (λk=>by simp) s;obtain⟨x,hx,e⟩:=A.2.2.2.2.first s' z q;exact⟨x,wb _ hx,e⟩
  · have hn:v (b7 r)≠0:=by
      rw[e];intro z;rcases WK.mp z with z|z
      · exact hc z
      · have:=A.2.2.2.1;rfl'
    have h1:¬b7 r<h:=λz'=>hn (z _ z');by_cases h2:h<b7 r
    · exfalso;have e2:v h-c*at0 r h=0:=A.2.2.2.2.low s h (by rfl');rw[o6 r h h2]at e2;exact q (by simpa using e2)
    · exact⟨r,wc,by rfl'⟩
def even:aA->aA
 | []=>[]
 | r::rs=>d8 r (even rs)::even rs
theorem N4{n:Nat}:∀{f:Nat} {S:aA},Asc n f S->Asc n f (even S)/\(even S).map b7=S.map b7/\(even S).map hd=S.map hd
 | _,[],_=>⟨trivial,rfl,rfl⟩
 | f,r::rs,⟨h1,h2,h3,h4,h5⟩=>by
  obtain⟨i1,i2,i3⟩:=N4 h5;have low:=V3 i1 h1;have e1:at0 (d8 r (even rs)) (b7 r)=hd r:=low _ (wR _);have e2:b7 (d8 r (even rs))=b7 r:=F9 _ _ (λk hk=>by rw[low k (by rfl')];exact o6 r k hk) (by rw[e1];rfl');have e3:hd (d8 r (even rs))=hd r:=by unfold hd;rw[e2];exact e1
  refine⟨⟨w8 i1 h1,by rw[e2];exact h2,by rw[e2];exact h3,by rw[e3];exact h4,by rw[e2];exact i1⟩,?_,?_⟩
  · rw[even,wj,wj,e2,i2]
  · rw[even,wj,wj,e3,i3]
def M3(S:aA):List (Nat×Vec):=S.map λr=>(b7 r,vec r)
theorem Hr{n:Nat}:∀{f:Nat} {S:aA},Asc n f S->Form f (M3 (even S))
 | _,[],_=>trivial
 | f,r::rs,A=>by
  obtain⟨j1,_,_⟩:=N4 A;obtain⟨h1,h2,h3,h4,h5⟩:=A;obtain⟨i1,i2,i3⟩:=N4 h5;obtain⟨k1,k2,k3,k4,k5⟩:=j1;have low:=V3 i1 h1;have e1:at0 (d8 r (even rs)) (b7 r)=hd r:=low _ (wR _);have e2:b7 (d8 r (even rs))=b7 r:=F9 _ _ (λk hk=>by rw[low k (by rfl')];exact o6 r k hk) (by rw[e1];rfl');refine⟨k2,λk hk=>o6 _ k hk,k4,λp hp=>?_,by rw[e2];exact Hr h5⟩;obtain⟨x,hx,rfl⟩:=wg.mp hp;exact u7 i1 h1 x hx
theorem Ht{n:Nat}:∀{f:Nat} {S:aA},Asc n f S->SameSpan (vecs (even S)) (vecs S)
 | _,[],_=>SameSpan.refl
 | f,r::rs,A=>by
  obtain⟨h1,h2,h3,h4,h5⟩:=A;obtain⟨i1,i2,i3⟩:=N4 h5;have ih:=Ht h5;have sp:=u8 i1 h1;constructor
  · intro v hv;obtain⟨x,hx,rfl⟩:=wg.mp hv;rcases wn.mp hx with rfl|hx
    · refine⟨1,Span.congr (λk=>?_) ((ih.iff.mp sp).neg)⟩;show -(at0 r k-at0 (d8 r (even rs)) k)=at0 (d8 r (even rs)) k-1*at0 r k;rfl'
    · exact(ih.1 _ (EU hx)).cons
  · intro v hv;obtain⟨x,hx,rfl⟩:=wg.mp hv;rcases wn.mp hx with rfl|hx
    · refine⟨1,Span.congr (λk=>?_) sp⟩;show at0 x k-at0 (d8 x (even rs)) k=at0 x k-1*at0 (d8 x (even rs)) k;rfl'
    · exact(ih.2 _ (EU hx)).cons
end St

end
section
local macro_rules|`(tactic|rfl')=>`(tactic|first|lia|omega +splitDisjunctions)
namespace St
open Lat
theorem Asc.iff{n:Nat}:∀{f:Nat} {S:aA},Asc n f S↔(∀ r∈S,r.length=n/\f<=b7 r/\b7 r<n/\0<hd r)/\(S.map b7).Pairwise (·<·)
 | f,[]=>by simp[Asc]
 | f,r::rs=>by
  constructor
  · intro A;refine⟨λx hx=>A.mem hx,?_⟩;rw[wj,wU];refine⟨λh hh=>?_,(Asc.iff.mp A.2.2.2.2).2⟩;obtain⟨x,hx,rfl⟩:=wg.mp hh;exact(A.2.2.2.2.mem hx).2.1
  · rintro⟨h1,h2⟩;rw[wj,wU]at h2;have q:=h1 r wc;refine⟨q.1,q.2.1,q.2.2.1,q.2.2.2,Asc.iff.mpr ⟨λx hx=>?_,h2.2⟩⟩;have q2:=h1 x (wb _ hx);exact⟨q2.1,h2.1 _ (wg.mpr ⟨x,hx,rfl⟩),q2.2.2.1,q2.2.2.2⟩
theorem sub_zero{a b:Row}(h:a.length=b.length):sub a 0 b=a:=ext0 (L3 h) λk=>by rw[V2 h];simp
theorem Dx{n:Nat}{t:Nat}:∀{S:aA} {left:Row},(∀ r∈S,r.length=n)->left.length=n->(∀ k,k<t->at0 left k=0)->(∀ k,k<t->at0 (d8 left S) k=0)/\(d8 left S).length=n
 | [],left,_,hl,z=>⟨z,hl⟩
 | r::rs,left,hw,hl,z=>by
  have h1:=hw r wc;rw[d8];refine Dx (λx hx=>hw x (wb _ hx)) (by rw[L3 (by rfl')];exact hl) λk hk=>?_;rw[V2 (by rfl'),z k hk];by_cases hh:b7 r<t
  · have:m9 left r=0:=by unfold m9;rw[z _ hh];simp
    rw[this];simp
  · rw[o6 r k (by rfl')];simp
def LowB(m:Nat):Row->aA->Prop
 | _,[]=>True
 | left,r::rs=>(m9 left r=0\/((m9 left r).natAbs<2 ^ m/\Lt (2 ^ m) r))/\LowB m (sub left (m9 left r) r) rs
theorem G0{n t s e m:Nat}:∀{S:aA} {left:Row},(∀ r∈S,r.length=n/\0<hd r)->left.length=n->(∀ k,k<t->at0 left k=0)->(∀ r∈S,t<=b7 r->Lt (2 ^ e) r)->Lt (2 ^ s) left->s+S.length*(e+1)<=m->e<=m ->
  Lt (2 ^ (s+S.length*(e+1))) (d8 left S)/\LowB m left S
 | [],left,_,hl,z,_,hs,_,_=>⟨by simpa[d8]using hs,trivial⟩
 | r::rs,left,hw,hl,z,hb,hs,hm,hem=>by
  have h1:=hw r wc;have lenE:(r::rs).length*(e+1)=rs.length*(e+1)+(e+1):=by rw[wm,WZ]
  have e2:∀ q,(sub left q r).length=n:=λq=>by rw[L3 (by rfl')];exact hl
  by_cases hh:b7 r<t
  · have o:m9 left r=0:=by unfold m9;rw[z _ hh];simp
    have es:sub left (m9 left r) r=left:=by rw[o];exact sub_zero (by rfl')
    obtain⟨i1,i2⟩:=G0 (t:=t) (s:=s) (e:=e) (m:=m) (S:=rs) (left:=left) (λx hx=>hw x (wb _ hx)) hl z (λx hx=>hb x (wb _ hx)) hs (by rfl') hem;rw[d8,LowB,es];exact⟨i1.mono (wv (by decide) (by rfl')),.inl o,i2⟩
  · have hr:Lt (2 ^ e) r:=hb r wc (by rfl');have st:=SA (s:=2 ^ s) (t:=2 ^ e) (by rfl') h1.2 hs hr;have st':Lt (2 ^ (s+(e+1))) (sub left (m9 left r) r):=by
     refine st.mono ?_;rw[Wz];refine wP _ ?_;have:0<2 ^ e:=vx e;rw[WH];rfl'
    obtain⟨i1,i2⟩:=G0 (t:=t) (s:=s+(e+1)) (e:=e) (m:=m) (S:=rs) (left:=sub left (m9 left r) r) (λx hx=>hw x (wb _ hx)) (e2 _)
     (λk hk=>by rw[V2 (by rfl'),z k hk,o6 r k (by rfl')];simp) (λx hx=>hb x (wb _ hx)) st' (by rfl') hem
    rw[d8,LowB];refine⟨i1.mono (wv (by decide) (by rfl')),.inr ⟨?_,hr.mono (wv (by decide) hem)⟩,i2⟩;refine Wm (BN (at0 left (b7 r)) h1.2) (wt (hs _) (wv (by decide) (by rfl')))
def o9(r left:Row)(x y:Int):Row:=lin x r y left
def B6(r left:Row)(g:Int):Row:=lin ((at0 r (b7 r)).fdiv g) left (-((at0 left (b7 r)).fdiv g)) r
structure Wi(n e eh m0 kk:Nat)(S0:aA)(v:Row)(S:aA)(left:Row):Prop where
 asc:Asc n 0 S
 len:left.length=n
 heads:S.map b7=S0.map b7
 span:SameSpan (vecs (left::S)) (vecs (v::S0))
 low:∀ r∈S,0<=at0 left (b7 r)/\at0 left (b7 r)<hd r
 right:∀ r∈S,b7 left<=b7 r->Lt (2 ^ e) r
 hds:∀ r∈S,hd r<2 ^ eh
 size:Lt (2 ^ (m0+b7 left*kk)) left
 all:∀ r∈S,Lt (2 ^ (e+3+(m0+b7 left*kk))) r
theorem SB{a b:Row}{x y:Int}{p q s:Nat}(h:a.length=b.length)(hx:x.natAbs<2 ^ p)(hy:y.natAbs<2 ^ p)(ha:Lt (2 ^ q) a)(hb:Lt (2 ^ q) b)(hs:p+q+1<=s):Lt (2 ^ s) (lin x a y b):=λk=>by
 rw[Ef h];have h1:(x*at0 a k).natAbs<2 ^ (p+q):=by
  rw[wS,Wz];exact vR hx (ha k)
 have h2:(y*at0 b k).natAbs<2 ^ (p+q):=by
  rw[wS,Wz];exact vR hy (hb k)
 have h3:2 ^ (p+q+1)<=2 ^ s:=wv (by decide) hs;rw[WH]at h3;omega +splitDisjunctions
theorem k0{S:aA}{r:Row}(h:r∈S):Span (vecs S) (λk=>at0 r k):=Span.mem (EU h)
theorem BO{T:List Vec}{u v:Vec}(x y:Int)(hu:Span T u)(hv:Span T v):Span T (λk=>x*u k+y*v k):=(hu.smul x).add (hv.smul y)
theorem BP{A B:aA}(h1:∀ r∈A,Span (vecs B) (λk=>at0 r k))(h2:∀ r∈B,Span (vecs A) (λk=>at0 r k)):SameSpan (vecs A) (vecs B):=by
 constructor
 · intro v hv;obtain⟨r,hr,rfl⟩:=wg.mp hv;exact h1 r hr
 · intro v hv;obtain⟨r,hr,rfl⟩:=wg.mp hv;exact h2 r hr
theorem Wi.step{n e eh m0 kk:Nat}{S0:aA}{v:Row}{S1 S2:aA}{r left:Row}{g x y:Int}(I:Wi n e eh m0 kk S0 v (S1++r::S2) left)(hh:b7 r=b7 left)(hn:b7 left<n)
   (hg:0<g) (ga:g∣hd r) (gb:g∣at0 left (b7 r)) (hxy:hd r*x+at0 left (b7 r)*y=g) (hx:x.natAbs<2 ^ (e+2)) (hy:y.natAbs<2 ^ (e+2)) (he:e<=m0)
   (hk:2*e+3+(S1.length+S2.length+1)*(e+1)<=kk) :
   Wi n e eh m0 kk S0 v (S1++o9 r left x y::S2) (d8 (B6 r left g) (S1++o9 r left x y::S2))/\b7 left<b7 (d8 (B6 r left g) (S1++o9 r left x y::S2)) /\
     LowB (m0+n*kk) (B6 r left g) (S1++o9 r left x y::S2)/\(∀ q∈S1++o9 r left x y::S2,hd q<2 ^ eh):=by
 have hrm:r∈S1++r::S2:=wl.mpr (.inr wc);have q:=I.asc.mem hrm;have hl:r.length=left.length:=by rw[q.1,I.len]
 have hlow:=I.low r hrm;have hu:∀ k,at0 (o9 r left x y) k=x*at0 r k+y*at0 left k:=λk=>Ef hl k;have hlo:∀ k,at0 (B6 r left g) k=((at0 r (b7 r)).fdiv g)*at0 left k+(-((at0 left (b7 r)).fdiv g))*at0 r k:=λk=>Ef hl.symm k;have lu:(o9 r left x y).length=n:=by unfold o9;rw[Ee hl];exact q.1
 have llo:(B6 r left g).length=n:=by unfold B6;rw[Ee hl.symm];exact I.len
 obtain⟨a',ea⟩:=ga;obtain⟨b',eb⟩:=gb;have da:(hd r).fdiv g=a':=by rw[ea];exact vM _ (by rfl')
 have db:(at0 left (b7 r)).fdiv g=b':=by rw[eb];exact vM _ (by rfl')
 have hlo:∀ k,at0 (B6 r left g) k=a'*at0 left k+(-b')*at0 r k:=λk=>by
   have:=hlo k;rw[db,show at0 r (b7 r)=hd r from rfl,da]at this;exact this
 have det:a'*x+b'*y=1:=by
   have:g*(a'*x+b'*y)=g*1:=by rw[Int.mul_add,←vL,←vL,←ea,←eb];rfl'
   exact Int.eq_of_mul_eq_mul_left (by rfl') this
 have zb:∀ k,k<b7 left->at0 r k=0/\at0 left k=0:=λk hk=>⟨o6 r k (by rfl'),o6 left k hk⟩;have us:at0 (o9 r left x y) (b7 r)=g:=by rw[hu,←hxy];show x*hd r+y*_=_;rw[vC x,vC y]
 have uh:b7 (o9 r left x y)=b7 r:=F9 _ _ (λk hk=>by rw[hu,(zb k (by rfl')).1,(zb k (by rfl')).2];simp) (by rw[us];rfl');have uhd:hd (o9 r left x y)=g:=by unfold hd;rw[uh];exact us
 have gle:g<=hd r:=Int.le_of_dvd q.2.2.2 ⟨a',ea⟩;have lz:∀ k,k<b7 left+1->at0 (B6 r left g) k=0:=λk hk=>by
   rw[hlo];by_cases h:k<b7 left
   · rw[(zb k h).1,(zb k h).2];simp
   · have:k=b7 r:=by rfl'
     subst this;rw[eb,show at0 r (b7 r)=hd r from rfl,ea,vc a' g b',vK,vc b' g a',vC a' b'];rfl'
 have asc':Asc n 0 (S1++o9 r left x y::S2):=by
   have A:=Asc.iff.mp I.asc;refine Asc.iff.mpr ⟨λz hz=>?_,?_⟩
   · rcases wl.mp hz with h|h
     · exact A.1 z (wl.mpr (.inl h))
     · rcases wn.mp h with rfl|h
       · exact⟨lu,wx _,by rw[uh];exact q.2.2.1,by rw[uhd];exact hg⟩
       · exact A.1 z (wl.mpr (.inr (wb _ h)))
   · have e1:(S1++o9 r left x y::S2).map b7=(S1++r::S2).map b7:=by simp[uh]
     rw[e1];exact A.2
 have hw':∀ z∈S1++o9 r left x y::S2,z.length=n:=λz hz=>(asc'.mem hz).1;obtain⟨nz,nl⟩:=Dx (t:=b7 left+1) hw' llo lz;have hhead:b7 left+1<=b7 (d8 (B6 r left g) (S1++o9 r left x y::S2)):=QH _ _ nz (by rw[nl];rfl');have mm:∀ z∈S1++o9 r left x y::S2,z=o9 r left x y\/z∈S1++r::S2:=λz hz=>by
   rcases wl.mp hz with h|h
   · exact .inr (wl.mpr (.inl h))
   · rcases wn.mp h with rfl|h
     · exact .inl rfl
     · exact .inr (wl.mpr (.inr (wb _ h)))
 have right':∀ z∈S1++o9 r left x y::S2,b7 left+1<=b7 z->Lt (2 ^ e) z:=λz hz hk=>by
   rcases mm z hz with rfl|h
   · rw[uh]at hk;rfl'
   · exact I.right z h (by rfl')
 have rlt:Lt (2 ^ e) r:=I.right r hrm (by rfl');have hds':∀ z∈S1++o9 r left x y::S2,hd z<2 ^ eh:=λz hz=>by
   rcases mm z hz with rfl|h
   · rw[uhd];have:=I.hds r hrm;rfl'
   · exact I.hds z h
 have aS:(a').natAbs<2 ^ e:=by
   have h1:(hd r).natAbs<2 ^ e:=rlt (b7 r);rw[ea,wS]at h1;have:1*a'.natAbs<=g.natAbs*a'.natAbs:=wA _ (by rfl');rfl'
 have bS:(-b').natAbs<2 ^ e:=by
   have h1:(hd r).natAbs<2 ^ e:=rlt (b7 r);have h2:(at0 left (b7 r)).natAbs<2 ^ e:=by rfl'
   rw[eb,wS]at h2;have:1*b'.natAbs<=g.natAbs*b'.natAbs:=wA _ (by rfl');rfl'
 have m1:e<=m0+b7 left*kk:=by rfl'
 have sl:Lt (2 ^ (e+(m0+b7 left*kk)+1)) (B6 r left g):=by
   unfold B6;rw[show at0 r (b7 r)=hd r from rfl,da,db];exact SB hl.symm aS bS I.size (rlt.mono (wv (by decide) m1)) (wf _)
 have hk1:(b7 left+1)*kk=b7 left*kk+kk:=by rw[WZ]
 have hkn:(b7 left+1)*kk<=n*kk:=wA _ (by rfl');have hkh:(b7 left+1)*kk<=b7 (d8 (B6 r left g) (S1++o9 r left x y::S2))*kk:=wA _ hhead;have lenS:(S1++o9 r left x y::S2).length=S1.length+S2.length+1:=by simp;rfl'
 obtain⟨z1,z2⟩:=G0 (n:=n) (t:=b7 left+1) (s:=e+(m0+b7 left*kk)+1) (e:=e) (m:=m0+n*kk) (S:=S1++o9 r left x y::S2) (left:=B6 r left g)
   (λz hz=>⟨hw' z hz,(asc'.mem hz).2.2.2⟩) llo lz right' sl (by rw[lenS];rfl') (by rfl')
 have low':=u7 asc' llo;refine⟨⟨asc',nl,?_,?_,low',λz hz hk=>right' z hz (by rfl'),hds',z1.mono (wv (by decide) (by rw[lenS];rfl')),λz hz=>?_⟩,hhead,z2,hds'⟩
 · rw[←I.heads];simp[uh]
 · refine SameSpan.trans (BP (B:=left::(S1++r::S2)) ?_ ?_) I.span
   ·
     have oldr:Span (vecs (left::(S1++r::S2))) (λk=>at0 r k):=k0 (wb _ hrm);have oldl:Span (vecs (left::(S1++r::S2))) (λk=>at0 left k):=k0 wc;have nu:Span (vecs (left::(S1++r::S2))) (λk=>at0 (o9 r left x y) k):=Span.congr (λk=>(hu k).symm) (BO x y oldr oldl);have nlo:Span (vecs (left::(S1++r::S2))) (λk=>at0 (B6 r left g) k):=Span.congr (λk=>(hlo k).symm) (BO a' (-b') oldl oldr);have all:∀ z∈S1++o9 r left x y::S2,Span (vecs (left::(S1++r::S2))) (λk=>at0 z k):=λz hz=>by
       rcases mm z hz with rfl|h
       · exact nu
       · exact k0 (wb _ h)
     intro z hz;rcases wn.mp hz with rfl|hz
     · have d:=u8 asc' llo;have d':Span (vecs (left::(S1++r::S2))) (λk=>at0 (B6 r left g) k-at0 (d8 (B6 r left g) (S1++o9 r left x y::S2)) k) :=
         d.trans λw hw=>by obtain⟨z,hz,rfl⟩:=wg.mp hw;exact all z hz
       exact Span.congr (λk=>by rfl') (nlo.sub d')
     · exact all z hz
   · have um:o9 r left x y∈S1++o9 r left x y::S2:=wl.mpr (.inr wc);have nu:Span (vecs (d8 (B6 r left g) (S1++o9 r left x y::S2)::(S1++o9 r left x y::S2))) (λk=>at0 (o9 r left x y) k):=k0 (wb _ um);have nlo:Span (vecs (d8 (B6 r left g) (S1++o9 r left x y::S2)::(S1++o9 r left x y::S2))) (λk=>at0 (B6 r left g) k):=by
       have d:=u8 asc' llo;have t:Span (vecs (d8 (B6 r left g) (S1++o9 r left x y::S2)::(S1++o9 r left x y::S2))) (λk=>at0 (d8 (B6 r left g) (S1++o9 r left x y::S2)) k):=k0 wc;exact Span.congr (λk=>by rfl') (t.add d.cons)
     have nr:∀ k,at0 r k=a'*at0 (o9 r left x y) k+(-y)*at0 (B6 r left g) k:=λk=>by
       rw[hu,hlo];have:at0 r k=(a'*x+b'*y)*at0 r k:=by rw[det];rfl'
       rw[this]
       grind
     have nle:∀ k,at0 left k=b'*at0 (o9 r left x y) k+x*at0 (B6 r left g) k:=λk=>by
       rw[hu,hlo];have:at0 left k=(a'*x+b'*y)*at0 left k:=by rw[det];rfl'
       rw[this]
       grind
     intro z hz;rcases wn.mp hz with rfl|hz
     · exact Span.congr (λk=>(nle k).symm) (BO _ _ nu nlo)
     · rcases wl.mp hz with h|h
       · exact k0 (wb _ (wl.mpr (.inl h)))
       · rcases wn.mp h with rfl|h
         · exact Span.congr (λk=>(nr k).symm) (BO _ _ nu nlo)
         · exact k0 (wb _ (wl.mpr (.inr (wb _ h))))
 · rcases mm z hz with rfl|h
   · exact SB (q:=m0+b7 left*kk) hl hx hy (rlt.mono (wv (by decide) m1)) I.size (by rfl')
   · exact(I.all z h).mono (wv (by decide) (by rfl'))
end St

end
section
namespace St
open Lat
def Ind(R:aA):Prop:=∀ cs:aH,cs.length=R.length->(∀ k,mix R cs k=0)->∀ c∈cs,c=0
theorem EV{T:List Vec}:∀{R:aA} {cs:aH},(∀ r∈R,Span T (λk=>at0 r k))->Span T (mix R cs)
 | [],cs,_=>by unfold mix;exact Span.zero
 | r::R,[],_=>by unfold mix;exact Span.zero
 | r::R,c::cs,h=>by
  unfold mix;exact((h r wc).smul c).add (EV λx hx=>h x (wb _ hx))
def dif(a b:aH):aH:=List.zipWith (λx y=>x-y) a b
theorem Px{a b:aH}(h:a.length=b.length):(dif a b).length=a.length:=by unfold dif;rw[WR];rfl'
theorem Py:∀{R:aA} {a b:aH},a.length=b.length->∀ k,mix R (dif a b) k=mix R a k-mix R b k
 | [],a,b,h,k=>by simp[mix]
 | r::R,[],[],h,k=>by simp[mix,dif]
 | r::R,x::a,y::b,h,k=>by
  have ih:=Py (R:=R) (a:=a) (b:=b) (by simpa using h) k;show(x-y)*at0 r k+mix R (dif a b) k=(x*at0 r k+mix R a k)-(y*at0 r k+mix R b k);rw[ih,Int.sub_mul];rfl'
theorem Ko:∀{a b:aH},a.length=b.length->(∀ c∈dif a b,c=0)->a=b
 | [],[],_,_=>rfl
 | x::a,y::b,h,z=>by
  have h1:x-y=0:=z _ (wc);rw[Ko (a:=a) (b:=b) (by simpa using h) λc hc=>z c (wb _ hc),show x=y by rfl']
theorem Hu{N:Nat}:∀{a b:aH},(∀ c∈a,0<=c/\c<=N)->(∀ c∈b,0<=c/\c<=N)->∀ c∈dif a b,c.natAbs<=N
 | [],_,_,_,c,hc=>by simp[dif]at hc
 | x::a,[],_,_,c,hc=>by simp[dif]at hc
 | x::a,y::b,ha,hb,c,hc=>by
  have hc:c∈(x-y)::dif a b:=hc;rcases wn.mp hc with rfl|hc
  · have:=ha x wc;have:=hb y wc;rfl'
  · exact Hu (λc h=>ha c (wb _ h)) (λc h=>hb c (wb _ h)) c hc
theorem IU{N B:Nat}:∀{R:aA} {cs:aH},(∀ r∈R,Lt B r)->(∀ c∈cs,c.natAbs<=N)->∀ k,(mix R cs k).natAbs<=R.length*(N*B)
 | [],cs,_,_,k=>by simp[mix]
 | r::R,[],_,_,k=>by simp[mix]
 | r::R,c::cs,hr,hc,k=>by
  have ih:=IU (R:=R) (cs:=cs) (λx hx=>hr x (wb _ hx)) (λx hx=>hc x (wb _ hx)) k;show(c*at0 r k+mix R cs k).natAbs<=_;have h1:(c*at0 r k).natAbs<=N*B:=by
   rw[wS];exact Wh (hc c wc) (Ws (hr r wc k))
  rw[wm,WZ];rfl'
theorem Cy{N:Nat}:∀{r:Nat} {t:aH},E6 (List.replicate r (N+1)) t↔t.length=r/\∀ c∈t,0<=c/\c<=N
 | 0,[]=>by simp[E6]
 | 0,x::t=>by simp[E6]
 | r+1,[]=>by simp[E6,List.replicate]
 | r+1,x::t=>by
  rw[vA,E6,Cy,wm];constructor
  · rintro⟨h1,h2,h3,h4⟩;refine⟨by rfl',λc hc=>?_⟩;rcases wn.mp hc with rfl|hc
    · rfl'
    · exact h4 c hc
  · rintro⟨h1,h2⟩;have:=h2 x wc;exact⟨by rfl',by rfl',by rfl',λc hc=>h2 c (wb _ hc)⟩
theorem EW(N:Nat):∀ r,prod (List.replicate r N)=N ^ r
 | 0=>rfl
 | r+1=>by rw[vA,prod,EW,WH,WG]
theorem siegel{R:aA}{B:Nat}(hR:Ind R)(hb:∀ r∈R,Lt B r)(hp:0<B)(hs:List Nat)(hl:hs.length+1=R.length):
   ∃ cs:aH,cs.length=R.length/\(∀ h∈hs,mix R cs h=0)/\(∃ k,mix R cs k≠0)/\∀ k,(mix R cs k).natAbs<=(2*R.length*B) ^ R.length:=by
 let r:=R.length;let N:=(2*R.length*B) ^ hs.length;let W:=R.length*(N*B);let f:aH->aH:=λcs=>hs.map λh=>mix R cs h+(W:Int);have main:∃ a b:aH,E6 (List.replicate r (N+1)) a/\E6 (List.replicate r (N+1)) b/\f a=f b/\a≠b:=by
   apply Wb;intro no;have inj:∀ s t,E6 (List.replicate r (N+1)) s->E6 (List.replicate r (N+1)) t->f s=f t->s=t:=λs t h1 h2 h3=>Wb λhne=>no ⟨s,t,h1,h2,h3,hne⟩;have h1:=VF (ns:=List.replicate r (N+1)) (ms:=List.replicate hs.length (2*W+1)) f inj λs hsr=>by
    rw[Cy]at hsr ⊢;refine⟨by simp[f],λc hc=>?_⟩;obtain⟨h,_,rfl⟩:=wg.mp hc;have:=IU (N:=N) hb (cs:=s) (λc hc=>by have:=hsr.2 c hc;rfl') h;have:(mix R s h).natAbs<=W:=this;rfl'
   rw[EW,EW]at h1;have hr1:1<=R.length:=by rfl'
   have h2:2*W+1<=(2*R.length*B)*(N+1):=by
    have e:(2*R.length*B)*(N+1)=2*W+2*R.length*B:=by
     show _=2*(R.length*(N*B))+_;rw[vJ,Nat.mul_one];congr 1;rw[WG N B,Wv,Wv]
    have:1<=2*R.length*B:=uf (by rfl') hp;rfl'
   have h3:(2*W+1) ^ hs.length<=((2*R.length*B)*(N+1)) ^ hs.length:=ur h2 _;rw[Nat.mul_pow]at h3;have h4:(N+1) ^ r=(N+1)*(N+1) ^ hs.length:=by rw[show r=hs.length+1 from hl.symm,WH,WG]
   rw[h4]at h1;have h5:(N+1)*(N+1) ^ hs.length<=N*(N+1) ^ hs.length:=wB h1 h3;have h6:0<(N+1) ^ hs.length:=uQ (by rfl');rw[WZ]at h5;rfl'
 obtain⟨a,b,ha,hb',hf,hne⟩:=main;rw[Cy]at ha hb';have hab:a.length=b.length:=by rw[ha.1,hb'.1]
 refine⟨dif a b,by rw[Px hab];exact ha.1,λh hh=>?_,?_,λk=>?_⟩
 · rw[Py hab];have:mix R a h+(W:Int)=mix R b h+(W:Int):=List.map_inj_left.mp hf h hh;rfl'
 · apply Wb;intro no;have z:∀ k,mix R (dif a b) k=0:=λk=>Wb λh=>no ⟨k,h⟩;exact hne (Ko hab (hR (dif a b) (by rw[Px hab];exact ha.1) z))
 · have:=IU (N:=N) hb (cs:=dif a b) (Hu ha.2 hb'.2) k;refine wB this ?_;rw[←hl,WH,hl,WG];show(N*B)*R.length<=N*(2*R.length*B);rw[Wv,WG B];refine wP _ ?_;rw[Wv];rfl'
theorem Kp(v:Vec):∀ m,v m≠0->∃ h,(∀ k,k<h->v k=0)/\v h≠0:=by
 intro m
 induction m using vy with
 | _ m ih =>
  intro hm;by_cases q:∃ k,k<m/\v k≠0
  · obtain⟨k,h1,h2⟩:=q;exact ih k h1 h2
  · exact⟨m,λk hk=>Wb λh=>q ⟨k,hk,h⟩,hm⟩
theorem Kq{E:Nat}:∀{T:aA} {n f Q:Nat} {u:Vec},Asc n f T->Form f (M3 T)->(∀ r∈T,Lt E r)->Span (vecs T) u->(∀ r∈T,(u (b7 r)).natAbs<=Q*(hd r).natAbs)->∀ k,(u k).natAbs<=Q*((2 ^ T.length-1)*E)
 | [],n,f,Q,u,_,_,_,s,_,k=>by rw[s k];simp
 | r::T,n,f,Q,u,A,F,hE,⟨c,s⟩,hu,k=>by
  have hp:=A.2.2.2.1;have ec:=A.coef s;have hc:c.natAbs<=Q:=by
   have:=hu r wc;rw[ec,wS]at this;exact Nat.le_of_mul_le_mul_right this (by rfl')
  have ih:=Kq (T:=T) (Q:=2*Q) A.2.2.2.2 F.2.2.2.2 (λx hx=>hE x (wb _ hx)) s (λx hx=>by
   have h1:=hu x (wb _ hx);have h2:=F.2.2.2.1 (b7 x,vec x) (wg.mpr ⟨x,hx,rfl⟩);have h2:0<=at0 r (b7 x)/\at0 r (b7 x)<hd x:=h2;show(u (b7 x)-c*at0 r (b7 x)).natAbs<=_;have h3:(c*at0 r (b7 x)).natAbs<=Q*(hd x).natAbs:=by rw[wS];exact Wh hc (by rfl')
   rw[Wv];rfl') k
  have ih:(u k-c*at0 r k).natAbs<=2*Q*((2 ^ T.length-1)*E):=ih;have h4:(c*at0 r k).natAbs<=Q*E:=by rw[wS];exact Wh hc (Ws (hE r wc k))
  have h5:Q*((2 ^ (r::T).length-1)*E)=2*Q*((2 ^ T.length-1)*E)+Q*E:=by
   have p:0<2 ^ T.length:=vx _;rw[wm,WH,show 2 ^ T.length*2-1=2*(2 ^ T.length-1)+1 by rfl',vt,Nat.one_mul,vJ,Wv 2,Nat.mul_left_comm Q 2,Wv 2]
  rfl'
theorem SC{W E n f:Nat}{r:Row}{T:aA}{w:Vec}(A:Asc n f (r::T))(F:Form f (M3 (r::T)))(hE:∀ x∈T,Lt E x)(s:Span (vecs (r::T)) w)(h0:w (b7 r)≠0)(hz:∀ x∈T,w (b7 x)=0)(hw:∀ k,(w k).natAbs<=W):
  ∀ k,(at0 r k).natAbs<=W+(2 ^ T.length-1)*E:=by
 obtain⟨c,s⟩:=s;have ec:=A.coef s;have c0:c≠0:=by intro z;rw[z]at ec;simp at ec;exact h0 ec
 intro k;have q:=Kq (E:=E) (Q:=c.natAbs) A.2.2.2.2 F.2.2.2.2 hE s (λx hx=>by
  have h2:=F.2.2.2.1 (b7 x,vec x) (wg.mpr ⟨x,hx,rfl⟩);have h2:0<=at0 r (b7 x)/\at0 r (b7 x)<hd x:=h2;show(w (b7 x)-c*at0 r (b7 x)).natAbs<=_;rw[hz x hx];have h3:(c*at0 r (b7 x)).natAbs<=c.natAbs*(hd x).natAbs:=by rw[wS];exact wP _ (by rfl')
  rfl') k
 have q:(w k-c*at0 r k).natAbs<=c.natAbs*((2 ^ T.length-1)*E):=q;have hwk:=hw k;have e1:(c*at0 r k).natAbs=c.natAbs*(at0 r k).natAbs:=wS _ _;apply vf;intro hlt;generalize (2 ^ T.length-1)*E=X at *;have h6:c.natAbs*(W+X+1)<=c.natAbs*(at0 r k).natAbs:=wP _ hlt;have h7:c.natAbs*(W+X+1)=c.natAbs*X+c.natAbs*(W+1):=by rw[←vJ];congr 1;rfl'
 have h8:1*(W+1)<=c.natAbs*(W+1):=wA _ (by rfl');rfl'
def bnd(r B:Nat):Nat:=(2*r*B) ^ r*2 ^ (r*r)
theorem Hv{W n:Nat}:∀{T:aA} {f:Nat},Asc n f T->Form f (M3 T)->(∀ r∈T,∃ w:Vec,Span (vecs T) w/\w (b7 r)≠0/\(∀ k,k<b7 r->w k=0)/\(∀ x∈T,x≠r->w (b7 x)=0)/\∀ k,(w k).natAbs<=W)->∀ r∈T,Lt (W*2 ^ (T.length*T.length)+1) r
 | r::T,f,A,F,h,x,hx=>by
  have nd:∀ y∈T,b7 r<b7 y:=λy hy=>(A.2.2.2.2.mem hy).2.1;have ih:=Hv (T:=T) A.2.2.2.2 F.2.2.2.2 (λy hy=>by
    obtain⟨w,w1,w2,w3,w4,w5⟩:=h y (wb _ hy);refine⟨w,?_,w2,w3,λz hz hne=>w4 z (wb _ hz) hne,w5⟩;exact Form.tail F (show Span (R8 (M3 (r::T))) w by
     have:R8 (M3 (r::T))=vecs (r::T):=by simp[M3,R8]
     rw[this];exact w1) (w3 _ (nd y hy)) |> λs=>by
      have:R8 (M3 T)=vecs T:=by simp[M3,R8]
      have s:Span (R8 (M3 T)) w:=s;rw[this]at s;exact s)
  have hW:W*2 ^ (T.length*T.length)+1<=W*2 ^ ((r::T).length*(r::T).length)+1:=by
    refine uJ (wP _ (wv (by decide) ?_));exact Wh (by simp) (by simp)
  rcases wn.mp hx with rfl|hx
  · obtain⟨w,w1,w2,w3,w4,w5⟩:=h x wc;intro k;have q:=SC (E:=W*2 ^ (T.length*T.length)+1) A F ih w1 w2 (λy hy=>w4 y (wb _ hy) λe=>by have:=nd y hy;rw[e]at this;rfl') w5 k;refine Nat.lt_succ_of_le (wB q ?_);have hW1:1<=W:=by have:=w5 (b7 x);rfl'
    have e2:(x::T).length*(x::T).length=T.length*T.length+T.length+T.length+1:=by rw[wm];grind
    rw[e2,WH,Wz];generalize hP:2 ^ (T.length*T.length+T.length)=P;have p1:2 ^ (T.length*T.length)*2 ^ T.length=P:=by rw[←hP,Wz]
    have p2:1<=2 ^ T.length:=vx _;have p3:1<=2 ^ (T.length*T.length):=vx _;generalize 2 ^ T.length=a at *;generalize 2 ^ (T.length*T.length)=b at *;have h1:(a-1)*(W*b+1)<=a*(2*(W*b)):=Wh (by rfl') (by have:1<=W*b:=uf hW1 p3;rfl');have h1':(a-1)*(W*b+1)+(W*b+1)=a*(W*b+1):=by
     have:a=(a-1)+1:=by rfl'
     rw[show a*(W*b+1)=((a-1)+1)*(W*b+1) by rw[←this],WZ]
    have h2:W<=W*b:=vS _ p3;have h3:a*(W*b+1)<=a*(2*(W*b)):=wP _ (by have:1<=W*b:=uf hW1 p3;rfl');have h4:a*(2*(W*b))=W*(b*a)*2:=by grind
    have h5:W*(b*a)*2<=W*(P*a*2):=by
     rw[p1,Wv];refine wP _ (wA _ (vS _ p2))
    rfl'
  · exact(ih x hx).mono hW
theorem Mt{n B:Nat}{S R:aA}(A:Asc n 0 S)(F:Form 0 (M3 S))(hR:Ind R)(hl:R.length=S.length)(hs:∀ r∈R,Span (vecs S) (λk=>at0 r k))(hb:∀ r∈R,Lt B r)(hp:0<B):
  ∀ r∈S,Lt (bnd S.length B+1) r:=by
 refine Hv A F λr hr=>?_;have hpw:=(Asc.iff.mp A).2;obtain⟨S1,S2,rfl⟩:=uA hr;obtain⟨cs,c1,c2,⟨m,c3⟩,c4⟩:=siegel hR hb hp ((S1++S2).map b7) (by rw[hl];simp;rfl');have sp:Span (vecs (S1++r::S2)) (mix R cs):=EV hs;obtain⟨h,z,q⟩:=Kp _ m c3;obtain⟨x,hx,ex⟩:=A.first sp z q;have oth:∀ y∈S1++r::S2,y≠r->y∈S1++S2:=λy hy hne=>by
  rcases wl.mp hy with h|h
  · exact wl.mpr (.inl h)
  · rcases wn.mp h with rfl|h
    · exact absurd rfl hne
    · exact wl.mpr (.inr h)
 have zo:∀ y∈S1++r::S2,y≠r->mix R cs (b7 y)=0:=λy hy hne=>c2 _ (wg.mpr ⟨y,oth y hy hne,rfl⟩);have er:x=r:=Wb λhne=>q (by rw[←ex];exact zo x hx hne);subst er;rw[hl]at c4;exact⟨mix R cs,sp,by rw[ex];exact q,λk hk=>z k (by rfl'),zo,c4⟩
end St

end
section
local macro_rules|`(tactic|rfl')=>`(tactic|first|lia|omega +splitDisjunctions)
namespace St
open Lat
structure Post(n u:Nat)(S0:aA)(v:Row)(S:aA):Prop where
 asc:Asc n 0 S
 span:SameSpan (vecs S) (vecs (v::S0))
 size:∀ r∈S,Lt (2 ^ u) r
 more:S.map b7=S0.map b7\/(S.length=S0.length+1/\∃ r∈S,∀ x∈S0,b7 x≠b7 r)
theorem Wi.start{n e eh s m0 kk:Nat}{S0:aA}{v:Row}(A:Asc n 0 S0)(hv:v.length=n)(h0:∀ r∈S0,Lt (2 ^ e) r)(hh:∀ r∈S0,hd r<2 ^ eh)(hs:Lt (2 ^ s) v)(hm:s+S0.length*(e+1)<=m0)(he:e<=m0):
   Wi n e eh m0 kk S0 v S0 (d8 v S0)/\LowB m0 v S0:=by
 obtain⟨z1,z2⟩:=G0 (n:=n) (t:=0) (s:=s) (e:=e) (m:=m0) (S:=S0) (left:=v) (λr hr=>⟨(A.mem hr).1,(A.mem hr).2.2.2⟩) hv (λk hk=>by rfl') (λr hr _=>h0 r hr) hs hm he;have sp:=u8 A hv;refine⟨⟨A,w8 A hv,rfl,?_,u7 A hv,λr hr _=>h0 r hr,λr hr=>?_,z1.mono (wv (by decide) (by rfl')),λr hr=>(h0 r hr).mono (wv (by decide) (by rfl'))⟩,z2⟩
 · refine BP (λr hr=>?_) λr hr=>?_
   · rcases wn.mp hr with rfl|hr
     · have t:Span (vecs (v::S0)) (λk=>at0 v k):=k0 wc;exact Span.congr (λk=>by rfl') (t.sub sp.cons)
     · exact k0 (wb _ hr)
   · rcases wn.mp hr with rfl|hr
     · have t:Span (vecs (d8 r S0::S0)) (λk=>at0 (d8 r S0) k):=k0 wc;exact Span.congr (λk=>by rfl') (t.add sp.cons)
     · exact k0 (wb _ hr)
 · exact hh r hr
theorem Wi.done{n e eh m0 kk:Nat}{S0:aA}{v:Row}{S:aA}{left:Row}(I:Wi n e eh m0 kk S0 v S left)(h:¬b7 left<n):Post n (e+3+(m0+n*kk)) S0 v S:=by
 have hl:=Al left;rw[I.len]at hl;have e:b7 left=n:=by rfl'
 refine⟨I.asc,SameSpan.trans (BP (λr hr=>k0 (wb _ hr)) λr hr=>?_) I.span,λr hr=>by have:=I.all r hr;rw[e]at this;exact this,.inl I.heads⟩;rcases wn.mp hr with rfl|hr
 · refine Span.congr (λk=>?_) Span.zero;by_cases hk:k<n
   · exact(o6 r k (by rfl')).symm
   · exact(V1 (by rw[I.len];rfl')).symm
 · exact k0 hr
theorem Wi.new{n e eh m0 kk:Nat}{S0:aA}{v:Row}{S S':aA}{left t:Row}(I:Wi n e eh m0 kk S0 v S left)(h:b7 left<n)(hn:∀ r∈S,b7 r≠b7 left)
   (ht:t.length=n) (c:Int) (hc:c=1\/c = -1) (et:∀ k,at0 t k=c*at0 left k) (hp:0<at0 t (b7 left)) (pm:S'.Perm (t::S)) (pw:(S'.map b7).Pairwise (·<·)):Post n (e+3+(m0+n*kk)) S0 v S':=by
 have hh:b7 t=b7 left:=F9 _ _ (λk hk=>by rw[et,o6 left k hk];simp) (by rfl');have mem:∀ r∈S',r=t\/r∈S:=λr hr=>wn.mp (pm.mem_iff.mp hr);have tm:t∈S':=pm.mem_iff.mpr wc;have sm:∀ r∈S,r∈S':=λr hr=>pm.mem_iff.mpr (wb _ hr);have hk:m0+b7 left*kk<=m0+n*kk:=by have:=wA kk (Ws h);rfl'
 refine⟨Asc.iff.mpr ⟨λr hr=>?_,pw⟩,SameSpan.trans (BP (λr hr=>?_) λr hr=>?_) I.span,λr hr=>?_,.inr ⟨?_,t,tm,λx hx e=>?_⟩⟩
 · rcases mem r hr with rfl|hr
   · exact⟨ht,wx _,by rw[hh];exact h,by unfold hd;rw[hh];exact hp⟩
   · exact I.asc.mem hr
 · rcases mem r hr with rfl|hr
   · exact Span.congr (λk=>(et k).symm) ((k0 wc:Span (vecs (left::S)) (λk=>at0 left k)).smul c)
   · exact k0 (wb _ hr)
 · rcases wn.mp hr with rfl|hr
   · refine Span.congr (λk=>?_) ((k0 tm:Span (vecs S') (λk=>at0 t k)).smul c);show c*at0 t k=at0 r k;rw[et];rcases hc with rfl|rfl<;>rfl'
   · exact k0 (sm r hr)
 · rcases mem r hr with rfl|hr
   · intro k;rw[et];have h1:=I.size k;have h2:2 ^ (m0+b7 left*kk)<=2 ^ (e+3+(m0+n*kk)):=wv (by decide) (by rfl');rcases hc with rfl|rfl<;>rfl'
   · exact(I.all r hr).mono (wv (by decide) (by rfl'))
 · have h1:=pm.length_eq;have h2:=congrArg List.length I.heads;simp at h1 h2;rfl'
 · have:b7 x∈S.map b7:=by rw[I.heads];exact wg.mpr ⟨x,hx,rfl⟩
   obtain⟨y,hy,ey⟩:=wg.mp this;exact hn y hy (by rfl')
structure Good(n B:Nat)(rows:aA)(S:aA):Prop where
 asc:Asc n 0 S
 form:Form 0 (M3 S)
 span:SameSpan (vecs S) (vecs rows)
 ind:∃ R:aA,Ind R/\R.length=S.length/\(∀ r∈R,r∈rows)
 len:S.length<=rows.length
 full:Ind rows->S.length=rows.length
theorem Good.nil{n B:Nat}:Good n B [] []:=⟨trivial,trivial,SameSpan.refl,⟨[],(λcs h _ c hc=>by have h:cs=[]:=vT.mp h;subst h;cases hc),rfl,λr hr=>by cases hr⟩,wf _,λ_=>rfl⟩
theorem Good.small{n B:Nat}{rows S:aA}(G:Good n B rows S)(hb:∀ r∈rows,Lt B r)(hp:0<B):∀ r∈S,Lt (bnd S.length B+1) r:=by
 obtain⟨R,h1,h2,h3⟩:=G.ind;exact Mt G.asc G.form h1 h2 (λr hr=>G.span.iff.mpr (k0 (h3 r hr))) (λr hr=>hb r (h3 r hr)) hp
theorem Dy:∀{R:aA} {v:Vec},Span (vecs R) v->∃ c:aH,c.length=R.length/\∀ k,v k=mix R c k
 | [],v,s=>⟨[],rfl,s⟩
 | r::R,v,⟨c,s⟩=>by
  obtain⟨cs,h1,h2⟩:=Dy s;refine⟨c::cs,by simp[h1],λk=>?_⟩;have:=h2 k;have this:v k-c*at0 r k=mix R cs k:=this;show v k=c*at0 r k+mix R cs k;rfl'
theorem EX{v:Row}{d:Int}:∀{R:aA} {c:aH},c.length=R.length->∀ k,mix (R++[v]) (c++[d]) k=mix R c k+d*at0 v k
 | [],[],_,k=>by simp[mix]
 | r::R,x::c,h,k=>by
  show x*at0 r k+mix (R++[v]) (c++[d]) k=x*at0 r k+mix R c k+d*at0 v k;rw[EX (R:=R) (c:=c) (by simpa using h)];rfl'
theorem Ind.left{R:aA}{v:Row}(h:Ind (R++[v])):Ind R:=λc hl hz x hx=>by
 exact h (c++[0]) (by simp[hl]) (λk=>by rw[EX hl,hz k];simp) x (wl.mpr (.inl hx))
theorem Hw{n:Nat}:∀{f:Nat} {S T:aA} {u:Vec},Asc n f S->Asc n f T->T.map b7=S.map b7->(∀ r∈T,Span (vecs S) (λk=>at0 r k))->Span (vecs S) u->∃ D:Int,D≠0/\Span (vecs T) (λk=>D*u k)
 | f,[],[],u,_,_,_,_,s=>⟨1,by decide,λk=>by have:=s k;show 1*u k=0;rfl'⟩
 | f,r::S,t::T,u,A,A',hh,hT,s=>by
  have hh':b7 t=b7 r/\T.map b7=S.map b7:=by simpa using hh
  have tz:∀{w:Vec},Span (vecs (r::S)) w->w (b7 r)=0->Span (vecs S) w:=λ{w} hw z=>by
    obtain⟨c,q⟩:=hw;have e:=A.coef q;have c0:c=0:=by
      rw[z]at e;rcases WK.mp e.symm with h|h
      · exact h
      · have:=A.2.2.2.1;rfl'
    subst c0;exact Span.congr (λk=>by simp) q
  have ht:Span (vecs (r::S)) (λk=>at0 t k):=hT t wc;have w1:Span (vecs (r::S)) (λk=>hd t*u k-u (b7 r)*at0 t k):=(s.smul (hd t)).sub (ht.smul (u (b7 r)));have w2:=tz w1 (by show hd t*u (b7 r)-u (b7 r)*at0 t (b7 r)=0;rw[←hh'.1];show hd t*_-_*hd t=0;rw[vC];rfl');obtain⟨D,hD,q⟩:=Hw A.2.2.2.2 (by rw[←hh'.1];exact A'.2.2.2.2) hh'.2 (λx hx=>tz (hT x (wb _ hx)) (o6 x _ (by have:=(A'.2.2.2.2.mem hx).2.1;rfl'))) w2;refine⟨D*hd t,λz=>?_,D*u (b7 r),Span.congr (λk=>?_) q⟩
  · rcases WK.mp z with z|z
    · exact hD z
    · have:=A'.2.2.2.1;rfl'
  · show D*(hd t*u k-u (b7 r)*at0 t k)=D*hd t*u k-D*u (b7 r)*at0 t k
    grind
 | f,[],t::T,u,_,_,hh,_,_=>by simp at hh
 | f,r::S,[],u,_,_,hh,_,_=>by simp at hh
theorem O9:∀ S:aA,(even S).length=S.length
 | []=>rfl
 | r::rs=>by rw[even,wm,wm,O9 rs]
theorem Good.step{n u B:Nat}{rows S0 S:List Row}{v:Row}(G:Good n B rows S0)(P:Post n u S0 v S):Good n B (rows++[v]) (even S):=by
  have es:=Ht P.asc;have sp:SameSpan (vecs (v::S0)) (vecs (rows++[v])):=BP (λr hr=>by
      rcases wn.mp hr with rfl|hr
      · exact k0 (wl.mpr (.inr wc))
      · exact(G.span.iff.mp (k0 hr)).trans λw hw=>by
          obtain⟨z,hz,rfl⟩:=wg.mp hw;exact k0 (wl.mpr (.inl hz))) λr hr=>by
      rcases wl.mp hr with hr|hr
      · exact(G.span.iff.mpr (k0 hr)).trans λw hw=>by
          obtain⟨z,hz,rfl⟩:=wg.mp hw;exact k0 (wb _ hz)
      · rcases wu.mp hr with rfl
        exact k0 wc
  obtain⟨R,h1,h2,h3⟩:=G.ind;have hlen:(even S).length<=(rows++[v]).length:=by
    rw[O9,ww];have:=G.len;rcases P.more with h|⟨h,_⟩
    · have h:=congrArg List.length h;simp at h ⊢;rfl'
    · simp;rfl'
  refine⟨(N4 P.asc).1,Hr P.asc,SameSpan.trans es (P.span.trans sp),?_,hlen,λhI=>?_⟩
  rotate_left
  · have hI0:=hI.left;have hl0:=G.full hI0;rcases P.more with h|⟨h,_⟩
    · exfalso;have hv:Span (vecs S) (λk=>at0 v k):=P.span.iff.mpr (k0 wc);obtain⟨D,hD,q⟩:=Hw P.asc G.asc h.symm (λr hr=>P.span.iff.mpr (k0 (wb _ hr))) hv;obtain⟨c,hc,ec⟩:=Dy (G.span.iff.mp q);have:=hI (c++[-D]) (by simp[hc]) (λk=>by rw[EX hc];have:=ec k;rw[←this,vK];show D*at0 v k+_=0;rfl') (-D) (by simp);rfl'
    · rw[O9,h,hl0];simp
  rcases P.more with h|⟨h,r,hr,hne⟩
  · exact⟨R,h1,by have h:=congrArg List.length h;simp at h;rw[O9,h,h2],λr hr=>wl.mpr (.inl (h3 r hr))⟩
  · refine⟨ v::R,?_,by rw[O9,h,List.length_cons,h2],fun r hr=>?_⟩
    · intro cs hl hz
      cases cs with
      | nil=>intro c hc;cases hc
      | cons c cs =>
        have hl':cs.length=R.length:=by simpa using hl
        have hz:∀ k,c*at0 v k+mix R cs k=0:=hz;by_cases c0:c=0
        · subst c0;have z:=h1 cs hl' (λk=>by have:=hz k;rfl');intro d hd;rcases wn.mp hd with rfl|hd
          · rfl
          · exact z d hd
        · exfalso;have cv:Span (vecs S0) (λk=>c*at0 v k):=by
            have:Span (vecs S0) (mix R cs):=EV λr hr=>G.span.iff.mpr (k0 (h3 r hr));exact Span.congr (λk=>by have:=hz k;rfl') this.neg
          have all:∀ w:Vec,Span (vecs (v::S0)) w->Span (vecs S0) (λk=>c*w k):=λw hw=>by
            obtain⟨d,s⟩:=hw;have s2:=(cv.smul d).add (s.smul c);refine Span.congr (λk=>?_) s2;show d*(c*at0 v k)+c*(w k-d*at0 v k)=c*w k
            grind
          have rs:Span (vecs (v::S0)) (λk=>at0 r k):=P.span.iff.mp (k0 hr);have q:=P.asc.mem hr;obtain⟨x,hx,e⟩:=G.asc.first (h:=b7 r) (all _ rs) (λk hk=>by show c*at0 r k=0;rw[o6 r k hk];simp) (by
            show c*hd r≠0;intro z;rcases WK.mp z with z|z
            · exact c0 z
            · rfl')
          exact hne x hx e
    · rcases wn.mp hr with rfl|hr
      · exact wl.mpr (.inr wc)
      · exact wl.mpr (.inl (h3 r hr))
theorem SD{r s B:Nat}(h:r<=s)(hB:0<B)(hs:0<s):bnd r B<=bnd s B:=by
 unfold bnd;refine Wh ?_ (wv (by decide) (Wh h h));have h1:2*r*B<=2*s*B:=wA _ (wP _ h);have h2:0<2*s*B:=uf (by rfl') hB;exact wB (ur h1 r) (wv h2 h)
theorem IV{n:Nat}:∀{f:Nat} {S:aA},Asc n f S->f<=n->S.length<=n-f
 | f,[],_,_=>wx _
 | f,r::rs,⟨h1,h2,h3,h4,h5⟩,h=>by
  have:=IV h5 (by rfl');rw[wm];rfl'
end St

end
section
set_option exponentiation.threshold 3000
namespace St
open Lat
theorem bnd30(k:Nat)(h:k<=8):bnd k (10 ^ 30)+1<=2 ^ 900:=by
 have:=SD (B:=10 ^ 30) h (by decide) (by decide);have e:bnd 8 (10 ^ 30)+1<=2 ^ 900:=by unfold bnd;decide
 rfl'
theorem QI{r:Row}{B:Nat}(hB:0<B)(h:∀ x∈r,x.natAbs<B):Lt B r:=λk=>by
 unfold at0 List.getD;by_cases hk:k<r.length
 · rw[wa hk];exact h _ (WO _)
 · rw[wO (by rfl')];exact hB
end St

end
section
local macro_rules|`(tactic|rfl')=>`(tactic|first|lia|omega +splitDisjunctions)
namespace St
open Lat
theorem Asc.tz{n f:Nat}{r:Row}{S:aA}{w:Vec}(A:Asc n f (r::S))(hw:Span (vecs (r::S)) w)(z:w (b7 r)=0):Span (vecs S) w:=by
 obtain⟨c,q⟩:=hw;have e:=A.coef q;have c0:c=0:=by
  rw[z]at e;rcases WK.mp e.symm with h|h
  · exact h
  · have:=A.2.2.2.1;rfl'
 subst c0;exact Span.congr (λk=>by simp) q
theorem Asc.small0{n:Nat}:∀{f:Nat} {S:aA} {u:Vec},Asc n f S->Span (vecs S) u->(∀ r∈S,0<=u (b7 r)/\u (b7 r)<hd r)->∀ k,u k=0
 | f,[],u,_,s,_=>s
 | f,r::S,u,A,s,h=>by
  have hr:=h r wc;have z:u (b7 r)=0:=by
   obtain⟨c,q⟩:=s;have e:=A.coef q;have c0:c=0:=AK e A.2.2.2.1 (by rfl') hr.2;rw[e,c0];simp
  exact A.2.2.2.2.small0 (A.tz s z) λx hx=>h x (wb _ hx)
def EY(n:Nat):Row:=List.replicate n 0
theorem Am(n k:Nat):at0 (EY n) k=0:=by
 unfold at0 EY List.getD;rw[wQ];split<;>rfl
theorem SE{n:Nat}{r:Row}(hl:r.length=n)(h:∀ k,at0 r k=0):r=EY n:=ext0 (by unfold EY;simp[hl]) λk=>by rw[h,Am]
theorem GB{n:Nat}{S:aA}{v:Row}(A:Asc n 0 S)(hv:v.length=n):d8 v S=EY n↔Span (vecs S) (λk=>at0 v k):=by
 have sp:=u8 A hv;constructor
 · intro e;rw[e]at sp;exact Span.congr (λk=>by rw[Am];rfl') sp
 · intro s;refine SE (w8 A hv) (A.small0 (u:=λk=>at0 (d8 v S) k) ?_ (u7 A hv));exact Span.congr (λk=>by rfl') (s.sub sp)
theorem Eg{n:Nat}{a b:Row}(h:a.length=n)(k:Nat):at0 (a++b) k=if k<n then at0 a k else at0 b (k-n):=by
 subst h;unfold at0 List.getD;rw[List.getElem?_append];split<;>rfl
def A4(m j:Nat):Row:=(List.range m).map λk=>if k=j then 1 else 0
theorem Cz(m j:Nat):(A4 m j).length=m:=by unfold A4;simp
theorem SF(m j k:Nat):at0 (A4 m j) k=if k=j/\k<m then 1 else 0:=by
 unfold at0 A4 List.getD;rw[wq];by_cases hk:k<m
 · rw[uj hk];simp[hk]
 · rw[wO (by simpa using hk)];simp[hk]
section
variable {n N:Nat}{S:aA}
end
end St

end
section
local macro_rules|`(tactic|rfl')=>`(tactic|first|lia|omega +splitDisjunctions)
namespace St
open Lat
end St
namespace St
open Lat
theorem Asc.small{n:Nat}:∀{f:Nat} {S:aA} {u:Vec},Asc n f S->Span (vecs S) u->(∀ r∈S,-(hd r)<u (b7 r)/\u (b7 r)<hd r)->∀ k,u k=0
 | f,[],u,_,s,_=>s
 | f,r::S,u,A,s,h=>by
  have hr:=h r wc;have z:u (b7 r)=0:=by
   obtain⟨c,q⟩:=s;have e:=A.coef q;have c0:c=0:=AK e A.2.2.2.1 hr.1 hr.2;rw[e,c0];simp
  exact A.2.2.2.2.small (A.tz s z) λx hx=>h x (wb _ hx)
theorem CA{n:Nat}{S:aA}{u v:Row}(A:Asc n 0 S)(hu:u.length=n)(hv:v.length=n)(s:Span (vecs S) (λk=>at0 u k-at0 v k))(h1:∀ r∈S,0<=at0 u (b7 r)/\at0 u (b7 r)<hd r)(h2:∀ r∈S,0<=at0 v (b7 r)/\at0 v (b7 r)<hd r):u=v:=by
 refine ext0 (by rfl') λk=>?_;have:=A.small s (λr hr=>by have:=h1 r hr;have:=h2 r hr;rfl') k;rfl'
theorem Kr{n:Nat}{S:aA}{u v:Row}(A:Asc n 0 S)(hu:u.length=n)(hv:v.length=n)(s:Span (vecs S) (λk=>at0 u k-at0 v k)):d8 u S=d8 v S:=by
 refine CA A (w8 A hu) (w8 A hv) ?_ (u7 A hu) (u7 A hv);have s1:=u8 A hu;have s2:=u8 A hv;exact Span.congr (λk=>by rfl') ((s.sub s1).add s2)
theorem BQ{n:Nat}{S:aA}{u:Row}(A:Asc n 0 S)(hu:u.length=n):d8 (d8 u S) S=d8 u S:=by
 have hl:=w8 A hu;refine CA A (w8 A hl) hl ?_ (u7 A hl) (u7 A hu);exact Span.congr (λk=>by rfl') (u8 A hl).neg
end St

end
section
local macro_rules|`(tactic|rfl')=>`(tactic|first|lia|omega +splitDisjunctions)
namespace L2
open PySem
theorem An{a b:aH}(h:a.length=b.length)(k:Nat):St.at0 (addR a b) k=St.at0 a k+St.at0 b k:=by
 have e:addR a b=St.lin 1 a 1 b:=by unfold addR St.lin;congr 1;funext x y;rfl'
 rw[e,St.Ef h];rfl'
theorem IW(q:Int)(a:aH)(k:Nat):St.at0 (sclR q a) k=q*St.at0 a k:=by
 simp only[St.at0,sclR,List.getD,wq];cases a[k]?<;>simp
theorem Y5(n:Nat):u6 n=St.EY n:=by unfold u6 St.EY;simp
theorem CB(n k:Nat):St.at0 (u6 n) k=0:=by rw[Y5];exact St.Am n k
theorem zero_add{n:Nat}{v:aH}(hv:v.length=n):addR (u6 n) v=v:=St.ext0 (by rw[O7 (by rw[K1,hv]),K1,hv]) λk=>by rw[An (by rw[K1,hv]),CB];rfl'
theorem Pz(v:aH):sclR 1 v=v:=by unfold sclR;simp
theorem SG{r:aH}{x:Int}(h:x∈r):∃ k,St.at0 r k=x:=by
 obtain⟨k,hk,e⟩:=ug.mp h;exact⟨k,by simp[St.at0,List.getD,wa hk,e]⟩
end L2
namespace L2
open PySem
theorem PB{n i:Nat}(h:i<n):ixN n (i:Int)=some i:=by
 unfold ixN;rw[if_pos (by rfl'),if_pos (by rfl')];simp
end L2
namespace L2
open PySem
theorem us0{P:aG->Prop}(h:P []):∀ us:aG,us.length=0->P us:=λus hl=>(vT.mp hl).symm ▸ h
theorem usS{P:aG->Prop}{n:Nat}(h:∀ a us,us.length=n->P (a::us)):∀ us:aG,us.length=n+1->P us:=λus hl=>by
 cases us with
 | nil=>cases hl
 | cons a us=>exact h a us (Nat.succ.inj hl)
theorem us1{P:aG->Prop}(h:∀ a,P [a]):∀ us:aG,us.length=1->P us:=usS λa=>us0 (h a)
theorem us2{P:aG->Prop}(h:∀ a b,P [a,b]):∀ us:aG,us.length=2->P us:=usS λa=>(usS λb=>us0 (h a b))
theorem us3{P:aG->Prop}(h:∀ a b c,P [a,b,c]):∀ us:aG,us.length=3->P us:=usS λa=>(usS λb=>(usS λc=>us0 (h a b c)))
theorem us4{P:aG->Prop}(h:∀ a b c d,P [a,b,c,d]):∀ us:aG,us.length=4->P us:=usS λa=>(usS λb=>(usS λc=>(usS λd=>us0 (h a b c d))))
end L2

end
section
namespace L2
open PySem PySem.Spec PyProof.Rows
theorem Dh.ex{K:aE}{x:Str}{st:Stmt}{f:Addr}(d:Dh K x st f):∃(fd:FuncData) (oc kV doc pm cdv ct:Value) (od an:Option Addr) (osl:Array (Option Value)),fd=PySem.W.fnOf x x (E9 st) (x9 st) (d7 st) .none kV doc pm an cdv ct/\PySem.W.nsIn K mainGlobals x=some (some (.ref f))/\K.lookup f=some ⟨oc,od,.func fd,osl⟩/\PySem.W.codeIn K cdv x=true/\PySem.W.keepIn K (.ref f)=true:=by
 obtain⟨_,_,_,_,_,_,_,_,_,e,l,c,k⟩:=d;exact⟨_,_,_,_,_,_,_,_,_,_,rfl,e,l,c,k⟩
noncomputable def Dh.fd{K:aE}{x:Str}{st:Stmt}{f:Addr}(d:Dh K x st f):FuncData:=vi d.ex
theorem Dh.b{K:aE}{x:Str}{st:Stmt}{f:Addr}{ps:List Str}(d:Dh K x st f)
  (hb:∀(kV doc pm:Value) (an:Option Addr) (cdv ct:Value) (us:aG),us.length=ps.length->bindArgs (PySem.W.fnOf x x (E9 st) (x9 st) (d7 st) .none kV doc pm an cdv ct) ⟨us,[]⟩=pure (ps.zip us)) (us:aG) (h:us.length=ps.length):bindArgs d.fd ⟨us,[]⟩=pure (ps.zip us):=by
 obtain⟨_,_,_,_,_,_,_,_,_,z,_⟩:=Wc d.ex;rw[show d.fd=_ from z];exact hb _ _ _ _ _ _ us h
theorem Dh.q{K:aE}{h:Heap}{mg:aF}(X:K.In h)(G:h.Ns mainGlobals mg){x:Str}{st:Stmt}{f:Addr}{ps:List Str}(d:Dh K x st f)
  (hb:∀(kV doc pm:Value) (an:Option Addr) (cdv ct:Value) (us:List Value),us.length=ps.length→bindArgs (PySem.W.fnOf x x (E9 st) (x9 st) (d7 st) .none kV doc pm an cdv ct) ⟨us,[]⟩=pure (ps.zip us):=by
   intro _ _ _ _ _ _
   first|exact us1 λ_=>rfl|exact us2 λ_ _=>rfl|exact us3 λ_ _ _=>rfl|exact us4 λ_ _ _ _=>rfl|exact us0 rfl|exact us5 λ_ _ _ _ _=>rfl|exact us6 λ_ _ _ _ _ _=>rfl):Df K mg x st ps f d.fd:=by
 obtain⟨_,_,_,_,_,_,_,_,_,z,e,l,c,k⟩:=Wc d.ex;have w:d.fd=_:=z;rw[z]at l;rw[w];exact df_mk X G e l c k hb
abbrev FK(P:Program)(w:World)(K:aE)(mg:aF)(base:Heap)(k:Nat)(f:Addr)(fd:FuncData)(ps:List Str)(r:Bool)(c:FC):Prop:=FnOk P w K mg base CX0 k f fd ps (spc K r c)
end L2

end
section
namespace L2
open PySem PySem.Spec PyProof.Rows
def nx1(low:aH->aH)(st:aA×List (aH×aH))(b:aH):aA×List (aH×aH) :=
 if low b∈st.1 then st else(st.1++[low b],st.2++[(low b,b)])
def u9(low:aH->aH)(st:aA×List (aH×aH))(bs:aA):aA×List (aH×aH):=bs.foldl (nx1 low) st
def A7(add:aH->aH->aH)(level:List (aH×aH))(steps:aA):aA:=level.flatMap λp=>steps.map (add p.2)
theorem VG{low:aH->aH}{st:aA×List (aH×aH)}{b:aH}:(nx1 low st b).1.length<=st.1.length+1/\(nx1 low st b).2.length<=st.2.length+1:=by
 unfold nx1;split<;>simp
theorem CC{low:aH->aH}:∀(bs:aA) {st:aA×List (aH×aH)},(u9 low st bs).1.length<=st.1.length+bs.length/\(u9 low st bs).2.length<=st.2.length+bs.length
 | [],st=>⟨wf _,wf _⟩
 | b::bs,st=>by
  have h1:=VG (low:=low) (st:=st) (b:=b);have h2:=CC (low:=low) bs (st:=nx1 low st b);show(u9 low (nx1 low st b) bs).1.length<=_/\(u9 low (nx1 low st b) bs).2.length<=_;rw[wm];rfl'
def kvT(seen:aA):List (List Key×V):=seen.map λt=>(kI t,V.bl true)
theorem SH{a b:aH}(h:kI a=kI b):a=b:=by
 induction a generalizing b with
 | nil=>cases b with
  | nil=>rfl
  | cons _ _=>simp[kI]at h
 | cons x xs ih=>cases b with
  | nil=>simp[kI]at h
  | cons y ys =>
   simp only[kI,wj,List.cons.injEq,Sum.inl.injEq]at h;rw[h.1,ih h.2]
theorem EZ(r:aH):∀ seen:aA,(valV (kvT seen) (kI r)).isSome=decide (r∈seen)
 | []=>rfl
 | t::ts=>by
  show(valV ((kI t,V.bl true)::kvT ts) (kI r)).isSome=_;by_cases e:t=r
  · subst e;rw[BD rfl];simp
  · rw[BE (λz=>e (SH z)),EZ r ts];simp[Ne.symm e]
theorem SI{r:aH}{seen:aA}(h:r ∉ seen):putK (kvT seen) (kI r) (V.bl true)=kvT (seen++[r]):=by
 rw[Kg]
 · unfold kvT;simp
 · have:=EZ r seen;rw[decide_eq_false h]at this;exact Option.isNone_iff_eq_none.mp (by rw[←Option.not_isSome,this];rfl)
abbrev rTup(K:aE):List V->Hp->VK->Prop:=λxs H Q=>∃ p ys,xs=[.ref p]/\((SqL K H p ys/\∀ l,H l=none->Q (.ref l) (upd H l (.tup ys)))\/(SqT K H p ys/\Q (.ref p) H))
noncomputable def tNxB(K:aE)(sa sl:Sp):TS :=
  tSeq (tAsg (AG sa [] E0 (o0 (tOp (rIxT K) (tVar 5) (tC (.int 1))) (o0 (tVar 6) tNil))) (u5 7))
  (tSeq (tAsg (AG sl [] E0 (o0 (tVar 7) (o0 (tVar 2) tNil))) (u5 8))
   (tIfS (tB (tDIn not (tCB (rTup K) (o0 (tVar 8) tNil)) (tVar 3)))
      (tSeq (Sf (tVar 3) (tCB (rTup K) (o0 (tVar 8) tNil)) (tC (.bl true)))
            (OX (tBM K "list" Pc (tVar 4) (o0 (tTup (o0 (tVar 8) (o0 (tVar 7) tNil))) tNil))))
      AF))
noncomputable def tNx(K:aE)(sa sl:Sp)(P:Addr)(ps:Array Value)(q:Str):TS :=
 tSeq (tAsg (tLst tNil) (u5 4)) (tSeq (tFor (Dk K (tVar 0)) (u5 5) (tFor (Dk K (tVar 1)) (u5 6) (tNxB K sa sl))) (tRet (Sm K P ps q 4)))
def PairsAt(H H':Hp)(D:Addr)(found:List (aH×aH))(fs:List Addr):Prop:=fs.length=found.length /\
 ∀(j:Nat) (p:aH×aH) (f:Addr),found[j]?=some p->fs[j]?=some f->∃ x y,H' f=some (.tup [.ref x,.ref y])/\H' x=some (.lst (p.1.map V.int))/\H' y=some (.lst (p.2.map V.int))/\H x=none/\H y=none/\x≠D/\y≠D
structure NxAt(H:Hp)(a D:Addr)(st:aA×List (aH×aH))(H':Hp):Prop where
 keep:∀ b o,b≠a->H b=some o->H' b=some o
 dict:H' a=some (.dT (kvT st.1))
 fD:H D=none
 list:∃ fs:List Addr,H' D=some (.lst (fs.map V.ref))/\PairsAt H H' D st.2 fs
theorem Q5{a b:Addr}{H:Hp}{o:HO}(hA:∀ o,H a=some o->∃ kvs,o = .dT kvs)(h:H b=some o)(n:∀ kvs,o ≠ .dT kvs):hidL [a] H b=some o:=by
 rw[i9]
 · exact h
 · intro z;have z:=wu.mp z;subst z;obtain⟨kvs,e⟩:=hA o h;exact n kvs e
mutual
theorem Rp.skip{K:aE}{B:Hp}{a:Addr}:∀(d:Dt) {H:Hp} {v:V},(∀ o,H a=some o->∃ kvs,o = .dT kvs)->Rp K B d H v->Rp K B d (hidL [a] H) v
 | .non,_,v,_,h=>by unfold Rp at h ⊢;exact h
 | .bl b,_,v,_,h=>by unfold Rp at h ⊢;exact h
 | .int i,_,v,_,h=>by unfold Rp at h ⊢;exact h
 | .str x,_,v,_,h=>by unfold Rp at h ⊢;exact h
 | .dic,H,v,hA,h=>by unfold Rp at h ⊢;obtain⟨b,q,r⟩:=h;exact⟨b,q,Q5 hA r (by rintro _ ⟨⟩)⟩
 | .lst ds,H,v,hA,h=>by
  unfold Rp at h ⊢;obtain⟨b,vs,rfl,h0,h1,h2⟩:=h;refine⟨b,vs,rfl,h0,Q5 hA h1 (by rintro _ ⟨⟩),?_⟩;rw[S6];exact Rps.skip ds (λo e=>hA o (B0 e).2) h2
 | .tup ds,H,v,hA,h=>by
  unfold Rp at h ⊢;obtain⟨b,vs,rfl,h1,h2⟩:=h;refine⟨b,vs,rfl,?_,Rps.skip ds hA h2⟩;rcases h1 with(h1|⟨o,h1⟩)|h1
  · exact .inl (.inl (Q5 hA h1 (by rintro _ ⟨⟩)))
  · exact .inl (.inr ⟨o,Q5 hA h1 (by rintro _ ⟨⟩)⟩)
  · exact .inr h1
 | .scr ns,H,v,hA,h=>by
  unfold Rp at h ⊢;obtain⟨b,rfl,h0,h1⟩:=h;refine⟨b,rfl,h0,?_⟩;rcases h1 with⟨q,h1⟩|h1
  · exact .inl ⟨q,Q5 hA h1 (by rintro _ ⟨⟩)⟩
  · exact .inr h1
 | .obj C k b es,H,v,hA,h=>by
  unfold Rp at h ⊢;obtain⟨c,dx,vk,vb,l,vs,rfl,h0,h1,h2,h3,h4,h5,h6,h7,h8⟩:=h;refine⟨c,dx,vk,vb,l,vs,rfl,h0,Q5 hA h1 (by rintro _ ⟨⟩),Q5 hA h2 (by rintro _ ⟨⟩),h3,Q5 hA h4 (by rintro _ ⟨⟩),h5,?_⟩;rw[S6];exact⟨Rp.skip k (λo e=>hA o (B0 e).2) h6,Rp.skip b (λo e=>hA o (B0 e).2) h7,Rps.skip es (λo e=>hA o (B0 e).2) h8⟩
theorem Rps.skip{K:aE}{B:Hp}{a:Addr}:∀(ds:List Dt) {H:Hp} {vs:List V},(∀ o,H a=some o->∃ kvs,o = .dT kvs)->Rps K B ds H vs->Rps K B ds (hidL [a] H) vs
 | [],_,vs,_,h=>by unfold Rps at h ⊢;exact h
 | d::ds,_,vs,hA,h=>by
  unfold Rps at h ⊢;obtain⟨v,r,rfl,h1,h2⟩:=h;exact⟨v,r,rfl,Rp.skip d hA h1,Rps.skip ds hA h2⟩
end
section
variable {K:aE}{H H' H'':Hp}{a D:Addr}{st:aA×List (aH×aH)}
theorem Rp.past{B:Hp}{d:Dt}{v:V}{kvs:List (List Key×V)}(ha:H a=some (.dT kvs))(k:∀ b o,b≠a->H b=some o->H' b=some o)(h:Rp K B d H v):Rp K B d H' v:=by
 refine Rp.mono d (λb o e=>?_) (Rp.skip (a:=a) d (λo e=>by rw[ha]at e;cases e;exact⟨_,rfl⟩) h);obtain⟨n,e⟩:=B0 e;exact k b o (by simpa using n) e
theorem PairsAt.mono{found:List (aH×aH)}{fs:List Addr}{xs:List V}(h:PairsAt H H' D found fs)(hD:H' D=some (.lst xs))(k:∀ b o,(∃ xs,o = .tup xs\/o = .lst xs)->b≠D->H' b=some o->H'' b=some o):PairsAt H H'' D found fs:=by
 refine⟨h.1,λj p f e1 e2=>?_⟩;obtain⟨x,y,h1,h2,h3,h4,h5,h6,h7⟩:=h.2 j p f e1 e2;exact⟨x,y,k _ _ ⟨_,.inl rfl⟩ (X8 h1 hD (λz=>nomatch z)) h1,k _ _ ⟨_,.inr rfl⟩ h6 h2,k _ _ ⟨_,.inr rfl⟩ h7 h3,h4,h5,h6,h7⟩
theorem NxAt.mono(h:NxAt H a D st H')(s:Same H' H''):NxAt H a D st H'':=by
 obtain⟨fs,h1,h2⟩:=h.list;exact⟨λb o n e=>s _ _ (h.keep b o n e),s _ _ h.dict,h.fD,fs,s _ _ h1,h2.mono h1 λb o _ _ e=>s _ _ e⟩
theorem NxAt.put(h:NxAt H a D st H'){kvs:List (List Key×V)}{seen:aA}(e:kvs=kvT seen):NxAt H a D (seen,st.2) (upd H' a (.dT kvs)):=by
 subst e;obtain⟨fs,h1,h2⟩:=h.list;have nD:D≠a:=X8 h1 h.dict (λz=>nomatch z);refine⟨λb o n e=>by rw[i6 n];exact h.keep b o n e,i7,h.fD,fs,by rw[i6 nD];exact h1,h2.mono h1 λb o ho _ e=>?_⟩;rw[i6 (X8 e h.dict (λz=>by obtain⟨xs,z'|z'⟩:=ho<;>rw[z']at z<;>cases z))];exact e
theorem NxAt.app(h:NxAt H a D st H'){f x y:Addr}{p:aH×aH}{fs:List Addr}(hD:H' D=some (.lst (fs.map V.ref)))(hp:PairsAt H H' D st.2 fs)(hf:H' f=some (.tup [.ref x,.ref y]))(hx:H' x=some (.lst (p.1.map V.int)))(hy:H' y=some (.lst (p.2.map V.int)))(nx:H x=none)(ny:H y=none)(xD:x≠D)(yD:y≠D):
   NxAt H a D (st.1,st.2++[p]) (upd H' D (.lst (fs.map V.ref++[.ref f]))):=by
 have nD:a≠D:=X8 h.dict hD (λz=>nomatch z);refine⟨λb o n e=>?_,by rw[i6 nD];exact h.dict,h.fD,fs++[f],by rw[i7,wI];rfl,?_⟩
 · have:b≠D:=λz=>by rw[z,h.fD]at e;cases e
   rw[i6 this];exact h.keep b o n e
 · have m:=hp.mono (H'':=upd H' D (.lst (fs.map V.ref++[.ref f]))) hD λb o _ n e=>by rw[i6 n];exact e
   refine⟨by rw[ww,ww,m.1];rfl,λj r g e1 e2=>?_⟩;by_cases c:j<fs.length
   · rw[wL (by rw[←m.1];exact c)]at e1;rw[wL c]at e2;exact m.2 j r g e1 e2
   · have hj:j=fs.length:=by
      have:=(wy.mp e2).1;rw[ww,WL]at this;rfl'
     subst hj;rw[wN (wf _),uE]at e2;rw[m.1,wN (wf _),uE]at e1;cases e1;cases e2;exact⟨x,y,by rw[i6 (X8 hf hD (λz=>nomatch z))];exact hf,by rw[i6 xD];exact hx,by rw[i6 yD];exact hy,nx,ny,xD,yD⟩
end
abbrev levD(level:List (aH×aH)):Dt := .lst (level.map λp => .tup [L p.1,L p.2])
theorem rd_nxB{K:aE}{ca cl:FC}{H H':Hp}{a D:Addr}{st:aA×List (aH×aH)}{vl vst vr x5 x6:V}{x7 x8:Option V}{b t bb r:aH}{y0:aH}{G:aA}{E:Ends}{N:St->Hp->Prop}{low:aH->aH}
   (n:NxAt H a D st H') (h5:Rp K emp (.tup [L y0,L b]) H' x5) (h6:Rp K emp (L t) H' x6) (hG:Rp K emp (LL G) H' vr) (ea:ca [L b,L t]=some (L bb)) (el:cl [L bb,LL G]=some (L r)) (hr:low bb=r) (sz:st.1.length<100000) (sz2:st.2.length<100000) (nD:E.nx=N)
   (fin:∀ H'' q7 q8,NxAt H a D (nx1 low st bb) H''->N [some vl,some vst,some vr,some (.ref a),some (.ref D),some x5,some x6,q7,q8] H'') :
   tNxB K (spc K true ca) (spc K true cl) E [some vl,some vst,some vr,some (.ref a),some (.ref D),some x5,some x6,x7,x8] H':=by
 subst hr;obtain⟨f5,vs5,rfl,s5,r5⟩:=Rp.tup_.mp h5;obtain⟨w0,t1,rfl,r50,r5⟩:=Rps.cons_.mp r5;obtain⟨w1,t2,rfl,r51,r5⟩:=Rps.cons_.mp r5;have e:=Rps.nil_.mp r5;subst e;refine⟨.ref f5,rfl,f5,_,1,w1,rfl,rfl,s5,rfl,x6,rfl,[L b,L t],_,Rps.cons_.mpr ⟨_,_,rfl,r51,Rps.one h6⟩,ea,λv7 H1 s1 r7=>?_⟩;have r7:Rp K H' (L bb) H1 v7:=r7;have n1:=n.mono s1;refine⟨v7,rfl,vr,rfl,[L bb,LL G],_,Rps.cons_.mpr ⟨_,_,rfl,Rp.anti Same.emp _ r7,Rps.one (Rp.mono _ s1 hG)⟩,el,λv8 H2 s2 r8=>?_⟩;have r8:Rp K H1 (L (low bb)) H2 v8:=r8;have n2:=n1.mono s2;obtain⟨y,ys,rfl,ny,hy,ry⟩:=Rp.lst_.mp r7;have ry:=Rps.ints.mp ry;subst ry;obtain⟨x,xs,rfl,nx,hx,rx⟩:=Rp.lst_.mp r8;have rx:=Rps.ints.mp rx;subst rx;have hy2:=s2 _ _ hy;obtain⟨fs,hD,hp⟩:=n2.list;obtain⟨fs0,hD0,_⟩:=n.list;have yD:y≠D:=λz=>by rw[z,hD0]at ny;cases ny
 have xD:x≠D:=λz=>by rw[z,s1 _ _ hD0]at nx;cases nx
 have hkeep:∀ z,H' z=none->H z=none:=λz e=>by
   cases q:H z with
   | none=>rfl
   | some o =>
     by_cases c:z=a
     · rw[c,n.dict]at e;cases e
     · rw[n.keep z o c q]at e;cases e
 have nyH:H y=none:=hkeep y ny;have nxH:H x=none:=hkeep x (s1.free nx);refine⟨.ref x,rfl,x,_,rfl,.inl ⟨SqL.of hx,λl hl=>?_⟩⟩;have n3:=n2.mono (j6 (o := .tup ((low bb).map V.int)) hl);refine⟨.ref a,rfl,a,l,_,kI (low bb),rfl,rfl,n3.dict,by rw[EO];exact i7,_,rfl,?_⟩;rw[EZ];have s3:=j6 (o:=HO.tup ((low bb).map V.int)) hl;by_cases c:low bb∈st.1
 · rw[decide_eq_true c];show if(!true)=true then _ else _
   rw[if_neg (by decide)];show E.nx _ _;rw[nD];refine fin _ _ _ ?_;unfold nx1;rw[if_pos c];exact n3
 · rw[decide_eq_false c];show if(!false)=true then _ else _
   rw[if_pos (by decide)];have hx3:=s3 _ _ hx;refine⟨.ref a,rfl,.ref x,rfl,x,_,rfl,.inl ⟨SqL.of hx3,λl2 hl2=>?_⟩⟩;have s4:=j6 (o:=HO.tup ((low bb).map V.int)) hl2;have n4:=n3.mono s4;refine⟨a,l2,_,kI (low bb),rfl,rfl,n4.dict,by rw[EO];exact i7,?_,?_⟩
   · unfold kvT;rw[we,sizeLine_eq];rfl'
   rw[SI c];have n5:=n4.put (seen:=st.1++[low bb]) rfl;generalize hg:upd (upd (upd H2 l (.tup ((low bb).map V.int))) l2 (.tup ((low bb).map V.int))) a (.dT (kvT (st.1++[low bb])))=H5 at n5 ⊢;have lst5:∀ b xs,H2 b=some (.lst xs)->H5 b=some (.lst xs):=λb xs e=>by
     rw[←hg,i6 (X8 e n2.dict (λz=>nomatch z))];exact s4 _ _ (s3 _ _ e)
   obtain⟨fs5,hD5,hp5⟩:=n5.list;refine⟨.ref D,rfl,.inl ⟨rfl,_,SqL.of hD5⟩,.ref x,rfl,.ref y,rfl,by show 2<=sizeLine;decide,λf hf=>?_⟩;have s6:=j6 (o:=HO.tup [.ref x,.ref y]) hf;have n6:=n5.mono s6;refine⟨D,_,_,rfl,rfl,s6 _ _ hD5,by rw[we,sizeLine_eq,hp5.1];show st.2.length<_;rfl',?_⟩;show E.nx _ _;rw[nD];refine fin _ _ _ ?_;unfold nx1;rw[if_neg c];exact n6.app (p:=(low bb,bb)) (s6 _ _ hD5) (hp5.mono hD5 λb o _ _ e=>s6 _ _ e) i7 (s6 _ _ (lst5 _ _ hx)) (s6 _ _ (lst5 _ _ hy2)) nxH nyH xD yD
end L2

end
section
namespace L2
open PySem PySem.Spec PyProof.Rows
theorem SJ{low:aH->aH}{st:aA×List (aH×aH)}{b:aH}(h1:∀ p∈st.2,p.1∈st.1)(h2:(st.2.map (·.1)).Nodup):(∀ p∈(nx1 low st b).2,p.1∈(nx1 low st b).1)/\((nx1 low st b).2.map (·.1)).Nodup:=by
 unfold nx1;split
 · exact⟨h1,h2⟩
 · rename_i c;refine⟨λp hp=>?_,?_⟩
   · rcases wl.mp hp with hp|hp
     · exact wK _ (h1 p hp)
     · rw[wu.mp hp];exact wz _ wc
   · show((st.2++[(low b,b)]).map (·.1)).Nodup;rw[wI,Wy];refine⟨h2,by simp,λx hx y hy=>?_⟩;obtain⟨p,hp,rfl⟩:=wg.mp hx;have:y=low b:=by simpa using hy
     rw[this];exact λz=>c (z ▸ h1 p hp)
theorem AU{low:aH->aH}:∀(bs:aA) {st:aA×List (aH×aH)},(∀ p∈st.2,p.1∈st.1)->(st.2.map (·.1)).Nodup->(∀ p∈(u9 low st bs).2,p.1∈(u9 low st bs).1)/\((u9 low st bs).2.map (·.1)).Nodup
 | [],st,h1,h2=>⟨h1,h2⟩
 | b::bs,st,h1,h2=>by
  have:=SJ (low:=low) (b:=b) h1 h2;exact AU (low:=low) bs (st:=nx1 low st b) this.1 this.2
def LexP(found lv:List (aH×aH)):Prop:=lv.Perm found/\lv.Pairwise λp q=>HT.lexLt q.1 p.1=false
theorem Fd{K:aE}{H H':Hp}:∀{ys:List Addr} {lv:List (aH×aH)},ys.length=lv.length->(∀(j:Nat) (p:aH×aH) (f:Addr),lv[j]?=some p->ys[j]?=some f->∃ x y,H' f=some (.tup [.ref x,.ref y])/\H' x=some (.lst (p.1.map V.int))/\H' y=some (.lst (p.2.map V.int))/\H x=none/\H y=none)->Rps K H (lv.map λp => .tup [L p.1,L p.2]) H' (ys.map V.ref)
 | [],[],_,_=>Rps.nil_.mpr rfl
 | [],_::_,h,_=>by cases h
 | _::_,[],h,_=>by cases h
 | f::ys,p::lv,h,q=>by
  obtain⟨x,y,h1,h2,h3,h4,h5⟩:=q 0 p f rfl rfl;refine Rps.cons_.mpr ⟨_,_,rfl,Rp.tup_.mpr ⟨f,_,rfl,SqT.of h1,Rps.cons_.mpr ⟨_,_,rfl,Rp.lst_.mpr ⟨x,_,rfl,h4,h2,Rps.ints.mpr rfl⟩,Rps.one (Rp.lst_.mpr ⟨y,_,rfl,h5,h3,Rps.ints.mpr rfl⟩)⟩⟩,Fd (by simpa using h) λj p' f' e1 e2=>q (j+1) p' f' (by simpa using e1) (by simpa using e2)⟩
theorem SK{α β:Type}{f:α->β}:∀{bs:List β} {as:List α},bs.Perm (as.map f)->∃ zs:List α,zs.Perm as/\bs=zs.map f:=by
 intro bs as h;generalize e:as.map f=cs at h
 induction h generalizing as with
 | nil=>exact⟨[],by rw[List.map_eq_nil_iff.mp e],rfl⟩
 | cons x p ih =>
  obtain⟨a,as',rfl,rfl,e'⟩:=vu.mp e;obtain⟨zs,g1,g2⟩:=ih e';exact⟨a::zs,g1.cons a,by rw[g2];rfl⟩
 | swap x y l =>
  obtain⟨a,as',rfl,rfl,e'⟩:=vu.mp e;obtain⟨b,as'',rfl,rfl,rfl⟩:=vu.mp e';exact⟨b::a::as'',List.Perm.swap a b as'',rfl⟩
 | trans p1 p2 ih1 ih2 =>
  obtain⟨zs,g1,rfl⟩:=ih2 e;obtain⟨ws,g3,g4⟩:=ih1 rfl;exact⟨ws,g3.trans g1,g4⟩
theorem QJ{H H':Hp}{D:Addr}{found:List (aH×aH)}{fs ys:List Addr}(hp:PairsAt H H' D found fs)(h:LexV (found.map (·.1)) fs ys):∃ lv,LexP found lv/\ys.length=lv.length/\∀(j:Nat) (p:aH×aH) (f:Addr),lv[j]?=some p->ys[j]?=some f->∃ x y,H' f=some (.tup [.ref x,.ref y])/\H' x=some (.lst (p.1.map V.int))/\H' y=some (.lst (p.2.map V.int))/\H x=none/\H y=none:=by
 obtain⟨ps,h1,h2,h3⟩:=h;have e:(found.map (·.1)).zip fs=(found.zip fs).map λz=>(z.1.1,z.2):=by rw[List.zip_map_left];exact Wr λz _=>rfl
 rw[e]at h1;obtain⟨zs,pz,ez⟩:∃ zs:List ((aH×aH)×Addr),zs.Perm (found.zip fs)/\ps=zs.map λz=>(z.1.1,z.2):=SK h1;refine⟨zs.map (·.1),⟨?_,?_⟩,?_,λj p f e1 e2=>?_⟩
 · have:=pz.map (·.1);rw[vN (by rw[hp.1];exact wf _)]at this;exact this
 · rw[ez,Wo]at h3;exact Wo.mpr h3
 · rw[h2,ez];simp
 · rw[h2,ez,wF,wq]at e2;rw[wq]at e1;obtain⟨z,g1,g2⟩:=Wf.mp e1;obtain⟨z',g3,g4⟩:=Wf.mp e2;rw[g1]at g3;cases g3;subst g2 g4;have m:=pz.mem_iff.mp (Wd g1);obtain⟨i,hi,ei⟩:=wH m;rw[WI]at hi;rw[vj]at ei;have i1:i<found.length:=by rfl'
   have i2:i<fs.length:=by rfl'
   obtain⟨x,y,k1,k2,k3,k4,k5,_⟩:=hp.2 i found[i] fs[i] (wa i1) (wa i2);rw[←ei];exact⟨x,y,k1,k2,k3,k4,k5⟩
section
variable {K:aE}{ca cl:FC}{H:Hp}{a P:Addr}{ps:Array Value}{q:Str}{level:List (aH×aH)}{steps G seen:aA}{add:aH->aH->aH}{low:aH->aH}
theorem Mu{i:Nat}{p:aH×aH}(e:level[i]?=some p):A7 add (level.take (i+1)) steps=A7 add (level.take i) steps++steps.map (add p.2):=by
 unfold A7;rw[WX,e,uq];simp
theorem Hx:∀ level:List (aH×aH),(A7 add level steps).length=level.length*steps.length
 | []=>by simp[A7]
 | p::l=>by
  have:=Hx l;unfold A7 at this ⊢;rw[vI,ww,this,we,wm,vt];rfl'
structure NxOk(ca cl:FC)(level:List (aH×aH))(steps G seen:aA)(add:aH->aH->aH)(low:aH->aH):Prop where
 fn:∀ p∈level,∀ t∈steps,ca [L p.2,L t]=some (L (add p.2 t))/\cl [L (add p.2 t),LL G]=some (L (low (add p.2 t)))
 sz:seen.length+level.length*steps.length<50000
 few:(u9 low (seen,[]) (A7 add level steps)).2.length<64
def spNx(K:aE)(ca cl:FC)(P:Addr)(ps:Array Value)(q:Str):Sp:=λvs H Q _=>∃ vl vst vr a level steps G seen add low,vs=[vl,vst,vr,.ref a]/\Rp K emp (levD level) H vl/\Rp K emp (LL steps) H vst/\Rp K emp (LL G) H vr/\H a=some (.dT (kvT seen))/\H P=some (.tbl ps q) /\
 NxOk ca cl level steps G seen add low/\∀ H' v lv,(∀ b o,b≠a->H b=some o->H' b=some o)->H' a=some (.dT (kvT (u9 low (seen,[]) (A7 add level steps)).1))->LexP (u9 low (seen,[]) (A7 add level steps)).2 lv->Rp K H (levD lv) H' v->Q v H'
theorem rd_nx{vs:List V}{Q:VK}{E:XK}{N:List Str}(hN:N.length=9)(h:spNx K ca cl P ps q vs H Q E):tNx K (spc K true ca) (spc K true cl) P ps q { nx:=fun _ H'=>Q .non H',rt:=Q } (start N vs) H:=by
 obtain⟨vl,vst,vr,a,level,steps,G,seen,add,low,rfl,hl,hst,hG,ha,hP,ok,fin⟩:=h;have hstt:start N [vl,vst,vr,V.ref a]=[some vl,some vst,some vr,some (.ref a),none,none,none,none,none]:=by unfold start;rw[hN];rfl
 rw[hstt];have okS:=ok.sz;refine⟨wx _,λD hD=>?_⟩;show tSeq _ _ _ [some vl,some vst,some vr,some (.ref a),some (.ref D),none,none,none,none] (upd H D (.lst []));have n0:NxAt H a D (seen,[]) (upd H D (.lst [])):=by
  have nD:a≠D:=v9 ha hD;refine⟨λb o _ e=>by rw[i6 (v9 e hD)];exact e,by rw[i6 nD];exact ha,hD,[],i7,rfl,λj p f e1 e2=>by simp at e1⟩
 obtain⟨l0,vs0,rfl,_,h0,r0⟩:=Rp.lst_.mp hl;have n0l:=r0.length;rw[we]at n0l;have ent:∀{H'} {st:aA×List (aH×aH)},NxAt H a D st H'->Rp K emp (levD level) H' (.ref l0)/\Rp K emp (LL steps) H' vst/\Rp K emp (LL G) H' vr/\SqL K H' l0 vs0:=λn=>⟨Rp.past ha n.keep hl,Rp.past ha n.keep hst,Rp.past ha n.keep hG,SqL.of (n.keep _ _ (X8 h0 ha (λz=>nomatch z)) h0)⟩;refine⟨.ref l0,rfl,l0,rfl,⟨_,(ent n0).2.2.2⟩,?_⟩;refine Y0 (xs:=vs0) (λi σ H'=>∃ x5 x6 x7 x8,σ=[some (.ref l0),some vst,some vr,some (.ref a),some (.ref D),x5,x6,x7,x8]/\NxAt H a D (u9 low (seen,[]) (A7 add (level.take i) steps)) H')
  ⟨none,none,none,none,rfl,n0⟩ (λi σ H' _ ⟨_,_,_,_,_,n⟩=>(ent n).2.2.2) ?step ?done
 case step =>
  rintro i x σ H' hx ⟨x5,x6,x7,x8,rfl,n⟩;have hi:i<level.length:=by rw[←n0l];exact(wy.mp hx).1
  obtain⟨p,hp⟩:∃ p,level[i]?=some p:=⟨_,wa hi⟩;have hpm:=Wd hp;have tk:level.take i=level.take i:=rfl;have pr:∀{H''} {st:aA×List (aH×aH)},NxAt H a D st H''->Rp K emp (.tup [L p.1,L p.2]) H'' x:=λn'=>by
   obtain⟨v,e1,e2⟩:=r0.get (i:=i) (d := .tup [L p.1,L p.2]) (by rw[wq,hp];rfl);rw[hx]at e1;cases e1;exact Rp.past ha n'.keep (Rp.mono _ k8 e2)
  show tFor _ _ _ _ [some (.ref l0),some vst,some vr,some (.ref a),some (.ref D),some x,x6,x7,x8] H';obtain⟨l1,vs1,rfl,_,h1,r1⟩:=Rp.lst_.mp hst;have n1l:=r1.length;rw[we]at n1l;have sq1:∀{H''} {st:aA×List (aH×aH)},NxAt H a D st H''->SqL K H'' l1 vs1:=λn'=>SqL.of (n'.keep _ _ (X8 h1 ha (λz=>nomatch z)) h1);refine⟨.ref l1,rfl,l1,rfl,⟨_,sq1 n⟩,?_⟩;refine Y0 (xs:=vs1) (λj σ H''=>∃ x6 x7 x8,σ=[some (.ref l0),some (.ref l1),some vr,some (.ref a),some (.ref D),some x,x6,x7,x8]/\NxAt H a D (u9 low (u9 low (seen,[]) (A7 add (level.take i) steps)) ((steps.take j).map (add p.2))) H'')
   ⟨x6,x7,x8,rfl,n⟩ (λj σ H'' _ ⟨_,_,_,_,n'⟩=>sq1 n') ?st2 ?dn2
  case dn2 =>
   rintro σ H'' ⟨x6,x7,x8,rfl,n'⟩;refine⟨some x,x6,x7,x8,rfl,?_⟩;rw[Mu hp];unfold u9 at n' ⊢;rw[uF];rw[n1l,Wt (wf _)]at n';exact n'
  case st2 =>
   rintro j y σ H'' hy ⟨x6,x7,x8,rfl,n'⟩;have hj:j<steps.length:=by rw[←n1l];exact(wy.mp hy).1
   obtain⟨t,ht⟩:∃ t,steps[j]?=some t:=⟨_,wa hj⟩;have htm:=Wd ht;obtain⟨e1,e2⟩:=ok.fn p hpm t htm;have ry:Rp K emp (L t) H'' y:=by
     obtain⟨v,g1,g2⟩:=r1.get (i:=j) (d:=L t) (by rw[wq,ht];rfl);rw[hy]at g1;cases g1;exact Rp.past ha n'.keep (Rp.mono _ k8 g2)
   show tNxB K (spc K true ca) (spc K true cl) _ [some (.ref l0),some (.ref l1),some vr,some (.ref a),some (.ref D),some x,some y,x7,x8] H'';have ln1:=CC (low:=low) (A7 add (level.take i) steps) (st:=(seen,[]));have ln2:=CC (low:=low) ((steps.take j).map (add p.2)) (st:=u9 low (seen,[]) (A7 add (level.take i) steps));rw[Hx,Ww,uX (by rfl')]at ln1;rw[we,Ww,uX (by rfl')]at ln2;have mi:i*steps.length+j<=level.length*steps.length:=by
     have:(i+1)*steps.length<=level.length*steps.length:=wA _ hi;rw[vt]at this;rfl'
   have z0:([]:List (aH×aH)).length=0:=rfl;simp only[uU]at ln1;refine rd_nxB (low:=low) n' (pr n') ry (ent n').2.2.1 e1 e2 rfl (by rfl') (by rfl') rfl λH3 q7 q8 n3=>?_;refine⟨_,_,_,rfl,?_⟩;rw[WX,ht,wI];unfold u9 at n3 ⊢;rw[uF];exact n3
 case done =>
  rintro σ H' ⟨x5,x6,x7,x8,rfl,n⟩;rw[n0l,Wt (wf _)]at n;obtain⟨fs,hD',hp⟩:=n.list;have nk:=AU (low:=low) (A7 add level steps) (st:=(seen,[])) (λ_ h=>nomatch h) WW;generalize hst:u9 low (seen,[]) (A7 add level steps)=st at n hp nk fin;have few:=ok.few;rw[hst]at few
  have hka:∃ ka:List Addr,ka.length=fs.length∧∀(j:Nat) (x:Addr),ka[j]?=some x→∀(p:List Int×List Int) (f:Addr),st.2[j]?=some p→fs[j]?=some f→H' x=some (.lst (p.1.map V.int))∧∃ y,H' f=some (.tup [.ref x,.ref y]):=by
   have key:∀(found:List (List Int×List Int)) (fs:List Addr),PairsAt H H' D found fs→∃ ka:List Addr,ka.length=fs.length∧∀(j:Nat) (x:Addr),ka[j]?=some x→∀(p:List Int×List Int) (f:Addr),found[j]?=some p→fs[j]?=some f→H' x=some (.lst (p.1.map V.int))∧∃ y,H' f=some (.tup [.ref x,.ref y]):=by
     intro found
     induction found with
     | nil=>intro fs h;exact⟨[],by rw[h.1];rfl,λj x e=>by simp at e⟩
     | cons p found ih =>
       intro fs h;cases fs with
       | nil=>have:=h.1;simp at this
       | cons f fs =>
        obtain⟨ka,g1,g2⟩:=ih fs ⟨by have:=h.1;simpa using this,λj p' f' e1 e2=>h.2 (j+1) p' f' (by simpa using e1) (by simpa using e2)⟩;obtain⟨x,y,k1,k2,_⟩:=h.2 0 p f rfl rfl;refine⟨x::ka,by rw[wm,wm,g1],λj z e p' f' e1 e2=>?_⟩;cases j with
        | zero=>simp at e e1 e2;subst e e1 e2;exact⟨k2,y,k1⟩
        | succ j=>exact g2 j z (by simpa using e) p' f' (by simpa using e1) (by simpa using e2)
   exact key st.2 fs hp
  obtain⟨ka,la,hka⟩:=hka;have pr:Pairs K H' fs ka (st.2.map (·.1)):=by
   refine⟨la,by rw[we,hp.1],λj t x e1 e2=>?_,λj x ns e1 e2=>?_,by rw[hp.1];exact few,nk.2⟩
   · have hj:j<st.2.length:=by rw[←hp.1];exact(wy.mp e1).1
     obtain⟨_,y,g⟩:=hka j x e2 st.2[j] t (wa hj) e1;exact⟨_,SqT.of g⟩
   · rw[wq]at e2;obtain⟨p,g1,g2⟩:=Wf.mp e2;subst g2;have hj:j<fs.length:=by rw[hp.1];exact(wy.mp g1).1
     exact(hka j x e1 p fs[j] g1 (wa hj)).1
  refine⟨D,fs,ka,_,rfl,hD',pr,n.keep _ _ (X8 hP ha (λz=>nomatch z)) hP,λD2 ys H2 s2 hD2 ly=>?_⟩;obtain⟨lv,lp,ll,at_⟩:=QJ hp ly;have s3:=s2.trans (j6 (o:=HO.lst (ys.map V.ref)) hD2);have fr:H D2=none:=by
   have e:=s2.free hD2;cases g:H D2 with
   | none=>rfl
   | some o =>
     by_cases c:D2=a
     · rw[c,n.dict]at e;cases e
     · rw[n.keep _ _ c g]at e;cases e
  refine fin _ _ lv (λb o nb e=>s3 _ _ (n.keep b o nb e)) (s3 _ _ n.dict) lp (Rp.lst_.mpr ⟨D2,_,rfl,fr,i7,?_⟩);rw[Dm hD2];refine Rps.mono _ s2 (Fd ll at_)
end
end L2

end
section
namespace L2
open PySem PySem.Spec PyProof.Rows
theorem SL{found lv lv':List (aH×aH)}(nd:(found.map (·.1)).Nodup)(h:LexP found lv)(h':LexP found lv'):lv=lv':=by
 refine List.Perm.eq_of_pairwise (λp q hp hq h1 h2=>?_) h.2 h'.2 (h.1.trans h'.1.symm);have e:=Ai _ _ h2 h1;have mp:=h.1.mem_iff.mp hp;have mq:=h'.1.mem_iff.mp hq;obtain⟨i,hi,ei⟩:=wH mp;obtain⟨j,hj,ej⟩:=wH mq;have:i=j:=by
  refine(vd (xs:=found.map (·.1)) (h₀:=by simpa using hi) (h₁:=by simpa using hj) nd).mp ?_;rw[Wk,Wk,ei,ej,e]
 subst this;rw[←ei,←ej]
abbrev Ent:=aH×Int×aH
abbrev entD(e:Ent):Dt := .tup [L e.1,.int e.2.1,L e.2.2]
abbrev tolD(told:List Ent):Dt := .lst (told.map entD)
def Run(ca cl:FC)(steps G:aA)(add:aH->aH->aH)(low:aH->aH):Nat->List (aH×aH)->Nat->aA->List Ent->List Ent->Prop
 | 0,_,_,_,_,_=>False
 | k+1,level,m,seen,told,fin=>(level=[]/\fin=told)\/(level≠[]/\NxOk ca cl level steps G seen add low/\(∀ p∈level,p.1≠[]/\p.2≠[])/\told.length+level.length<=50000 /\
  ∃ lv,LexP (u9 low (seen,[]) (A7 add level steps)).2 lv/\Run ca cl steps G add low k lv (m+1) (u9 low (seen,[]) (A7 add level steps)).1 (told++level.map λp=>(p.1,(m:Int),p.2)) fin)
def Ks(cf cs ct cn ca cl:FC)(ds:List Dt)(d:Dt):Prop:=∃(n:Int) (hr:List Dt) (df:Dt) (G steps:aA) (z:aH) (k:Nat) (told:List Ent),
 ds=[.tup (.int n::hr)]/\cf ds=some df/\cs ds=some (LL G)/\ct [.int n]=some (LL steps)/\cn ds=some (L z)/\Run ca cl steps G addR (λb=>St.d8 b G) k [(z,z)] 0 [z] [] told/\d=tolD told
noncomputable abbrev fLev:FE:=j9 2 [6] (iSeq (fN 4)) (Tg.many [0,1]) fYes (fTup (b8 (fN 0) (b8 (fN 2) (b8 (fN 1) fNil))))
noncomputable abbrev Kt:FT:=k6 (fOp opGt (fBlt bLen (b8 (fN 4) fNil)) (fC (.int 0)))
noncomputable def PD(X:Cx)(ca cl:FC)(P:Addr)(ps:Array Value)(q:Str):TS :=
 tSeq (OX (tBM X.K "list" Pd (tVar 5) (o0 (upF X fLev) tNil)))
 (tSeq (tAsg (AG (spNx X.K ca cl P ps q) [] E0 (o0 (tVar 4) (o0 (tVar 2) (o0 (tVar 1) (o0 (tVar 3) tNil))))) (u5 4))
  (tAsg (upF X (fOp l9 (fN 6) (fC (.int 1)))) (u5 6)))
noncomputable abbrev tNo(X:Cx)(cn:FC):TE:=AG (spc X.K true cn) [] E0 (o0 (tVar 0) tNil)
noncomputable def tCls(X:Cx)(cf cs ct cn ca cl:FC)(P:Addr)(ps:Array Value)(q:Str):TS :=
 tSeq (OX (AG (spc X.K true cf) [] E0 (o0 (tVar 0) tNil)))
 (tSeq (tAsg (AG (spc X.K true cs) [] E0 (o0 (tVar 0) tNil)) (u5 1))
 (tSeq (tAsg (AG (spc X.K false ct) [] E0 (o0 (tOp (rIxT X.K) (tVar 0) (tC (.int 0))) tNil)) (u5 2))
 (tSeq (tAsg (tDOne (tCB (rTup X.K) (o0 (tNo X cn) tNil)) (tC (.bl true))) (u5 3))
 (tSeq (tAsg (tLst (o0 (tTup (o0 (tNo X cn) (o0 (tNo X cn) tNil))) tNil)) (u5 4))
 (tSeq (tAsg (tLst tNil) (u5 5))
 (tSeq (tAsg (tC (.int 0)) (u5 6))
 (tSeq (Iv (upB X Kt) (PD X ca cl P ps q))
  (tRet (tVar 5)))))))))
section
variable {X:Cx}{K:aE}{H H' Hs:Hp}{a D:Addr}
theorem Eh{vs:List V}{r:aH}{v:V}(hD:H D=some (.lst vs))(ar:∀ v∈vs,∃ t,v=V.ref t)(hr:r≠[])(h:Rp K emp (L r) H v):Rp K emp (L r) (hidL [D] H) v:=by
 obtain⟨x,xs,rfl,h0,h1,h2⟩:=Rp.lst_.mp h;have e:=Rps.ints.mp h2;subst e;have n:x≠D:=λz=>by
  rw[z,hD]at h1;injection h1 with h1
  injection h1 with h1
  cases r with
  | nil=>exact hr rfl
  | cons i r =>
   obtain⟨t,e⟩:=ar (.int i) (by rw[h1];exact wc);cases e
 exact Rp.lst_.mpr ⟨x,_,rfl,h0,by rw[i9 (by simpa using n)];exact h1,Rps.ints.mpr rfl⟩
theorem PH{vs:List V}{f:Addr}{ys:List V}(hD:H D=some (.lst vs))(h:SqT K H f ys):SqT K (hidL [D] H) f ys:=SqT.hid (λb hb o e=>by rw[wu.mp hb,hD]at e;cases e;exact⟨_,rfl⟩) h
theorem SM{vs:List V}{p:aH×aH}{v:V}(hD:H D=some (.lst vs))(ar:∀ v∈vs,∃ t,v=V.ref t)(h1:p.1≠[])(h2:p.2≠[])(h:Rp K emp (.tup [L p.1,L p.2]) H v):Rp K emp (.tup [L p.1,L p.2]) (hidL [D] H) v:=by
 obtain⟨f,ws,rfl,s,r⟩:=Rp.tup_.mp h;obtain⟨w0,t1,rfl,r0,r⟩:=Rps.cons_.mp r;obtain⟨w1,t2,rfl,r1,r⟩:=Rps.cons_.mp r;exact Rp.tup_.mpr ⟨f,_,rfl,PH hD s,Rps.cons_.mpr ⟨_,_,rfl,Eh hD ar h1 r0,Rps.cons_.mpr ⟨_,_,rfl,Eh hD ar h2 r1,Rps.nil_.mpr (Rps.nil_.mp r)⟩⟩⟩
theorem VH{vs:List V}{e:Ent}{v:V}(hD:H D=some (.lst vs))(ar:∀ v∈vs,∃ t,v=V.ref t)(h1:e.1≠[])(h2:e.2.2≠[])(h:Rp K emp (entD e) H v):Rp K emp (entD e) (hidL [D] H) v:=by
 obtain⟨f,ws,rfl,s,r⟩:=Rp.tup_.mp h;obtain⟨w0,t1,rfl,r0,r⟩:=Rps.cons_.mp r;obtain⟨w1,t2,rfl,r1,r⟩:=Rps.cons_.mp r;obtain⟨w2,t3,rfl,r2,r⟩:=Rps.cons_.mp r;exact Rp.tup_.mpr ⟨f,_,rfl,PH hD s,Rps.cons_.mpr ⟨_,_,rfl,Eh hD ar h1 r0,Rps.cons_.mpr ⟨_,_,rfl,Rp.int_.mpr (Rp.int_.mp r1),Rps.cons_.mpr ⟨_,_,rfl,Eh hD ar h2 r2,Rps.nil_.mpr (Rps.nil_.mp r)⟩⟩⟩⟩
theorem Rps.off{B:Hp}{vs:List V}{ds:List Dt}(h:Rps K emp ds H vs)(k:∀ d∈ds,∀ v,Rp K emp d H v->Rp K emp d B v):Rps K emp ds B vs:=by
 induction ds generalizing vs with
 | nil=>exact Rps.nil_.mpr (Rps.nil_.mp h)
 | cons d ds ih =>
  obtain⟨v,r,rfl,h1,h2⟩:=Rps.cons_.mp h;exact Rps.cons_.mpr ⟨v,r,rfl,k d wc v h1,ih h2 λd' hd'=>k d' (wb _ hd')⟩
theorem Rps.refs{ds:List Dt}{vs:List V}(h:Rps K emp ds H vs)(k:∀ d∈ds,∃ xs,d = .tup xs):∀ v∈vs,∃ t,v=V.ref t:=by
 induction ds generalizing vs with
 | nil=>rw[Rps.nil_.mp h];exact λ_ z=>nomatch z
 | cons d ds ih =>
  obtain⟨v,r,rfl,h1,h2⟩:=Rps.cons_.mp h;intro u hu;rcases wn.mp hu with rfl|hu
  · obtain⟨xs,rfl⟩:=k d wc;obtain⟨f,_,e,_⟩:=Rp.tup_.mp h1;exact⟨f,e⟩
  · exact ih h2 (λd' hd'=>k d' (wb _ hd')) u hu
theorem Rps.past{ds:List Dt}{vs:List V}{kvs:List (List Key×V)}(ha:H a=some (.dT kvs))(k:∀ b o,b≠a->H b=some o->H' b=some o)(h:Rps K emp ds H vs):Rps K emp ds H' vs:=h.off λd _ v=>Rp.past ha k
structure ClsAt(K:aE)(Hs:Hp)(a D:Addr)(level:List (aH×aH))(seen:aA)(told:List Ent)(vl:V)(H':Hp):Prop where
 same:Same Hs H'
 na:Hs a=none
 nD:Hs D=none
 dict:H' a=some (.dT (kvT seen))
 lev:Rp K emp (levD level) H' vl
 far:∀ l,vl = .ref l->l≠D
 told:∃ vs,H' D=some (.lst vs)/\Rps K emp (told.map entD) (hidL [D] H') vs
theorem ClsAt.mono{level:List (aH×aH)}{seen:aA}{told:List Ent}{vl:V}{H'':Hp}(h:ClsAt K Hs a D level seen told vl H')(s:Same H' H''):ClsAt K Hs a D level seen told vl H'':=by
 obtain⟨vs,h1,h2⟩:=h.told;exact⟨h.same.trans s,h.na,h.nD,s _ _ h.dict,Rp.mono _ s h.lev,h.far,vs,s _ _ h1,Rps.mono _ (z9 s) h2⟩
theorem VI{c0 c1 c2 c3 c5:Cell}{m:Int}(level:List (aH×aH)):∃ fl,fLev [c0,c1,c2,c3,.sh false (levD level),c5,.sh false (.int m)]=some (fl,.lst (level.map λp=>entD (p.1,m,p.2))):=by
 have key:∀ level:List (aH×aH),∃ vs,S9 (Tg.many [0,1]) fYes (fTup (b8 (fN 0) (b8 (fN 2) (b8 (fN 1) fNil)))) (sigD 2 [6] [c0,c1,c2,c3,.sh false (levD level),c5,.sh false (.int m)]) (level.map λp => .tup [L p.1,L p.2])=some vs/\sndL vs=level.map λp=>entD (p.1,m,p.2):=by
  have e0:∀ lv,sigD 2 [6] [c0,c1,c2,c3,.sh false (levD lv),c5,.sh false (.int m)]=[.no,.no,.sh false (.int m)]:=λlv=>rfl;intro level;rw[e0]
  induction level with
  | nil=>exact⟨[],rfl,rfl⟩
  | cons p level ih =>
   obtain⟨vs,g1,g2⟩:=ih;have e1:∃ fl,fTup (b8 (fN 0) (b8 (fN 2) (b8 (fN 1) fNil))) [.sh false (L p.1),.sh false (L p.2),.sh false (.int m)]=some (fl,entD (p.1,m,p.2)):=⟨_,rfl⟩;obtain⟨fl,e1⟩:=e1;refine⟨(fl,entD (p.1,m,p.2))::vs,?_,?_⟩
   · rw[wj];unfold S9;simp only[show Tg.put (Tg.many [0,1]) (.tup [L p.1,L p.2]) [.no,.no,.sh false (.int m)]=some [.sh false (L p.1),.sh false (L p.2),.sh false (.int m)]from rfl,uK,fYes,↓reduceIte,e1,g1]
   · rw[wj,←g2];rfl
 obtain⟨vs,g1,g2⟩:=key level;refine⟨if Q0 vs then .nw else .tn,?_⟩;unfold fLev j9;rw[show iSeq (fN 4) [c0,c1,c2,c3,.sh false (levD level),c5,.sh false (.int m)]=some (level.map λp=>Dt.tup [L p.1,L p.2])from rfl];simp only[uK,g1,g2]
theorem SN{c0 c1 c2 c3 c5 c6:Cell}(level:List (aH×aH)):Kt [c0,c1,c2,c3,.sh false (levD level),c5,c6]=some (decide (0<level.length)):=by
 have:Kt [c0,c1,c2,c3,.sh false (levD level),c5,c6]=some (decide ((0:Int)<((level.map λp=>Dt.tup [L p.1,L p.2]).length:Nat))):=rfl;rw[this,we];congr 1;by_cases h:0<level.length
 · rw[decide_eq_true h,decide_eq_true (by rfl')]
 · rw[decide_eq_false h,decide_eq_false (by rfl')]
theorem IX{v0 v1 v2 v3 v4 v5:V}{level:List (aH×aH)}{m:Int}(b:Same X.H₀ H)(h:Rp X.K emp (levD level) H v4):RepS X.ky H [.no,.no,.no,.no,.sh false (levD level),.no,.sh false (.int m)] [some v0,some v1,some v2,some v3,some v4,some v5,some (.int m)] :=
 ⟨rfl,b,fun i c e=>by
  match i,e with
  | 0,e=>cases e;exact⟨_,rfl,trivial⟩
  | 1,e=>cases e;exact⟨_,rfl,trivial⟩
  | 2,e=>cases e;exact⟨_,rfl,trivial⟩
  | 3,e=>cases e;exact⟨_,rfl,trivial⟩
  | 4,e=>cases e;exact⟨_,rfl,_,rfl,h⟩
  | 5,e=>cases e;exact⟨_,rfl,trivial⟩
  | 6,e=>cases e;exact⟨_,rfl,_,rfl,Rp.int_.mpr rfl⟩⟩
theorem VJ{ca cl:FC}{P:Addr}{ps:Array Value}{q:Str}{steps G:aA}{add:aH->aH->aH}{low:aH->aH}{vh vr vs vl:V}{m:Nat}{level:List (aH×aH)}{seen:aA}{told:List Ent}{E:Ends}{N:St->Hp->Prop}
  (h0:Same X.H₀ Hs) (hs:Rp X.K emp (LL steps) Hs vs) (hG:Rp X.K emp (LL G) Hs vr) (hP:Hs P=some (.tbl ps q)) (st:ClsAt X.K Hs a D level seen told vl H)
  (ok:NxOk ca cl level steps G seen add low) (ne:∀ p∈level,p.1≠[]/\p.2≠[]) (sz:told.length+level.length<=50000) {lv:List (aH×aH)} (hlv:LexP (u9 low (seen,[]) (A7 add level steps)).2 lv) (nE:E.nx=N)
  (fin:∀ v H',ClsAt X.K Hs a D lv (u9 low (seen,[]) (A7 add level steps)).1 (told++level.map λp=>(p.1,(m:Int),p.2)) v H'->N [some vh,some vr,some vs,some (.ref a),some v,some (.ref D),some (.int ((m:Int)+1))] H') :
  PD X ca cl P ps q E [some vh,some vr,some vs,some (.ref a),some vl,some (.ref D),some (.int m)] H:=by
 obtain⟨ws,hD,rw_⟩:=st.told;have lt:=rw_.length;rw[we]at lt;obtain⟨fl,ef⟩:=VI (c0 := .no) (c1 := .no) (c2 := .no) (c3 := .no) (c5 := .no) (m:=(m:Int)) level;refine⟨.ref D,rfl,.inl ⟨rfl,_,SqL.of hD⟩,_,fl,_,IX (h0.trans st.same) st.lev,ef,λv H1 s1 r1=>?_⟩;have st1:=st.mono s1;obtain⟨b,zs,rfl,_,hb,rb⟩:=Rp.lst_.mp r1.sh;have lb:=rb.length;rw[we]at lb;have hD1:=s1 _ _ hD;refine⟨D,b,ws,zs,rfl,rfl,hD1,hb,by rw[sizeLine_eq];rfl',?_⟩;have ar:∀ v∈ws,∃ t,v=V.ref t:=rw_.refs λd hd=>by obtain⟨e,_,rfl⟩:=wg.mp hd;exact⟨_,rfl⟩
 have aD:a≠D:=X8 st.dict hD (λz=>nomatch z);have Dup:hidL [D] (upd H1 D (.lst (ws++zs)))=hidL [D] H1:=funext λc=>by
  by_cases z:c=D
  · rw[z,F0 (by simp),F0 (by simp)]
  · rw[i9 (by simpa using z),i9 (by simpa using z),i6 z]
 generalize h2:upd H1 D (.lst (ws++zs))=H2 at Dup ⊢;have hD2:H2 D=some (.lst (ws++zs)):=by rw[←h2,i7]
 have dict2:H2 a=some (.dT (kvT seen)):=by rw[←h2,i6 aD];exact st1.dict
 have same2:Same Hs H2:=λc o e=>by rw[←h2,i6 (v9 e st.nD)];exact st1.same _ _ e
 have h12:∀ c o,c≠D->H1 c=some o->H2 c=some o:=λc o n e=>by rw[←h2,i6 n];exact e
 have lev2:Rp X.K emp (levD level) H2 vl:=by
  obtain⟨l,xs,rfl,_,hl,rl⟩:=Rp.lst_.mp st1.lev;have nl:=st.far l rfl;refine Rp.lst_.mpr ⟨l,xs,rfl,rfl,h12 _ _ nl hl,rl.off λd hd v r=>?_⟩;obtain⟨p,hp,rfl⟩:=wg.mp hd;have q1:=SM (D:=D) (H:=hidL [l] H1) (by rw[i9 (by simpa using Ne.symm nl)];exact hD1) ar (ne p hp).1 (ne p hp).2 r;refine Rp.mono _ (λc o e=>?_) q1;obtain⟨n1,e⟩:=B0 e;obtain⟨n2,e⟩:=B0 e;rw[i9 n2];exact h12 c o (by simpa using n1) e
 have told2:Rps X.K emp ((told++level.map λp=>(p.1,(m:Int),p.2)).map entD) (hidL [D] H2) (ws++zs):=by
  rw[wI,Dup];refine Rps.append (Rps.mono _ (z9 s1) rw_) ?_;rw[wF];refine rb.off λd hd v r=>?_;obtain⟨p,hp,rfl⟩:=wg.mp hd;exact VH hD1 ar (ne p hp).1 (ne p hp).2 (Rp.mono _ k8 r)
 show tSeq _ _ _ [some vh,some vr,some vs,some (.ref a),some vl,some (.ref D),some (.int m)] H2;refine⟨vl,rfl,vs,rfl,vr,rfl,.ref a,rfl,vl,vs,vr,a,level,steps,G,seen,add,low,rfl,lev2,Rp.mono _ same2 hs,Rp.mono _ same2 hG,dict2,same2 _ _ hP,ok,λH3 v lv' keep dict3 lp r3=>?_⟩;have el:=SL (AU (low:=low) (A7 add level steps) (st:=(seen,[])) (λ_ h=>nomatch h) WW).2 lp hlv;subst el;have same3:Same Hs H3:=λc o e=>keep c o (v9 e st.na) (same2 _ _ e);have st3:ClsAt X.K Hs a D lv' (u9 low (seen,[]) (A7 add level steps)).1 (told++level.map λp=>(p.1,(m:Int),p.2)) v H3:=by
  refine⟨same3,st.na,st.nD,dict3,Rp.anti Same.emp _ r3,λl e z=>?_,_,keep D _ (Ne.symm aD) hD2,Rps.past (a:=a) (H:=hidL [D] H2) (by rw[i9 (by simpa using aD)];exact dict2) (λc o n e=>?_) told2⟩
  · obtain⟨l',_,e',n',_⟩:=Rp.lst_.mp r3;rw[e]at e';cases e';rw[z,hD2]at n';cases n'
  · obtain⟨n1,e⟩:=B0 e;rw[i9 n1];exact keep c o n e
 show tAsg (upF X (fOp l9 (fN 6) (fC (.int 1)))) (u5 6) E [some vh,some vr,some vs,some (.ref a),some v,some (.ref D),some (.int m)] H3;refine⟨_,.nw,.int ((m:Int)+1),IX (h0.trans same3) st3.lev,rfl,λw H4 s4 r4=>?_⟩;have ew:=Rp.int_.mp r4.sh;subst ew;show E.nx _ _;rw[nE];exact fin v H4 (st3.mono s4)
theorem SO{ca cl:FC}{P:Addr}{ps:Array Value}{q:Str}{steps G:aA}{add:aH->aH->aH}{low:aH->aH}{vh vr vs vl:V}{k m:Nat}{level:List (aH×aH)}{seen:aA}{told fin:List Ent}{E:Ends}
  (h0:Same X.H₀ Hs) (hs:Rp X.K emp (LL steps) Hs vs) (hG:Rp X.K emp (LL G) Hs vr) (hP:Hs P=some (.tbl ps q)) (st:ClsAt X.K Hs a D level seen told vl H) (run:Run ca cl steps G add low k level m seen told fin)
  (done:∀ v H' m seen,ClsAt X.K Hs a D [] seen fin v H'->E.nx [some vh,some vr,some vs,some (.ref a),some v,some (.ref D),some (.int m)] H') :
  Iv (upB X Kt) (PD X ca cl P ps q) E [some vh,some vr,some vs,some (.ref a),some vl,some (.ref D),some (.int m)] H:=by
 refine⟨λk σ H'=>∃(level:List (aH×aH)) (m:Nat) (seen:aA) (told:List Ent) (vl:V),σ=[some vh,some vr,some vs,some (.ref a),some vl,some (.ref D),some (.int m)]/\ClsAt X.K Hs a D level seen told vl H'/\Run ca cl steps G add low k level m seen told fin,⟨k,level,m,seen,told,vl,rfl,st,run⟩,?_⟩;rintro k σ H' ⟨level,m,seen,told,vl,rfl,st,run⟩;refine⟨_,_,IX (h0.trans st.same) st.lev,SN level,λH1 s1=>?_⟩;have st1:=st.mono s1;show if decide (0<level.length)=true then _ else _
 cases k with
 | zero=>exact run.elim
 | succ k =>
  rcases run with⟨rfl,rfl⟩|⟨nel,ok,ne,sz,lv,hlv,run⟩
  · rw[if_neg (by simp)];exact done _ _ _ _ st1
  · have:0<level.length:=WA.mpr nel;rw[decide_eq_true this,if_pos rfl];refine⟨λσ' H''=>∃ v,σ'=[some vh,some vr,some vs,some (.ref a),some v,some (.ref D),some (.int ((m+1:Nat):Int))]/\ClsAt X.K Hs a D lv (u9 low (seen,[]) (A7 add level steps)).1 (told++level.map λp=>(p.1,(m:Int),p.2)) v H'',λσ' H'' ⟨v,e,s2⟩=>⟨k,wR k,lv,m+1,_,_,v,e,s2,run⟩,?_⟩;exact VJ (m:=m) h0 hs hG hP st1 ok ne sz hlv rfl λv H2 s2=>⟨v,rfl,s2⟩
end
end L2

end
section
namespace L2
open PySem PySem.Spec PyProof.Rows
def spcT(K:aE)(P:Addr)(ps:Array Value)(q:Str)(fr:Bool)(c:FC):Sp:=λvs H Q E=>H P=some (.tbl ps q)/\spc K fr c vs H Q E
theorem rd_cls{X:Cx}{cf cs ct cn ca cl:FC}{P:Addr}{ps:Array Value}{q:Str}{ds:List Dt}{d:Dt}{vs:List V}{H:Hp}{Q:VK}{N:List Str}(hN:N.length=7)(h0:X.H₀=H)(hP:H P=some (.tbl ps q))(r:Rps X.K emp ds H vs)(ok:Ks cf cs ct cn ca cl ds d)
   (fin:∀ v H',Same H H'->Rp X.K emp d H' v->Q v H'):tCls X cf cs ct cn ca cl P ps q { nx:=λ_ H'=>Q .non H',rt:=Q } (start N vs) H:=by
 obtain⟨n,hr,df,G,steps,z,k,told,rfl,e1,e2,e3,e4,run,rfl⟩:=ok;obtain⟨vh,r1,rfl,rh,rn⟩:=Rps.cons_.mp r;have rn:=Rps.nil_.mp rn;subst rn;have hst:start N [vh]=[some vh,none,none,none,none,none,none]:=by unfold start;rw[hN];rfl
 rw[hst];have b0:Same X.H₀ H:=by rw[h0];exact Same.refl H
 refine⟨vh,rfl,[.tup (.int n::hr)],df,Rps.one rh,e1,λ_ H1 s1 _=>?_⟩;show tSeq _ _ _ [some vh,none,none,none,none,none,none] H1;refine⟨vh,rfl,[.tup (.int n::hr)],_,Rps.one (Rp.mono _ s1 rh),e2,λvr H2 s2 r2=>?_⟩;have r2:Rp X.K H1 (LL G) H2 vr:=r2;have s12:=s1.trans s2;show tSeq _ _ _ [some vh,some vr,none,none,none,none,none] H2;obtain⟨f,ws,rfl,sq,rw_⟩:=Rp.tup_.mp (Rp.mono _ s12 rh);obtain⟨w0,t1,rfl,rw0,rw_⟩:=Rps.cons_.mp rw_;have ew:=Rp.int_.mp rw0;subst ew;refine⟨.ref f,rfl,f,_,0,.int n,rfl,rfl,sq,by unfold atI ixN;simp,[.int n],_,Rps.one (Rp.int_.mpr rfl),e3,λvst H3 s3 r3=>?_⟩;have r3:Rp X.K emp (LL steps) H3 vst:=r3;have s13:=s12.trans s3;show tSeq _ _ _ [some (.ref f),some vr,some vst,none,none,none,none] H3;intro a ha;have sa:=j6 (o:=HO.dT []) ha;refine⟨.ref f,rfl,[.tup (.int n::hr)],_,Rps.one (Rp.mono _ (s13.trans sa) rh),e4,λv4 H4 s4 r4=>?_⟩;have r4:Rp X.K (upd H3 a (.dT [])) (L z) H4 v4:=r4;obtain⟨x4,xs4,rfl,n4,hx4,rx4⟩:=Rp.lst_.mp r4;have rx4:=Rps.ints.mp rx4;subst rx4;refine⟨x4,_,rfl,.inl ⟨SqL.of hx4,λl hl=>?_⟩⟩;have sl:=j6 (o:=HO.tup (z.map V.int)) hl;have da:upd H4 l (.tup (z.map V.int)) a=some (.dT []):=sl _ _ (s4 _ _ i7);refine⟨l,kI z,rfl,by rw[EO];exact i7,da,?_⟩;have s35:Same H3 (upd (upd H4 l (.tup (z.map V.int))) a (.dT [(kI z,V.bl true)])):=λb o e=>by
   rw[i6 (v9 e ha)];exact sl _ _ (s4 _ _ (sa _ _ e))
 have d5:upd (upd H4 l (.tup (z.map V.int))) a (.dT [(kI z,V.bl true)]) a=some (.dT (kvT [z])):=i7;generalize upd (upd H4 l (.tup (z.map V.int))) a (.dT [(kI z,V.bl true)])=H5 at s35 d5 ⊢;show tSeq _ _ _ [some (.ref f),some vr,some vst,some (.ref a),none,none,none] H5;refine⟨.ref f,rfl,[.tup (.int n::hr)],_,Rps.one (Rp.mono _ (s13.trans s35) rh),e4,λv6 H6 s6 r6=>?_⟩;have r6:Rp X.K H5 (L z) H6 v6:=r6;refine⟨.ref f,rfl,[.tup (.int n::hr)],_,Rps.one (Rp.mono _ (s13.trans (s35.trans s6)) rh),e4,λv7 H7 s7 r7=>?_⟩;have r7:Rp X.K H6 (L z) H7 v7:=r7;refine⟨by show 2<=sizeLine;decide,λg hg=>?_⟩;have sg:=j6 (o:=HO.tup [v6,v7]) hg;refine⟨by show 1<=sizeLine;decide,λl0 hl0=>?_⟩;have s0:=j6 (o:=HO.lst [.ref g]) hl0;have lev:Rp X.K emp (levD [(z,z)]) (upd (upd H7 g (.tup [v6,v7])) l0 (.lst [.ref g])) (.ref l0):=by
   refine Rp.new hl0 rfl (Rps.one (Rp.tup_.mpr ⟨g,_,rfl,SqT.of i7,Rps.cons_.mpr ⟨_,_,rfl,?_,Rps.one ?_⟩⟩))
   · exact Rp.anti Same.emp _ (Rp.mono _ (s7.trans sg) r6)
   · exact Rp.anti Same.emp _ (Rp.mono _ sg r7)
 have s58:Same H5 (upd (upd H7 g (.tup [v6,v7])) l0 (.lst [.ref g])):=s6.trans (s7.trans (sg.trans s0));generalize upd (upd H7 g (.tup [v6,v7])) l0 (.lst [.ref g])=H8 at lev s58 ⊢;show tSeq _ _ _ [some (.ref f),some vr,some vst,some (.ref a),some (.ref l0),none,none] H8;refine⟨wx _,λD hD=>?_⟩;have sD:=j6 (o:=HO.lst []) hD;show tSeq (Iv (upB X Kt) (PD X ca cl P ps q)) (tRet (tVar 5)) { nx:=λ_ H'=>Q .non H',rt:=Q } [some (.ref f),some vr,some vst,some (.ref a),some (.ref l0),some (.ref D),some (.int 0)] (upd H8 D (.lst []));have s38:=s35.trans s58;refine SO (Hs:=H3) (m:=0) (by rw[h0];exact s13) r3 (Rp.anti Same.emp _ (Rp.mono _ s3 r2)) (s13 _ _ hP) (k:=k) (level:=[(z,z)]) (seen:=[z]) (told:=[]) (fin:=told) ?_ run λv H' m seen st=>?_
 · obtain⟨_,_,e0,_,h00,_⟩:=Rp.lst_.mp lev;cases e0;refine⟨s38.trans sD,ha,s38.free hD,sD _ _ (s58 _ _ d5),Rp.mono _ sD lev,λl e z=>?_,[],i7,Rps.nil_.mpr rfl⟩;cases e;rw[z,hD]at h00;cases h00
 · obtain⟨ws,hw,rw1⟩:=st.told;exact⟨.ref D,rfl,fin _ _ (s13.trans st.same) (Rp.lst_.mpr ⟨D,ws,rfl,rfl,hw,rw1⟩)⟩
end L2

end
section
namespace L2
open PySem PySem.Spec PyProof.Rows
theorem p_caT{X:Cx}{e:Expr}{es:List Expr}{pos p:Pos}{Fs:FA}{x:Str}{fr:Bool}{k k':Nat}{f:Addr}{fd:FuncData}{pr:List Str}{ct:FC}{st:Stmt}{P:Addr}{ps:Array Value}{q:Str}(F:FnOk X.prog X.w X.K X.mg X.base CX0 k f fd pr (spcT X.K P ps q fr ct))(D:Df X.K X.mg x st pr f fd)(hr:Room k' X.A)(hT:X.H₀ P=some (.tbl ps q))
  (ha:PFA X (e::es) Fs) (hg:Gl X x:=by rfl) (hle:k<=k':=by decide) (hdb:(x==("__debug__" : Str))=false:=by decide) (hst:starEach (e::es) X.env=(false,eval e X.env)::starEach es X.env:=by rfl) (hpl:(backTo pos (starEach es X.env)).any (·.1)=false:=by rfl):PF X (.Call (.Name x p) (e::es) [] pos) (f8 fr ct Fs) :=
 (D8 (E:=E0) (dvs:=[]) F (hr.mono hle) hg D.mg D.fn.kp D.bd .nil S5 ha hdb hst hpl).imp fun σ H Q hZ=>by
  obtain⟨ρ,f,d,rs,e0,k⟩:=hZ;obtain⟨xs,e1,e2⟩:=bind_some e0;cases q:ct (sndL xs) with
  | none=>rw[q]at e2;cases e2
  | some d0 =>
   rw[q]at e2;have e2:nrm (if fr then .nw else .sh) d0=(f,d):=Option.some.inj e2;have e3:d0=d:=congrArg Prod.snd e2;subst e3;refine⟨ρ,xs,rs,e1,λvs H1 s1 r1=>?_⟩;dsimp only;rw[Wp];refine⟨(rs.base.trans s1) _ _ hT,_,d0,r1.sh,q,λv H' s' r'=>k v H' (s1.trans s') ?_⟩;have:=JP (X:=X.ky) s1 r';rw[e2]at this;exact this
section
variable {P:Program}{w:World}{K:aE}{mg:aF}{base:Heap}
theorem VL{k:Nat}{x:Str}{st:Stmt}{f:Addr}{fd:FuncData}{N pr:List Str}{ca cl:FC}{tb c:Addr}{ps:Array Value}{q:Str}(D:Df K mg x st pr f fd)(S:FnScope N pr (d7 st))(hp:pr.length=4)(hN:N.length=9)(hcode:fd.code = .ref c)
  (body:∀(A:Around) (outer:List Env) (s:Shared) (H:Hp) (E:XK),Room k (A.deeper (envOfC x (d7 st) s.heap.objs.size f (.ref c)))->PSs (cxOf CX0 P w K mg base N x (d7 st) f (.ref c) A outer s H E).nox (x9 st) (tNx K (spc K true ca) (spc K true cl) tb ps q)):FnOk P w K mg base CX0 (k+1) f fd pr (spNx K ca cl tb ps q):=by
 obtain⟨oc,od,kV,doc,pm,an,cdv,ct,osl,rfl,lk,hcd⟩:=D.fn.ex;have hcode:cdv = .ref c:=hcode;subst hcode;refine JI lk hcd S (λvs H Q E h=>?_) λA outer s H vs Q E hr h=>⟨_,(body A outer s H E hr).nox,rd_nx (E:=E) hN h⟩;obtain⟨vl,vst,vr,a,_,_,_,_,_,_,rfl,_⟩:=h;rw[hp];rfl
theorem Mv{k:Nat}{x:Str}{st:Stmt}{f:Addr}{fd:FuncData}{N pr:List Str}{cf cs ct cn ca cl c:FC}{tb:Addr}{ps:Array Value}{q:Str}(D:Df K mg x st pr f fd)(S:FnScope N pr (d7 st))(hp:pr.length=1)(hN:N.length=7)(inv:∀ ds d,c ds=some d->Ks cf cs ct cn ca cl ds d)
   (body:∀(cdv:Value) (A:Around) (outer:List Env) (s:Shared) (H:Hp) (E:XK),Room k (A.deeper (envOfC x (d7 st) s.heap.objs.size f cdv))->PSs (cxOf CX0 P w K mg base N x (d7 st) f cdv A outer s H E).nox (x9 st) (tCls (cxOf CX0 P w K mg base N x (d7 st) f cdv A outer s H E).nox cf cs ct cn ca cl tb ps q)):FnOk P w K mg base CX0 (k+1) f fd pr (spcT K tb ps q false c):=by
 obtain⟨oc,od,kV,doc,pm,an,cdv,ct,osl,rfl,lk,hcd⟩:=D.fn.ex;refine JI lk hcd S (λvs H Q E h=>?_) λA outer s H vs Q E hr h=>?_
 · obtain⟨_,ds,d,r,e,_⟩:=h;obtain⟨n,hr,_,_,_,_,_,_,rfl,_⟩:=inv ds d e;rw[hp,r.length];rfl
 · obtain⟨hT,ds,d,r,e,fin⟩:=h;exact⟨_,(body cdv A outer s H E hr).nox,rd_cls hN rfl hT r (inv ds d e) fin⟩
end
end L2

end
section
namespace L2
open PySem PySem.Spec PyProof.Rows
def SQ(K:aE)(c P:Addr):Prop:=∃ o vs file tf flags tg inF text tt,K.lookup c=some o/\o.cls = .type "code" /\ o.data = .fields vs/\vs[11]?=some (.ref P)/\vs.getD 11 .none = .ref P/\vs.getD 18 .none = .str file tf /\
 vs.getD 7 .none = .int flags tg/\vs.getD 9 .none = .bool inF/\vs.getD 10 .none = .int text tt
theorem QK{P:Program}{w:World}{K:PySem.W.Frag}{mg mb:Str→Option Value}{k:Nat}{fa a tb cA:Addr}{fd:FuncData}{x q:Str}{fr:Bool}{cf:FC}{s₁:Shared}{vs:List Value}{ns:List Int}
  (KX:K.In s₁.heap) (hns:s₁.heap.Ns mainGlobals mg) (hb:s₁.heap.Ns builtinsNs mb) (hbb:∀ x:Str,x ≠ "__name__" -> mb x=bootBuiltins x) (hlim:s₁.heap.NoLimit) (hg:s₁.gens=#[])
  (hbm:∃ bm o,mg "__builtins__" = some (.ref bm)/\bm≠builtinsNs/\s₁.heap.get? bm=some o/\o.cls = .type "module" /\ o.dict=some builtinsNs/\o.data = .plain)
  (ht:s₁.heap.get? tb=some { cls := .none,data := .fields #[] }) (hKt:K.lookup tb=none) (hcd:SQ K cA tb)
  (ha:s₁.heap.get? a=some { cls := .type "list",data := .seq vs.toArray }) (hi:IntsAre vs ns) (hl:ns.length<=sizeLine) (hr:Room k callerA)
  (F:∀ base:Heap,K.In base->base.Ns mainGlobals mg->Lam base mg cA tb->FnOk P w K mg base CX0 k fa fd [x] (spcT K tb #[] q fr cf)) (hbind:∀(s:Shared) (u:Value),BindsTo s fd ⟨[u],[]⟩ [(x,u)])
  (hc:cf [.scr ns]=some (.bl true)) :
  codeAny (model P w) callerA (.call (.ref fa) ⟨[.ref a],[]⟩) (λr s'=>r = .ok (.ret (.bool true))/\OldK s₁.heap s'.heap/\s'.os=s₁.os/\AllBare s'.gens) s₁:=by
 have rv:=GT hi;have lenV:=hi.length;have ta:tb≠a:=λz=>by rw[z,ha]at ht;cases ht
 have core:∀ H:Hp,SqF K H a (ns.map V.int)→H tb=some (.tbl #[] q)→HOk P w H s₁.heap→(∀ b,H b≠none→b=tb∨(b=a∧∃ o xs,H b=some (.frz o (.lst xs))))→(H a≠none→K.lookup a=none) →
    codeAny (model P w) callerA (.call (.ref fa) ⟨[.ref a],[]⟩) (λr s'=>r = .ok (.ret (.bool true))/\OldK s₁.heap s'.heap/\s'.os=s₁.os/\AllBare s'.gens) s₁:=by
  intro H hS hT hok hA hK;have base_of:∀{b:Addr} {o:Obj},s₁.heap.get? b=some o->H b=none->(hidT s₁.heap H).get? b=some o:=λe n=>Rj e n;have noA:∀{b:Addr} {o:Obj},s₁.heap.get? b=some o->(∀ xs n,o.data ≠ .seq xs n)->(∀ xs,o.data ≠ .fields xs)->H b=none:=λ{b o} e d1 d2=>by
    cases q:H b with
    | none=>rfl
    | some u =>
      rcases hA b (by rw[q];simp)with z|⟨z,_⟩
      · subst z;rw[ht]at e;cases e;exact absurd rfl (d2 _)
      · subst z;rw[ha]at e;cases e;exact absurd rfl (d1 _ _)
  have nsK:∀{b:Addr} {m:aF},s₁.heap.Ns b m->(hidT s₁.heap H).Ns b m:=λ{b m} ⟨o,es,ep,e,d,r⟩=>⟨o,es,ep,base_of e (noA e (λ_ _ z=>by rw[d]at z;cases z) (λ_ z=>by rw[d]at z;cases z)),d,r⟩;have noK:∀{b:Addr} {o:Obj},K.lookup b=some o->H b=none:=λ{b o} e=>by
    cases q:H b with
    | none=>rfl
    | some u =>
      rcases hA b (by rw[q];simp)with z|⟨z,_⟩
      · subst z;rw[hKt]at e;cases e
      · subst z;rw[hK (by rw[q];simp)]at e;cases e
  have hKb:K.In (hidT s₁.heap H):=λb o e=>base_of (KX b o e) (noK e);have hM:Mod K mg (hidT s₁.heap H):=⟨hKb,nsK hns,⟨mb,nsK hb,hbb⟩,let ⟨mc,h1,h2⟩:=hlim;⟨mc,nsK h1,h2⟩⟩;have e0:Env0 P w K mg (hidT s₁.heap H) callerA [] s₁ H:=⟨rfl,hM,λb o e=>US e,uC (Qj _ _),trivial,λb hb=>absurd (show b∈([]:List Addr)from hb) (by simp),hok,.of_eq hg⟩;have hL:Lam (hidT s₁.heap H) mg cA tb:=by
    obtain⟨o,vs',file,tf,flags,tg,inF,text,tt,c1,c2⟩:=hcd;obtain⟨bm,ob,b1,b2,b3,b4,b5,b6⟩:=hbm;exact⟨⟨o,vs',file,tf,flags,tg,inF,text,tt,hKb _ _ c1,c2⟩,bm,ob,b1,b2,base_of b3 (noA b3 (λ_ _ z=>by rw[b6]at z;cases z) (λ_ z=>by rw[b6]at z;cases z)),b4,b5,b6⟩
  refine codeAny_mono ((F _ hKb (nsK hns) hL).run callerA [] s₁ H ⟨[.ref a],[]⟩ [.ref a] [.ref a] (λv _=>v = .bl true) E0 hr e0 (hbind s₁ (.ref a)) (.cons rfl .nil) ⟨hT,[.scr ns],_,Rps.one (Rp.scr_.mpr ⟨a,rfl,rfl,hS⟩),hc,λv H' _ r=>by cases fr<;>exact Rp.bl_.mp r⟩) λr s' h=>?_;cases r with
  | error e=>exact h.elim
  | ok fl =>
    cases fl with
    | next=>exact False.elim h
    | brk=>exact False.elim h
    | cont=>exact False.elim h
    | ret u =>
      obtain⟨v,H',os,bare,un,hok',r',q'⟩:=h;have q':v = .bl true:=q';subst q';obtain rfl:u=Value.bool true:=r'
      have all:∀ b o,s₁.heap.get? b=some o→asItWas s₁.heap s'.heap b o:=fun b o e=>by
        cases g:H b with
        | none=>exact .inl (un.keep b o e g (by intro z;exact absurd (show b∈([]:List Addr)from z) (by simp)) (by simp))
        | some u =>
         rcases hA b (by rw[g];simp)with z|⟨_,ob,xs,z⟩
         · subst z;obtain⟨more,e1,_⟩:=(show ObjOk P w H' s'.heap b (.tbl #[] q)from hok' b _ (un.tbls b _ _ hT));obtain⟨oc,vs',file,tf,flags,tg,inF,text,tt,c1,c2,c3,c4,_⟩:=hcd;rw[ht]at e;cases e;exact .inr (.inl ⟨Heap.TableAt.isCodeTable (ps:=#[]) ⟨⟨oc,vs',KX _ _ c1,c2,c3,c4⟩,ht⟩,rfl,#[],more,rfl,e1⟩)
         · obtain⟨e1,_⟩:=hok b _ z;obtain⟨e2,_⟩:=hok' b _ (un.frzs b ob _ z);rw[e]at e1;cases e1;exact .inl e2
      refine⟨rfl,⟨all,λb o e=>?_⟩,os,bare⟩;exact un.there b o e (by simp)
 have tOk:∀ H,H tb=some (.tbl #[] q)->ObjOk P w H s₁.heap tb (.tbl #[] q):=λH e=>⟨#[],by simpa using ht,by simp[TriplesOk],λpos cv e=>by simp[codeAmong]at e⟩;cases hk:K.lookup a with
 | some o =>
  have e:=KX a o hk;rw[ha]at e;cases e;refine core (λb=>if b=tb then some (.tbl #[] q) else none) (.inr ⟨_,vs.toArray,_,hk,rfl,rfl,rfl,by rw[wr,lenV];exact hl,by simpa using rv⟩) (if_pos rfl) (λb u z=>?_) (λb z=>?_) λz=>absurd (if_neg (Ne.symm ta)) z
  · by_cases c:b=tb
    · subst c;have z':=(if_pos rfl).symm.trans z;cases z';exact tOk _ (if_pos rfl)
    · have z':=(if_neg c).symm.trans z;cases z'
  · by_cases c:b=tb
    · exact .inl c
    · exact absurd (if_neg c) z
 | none =>
  have h1:∀ b,b=a->(λb=>if b=a then some (HO.frz { cls := .type "list",data := .seq vs.toArray } (.lst (ns.map V.int))) else if b=tb then some (HO.tbl #[] q) else none) b=some (HO.frz { cls := .type "list",data := .seq vs.toArray } (.lst (ns.map V.int))):=λb e=>if_pos e;have h2:(λb=>if b=a then some (HO.frz { cls := .type "list",data := .seq vs.toArray } (.lst (ns.map V.int))) else if b=tb then some (HO.tbl #[] q) else none) tb=some (HO.tbl #[] q):=by
    show(if tb=a then _ else if tb=tb then _ else _)=_;rw[if_neg ta,if_pos rfl]
  have h3:∀ b,b≠a->b≠tb->(λb=>if b=a then some (HO.frz { cls := .type "list",data := .seq vs.toArray } (.lst (ns.map V.int))) else if b=tb then some (HO.tbl #[] q) else none) b=none:=λb e1 e2=>by
    show(if b=a then _ else if b=tb then _ else _)=_;rw[if_neg e1,if_neg e2]
  generalize (λb=>if b=a then some (HO.frz { cls := .type "list",data := .seq vs.toArray } (.lst (ns.map V.int))) else if b=tb then some (HO.tbl #[] q) else none)=H at h1 h2 h3;refine core H (.inl ⟨{ cls := .type "list",data := .seq vs.toArray },h1 a rfl⟩) h2 (λb u z=>?_) (λb z=>?_) λ_=>hk
  · by_cases c:b=a
    · rw[h1 b c]at z;cases z;subst c;exact⟨ha,by rw[we];exact hl,vs,_,rv,ha⟩
    · by_cases c2:b=tb
      · subst c2;rw[h2]at z;cases z;exact tOk _ h2
      · rw[h3 b c c2]at z;cases z
  · by_cases c:b=a
    · exact .inr ⟨c,_,_,h1 b c⟩
    · by_cases c2:b=tb
      · exact .inl c2
      · exact absurd (h3 b c c2) z
theorem VM{K:aE}{t:Addr}{x:Obj}{h:Heap}(n:K.lookup t=none)(k:PySem.W.Frag.In ((t,x)::K) h):K.In h/\h.get? t=some x:=by
 refine⟨λb o e=>k b o ?_,k t x (by simp)⟩;have:b≠t:=λz=>by rw[z,n]at e;cases e
 rw[wG,beq_eq_false_iff_ne.mpr this];exact e
theorem VN{K:aE}{mg:aF}{x:Str}{st:Stmt}{ps:List Str}{f f0:Addr}{fd fd0:FuncData}{oc:Value}{od:Option Addr}{sl:Array (Option Value)}{c:Value}(D:Df K mg x st ps f fd)(m:mg x=some (.ref f0))(l:K.lookup f0=some ⟨oc,od,.func fd0,sl⟩)(e:fd0.code=c):fd.code=c:=by
 have:=D.mg;rw[m]at this;cases this;obtain⟨oc',od',kV,doc,pm,an,cdv,ct,osl,e1,lk,hcd⟩:=D.fn.ex;rw[l]at lk;injection lk with lk
 injection lk with _ _ lk _
 injection lk with lk
 rw[←lk];exact e
theorem Mw{l:PySem.W.OpenLaw}{q:Program}{loose:List Str}{XP:(aF)->Heap->Prop}{YP:World->Heap->Prop}{d:DefRec}{K:Params->aE}{x qn:Str}{k:Nat}{fr:Bool}{c:FC}{tb cA:Addr}(hn:l.most=some 63)(hdf:d.params.defaults=[])
  (hY:∀(w:World) (h:Heap),YP w h->(K w.params).In h/\h.get? tb=some { cls := .none,data := .fields #[] })
  (hK:∀ w:World,(K w.params).lookup tb=none/\SQ (K w.params) cA tb)
  (F:∀(w:World) (mg:Str→Option Value) (fa:Addr) (h:Heap),(K w.params).In h→h.Ns mainGlobals mg→mg d.name=some (.ref fa) →
   ∃ fd:FuncData,(∀(s:Shared) (u:Value),BindsTo s fd ⟨[u],[]⟩ [(x,u)])/\∀ base:Heap,(K w.params).In base->base.Ns mainGlobals mg->Lam base mg cA tb->FnOk l.prog w (K w.params) mg base CX0 k fa fd [x] (spcT (K w.params) tb #[] qn fr c))
  (hc:∀ ns:aH,ns.length<=63->c [.scr ns]=some (.bl true))
  (hr:Room k callerA):PySem.W.WalkO q loose XP YP l.row.toRowW d [] (λf vs=>PySem.call f vs):=by
 refine Att.attach_call hn hdf λw s₀ s₁ mg mb fa o pm cd doc a vs ns G Y ho hd hcd hmg hobj hints hlen hg=>?_;obtain⟨KX,ht⟩:=hY w _ Y;obtain⟨fd,hb,hF⟩:=F w mg fa _ KX G.T.g hmg;exact QK KX G.T.g G.T.b G.T.builtins G.T.nolimit hg G.T.bmain ht (hK w).1 (hK w).2 hobj hints (wB hlen (by decide)) hr hF hb (hc ns hlen)
end L2

end
section
namespace L2
def sz:aH->Nat
 | []=>0
 | x::r=>x.natAbs+sz r
structure Geo(n:Nat)(low:aH->aH)(steps:aA)(M:Nat):Prop where
 n1:1<=n
 len:∀ t∈steps,t.length=n
 lowLen:∀ b,b.length=n->(low b).length=n
 congr:∀ b b' t,b.length=n->b'.length=n->t∈steps->low b=low b'->low (addR b t)=low (addR b' t)
 near:∀ b t,b.length=n->t∈steps->sz (addR b t)=sz b+1\/sz (addR b t)+1=sz b
 back:∀ b,b.length=n->0<sz b->∃ b' t,b'.length=n/\t∈steps/\b=addR b' t/\sz b=sz b'+1
 count:∀ l:aA,l.Nodup->(∀ t∈l,∃ b,b.length=n/\t=low b)->l.length<=M
section
variable {n M:Nat}{low:aH->aH}{steps:aA}
theorem Ff{seen:aA}(nd:seen.Nodup):∀(bs done:aA) (st:aA×List (aH×aH)),st.1=seen++st.2.map (·.1)->st.1.Nodup->(∀ p∈st.2,p.2∈done/\p.1=low p.2/\p.1 ∉ seen)->(∀ b∈done,low b∈st.1) ->
  (u9 low st bs).1=seen++(u9 low st bs).2.map (·.1)/\(u9 low st bs).1.Nodup/\(∀ p∈(u9 low st bs).2,p.2∈done++bs/\p.1=low p.2/\p.1 ∉ seen)/\∀ b∈done++bs,low b∈(u9 low st bs).1
 | [],done,st,h1,h2,h3,h4=>by rw[Wp];exact⟨h1,h2,h3,h4⟩
 | b::bs,done,st,h1,h2,h3,h4=>by
  have e:done++b::bs=(done++[b])++bs:=by simp
  rw[e];show(u9 low (nx1 low st b) bs).1=_/\(u9 low (nx1 low st b) bs).1.Nodup/\(∀ p∈(u9 low (nx1 low st b) bs).2,_)/\∀ b'∈_,low b'∈(u9 low (nx1 low st b) bs).1
  have key:(nx1 low st b).1=seen++(nx1 low st b).2.map (·.1)∧(nx1 low st b).1.Nodup∧(∀ p∈(nx1 low st b).2,p.2∈done++[b]∧p.1=low p.2∧p.1 ∉ seen)∧∀ b'∈done++[b],low b'∈(nx1 low st b).1:=by
   unfold nx1;by_cases c:low b∈st.1
   · rw[if_pos c];refine⟨h1,h2,λp hp=>⟨wK _ (h3 p hp).1,(h3 p hp).2⟩,λb' hb'=>?_⟩;rcases wl.mp hb' with hb'|hb'
     · exact h4 b' hb'
     · rw[wu.mp hb'];exact c
   · rw[if_neg c];refine⟨by show st.1++[low b]=_;rw[h1];simp,?_,λp hp=>?_,λb' hb'=>?_⟩
     · show(st.1++[low b]).Nodup;rw[Wy];exact⟨h2,by simp,λx hx y hy z=>c (by rw[wu.mp hy]at z;rw[←z];exact hx)⟩
     · rcases wl.mp hp with hp|hp
       · exact⟨wK _ (h3 p hp).1,(h3 p hp).2⟩
       · rw[wu.mp hp];exact⟨wz _ wc,rfl,λz=>c (by rw[h1];exact wK _ z)⟩
     · rcases wl.mp hb' with hb'|hb'
       · exact wK _ (h4 b' hb')
       · rw[wu.mp hb'];exact wz _ wc
  exact Ff nd bs (done++[b]) (nx1 low st b) key.1 key.2.1 key.2.2.1 key.2.2.2
def EntLe(e e':Ent):Prop:=e.2.1<e'.2.1\/(e.2.1=e'.2.1/\HT.lexLt e'.1 e.1=false)
structure Bf(n:Nat)(low:aH->aH)(m:Nat)(level:List (aH×aH))(seen:aA)(told:List Ent):Prop where
 lev:∀ p∈level,p.2.length=n/\p.1=low p.2/\sz p.2=m
 all:∀ b,b.length=n->sz b<=m->low b∈seen
 old:∀ e∈told,e.2.2.length=n/\e.1=low e.2.2/\e.2.1=(sz e.2.2:Int)/\sz e.2.2<m
 keys:(told.map (·.1)++level.map (·.1)).Perm seen
 nd:seen.Nodup
 least:∀ e∈told,∀ b,b.length=n->low b=e.1->sz e.2.2<=sz b
 leastL:∀ p∈level,∀ b,b.length=n->low b=p.1->m<=sz b
 cnt:level≠[]->m<seen.length
 srt:told.Pairwise EntLe
 srtL:level.Pairwise λp q=>HT.lexLt q.1 p.1=false
theorem Bf.step(g:Geo n low steps M){m:Nat}{level lv:List (aH×aH)}{seen:aA}{told:List Ent}(h:Bf n low m level seen told)(hl:LexP (u9 low (seen,[]) (A7 addR level steps)).2 lv):
   Bf n low (m+1) lv (u9 low (seen,[]) (A7 addR level steps)).1 (told++level.map λp=>(p.1,(m:Int),p.2)):=by
 obtain⟨q1,q2,q3,q4⟩:=Ff (low:=low) h.nd (A7 addR level steps) [] (seen,[]) (by simp) h.nd (λ_ z=>nomatch z) (λ_ z=>nomatch z);rw[VY]at q3 q4;generalize hst:u9 low (seen,[]) (A7 addR level steps)=st at *;have cnd:∀ c∈A7 addR level steps,∃ p∈level,∃ t∈steps,c=addR p.2 t:=λc hc=>by
   obtain⟨p,hp,hc⟩:=vm.mp hc;obtain⟨t,ht,rfl⟩:=wg.mp hc;exact⟨p,hp,t,ht,rfl⟩
 have cin:∀ p∈level,∀ t∈steps,addR p.2 t∈A7 addR level steps:=λp hp t ht=>vm.mpr ⟨p,hp,WB ht⟩;have alen:∀ b t,b.length=n->t∈steps->(addR b t).length=n:=λb t hb ht=>by rw[O7 (by rw[hb,g.len t ht]),hb]
 have mem:∀ p∈lv,p∈st.2:=λp hp=>hl.1.mem_iff.mp hp;have sub:∀ t∈seen,t∈st.1:=λt ht=>by rw[q1];exact wK _ ht
 have levN:∀ p∈lv,p.2.length=n/\p.1=low p.2/\sz p.2=m+1:=λp hp=>by
   obtain⟨h1,h2,h3⟩:=q3 p (mem p hp);obtain⟨e,he,t,ht,ec⟩:=cnd _ h1;obtain⟨e1,e2,e3⟩:=h.lev e he;have ln:p.2.length=n:=by rw[ec];exact alen _ _ e1 ht
   refine⟨ln,h2,?_⟩;have nr:=g.near e.2 t e1 ht;rw[←ec,e3]at nr;rcases nr with nr|nr
   · exact nr
   · exact absurd (h.all p.2 ln (by rfl')) (by rw[←h2];exact h3)
 have allN:∀ b,b.length=n->sz b<=m+1->low b∈st.1:=λb hb hs=>by
   by_cases c:sz b<=m
   · exact sub _ (h.all b hb c)
   · obtain⟨b',t,hb',ht,eb,es⟩:=g.back b hb (by rfl');have inS:=h.all b' hb' (by rfl');have:=h.keys.mem_iff.mpr inS;rcases wl.mp this with z|z
     · obtain⟨e,he,ee⟩:=wg.mp z;obtain⟨o1,o2,o3,o4⟩:=h.old e he;have lw:low b'=low e.2.2:=by rw[←ee,o2]
       rw[eb,g.congr b' e.2.2 t hb' o1 ht lw];refine sub _ (h.all _ (alen _ _ o1 ht) ?_);have:=g.near e.2.2 t o1 ht;rfl'
     · obtain⟨p,hp,ee⟩:=wg.mp z;obtain⟨o1,o2,o3⟩:=h.lev p hp;have lw:low b'=low p.2:=by rw[←ee,o2]
       rw[eb,g.congr b' p.2 t hb' o1 ht lw];exact q4 _ (cin p hp t ht)
 refine⟨levN,allN,λe he=>?_,?_,q2,λe he=>?_,λp hp b hb e=>?_,λne=>?_,?_,hl.2⟩
 · rcases wl.mp he with he|he
   · obtain⟨o1,o2,o3,o4⟩:=h.old e he;exact⟨o1,o2,o3,by rfl'⟩
   · obtain⟨p,hp,rfl⟩:=wg.mp he;obtain⟨o1,o2,o3⟩:=h.lev p hp;exact⟨o1,o2,by show(m:Int)=_;rw[o3],by show sz p.2<_;rfl'⟩
 · rw[q1,wI,wF];have e1:level.map ((λx:Ent=>x.1)∘λp:aH×aH=>(p.1,(m:Int),p.2))=level.map (·.1):=Wr λ_ _=>rfl;rw[e1];exact List.Perm.append h.keys (hl.1.map _)
 · rcases wl.mp he with he|he
   · exact h.least e he
   · obtain⟨p,hp,rfl⟩:=wg.mp he;obtain⟨o1,o2,o3⟩:=h.lev p hp;intro b hb e;show sz p.2<=_;rw[o3];exact h.leastL p hp b hb e
 · apply vf;intro lt;have:=h.all b hb (by rfl');rw[e]at this;exact(q3 p (mem p hp)).2.2 this
 · have nf:st.2≠[]:=λz=>ne (by rw[z]at hl;exact List.Perm.eq_nil hl.1);have nl:level≠[]:=λz=>by
     subst z;have:st.2=[]:=by rw[←hst];rfl
     exact nf this
   have c:=h.cnt nl;have:=WA.mpr nf;rw[q1,ww,we];rfl'
 · rw[List.pairwise_append];refine⟨h.srt,Wo.mpr (h.srtL.imp λ{p q} z => .inr ⟨rfl,z⟩),λe he e' he'=>?_⟩;obtain⟨o1,o2,o3,o4⟩:=h.old e he;obtain⟨p,hp,rfl⟩:=wg.mp he';refine .inl ?_;show e.2.1<(m:Int);rw[o3];rfl'
theorem Bf.empty(g:Geo n low steps M){m:Nat}{seen:aA}{told:List Ent}(h:Bf n low m [] seen told):∀ j,Bf n low (m+j) [] seen told
 | 0=>h
 | j+1=>by
  have:=(Bf.empty g h j).step g (lv:=[]) ⟨List.Perm.refl _,List.Pairwise.nil⟩;rw[←Nat.add_assoc];simpa[u9,A7]using this
structure Fin(n:Nat)(low:aH->aH)(told:List Ent):Prop where
 ent:∀ e∈told,e.2.2.length=n/\e.1=low e.2.2/\e.2.1=(sz e.2.2:Int)
 all:∀ b,b.length=n->∃ e∈told,e.1=low b/\sz e.2.2<=sz b
 nd:(told.map (·.1)).Nodup
 srt:told.Pairwise EntLe
theorem Bf.fin(g:Geo n low steps M){m:Nat}{seen:aA}{told:List Ent}(h:Bf n low m [] seen told):Fin n low told:=by
 have kp:(told.map (·.1)).Perm seen:=by simpa using h.keys
 refine⟨λe he=>let ⟨a,b,c,_⟩:=h.old e he;⟨a,b,c⟩,λb hb=>?_,kp.nodup_iff.mpr h.nd,h.srt⟩;have:=(h.empty g (sz b)).all b hb (by rfl');obtain⟨e,he,ee⟩:=wg.mp (kp.mem_iff.mpr this);exact⟨e,he,ee,h.least e he b hb ee.symm⟩
theorem Bf.seen_le(g:Geo n low steps M){m:Nat}{level:List (aH×aH)}{seen:aA}{told:List Ent}(h:Bf n low m level seen told):seen.length<=M:=by
 refine g.count seen h.nd λt ht=>?_;rcases wl.mp (h.keys.mem_iff.mpr ht)with z|z
 · obtain⟨e,he,rfl⟩:=wg.mp z;exact⟨_,(h.old e he).1,(h.old e he).2.1⟩
 · obtain⟨p,hp,rfl⟩:=wg.mp z;exact⟨_,(h.lev p hp).1,(h.lev p hp).2.1⟩
theorem VO(found:List (aH×aH)):∃ lv,LexP found lv:=by
 refine⟨found.mergeSort (λp q=>!HT.lexLt q.1 p.1),List.mergeSort_perm _ _,?_⟩;have:=List.pairwise_mergeSort (le:=λ(p q:aH×aH)=>!HT.lexLt q.1 p.1) (λa b c h1 h2=>?_) (λa b=>?_) found
 · exact this.imp λh=>by simpa using h
 · simp only[uG]at h1 h2 ⊢;cases e:HT.lexLt c.1 a.1 with
   | false=>rfl
   | true =>
    rcases IR _ b.1 _ e with z|z
    · rw[z]at h2;cases h2
    · rw[z]at h1;cases h1
 · simp only[WU,uG];cases e:HT.lexLt b.1 a.1 with
   | false=>exact .inl rfl
   | true =>
    right;cases e2:HT.lexLt a.1 b.1 with
    | false=>rfl
    | true=>have:=Cs _ _ _ e e2;rw[U9]at this;cases this
theorem run_fin(g:Geo n low steps M){ca cl:FC}{G:aA}:∀(k m:Nat) (level:List (aH×aH)) (seen:aA) (told fin:List Ent),Run ca cl steps G addR low k level m seen told fin->Bf n low m level seen told->Fin n low fin/\∃ more,fin=told++(level.map λp=>(p.1,(m:Int),p.2))++more
 | 0,_,_,_,_,_,r,_=>r.elim
 | k+1,m,level,seen,told,fin,r,h=>by
  rcases r with⟨rfl,rfl⟩|⟨_,_,_,_,lv,hlv,r⟩
  · exact⟨h.fin g,[],by simp⟩
  · obtain⟨f,more,e⟩:=run_fin g k (m+1) lv _ _ fin r (h.step g hlv);exact⟨f,(lv.map λp=>(p.1,((m+1:Nat):Int),p.2))++more,by rw[e,We]⟩
theorem run_ex(g:Geo n low steps M){ca cl:FC}{G:aA}(hM:M<=64)(hs:steps.length<=12)(fn:∀ b t,b.length=n->sz b<=M->t∈steps->ca [L b,L t]=some (L (addR b t))/\cl [L (addR b t),LL G]=some (L (low (addR b t)))):
  ∀(k m:Nat) (level:List (aH×aH)) (seen:aA) (told:List Ent),Bf n low m level seen told->1<=k->(level≠[]->M+2<=k+seen.length)->∃ fin,Run ca cl steps G addR low k level m seen told fin/\Fin n low fin/\∃ more,fin=told++(level.map λp=>(p.1,(m:Int),p.2))++more:=by
 intro k
 induction k with
 | zero=>intro m level seen told _ h;rfl'
 | succ k ih =>
  intro m level seen told h _ hk;by_cases c:level=[]
  · subst c;exact⟨told,.inl ⟨rfl,rfl⟩,h.fin g,[],by simp⟩
  · have hk:=hk c;have sl:=h.seen_le g;have kl:=h.keys.length_eq;rw[ww,we,we]at kl;obtain⟨lv,hlv⟩:=VO (u9 low (seen,[]) (A7 addR level steps)).2;have h':=h.step g hlv;have sl':=h'.seen_le g;have kl':=h'.keys.length_eq;rw[ww,we,we,ww,we]at kl';have cn:=h.cnt c;have hll:=hlv.1.length_eq;have l0:=WA.mpr c;have mul:level.length*steps.length<=64*12:=Wh (by rfl') hs;obtain⟨fin,r,f,more,em⟩:=ih (m+1) lv _ _ h' (by rfl') (λne=>by have:=WA.mpr ne;rfl');refine⟨fin,.inr ⟨c,⟨λp hp t ht=>?_,by rfl',by rfl'⟩,λp hp=>?_,by rfl',lv,hlv,r⟩,f,(lv.map λp=>(p.1,((m+1:Nat):Int),p.2))++more,by rw[em,We]⟩
    · obtain⟨o1,o2,o3⟩:=h.lev p hp;exact fn p.2 t o1 (by rfl') ht
    · obtain⟨o1,o2,o3⟩:=h.lev p hp;have n1:=g.n1;have:=g.lowLen p.2 o1;refine⟨λz=>?_,λz=>?_⟩
      · rw[←o2,z]at this;simp at this;rfl'
      · rw[z]at o1;simp at o1;rfl'
end
end L2

end
section
namespace L2
theorem IY:∀(b:aH) (j:Nat) (x:Int),j<b.length->sz (b.set j x)+(St.at0 b j).natAbs=sz b+x.natAbs
 | [],j,x,h=>by simp at h
 | y::b,0,x,h=>by
  show x.natAbs+sz b+y.natAbs=y.natAbs+sz b+x.natAbs;rfl'
 | y::b,j+1,x,h=>by
  have:=IY b j x (by simpa using h);show y.natAbs+sz (b.set j x)+(St.at0 b j).natAbs=y.natAbs+sz b+x.natAbs;rfl'
theorem Ao{b:aH}{j:Nat}{x:Int}(h:j<b.length)(k:Nat):St.at0 (b.set j x) k=if k=j then x else St.at0 b k:=by
 unfold St.at0;simp only[List.getD,wX];by_cases e:j=k
 · subst e;simp[h]
 · rw[if_neg e,if_neg (Ne.symm e)]
theorem SR{b:aH}{j:Nat}:(St.at0 b j).natAbs<=sz b:=by
 induction b generalizing j with
 | nil=>simp[St.at0,sz]
 | cons y b ih =>
  cases j with
  | zero=>show y.natAbs<=y.natAbs+sz b;rfl'
  | succ j=>have:=ih (j:=j);show(St.at0 b j).natAbs<=y.natAbs+sz b;rfl'
theorem SS:∀{b:aH},0<sz b->∃ j,j<b.length/\St.at0 b j≠0
 | [],h=>by simp[sz]at h
 | y::b,h=>by
  by_cases e:y=0
  · subst e;have h:0<0+sz b:=h;obtain⟨j,h1,h2⟩:=SS (b:=b) (by rfl');exact⟨j+1,by simpa using h1,h2⟩
  · exact⟨0,by simp,e⟩
def G7(n:Nat):aA:=(List.range n).map (St.A4 n)++(List.range n).map λj=>sclR (-1) (St.A4 n j)
theorem BR{n j:Nat}{b:aH}(hb:b.length=n)(hj:j<n)(q:Int):addR b (sclR q (St.A4 n j))=b.set j (St.at0 b j+q):=by
 have lu:(sclR q (St.A4 n j)).length=n:=by unfold sclR;rw[we,St.Cz]
 refine St.ext0 (by rw[O7 (by rw[hb,lu]),wC]) λk=>?_;rw[An (by rw[hb,lu]),IW,St.SF,Ao (by rfl')];by_cases e:k=j
 · subst e;rw[if_pos ⟨rfl,hj⟩,if_pos rfl];rfl'
 · rw[if_neg (λz=>e z.1),if_neg e];rfl'
theorem Hy{n:Nat}{t:aH}(h:t∈G7 n):∃ j,j<n/\∃ q:Int,(q=1\/q = -1)/\t=sclR q (St.A4 n j):=by
 rcases wl.mp h with h|h
 · obtain⟨j,hj,rfl⟩:=wg.mp h;exact⟨j,wM.mp hj,1,.inl rfl,(Pz _).symm⟩
 · obtain⟨j,hj,rfl⟩:=wg.mp h;exact⟨j,wM.mp hj,-1,.inr rfl,rfl⟩
theorem Ap{n j:Nat}{q:Int}(hj:j<n)(hq:q=1\/q = -1):sclR q (St.A4 n j)∈G7 n:=by
 rcases hq with rfl|rfl
 · rw[Pz];exact wK _ (WB (wM.mpr hj))
 · exact wz _ (wg.mpr ⟨j,wM.mpr hj,rfl⟩)
theorem K2{n:Nat}:∀{f:Nat} {S:List St.Row},St.Asc n f S->f+S.length=n->∀(i:Nat) (r:St.Row),S[i]?=some r->St.b7 r=f+i
 | f,[],_,_,i,r,e=>by simp at e
 | f,s::S,⟨h1,h2,h3,h4,h5⟩,hl,i,r,e=>by
  have hl:f+(S.length+1)=n:=by simpa using hl
  have ha:=St.IV h5 (by rfl');have eh:St.b7 s=f:=by rfl'
  rw[eh]at h5;cases i with
  | zero=>simp at e;rw[←e,eh];rfl
  | succ i =>
   have:=K2 h5 (by rfl') i r (by simpa using e);rfl'
def C4(S:List St.Row):List Nat:=S.map λr=>(St.hd r).toNat
theorem Ku:∀{ns:List Nat} {t:aH},t.length=ns.length->(∀(i:Nat) (m:Nat),ns[i]?=some m->0<=St.at0 t i/\St.at0 t i<m)->Lat.E6 ns t
 | [],[],_,_=>trivial
 | [],_::_,h,_=>by simp at h
 | _::_,[],h,_=>by simp at h
 | m::ns,x::t,h,q=>by
  have q0:=q 0 m rfl;exact⟨q0.1,q0.2,Ku (by simpa using h) λi m' e=>q (i+1) m' (by simpa using e)⟩
theorem Mx{n:Nat}{S:List St.Row}(n1:1<=n)(A:St.Asc n 0 S)(hl:S.length=n):Geo n (λb=>St.d8 b S) (G7 n) (Lat.prod (C4 S)):=by
 have slen:∀ t∈G7 n,t.length=n:=λt ht=>by
   obtain⟨j,_,q,_,rfl⟩:=Hy ht;unfold sclR;rw[we,St.Cz]
 refine⟨n1,slen,λb hb=>St.w8 A hb,λb b' t hb hb' ht e=>?_,λb t hb ht=>?_,λb hb hs=>?_,λl nd hm=>?_⟩
 · have lt:=slen t ht;refine St.Kr A (by rw[O7 (by rw[hb,lt]),hb]) (by rw[O7 (by rw[hb',lt]),hb']) ?_;have s1:=St.u8 A hb;have s2:=St.u8 A hb';refine Lat.Span.congr (λk=>?_) (s1.sub s2);have e:St.d8 b S=St.d8 b' S:=e;rw[An (by rw[hb,lt]),An (by rw[hb',lt]),e];rfl'
 · obtain⟨j,hj,q,hq,rfl⟩:=Hy ht;rw[BR hb hj];have:=IY b j (St.at0 b j+q) (by rfl');rfl'
 · obtain⟨j,hj,nz⟩:=SS hs;by_cases c:0<St.at0 b j
   · refine⟨b.set j (St.at0 b j-1),_,by rw[wC,hb],Ap (j:=j) (q:=1) (by rfl') (.inl rfl),?_,?_⟩
     · rw[BR (by rw[wC,hb]) (by rfl'),Ao hj,if_pos rfl,List.set_set];refine St.ext0 (by rw[wC]) λk=>?_;rw[Ao hj];by_cases e:k=j
       · subst e;rw[if_pos rfl];rfl'
       · rw[if_neg e]
     · have:=IY b j (St.at0 b j-1) hj;rfl'
   · refine⟨b.set j (St.at0 b j+1),_,by rw[wC,hb],Ap (j:=j) (q := -1) (by rfl') (.inr rfl),?_,?_⟩
     · rw[BR (by rw[wC,hb]) (by rfl'),Ao hj,if_pos rfl,List.set_set];refine St.ext0 (by rw[wC]) λk=>?_;rw[Ao hj];by_cases e:k=j
       · subst e;rw[if_pos rfl];rfl'
       · rw[if_neg e]
     · have:=IY b j (St.at0 b j+1) hj;rfl'
 · rw[←Lat.O8];refine Lat.E5 id nd (λ_ _ _ _ e=>e) λt ht=>Lat.Q4.mpr ?_;obtain⟨b,hb,rfl⟩:=hm t ht;refine Ku (by show(St.d8 b S).length=_;rw[St.w8 A hb];unfold C4;rw[we,hl]) λi m e=>?_;unfold C4 at e;rw[wq]at e;obtain⟨r,er,rfl⟩:=Wf.mp e;have hr:=Wd er;have q:=St.u7 A hb r hr;have hh:=K2 A (by rfl') i r er;have pos:=(A.mem hr).2.2.2;rw[hh,wZ]at q;show 0<=St.at0 (St.d8 b S) i/\St.at0 (St.d8 b S) i<_;rfl'
theorem SU{n:Nat}{S:List St.Row}(A:St.Asc n 0 S):Bf n (λb=>St.d8 b S) 0 [(u6 n,u6 n)] [u6 n] []:=by
 have lz:(u6 n).length=n:=K1;have ez:St.d8 (u6 n) S=u6 n:=by
   rw[Y5];exact(St.GB A (by rw[←Y5];exact lz)).mpr (Lat.Span.congr (λk=>by rw[St.Am]) Lat.Span.zero)
 have s0:∀ m,sz (u6 m)=0:=λm=>by
   unfold u6
   induction m with
   | zero=>rfl
   | succ m ih=>rw[vA];show 0+sz _=0;rfl'
 have un:∀ b:aH,b.length=n->sz b<=0->b=u6 n:=λb hb h=>by
   refine St.ext0 (by rw[hb,lz]) λk=>?_;have:=SR (b:=b) (j:=k);rw[CB];rfl'
 refine⟨λp hp=>?_,λb hb h=>?_,λ_ z=>(nomatch z),List.Perm.refl _,by simp,λ_ z=>(nomatch z),λ_ _ _ _ _=>wx _,λ_=>Nat.zero_lt_one,List.Pairwise.nil,by simp⟩
 · rw[wu.mp hp];exact⟨lz,ez.symm,s0 n⟩
 · rw[un b hb h];show St.d8 (u6 n) S∈_;rw[ez];simp
end L2

end
section
namespace L2
open St Lat
theorem PJ{n k:Nat}:∀{f:Nat} {S:aA} {v:Vec},Asc n f S->Span (vecs S) v->(∀ i,i<k->v i=0)->0<v k->∃ r∈S,b7 r=k/\hd r<=v k
 | f,[],v,_,s,_,h=>by have:=s k;rfl'
 | f,r::S,v,A,s,z,h=>by
  rcases Nat.lt_trichotomy (b7 r) k with c|c|c
  · obtain⟨x,hx,e⟩:=PJ A.2.2.2.2 (A.tz s (z _ c)) z h;exact⟨x,wb _ hx,e⟩
  · obtain⟨q,s'⟩:=s;have e:=A.coef s';have p:=A.2.2.2.1;rw[c]at e;refine⟨r,wc,c,?_⟩;have q1:1<=q:=by
     apply Int.not_lt.mp;intro lt;have:q*hd r<=0*hd r:=Wl (by rfl') (by rfl');rfl'
    have:1*hd r<=q*hd r:=Wl q1 (by rfl');rfl'
  · have A':Asc n (b7 r) (r::S):=⟨A.1,wf _,A.2.2⟩;have:=A'.low s k c;rfl'
theorem Kv{B:Nat}:∀{ns:List Nat},(∀ m∈ns,m<=B)->Lat.prod ns<=B ^ ns.length
 | [],_=>wf _
 | m::ns,h=>by
  rw[wm,WH,WG];exact Wh (h m wc) (Kv λx hx=>h x (wb _ hx))
theorem QL{n B C:Nat}{bills S:aA}(G:Good n B bills S)(h:∀ k,k<n->∃ b∈bills,b7 b=k/\0<hd b/\hd b<=C):S.length=n/\Lat.prod (C4 S)<=C ^ n:=by
 have A:=G.asc;have hk:∀ k,k<n->∃ r∈S,b7 r=k/\hd r<=C:=λk hk=>by
  obtain⟨b,hb,e,p,q⟩:=h k hk;have s:Span (vecs S) (vec b):=G.span.iff.mpr (Span.mem (WB hb));obtain⟨r,hr,e1,e2⟩:=PJ (k:=k) A s (λi hi=>o6 b i (by rfl')) (by show 0<at0 b k;rw[←e];exact p);refine⟨r,hr,e1,?_⟩;have e2:hd r<=at0 b k:=e2;rw[←e]at e2;have e2:hd r<=hd b:=e2;rfl'
 have l1:=IV A (wx n);have l2:n<=S.length:=by
  have:=Lat.E5 (l:=List.range n) (m:=S.map b7) id List.nodup_range (λ_ _ _ _ e=>e) λk hk'=>by
   obtain⟨r,hr,e,_⟩:=hk k (wM.mp hk');exact wg.mpr ⟨r,hr,e⟩
  rwa [wW,we]at this
 have l:S.length=n:=by rfl'
 refine⟨l,?_⟩;have:∀ m∈C4 S,m<=C:=λm hm=>by
  obtain⟨r,hr,rfl⟩:=wg.mp hm;obtain⟨i,hi,ei⟩:=wH hr;have hh:=K2 A (by rfl') i r (by rw[wa hi,ei]);obtain⟨r',hr',e',q'⟩:=hk i (by rfl');obtain⟨j,hj,ej⟩:=wH hr';have hh':=K2 A (by rfl') j r' (by rw[wa hj,ej]);have ij:j=i:=by rfl'
  subst ij;have:r=r':=by rw[←ei,←ej]
  subst this;rfl'
 have hl:(C4 S).length=n:=by unfold C4;rw[we,l]
 rw[←hl];exact Kv this
end L2

end
section
namespace L2
open PySem PySem.Spec PyProof.Rows
abbrev rLst(K:aE):List V->Hp->VK->Prop:=λxs H Q=>∃ p ys,xs=[.ref p]/\(SqL K H p ys\/SqT K H p ys)/\∀ l,H l=none->Q (.ref l) (upd H l (.lst ys))
abbrev rAbs:List V->Hp->VK->Prop:=λxs H Q=>∃ i,xs=[.int i]/\Q (.int (if i<0 then -i else i)) H
def kvI(kvs:List (aH×Int)):List (List Key×V):=kvs.map λp=>(kI p.1,V.int p.2)
def lkI(kvs:List (aH×Int))(t:aH):Option Int:=(kvs.find? λp=>decide (p.1=t)).map (·.2)
theorem Fg(t:aH):∀ kvs:List (aH×Int),valV (kvI kvs) (kI t)=(lkI kvs t).map V.int
 | []=>rfl
 | p::kvs=>by
  show valV ((kI p.1,V.int p.2)::kvI kvs) (kI t)=_;unfold lkI;rw[WJ];by_cases e:p.1=t
  · rw[BD (by rw[e]),decide_eq_true e];rfl
  · rw[BE (λz=>e (SH z)),Fg t kvs,decide_eq_false e];rfl
noncomputable abbrev tNrT(K:aE):TT:=tOr (tB (tDIn not (tVar 7) (tVar 3))) (Ru (tOp (rI0 λi j => .bl (decide (j<i))) (tCB rAbs (o0 (tOp (rI0 λi j => .int (i-j)) (tDGet (tVar 3) (tVar 7)) (tOp (rIxT K) (tVar 0) (tC (.int 1)))) tNil)) (tC (.int 1))))
noncomputable def tNrB(K:aE)(sL:Sp):TS :=
  tSeq (tAsg (tCB (rLst K) (o0 (tOp (rIxT K) (tVar 0) (tC (.int 0))) tNil)) (u5 6))
  (tSeq (tAsg (tOp (rI0 λi j => .int (i+j)) (tOp (rIxL K) (tVar 6) (tVar 4)) (tVar 5)) (gSub (tVar 6) (tVar 4) rSetL))
  (tSeq (tAsg (tCB (rTup K) (o0 (AG sL [] E0 (o0 (tVar 1) (o0 (tVar 6) tNil))) tNil)) (u5 7))
   (tIfS (tNrT K)
      (tRet (tC (.bl false))) AF)))
noncomputable def tNr(K:aE)(sL:Sp):TS :=
 tSeq (tFor (iRng1 (o0 (tVar 2) tNil)) (u5 4) (tFor (Dk K (tLst (o0 (tUn (rU λi => .int (-i)) (tC (.int 1))) (o0 (tC (.int 1)) tNil)))) (u5 5) (tNrB K sL))) (tRet (tC (.bl true)))
def NrOk(cL:FC)(S:aA)(e:Ent)(n:Nat)(kvs:List (aH×Int)):Prop:=∀ k,k<n->∀ q:Int,(q=1\/q = -1)->∃ t m,cL [LL S,L (e.1.set k (St.at0 e.1 k+q))]=some (L t)/\lkI kvs t=some m/\(m-e.2.1).natAbs<=1
theorem rd_nrB{K:aE}{cL:FC}{S:aA}{e:Ent}{n k:Nat}{q:Int}{kvs:List (aH×Int)}{H:Hp}{ve vr:V}{a:Addr}{x6 x7:Option V}{E:Ends}{N:St->Hp->Prop}
   (he:Rp K emp (entD e) H ve) (hr:Rp K emp (LL S) H vr) (ha:H a=some (.dT (kvI kvs))) (hl:e.1.length=n) (hk:k<n) (hq:q=1\/q = -1) (ok:NrOk cL S e n kvs) (nE:E.nx=N)
   (fin:∀ H' q6 q7,Same H H'->N [some ve,some vr,some (.int n),some (.ref a),some (.int k),some (.int q),q6,q7] H') :
   tNrB K (spc K true cL) E [some ve,some vr,some (.int n),some (.ref a),some (.int k),some (.int q),x6,x7] H:=by
 obtain⟨t,m,e1,e2,e3⟩:=ok k hk q hq;obtain⟨f,ws,rfl,sq,rs⟩:=Rp.tup_.mp he;obtain⟨w0,t1,rfl,r0,rs⟩:=Rps.cons_.mp rs;obtain⟨w1,t2,rfl,r1,rs⟩:=Rps.cons_.mp rs;obtain⟨w2,t3,rfl,r2,rs⟩:=Rps.cons_.mp rs;have en:=Rps.nil_.mp rs;have ew:=Rp.int_.mp r1;subst en ew;obtain⟨x,xs,rfl,_,hx,rx⟩:=Rp.lst_.mp r0;have rx:=Rps.ints.mp rx;subst rx;refine⟨.ref f,rfl,f,_,0,.ref x,rfl,rfl,sq,rfl,x,_,rfl,.inl (SqL.of hx),λl hl'=>?_⟩;have s1:=j6 (o:=HO.lst (e.1.map V.int)) hl';show tSeq _ _ _ [some (.ref f),some vr,some (.int n),some (.ref a),some (.int k),some (.int q),some (.ref l),x7] (upd H l (.lst (e.1.map V.int)));have at_k:atI (e.1.map V.int) (k:Int)=some (.int (St.at0 e.1 k)):=by
   unfold atI;rw[we,PB (by rfl')];show(e.1.map V.int)[k]?=_;rw[wq];unfold St.at0;rw[List.getD,wa (by rfl')];rfl
 refine⟨.ref l,rfl,.int k,rfl,l,_,k,_,rfl,rfl,SqL.of i7,at_k,.int q,rfl,_,_,rfl,rfl,?_⟩;refine⟨.ref l,rfl,.int k,rfl,l,_,k,k,rfl,rfl,i7,by rw[we];exact PB (by rfl'),?_⟩;have eset:(e.1.map V.int).set k (.int (St.at0 e.1 k+q))=(e.1.set k (St.at0 e.1 k+q)).map V.int:=by rw[List.map_set]
 rw[eset];have s2:Same H (upd (upd H l (.lst (e.1.map V.int))) l (.lst ((e.1.set k (St.at0 e.1 k+q)).map V.int))):=by
   rw[UR];exact j6 hl'
 have h2:upd (upd H l (.lst (e.1.map V.int))) l (.lst ((e.1.set k (St.at0 e.1 k+q)).map V.int)) l=some (.lst ((e.1.set k (St.at0 e.1 k+q)).map V.int)):=i7;generalize upd (upd H l (.lst (e.1.map V.int))) l (.lst ((e.1.set k (St.at0 e.1 k+q)).map V.int))=H2 at s2 h2 ⊢;show tSeq _ _ _ [some (.ref f),some vr,some (.int n),some (.ref a),some (.int k),some (.int q),some (.ref l),x7] H2;refine⟨vr,rfl,.ref l,rfl,[LL S,L (e.1.set k (St.at0 e.1 k+q))],_,Rps.cons_.mpr ⟨_,_,rfl,Rp.mono _ s2 hr,Rps.one (Rp.lst_.mpr ⟨l,_,rfl,rfl,h2,Rps.ints.mpr rfl⟩)⟩,e1,λv3 H3 s3 r3=>?_⟩;have r3:Rp K H2 (L t) H3 v3:=r3;obtain⟨y,ys,rfl,_,hy,ry⟩:=Rp.lst_.mp r3;have ry:=Rps.ints.mp ry;subst ry;refine⟨y,_,rfl,.inl ⟨SqL.of hy,λz hz=>?_⟩⟩;have s4:=s2.trans (s3.trans (j6 (o:=HO.tup (t.map V.int)) hz));have h4:upd H3 z (.tup (t.map V.int)) z=some (.tup ((kI t).map kV)):=by rw[EO];exact i7
 generalize upd H3 z (.tup (t.map V.int))=H4 at s4 h4 ⊢;show tIfS (tNrT K) (tRet (tC (.bl false))) AF E [some (.ref f),some vr,some (.int n),some (.ref a),some (.int k),some (.int q),some (.ref l),some (.ref z)] H4;have vl:=Fg t kvs;rw[e2]at vl;refine⟨.ref z,rfl,.ref a,rfl,a,z,_,kI t,rfl,rfl,s4 _ _ ha,h4,false,by rw[vl];rfl,?_⟩;show if false=true then _ else _
 rw[if_neg (by decide)];refine⟨.ref a,rfl,.ref z,rfl,a,z,_,kI t,.int m,rfl,rfl,s4 _ _ ha,h4,vl,.ref f,rfl,f,_,1,.int e.2.1,rfl,rfl,s4.seqT sq,rfl,m,e.2.1,rfl,rfl,m-e.2.1,rfl,_,1,rfl,rfl,false,?_,?_⟩
 · show V.bl (decide ((1:Int)<(if m-e.2.1<0 then -(m-e.2.1) else m-e.2.1)))=_;rw[decide_eq_false (show ¬(1:Int)<(if m-e.2.1<0 then -(m-e.2.1) else m-e.2.1) by split<;>rfl')]
 · show if false=true then _ else E.nx _ _
   rw[if_neg (by decide),nE];exact fin _ _ _ s4
def spNr(K:aE)(cL:FC):Sp:=λvs H Q _=>∃ ve vr a S e n kvs,vs=[ve,vr,.int (n:Nat),.ref a]/\Rp K emp (entD e) H ve/\Rp K emp (LL S) H vr/\H a=some (.dT (kvI kvs))/\e.1.length=n/\n<=6/\NrOk cL S e n kvs/\∀ H',Same H H'->Q (.bl true) H'
theorem rd_nr{K:aE}{cL:FC}{vs:List V}{H:Hp}{Q:VK}{E:XK}{N:List Str}(hN:N.length=8)(h:spNr K cL vs H Q E):tNr K (spc K true cL) { nx:=λ_ H'=>Q .non H',rt:=Q } (start N vs) H:=by
 obtain⟨ve,vr,a,S,e,n,kvs,rfl,he,hr,ha,hl,n6,ok,fin⟩:=h;have hst:start N [ve,vr,V.int (n:Nat),V.ref a]=[some ve,some vr,some (.int n),some (.ref a),none,none,none,none]:=by unfold start;rw[hN];rfl
 rw[hst];refine⟨.int n,rfl,n,rfl,by rfl',by rfl',?_⟩;have tn:((n:Nat):Int).toNat=n:=by rfl'
 rw[tn];refine GN (λi σ H'=>∃ x4 x5 x6 x7,σ=[some ve,some vr,some (.int n),some (.ref a),x4,x5,x6,x7]/\Same H H') ⟨none,none,none,none,rfl,Same.refl H⟩ ?step ?done
 case done =>
  rintro σ H' ⟨x4,x5,x6,x7,rfl,s⟩;exact fin H' s
 case step =>
  rintro i σ H' hi ⟨x4,x5,x6,x7,rfl,s⟩;rw[Int.zero_add];show tFor _ _ _ _ [some ve,some vr,some (.int n),some (.ref a),some (.int i),x5,x6,x7] H';refine⟨1,rfl,by show 2<=sizeLine;decide,λl hl'=>?_⟩;have s1:=s.trans (j6 (o:=HO.lst [.int (-1),.int 1]) hl');have h1:upd H' l (.lst [.int (-1),.int 1]) l=some (.lst [.int (-1),.int 1]):=i7;refine⟨l,rfl,⟨_,SqL.of h1⟩,?_⟩;generalize hg:upd H' l (.lst [.int (-1),.int 1])=H1 at s1 h1 ⊢;refine Y0 (xs:=[.int (-1),.int 1]) (λj σ H2=>∃ x5 x6 x7,σ=[some ve,some vr,some (.int n),some (.ref a),some (.int i),x5,x6,x7]/\Same H H2/\H2 l=some (.lst [.int (-1),.int 1])) ⟨x5,x6,x7,rfl,s1,h1⟩ (λj σ H2 _ ⟨_,_,_,_,_,h⟩=>SqL.of h) ?st2 ?dn2
  case dn2 =>
   rintro σ H2 ⟨x5,x6,x7,rfl,s2,_⟩;exact⟨_,_,_,_,rfl,s2⟩
  case st2 =>
   rintro j x σ H2 hx ⟨x5,x6,x7,rfl,s2,h2⟩;have hx':∃ q:Int,x = .int q/\(q=1\/q = -1):=by
    match j,hx with
    | 0,hx=>exact⟨-1,by cases hx;rfl,.inr rfl⟩
    | 1,hx=>exact⟨1,by cases hx;rfl,.inl rfl⟩
   obtain⟨q,rfl,hq⟩:=hx';show tNrB K (spc K true cL) _ [some ve,some vr,some (.int n),some (.ref a),some (.int i),some (.int q),x6,x7] H2;exact rd_nrB (Rp.mono _ s2 he) (Rp.mono _ s2 hr) (s2 _ _ ha) hl hi hq ok rfl λH3 q6 q7 s3=>⟨_,_,_,rfl,s2.trans s3,s3 _ _ h2⟩
section
variable {P:Program}{w:World}{K:aE}{mg:aF}{base:Heap}
theorem VP{k:Nat}{x:Str}{st:Stmt}{f:Addr}{fd:FuncData}{N pr:List Str}{cL:FC}(D:Df K mg x st pr f fd)(S:FnScope N pr (d7 st))(hp:pr.length=4)(hN:N.length=8)
  (body:∀(cdv:Value) (A:Around) (outer:List Env) (s:Shared) (H:Hp) (E:XK),Room k (A.deeper (envOfC x (d7 st) s.heap.objs.size f cdv))->PSs (cxOf CX0 P w K mg base N x (d7 st) f cdv A outer s H E).nox (x9 st) (tNr K (spc K true cL))):FnOk P w K mg base CX0 (k+1) f fd pr (spNr K cL):=by
 obtain⟨oc,od,kV,doc,pm,an,cdv,ct,osl,rfl,lk,hcd⟩:=D.fn.ex;refine JI lk hcd S (λvs H Q E h=>?_) λA outer s H vs Q E hr h=>⟨_,(body cdv A outer s H E hr).nox,rd_nr (E:=E) hN h⟩;obtain⟨_,_,_,_,_,_,_,rfl,_⟩:=h;rw[hp];rfl
end
end L2

end
section
namespace L2
open PySem PySem.Spec PyProof.Rows
section
open PySem.SeqAt
open PySem.AutoSeq1 (wpAny_loadPart')
open PySem.MeetsSeq PySem.MeetsSeq2 PySem.MeetsSeq3
theorem Kw{A:Around}{s:Shared}{a:Int}{t:Tok}{c:Int}{u:Tok}{prog:Program}{w:World}{E:aC}{Q:aC}(h:Q (.bool (decide (c<=a))) s):
  wpAny (model prog w) A (richCompare .GtE (.int a t) (.int c u)) Q E s :=
 (PyProof.Rows.ge_int h:wpAny (model prog w) A (compareOp .GtE (.int a t) (.int c u)) Q E s)
theorem VQ(l b:Addr)(items items2:Array Value)(ns ms:List Int)(hi:IntsAre items.toList ns)(hj:IntsAre items2.toList ms):∀(k i:Nat),ns.length-i≤k→i≤ns.length→i≤ms.length →
  Meets (Builtin.«list.__eq__.loop» ⟨[.ref l,.ref b,rawInt (i:Int),rawInt 5],[]⟩)
    (λ_ R s=>LiAt s.heap l items/\LiAt s.heap b items2 /\
      R (.ok (.ret (.bool (!HT.lexLt (ns.drop i) (ms.drop i))))) s):=by
 have z1:items.size=ns.length:=by rw[←hi.length];simp
 have z2:items2.size=ms.length:=by rw[←hj.length];simp
 intro k
 induction k with
 | zero =>
  intro i hk h1 h2 prog w A R s ⟨hl,hb,h⟩;obtain⟨o1,n1,hl1,hl2,hl3⟩:=id hl;obtain⟨o2,n2,hb1,hb2,hb3⟩:=id hb;have e:i=ns.length:=by rfl'
  subst e;show wpAny _ _ (Builtin.List.listItems (.ref l) >>= λxs=>_) _ _ _;refine wpAny_bind (listItems_at hl1 hl3 ?_);refine wpAny_bind (listItems_at hb1 hb3 ?_);have g:items[((ns.length:Nat):Int).toNat]?=none:=by rw[wY];exact Array.getElem?_eq_none (by rfl')
  rw[g];refine wpAny_bind (listItems_at hl1 hl3 ?_);refine wpAny_bind (listItems_at hb1 hb3 ?_);refine wpAny_pure ?_;show R (.ok (.ret (.bool (decide (items.size≥items2.size))))) s;rw[Wg (wf _)]at h;have:(!HT.lexLt [] (ms.drop ns.length))=decide (items.size≥items2.size):=by
    by_cases c:ns.length<ms.length
    · rw[Ah c,HT.lexLt_nil_cons];exact(decide_eq_false (by rfl')).symm
    · rw[Wg (by rfl'),HT.lexLt_nil_nil];exact(decide_eq_true (by rfl')).symm
  rw[this]at h;exact h
 | succ k ih =>
  intro i hk h1 h2 prog w A R s ⟨hl,hb,h⟩;obtain⟨o1,n1,hl1,hl2,hl3⟩:=id hl;obtain⟨o2,n2,hb1,hb2,hb3⟩:=id hb;by_cases c1:i<ns.length
  · show wpAny _ _ (Builtin.List.listItems (.ref l) >>= fun xs=>_) _ _ _
    refine wpAny_bind (listItems_at hl1 hl3 ?_);refine wpAny_bind (listItems_at hb1 hb3 ?_);obtain⟨t,g1⟩:=BG hi c1;have g1':items[((i:Nat):Int).toNat]?=some (.int (ns.getD i 0) t):=by rw[wY,←Array.getElem?_toList];exact g1
    rw[g1'];rw[Ah c1]at h;by_cases c2:i<ms.length
    · obtain⟨u,g2⟩:=BG hj c2;have g2':items2[((i:Nat):Int).toNat]?=some (.int (ms.getD i 0) u):=by rw[wY,←Array.getElem?_toList];exact g2
      rw[g2'];rw[Ah c2,HT.lexLt_cons]at h;refine wpAny_bind (wpAny_eqBool_int ?_);by_cases e:ns.getD i 0=ms.getD i 0
      · rw[if_pos e]at h;rw[if_pos (by simpa using e)];exact(meets_again rfl plain_eq_loop entry_eq_loop (ih (i+1) (by rfl') (by rfl') (by rfl'))) prog w A R s ⟨hl,hb,h⟩
      · rw[if_neg e]at h;rw[if_neg (by simpa using e)];refine wpAny_bind (listItems_at hl1 hl3 ?_);refine wpAny_bind (listItems_at hb1 hb3 ?_);rw[g1',g2'];refine wpAny_bind (Kw (wpAny_pure ?_));have e2:(!decide (ns.getD i 0<ms.getD i 0))=decide (ms.getD i 0<=ns.getD i 0):=by
         by_cases c:ns.getD i 0<ms.getD i 0
         · rw[decide_eq_true c,decide_eq_false (by rfl')];rfl
         · rw[decide_eq_false c,decide_eq_true (by rfl')];rfl
        rw[e2]at h;exact h
    · have g:items2[((i:Nat):Int).toNat]?=none:=by rw[wY];exact Array.getElem?_eq_none (by rfl')
      rw[g];refine wpAny_bind (listItems_at hl1 hl3 ?_);refine wpAny_bind (listItems_at hb1 hb3 ?_);refine wpAny_pure ?_;show R (.ok (.ret (.bool (decide (items.size≥items2.size))))) s;rw[Wg (by rfl':ms.length<=i),HT.lexLt_cons_nil]at h;rw[decide_eq_true (by rfl')];exact h
  · exact(ih i (by rfl') h1 h2) prog w A R s ⟨hl,hb,h⟩
theorem IZ(l b:Addr)(items items2:Array Value)(ns ms:aH)(hi:IntsAre items.toList ns)(hj:IntsAre items2.toList ms):
  Meets (Builtin.«list.__ge__» ⟨[.ref l,.ref b],[]⟩)
   (fun _ R s=>LiAt s.heap l items∧LiAt s.heap b items2 ∧
    R (.ok (.ret (.bool (!HT.lexLt ns ms)))) s):=by
 intro prog w A R s ⟨hl,hb,h⟩;obtain⟨o2,n2,hb1,hb2,hb3⟩:=id hb;show wpAny _ _ (isInstance (.ref b) (.type "list") >>= λr=>_) _ _ _;refine wpAny_bind (wpAny_isInstance (b:=true) ⟨_,hb1,hb2⟩ (by rw[isSubtype_type];kernel_rfl) ?_);exact(meets_again rfl plain_eq_loop entry_eq_loop (VQ l b items items2 ns ms hi hj _ 0 (wf _) (wx _) (wx _))) prog w A R s ⟨hl,hb,h⟩
theorem QM{A:Around}{s:Shared}{l b:Addr}{items items2:Array Value}{ns ms:aH}{prog:Program}{w:World}{E:aC}{Q:aC}(hi:IntsAre items.toList ns)(hj:IntsAre items2.toList ms)(hl:LiAt s.heap l items)(hb:LiAt s.heap b items2)(hu:A.units<cLine)(h:Q (.bool (!HT.lexLt ns ms)) s):
  wpAny (model prog w) A (richCompare .GtE (.ref l) (.ref b)) Q E s:=by
 obtain⟨o1,n1,hl1,hl2,hl3⟩:=id hl;obtain⟨o2,n2,hb1,hb2,hb3⟩:=id hb;exact richCompare_meets_room (op := .GtE) ⟨_,hl1,hl2⟩ ⟨_,hb1,hb2⟩ PySem.F.slot_list_ge PySem.F.entry_list_ge (PySem.F.args_list_ge_2 _ _) (IZ l b items items2 ns ms hi hj)
  ⟨hl,hb,show Value.bool (!HT.lexLt ns ms)≠Value.notImplemented/\Q (.bool (!HT.lexLt ns ms)) s from⟨(λx=>nomatch x),h⟩⟩ hu
end
end L2

end
section
namespace L2
open PySem PySem.Spec PyProof.Rows
section
open PySem.SeqAt
open PySem.AutoSeq1 (wpAny_loadPart')
open PySem.MeetsSeq PySem.MeetsSeq2 PySem.MeetsSeq3
theorem QN(l b x y:Addr)(a c:Int)(t u:Tok)(n n2:Nat)(dd dd2:Option Addr)(sl sl2:Array (Option Value))(items items2:Array Value)(ns ms:aH)(hi:IntsAre items.toList ns)(hj:IntsAre items2.toList ms):
  Meets (Builtin.«tuple.__ge__» ⟨[.ref l,.ref b],[]⟩)
   (λA R s=>s.heap.get? l=some { cls := .type "tuple",dict:=dd,data := .seq #[.int a t,.ref x] n,slots:=sl }/\s.heap.get? b=some { cls := .type "tuple",dict:=dd2,data := .seq #[.int c u,.ref y] n2,slots:=sl2 } /\
     LiAt s.heap x items/\LiAt s.heap y items2/\A.in1.units<cLine/\(a=c->EqAt A.in1 s (.ref x) (.ref y) false)/\(a<c\/(a=c/\HT.lexLt ns ms=true))/\R (.ok (.ret (.bool false))) s) :=
 .of_wp λprog w A R s h=>by
  obtain⟨hp,g,d,tk,os⟩:=s;obtain⟨hl,hb,hx,hy,hu,he2,hc,hR⟩:=h;have f2:=AutoSeq1.sub_tuple_tuple
  wp_walk using wpAny_loadPart' hl,wpAny_loadPart' hb,wpAny_forIn_list _ (λrest b s'=>b.1=none/\s'=⟨hp,g,d,tk,os⟩/\(rest=[(.int a t,.int c u),(.ref x,.ref y)]\/(rest=[(.ref x,.ref y)]/\a=c/\HT.lexLt ns ms=true))) _
  case turn =>
   rintro⟨p,q⟩ rest b s' ⟨hb',rfl,hz⟩;rcases hz with hz|⟨hz,e1,e2⟩
   · injection hz with hz1 hz2
     injection hz1 with hz3 hz4
     subst hz3 hz4 hz2;obtain⟨e,he,hiff⟩:=HT.eqAt_int A.in1 ⟨hp,g,d,tk,os⟩ a t c u;refine wpAny_bind (he prog w _ _ ?_);cases e with
     | true =>
      have e0:=hiff.mp rfl
      wp_walk
      exact⟨rfl,rfl,.inr ⟨rfl,e0,by
       rcases hc with hc|hc
       · rfl'
       · exact hc.2⟩⟩
     | false =>
      have ne:¬a=c:=λz=>absurd (hiff.mpr z) wD;have hri:=λQ E h=>Kw (A:=A.in1) (s:=⟨hp,g,d,tk,os⟩) (a:=a) (t:=t) (c:=c) (u:=u) (prog:=prog) (w:=w) (Q:=Q) (E:=E) h
      wp_walk using hri
      rw[decide_eq_false (show ¬c<=a by rcases hc with hc|hc<;>rfl')];exact⟨_,rfl,by simpa using hR⟩
   · injection hz with hz1 hz2
     injection hz1 with hz3 hz4
     subst hz3 hz4 hz2;refine wpAny_bind (he2 e1 prog w _ _ ?_);have hri:=λQ E h=>QM (A:=A.in1) (s:=⟨hp,g,d,tk,os⟩) (prog:=prog) (w:=w) (Q:=Q) (E:=E) hi hj hx hy hu h
     wp_walk using hri
     rw[e2];exact⟨_,rfl,by simpa using hR⟩
  case fin =>
   rintro⟨b1,b2⟩ s' ⟨hb',rfl,hz⟩;rcases hz with hz|⟨hz,_⟩<;>cases hz
  case h =>
   exact⟨rfl,rfl,.inl rfl⟩
end
def rGeT(K:aE):R2:=λv u H Q=>∃ p q a c x y ns ms,v = .ref p/\u = .ref q/\SqT K H p [.int a,.ref x]/\SqT K H q [.int c,.ref y]/\H x=some (.lst (ns.map V.int))/\H y=some (.lst (ms.map V.int))/\(a<c\/(a=c/\HT.lexLt ns ms=true))/\Q (.bl false) H
theorem op_geT{X:Cx}(hu:X.A.units+64<cLine):OpR X (compareOp .GtE) (rGeT X.K):=by
 rintro π s σ H v u vv uu Q I r1 r2 ⟨p,q,a,c,x,y,ns,ms,rfl,rfl,sp,sq,hx,hy,hc,k⟩;cases r1;cases r2;obtain⟨its,rv,⟨⟨cls,dd,dat,sl⟩,e1,c1,n1,d1⟩,_⟩:=I.tuple sp;obtain⟨its2,rv2,⟨⟨cls2,dd2,dat2,sl2⟩,e2,c2,n2,d2⟩,_⟩:=I.tuple sq;simp only at c1 d1 c2 d2;subst c1 d1 c2 d2;obtain⟨w0,w1,rfl,⟨t,rfl⟩,rw1⟩:=rv.two;obtain⟨w2,w3,rfl,⟨t',rfl⟩,rw3⟩:=rv2.two;obtain rfl:w1=Value.ref x:=rw1;obtain rfl:w3=Value.ref y:=rw3;obtain⟨i1,j1,l1⟩:=Ki I hx;obtain⟨i2,j2,l2⟩:=Ki I hy;have hu1:X.A.in1.units<cLine:=by show X.A.units+1<cLine;rfl'
 have eq:SeqAt.EqAt X.A.in1 s (.ref x) (.ref y) (eqD (L ns) (L ms)):=by
  obtain⟨as,ra⟩:=N9 I 8 (L ns) (by rw[Dt.okN,F7]) (Rp.lst_.mpr ⟨x,_,rfl,rfl,hx,Rps.ints.mpr rfl⟩) rfl;obtain⟨bs,rb⟩:=N9 I 8 (L ms) (by rw[Dt.okN,F7]) (Rp.lst_.mpr ⟨y,_,rfl,rfl,hy,Rps.ints.mpr rfl⟩) rfl;obtain⟨k1,k2⟩:=Ec 8 (L ns) (by rw[Dt.okN,F7]);obtain⟨k3,k4⟩:=Ec 8 (L ms) (by rw[Dt.okN,F7]);exact SeqAt.eqAt_reads _ _ _ _ _ _ _ _ ra rb k1 k3 (by show X.A.units+1+min _ _<cLine;rfl')
 have he:a=c->SeqAt.EqAt X.A.in1 s (.ref x) (.ref y) false:=λac=>by
  have:ns≠ms:=λz=>by
   rcases hc with hc|hc
   · rfl'
   · rw[z,U9]at hc;cases hc.2
  have e0:eqD (L ns) (L ms)=false:=by
   unfold eqD;rw[Dt.py,Dt.py,T1,T1,PyData.eqv,Q3,decide_eq_false this]
  rwa [e0]at eq
 exact richCompare_meets_room (op := .GtE) ⟨_,e1,rfl⟩ ⟨_,e2,rfl⟩ PySem.F.slot_tuple_ge PySem.F.entry_tuple_ge (PySem.F.args_tuple_ge_2 _ _) (QN p q x y a c t t' n1 n2 dd dd2 sl sl2 i1.toArray i2.toArray ns ms (by simpa using j1) (by simpa using j2))
  ⟨e1,e2,l1,l2,hu1,he,hc,show Value.bool false≠Value.notImplemented/\EP X π σ Q (.bool false) s from⟨(λx=>nomatch x),.bl false,H,I,rfl,k⟩⟩ (by rfl')
end L2

end
section
namespace L2
open PySem PySem.Spec PyProof.Rows
section
variable {Y:Ky}{H H':Hp}{ρ:Rho}{σ:St}
theorem RepS.any(h:RepS Y H ρ σ)(i:Nat)(o:Option V):RepS Y H (ρ.set i .no) (σ.set i o):=by
 refine⟨by rw[wC,wC,h.len],h.base,λj c e=>?_⟩;have hl:=h.len;rw[wX]at e ⊢;by_cases q:i=j
 · subst q;rw[if_pos rfl]at e ⊢;split at e
   · cases e;rw[if_pos (by rfl')];exact⟨_,rfl,trivial⟩
   · cases e
 · rw[if_neg q]at e ⊢;exact h.at_ j c e
theorem RepS.put(h:RepS Y H ρ σ)(i:Nat){d:Dt}{v:V}(r:Rp Y.K emp d H v):RepS Y H (ρ.set i (.sh false d)) (σ.set i (some v)):=by
 refine⟨by rw[wC,wC,h.len],h.base,λj c e=>?_⟩;have hl:=h.len;rw[wX]at e ⊢;by_cases q:i=j
 · subst q;rw[if_pos rfl]at e ⊢;split at e
   · cases e;rw[if_pos (by rfl')];exact⟨_,rfl,v,rfl,r⟩
   · cases e
 · rw[if_neg q]at e ⊢;exact h.at_ j c e
end
section
variable {X:Cx}{H:Hp}{ρ:Rho}{σ:St}{E:Ends}
theorem Fh{F:FE}{i:Nat}{fl:Fl}{d:Dt}(rs:RepS X.ky H ρ σ)(e:F ρ=some (fl,d))(k:∀ v H',Same H H'->Rp X.K emp d H' v->RepS X.ky H' (ρ.set i (.sh false d)) (σ.set i (some v))->E.nx (σ.set i (some v)) H'):tAsg (upF X F) (u5 i) E σ H :=
 ⟨ρ,fl,d,rs,e,λv H' s r=>k v H' s r.sh ((rs.mono s).put i r.sh)⟩
theorem if_up{F:FT}{t u:TS}(rs:RepS X.ky H ρ σ)(e:F ρ=some false)(k:∀ H',Same H H'->u E σ H'):tIfS (upB X F) t u E σ H :=
 ⟨ρ,false,rs,e,λH' s=>by show if false=true then _ else _;rw[if_neg (by decide)];exact k H' s⟩
end
theorem My{K:aE}{H:Hp}{e:Ent}{v:V}(h:Rp K emp (entD e) H v):∃ f x y,v = .ref f/\SqT K H f [.ref x,.int e.2.1,.ref y]/\H x=some (.lst (e.1.map V.int)):=by
 obtain⟨f,ws,rfl,sq,rs⟩:=Rp.tup_.mp h;obtain⟨w0,t1,rfl,r0,rs⟩:=Rps.cons_.mp rs;obtain⟨w1,t2,rfl,r1,rs⟩:=Rps.cons_.mp rs;obtain⟨w2,t3,rfl,r2,rs⟩:=Rps.cons_.mp rs;have en:=Rps.nil_.mp rs;have ew:=Rp.int_.mp r1;subst en ew;obtain⟨x,xs,rfl,_,hx,rx⟩:=Rp.lst_.mp r0;obtain⟨y,ys,rfl,_,_,_⟩:=Rp.lst_.mp r2;have rx:=Rps.ints.mp rx;subst rx;exact⟨f,x,y,rfl,sq,hx⟩
def kvE(told:List Ent):List (aH×Int):=told.map λe=>(e.1,e.2.1)
theorem VR{told:List Ent}{t:aH}(h:t ∉ told.map (·.1)):lkI (kvE told) t=none:=by
 unfold lkI kvE;rw[Option.map_eq_none_iff,List.find?_eq_none];intro p hp;obtain⟨e,he,rfl⟩:=wg.mp hp;simp only[decide_eq_true_eq];intro z;exact h (wg.mpr ⟨e,he,z⟩)
theorem VS{told:List Ent}{e:Ent}(nd:(told.map (·.1)).Nodup)(he:e∈told):lkI (kvE told) e.1=some e.2.1:=by
 induction told with
 | nil=>cases he
 | cons x told ih =>
  rw[wj,wV]at nd;unfold lkI kvE;rw[wj,WJ];rcases wn.mp he with rfl|he
  · simp
  · rw[decide_eq_false (λz=>nd.1 (by rw[z];exact WB he))];exact ih nd.2 he
noncomputable abbrev tTk(K:aE):TE:=tCB (rTup K) (o0 (tOp (rIxT K) (tVar 7) (tC (.int 0))) tNil)
noncomputable abbrev tF8(X:Cx)(F:FT):TS :=
 tSeq (tIfS (tOr (upB X F) (tB (tDIn id (tTk X.K) (tVar 6)))) (tRet (tC (.bl false))) AF) (Sf (tVar 6) (tTk X.K) (tOp (rIxT X.K) (tVar 7) (tC (.int 1))))
theorem rd_tk{K:aE}{H:Hp}{σ:St}{f x y:Addr}{e:Ent}{Q:VK}(h7:σ[7]?=some (some (.ref f)))(sf:SqT K H f [.ref x,.int e.2.1,.ref y])(hx:H x=some (.lst (e.1.map V.int)))
  (q:∀ z H',Same H H'->H' z=some (.tup ((kI e.1).map kV))->Q (.ref z) H'):tTk K σ H Q :=
 ⟨.ref f,h7,f,_,0,.ref x,rfl,rfl,sf,rfl,x,_,rfl,.inl ⟨SqL.of hx,λz hz=>q z _ (j6 hz) (by rw[EO];exact i7)⟩⟩
theorem rd_f8{X:Cx}{F:FT}{Hs H:Hp}{ρ:Rho}{σ:St}{a f x y:Addr}{e:Ent}{told:List Ent}{E:Ends}{N:St->Hp->Prop}(na:Hs a=none)(s:Same Hs H)(ha:H a=some (.dT (kvI (kvE told))))(hl:told.length<=1000)(nin:e.1 ∉ told.map (·.1))
  (h6:σ[6]?=some (some (.ref a))) (h7:σ[7]?=some (some (.ref f))) (sf:SqT X.K Hs f [.ref x,.int e.2.1,.ref y]) (hx:Hs x=some (.lst (e.1.map V.int))) (rs:RepS X.ky H ρ σ) (ef:F ρ=some false) (nE:E.nx=N)
  (fin:∀ H',Same Hs H'->H' a=some (.dT (kvI (kvE (told++[e]))))->N σ H'):tF8 X F E σ H:=by
 have vn:valV (kvI (kvE told)) (kI e.1)=none:=by rw[Fg,VR nin];rfl
 refine⟨ρ,false,rs,ef,λH1 s1=>?_⟩;show if false=true then _ else _
 rw[if_neg (by decide)];have t1:=s.trans s1;refine rd_tk h7 (t1.seqT sf) (t1 _ _ hx) λz H2 s2 hz=>?_;have ha2:=s2 _ _ (s1 _ _ ha);refine⟨.ref a,h6,a,z,_,kI e.1,rfl,rfl,ha2,hz,false,by rw[vn];rfl,?_⟩;show if false=true then _ else _
 rw[if_neg (by decide)];have t2:=t1.trans s2;refine⟨.ref f,h7,f,_,1,.int e.2.1,rfl,rfl,t2.seqT sf,rfl,.ref a,h6,?_⟩;refine rd_tk h7 (t2.seqT sf) (t2 _ _ hx) λz' H3 s3 hz'=>?_;have t3:=t2.trans s3;refine⟨a,z',_,kI e.1,rfl,rfl,s3 _ _ ha2,hz',by unfold kvI kvE;rw[we,we,sizeLine_eq];rfl',?_⟩;rw[Kg _ vn];show E.nx _ _;rw[nE];refine fin _ (λb o eb=>by rw[i6 (v9 eb na)];exact t3 _ _ eb) ?_;rw[i7];unfold kvI kvE;rw[wI,wI];rfl
noncomputable abbrev tEl(K:aE)(ix:TE)(c:Int):TE:=tOp (rIxT K) (tOp (rIxL K) (tVar 5) ix) (tC (.int c))
theorem rd_el{K:aE}{H:Hp}{σ:St}{D f:Addr}{ws ys:List V}{j:Nat}{w:V}{c:Int}{ix:TE}{Q:VK}(h5:σ[5]?=some (some (.ref D)))(hD:H D=some (.lst ws))(hw:ws[j]?=some (.ref f))(sf:SqT K H f ys)(hy:atI ys c=some w)(hix:∀ Q:VK,Q (.int (j:Nat)) H->ix σ H Q)(q:Q w H):tEl K ix c σ H Q :=
 ⟨.ref D,h5,hix _ ⟨D,ws,j,.ref f,rfl,rfl,SqL.of hD,Ab hw,f,ys,c,w,rfl,rfl,sf,hy,q⟩⟩
noncomputable abbrev tKp:TE:=tOp (rI0 λi j => .int (i-j)) (tVar 8) (tC (.int 1))
noncomputable abbrev tPr(K:aE)(ix:TE):TE:=tTup (o0 (tEl K ix 1) (o0 (tEl K ix 0) tNil))
noncomputable abbrev tF10(K:aE):TS:=tIfS (Ru (tOp (rGeT K) (tPr K tKp) (tPr K (tVar 8)))) (tRet (tC (.bl false))) AF
theorem rd_pr{K:aE}{H:Hp}{σ:St}{D f x y:Addr}{ws:List V}{j:Nat}{e:Ent}{ix:TE}{Q:VK}(h5:σ[5]?=some (some (.ref D)))(hD:H D=some (.lst ws))(hw:ws[j]?=some (.ref f))(sf:SqT K H f [.ref x,.int e.2.1,.ref y])(hix:∀ Q:VK,Q (.int (j:Nat)) H->ix σ H Q)
  (q:∀ p,H p=none->Q (.ref p) (upd H p (.tup [.int e.2.1,.ref x]))):tPr K ix σ H Q :=
 rd_el h5 hD hw sf (w := .int e.2.1) rfl hix (rd_el h5 hD hw sf (w := .ref x) rfl hix ⟨by show 2<=sizeLine;decide,q⟩)
theorem rd_f10{K:aE}{Hs H:Hp}{σ:St}{D:Addr}{ws:List V}{j:Nat}{told:List Ent}{e e':Ent}{E:Ends}{N:St->Hp->Prop}(s:Same Hs H)(h5:σ[5]?=some (some (.ref D)))(h8:σ[8]?=some (some (.int ((j:Nat)+1))))(hD:Hs D=some (.lst ws))(rw_:Rps K emp (told.map entD) Hs ws)
   (he:told[j]?=some e) (he':told[j+1]?=some e') (lt:e.2.1<e'.2.1\/(e.2.1=e'.2.1/\HT.lexLt e.1 e'.1=true)) (nE:E.nx=N) (fin:∀ H',Same Hs H'->N σ H'):tF10 K E σ H:=by
 obtain⟨w1,g1,r1⟩:=rw_.get (i:=j) (d:=entD e) (by rw[wq,he];rfl);obtain⟨w2,g2,r2⟩:=rw_.get (i:=j+1) (d:=entD e') (by rw[wq,he'];rfl);obtain⟨f,x,y,rfl,sf,hx⟩:=My r1;obtain⟨f',x',y',rfl,sf',hx'⟩:=My r2;show tPr K tKp σ H (λu H1=>tPr K (tVar 8) σ H1 λv H2=>rGeT K u v H2 λr H3=>∃ k,r = .bl k/\if k=true then tRet (tC (.bl false)) E σ H3 else AF E σ H3);refine rd_pr h5 (s _ _ hD) g1 (s.seqT sf) (λQ q=>⟨_,h8,(j:Int)+1,1,rfl,rfl,?_⟩) λp hp=>?_
 · show Q (.int ((j:Int)+1-1)) H;rw[Int.add_sub_cancel];exact q
 have s1:=s.trans (j6 (o:=HO.tup [.int e.2.1,.ref x]) hp);have k1:upd H p (.tup [.int e.2.1,.ref x]) p=some (.tup [.int e.2.1,.ref x]):=i7;generalize upd H p (.tup [.int e.2.1,.ref x])=H1 at s1 k1 ⊢;show tPr K (tVar 8) σ H1 _;refine rd_pr h5 (s1 _ _ hD) g2 (s1.seqT sf') (λQ q=>⟨_,h8,q⟩) λp' hp'=>?_;have s2:=j6 (o:=HO.tup [.int e'.2.1,.ref x']) hp';have s3:=s1.trans s2;refine⟨p,p',e.2.1,e'.2.1,x,x',e.1,e'.1,rfl,rfl,SqT.of (s2 _ _ k1),SqT.of i7,s3 _ _ hx,s3 _ _ hx',lt,false,rfl,?_⟩;show if false=true then _ else E.nx _ _
 rw[if_neg (by decide),nE];exact fin _ s3
noncomputable abbrev tF11(K:aE)(cL:FC):TS:=tIfS (tNot (tB (AG (spNr K cL) [] E0 (o0 (tVar 7) (o0 (tVar 4) (o0 (tVar 2) (o0 (tVar 6) tNil))))))) (tRet (tC (.bl false))) AF
theorem rd_f11{K:aE}{cL:FC}{Hs H:Hp}{σ:St}{a:Addr}{ve vr:V}{S:aA}{n:Nat}{told:List Ent}{e:Ent}{E:Ends}{N:St->Hp->Prop}(s:Same Hs H)(ha:H a=some (.dT (kvI (kvE told))))
  (h7:σ[7]?=some (some ve)) (h4:σ[4]?=some (some vr)) (h2:σ[2]?=some (some (.int n))) (h6:σ[6]?=some (some (.ref a))) (re:Rp K emp (entD e) Hs ve) (rr:Rp K emp (LL S) Hs vr) (hl:e.1.length=n) (n6:n<=6) (ok:NrOk cL S e n (kvE told)) (nE:E.nx=N) (fin:∀ H',Same H H'->N σ H'):tF11 K cL E σ H:=by
 refine⟨ve,h7,vr,h4,.int n,h2,.ref a,h6,ve,vr,a,S,e,n,kvE told,rfl,Rp.mono _ s re,Rp.mono _ s rr,ha,hl,n6,ok,λH' s'=>⟨true,rfl,?_⟩⟩;show if false=true then _ else E.nx _ _
 rw[if_neg (by decide),nE];exact fin _ s'
end L2

end
section
namespace L2
theorem Kx:∀{ns:List Nat} {t:aH},Lat.E6 ns t->t.length=ns.length/\∀(i:Nat) (m:Nat),ns[i]?=some m->0<=St.at0 t i/\St.at0 t i<m
 | [],[],_=>⟨rfl,λi m e=>by simp at e⟩
 | [],_::_,h=>h.elim
 | _::_,[],h=>h.elim
 | m::ns,x::t,⟨h1,h2,h3⟩=>by
  obtain⟨l,q⟩:=Kx h3;refine⟨by simp[l],λi m' e=>?_⟩;cases i with
  | zero=>simp at e;rw[←e];exact⟨h1,h2⟩
  | succ i=>exact q i m' (by simpa using e)
theorem QO{n:Nat}{S:List St.Row}{t:aH}(A:St.Asc n 0 S)(ht:t.length=n)(h:∀ r∈S,0<=St.at0 t (St.b7 r)/\St.at0 t (St.b7 r)<St.hd r):St.d8 t S=t :=
 St.CA A (St.w8 A ht) ht (Lat.Span.congr (λk=>by rfl') (St.u8 A ht).neg) (St.u7 A ht) h
theorem Hz{n:Nat}{S:List St.Row}{told:List Ent}(n1:1<=n)(A:St.Asc n 0 S)(hl:S.length=n)(f:Fin n (λb=>St.d8 b S) told):told.length=Lat.prod (C4 S):=by
 have up:=(Mx n1 A hl).count (told.map (·.1)) f.nd λt ht=>by
  obtain⟨e,he,rfl⟩:=wg.mp ht;obtain⟨a,b,_⟩:=f.ent e he;exact⟨_,a,b⟩
 have dn:=Lat.E5 (l:=Lat.box (C4 S)) (m:=told.map (·.1)) id (Lat.Cw _) (λ_ _ _ _ e=>e) λt ht=>by
  obtain⟨l,q⟩:=Kx (Lat.Q4.mp ht);have lt:t.length=n:=by rw[l];unfold C4;rw[we,hl]
  obtain⟨e,he,e1,_⟩:=f.all t lt;refine wg.mpr ⟨e,he,?_⟩;rw[e1];refine QO A lt λr hr=>?_;obtain⟨i,hi,ei⟩:=wH hr;have er:S[i]?=some r:=by rw[wa hi,ei]
  have hh:=K2 A (by rfl') i r er;have p:=(A.mem hr).2.2.2;have:=q i (St.hd r).toNat (by unfold C4;rw[wq,er];rfl);rw[hh,wZ];rfl'
 rw[Lat.O8]at dn;rw[we]at up dn;rfl'
theorem PL{n:Nat}{low:aH->aH}{told:List Ent}(f:Fin n low told){e e':Ent}(h:e∈told)(h':e'∈told)(q:e.1=e'.1):e=e':=by
 obtain⟨i,hi,ei⟩:=wH h;obtain⟨j,hj,ej⟩:=wH h';have:i=j:=by
  refine(vd (xs:=told.map (·.1)) (h₀:=by simpa using hi) (h₁:=by simpa using hj) f.nd).mp ?_;rw[Wk,Wk,ei,ej,q]
 subst this;rw[←ei,←ej]
theorem fin_up{n:Nat}{low:aH->aH}{told:List Ent}(f:Fin n low told){i j:Nat}(ij:i<j){e e':Ent}(h:told[i]?=some e)(h':told[j]?=some e'):e.2.1<e'.2.1\/(e.2.1=e'.2.1/\HT.lexLt e.1 e'.1=true):=by
 obtain⟨hi,ei⟩:=wy.mp h;obtain⟨hj,ej⟩:=wy.mp h';have s:=vE.mp f.srt i j hi hj ij;rw[ei,ej]at s;rcases s with s|⟨s1,s2⟩
 · exact .inl s
 · refine .inr ⟨s1,?_⟩;cases q:HT.lexLt e.1 e'.1 with
   | true=>rfl
   | false =>
    have eq:=Ai _ _ q s2;have:i=j:=by
     refine(vd (xs:=told.map (·.1)) (h₀:=by simpa using hi) (h₁:=by simpa using hj) f.nd).mp ?_;rw[Wk,Wk,ei,ej,eq]
    rfl'
theorem SV{n:Nat}{S:List St.Row}{told:List Ent}(n1:1<=n)(A:St.Asc n 0 S)(hl:S.length=n)(f:Fin n (λb=>St.d8 b S) told){e:Ent}(he:e∈told){k:Nat}(hk:k<n){q:Int}(hq:q=1\/q = -1):
  e.1.length=n/\∃ e'∈told,e'.1=St.d8 (e.1.set k (St.at0 e.1 k+q)) S/\(e'.2.1-e.2.1).natAbs<=1:=by
 have g:=Mx n1 A hl;obtain⟨b1,b2,b3⟩:=f.ent e he;have b2:e.1=St.d8 e.2.2 S:=b2;have el:e.1.length=n:=by rw[b2];exact St.w8 A b1
 have lu:∀ q:Int,(sclR q (St.A4 n k)).length=n:=λq=>by unfold sclR;rw[we,St.Cz]
 have m1:=Ap hk hq;have hq' : -q=1 \/ -q = -1:=by rfl'
 have m2:=Ap hk hq';have la:∀(b:aH) (q:Int),b.length=n->(addR b (sclR q (St.A4 n k))).length=n:=λb q hb=>by rw[O7 (by rw[hb,lu]),hb]
 have idem:St.d8 e.1 S=St.d8 e.2.2 S:=by rw[b2];exact St.BQ A b1
 have c1:St.d8 (addR e.1 (sclR q (St.A4 n k))) S=St.d8 (addR e.2.2 (sclR q (St.A4 n k))) S:=g.congr _ _ _ el b1 m1 idem;rw[BR el hk]at c1;obtain⟨e',he',d1,d2⟩:=f.all _ (la e.2.2 q b1);have d1:e'.1=St.d8 (addR e.2.2 (sclR q (St.A4 n k))) S:=d1;obtain⟨f1,f2,f3⟩:=f.ent e' he';have f2:e'.1=St.d8 e'.2.2 S:=f2;refine⟨el,e',he',by rw[c1];exact d1,?_⟩;have n1':=g.near e.2.2 _ b1 m1;have n2:=g.near e'.2.2 _ f1 m2;have c2:St.d8 (addR e'.2.2 (sclR (-q) (St.A4 n k))) S=St.d8 (addR (addR e.2.2 (sclR q (St.A4 n k))) (sclR (-q) (St.A4 n k))) S:=g.congr _ _ _ f1 (la _ _ b1) m2 (by rw[←f2,d1]);have undo:addR (addR e.2.2 (sclR q (St.A4 n k))) (sclR (-q) (St.A4 n k))=e.2.2:=by
  refine St.ext0 (by rw[la _ _ (la _ _ b1),b1]) λj=>?_;rw[An (by rw[la _ _ b1,lu]),An (by rw[b1,lu]),IW,IW,vK];rfl'
 rw[undo]at c2;obtain⟨e2,he2,g1,g2⟩:=f.all _ (la e'.2.2 (-q) f1);have g1:e2.1=St.d8 (addR e'.2.2 (sclR (-q) (St.A4 n k))) S:=g1;have:e2=e:=PL f he2 he (by rw[g1,c2,b2]);subst this;rw[b3,f3];rfl'
end L2

end
section
set_option maxHeartbeats 1000000
namespace K28
open PySem L2
noncomputable section
def AV:FS:=(sRet (vAnd (fIsi "int" (fN 0)) (vNot (fIsi "bool" (fN 0)))))
def K3:FC:=cOf 1 1 true AV
def Fm:FS:=(sSeq (sIf (fOr (fNot (fTru (fIsi "list" (fN 0)))) (k6 (fOp opNe (fBlt bLen (b8 (fN 0) fNil)) (fN 1)))) (sRet (fC (.bl false))) A3)
 (sRet (fBlt bAll (b8 (j9 1 [] (iSeq (fN 0)) (Tg.one 0) fYes (f8 true K3 (b8 (fN 0) fNil))) fNil))))
def BS:FC:=cOf 2 2 true Fm
def CD:FS:=(sRet (j9 1 [] (k9 (fN 0)) (Tg.one 0) fYes (fC (.int 0))))
def Aq:FC:=cOf 1 1 true CD
def AW:FS:=(sRet (j9 1 [1] (k9 (fN 0)) (Tg.one 0) fYes (fIf (k6 (fOp opEq (fN 0) (fN 1))) (fC (.int 1)) (fC (.int 0)))))
def P0:FC:=cOf 2 2 true AW
def Ja:FS:=(sRet (j9 2 [] (iZip (fN 0) (fN 1)) (Tg.many [0,1]) fYes (fOp l9 (fN 0) (fN 1))))
def M9:FC:=cOf 2 2 true Ja
def Jb:FS:=(sRet (j9 2 [] (iZip (fN 0) (fN 1)) (Tg.many [0,1]) fYes (fOp L6 (fN 0) (fN 1))))
def Ar:FC:=cOf 2 2 true Jb
def Fn:FS:=(sRet (j9 1 [1] (iSeq (fN 0)) (Tg.one 0) fYes (fOp L7 (fN 1) (fN 0))))
def C7:FC:=cOf 2 2 true Fn
def CG:FS:=(sSeq (sFor [] (BB (fN 0)) (Tg.many [1,2])
 (sIf (k6 (fOp opNe (fN 2) (fC (.int 0)))) (sRet (fN 1)) A3))
 (sRet (fBlt bLen (b8 (fN 0) fNil))))
def j7:FC:=cOf 1 3 true CG
def Y6:FS:=(sRet (vAnd (f8 true K3 (b8 (fN 0) fNil)) (IF opLe opLe (fC (.int 1)) (fN 0) (fC (.int 6)))))
def Q6:FC:=cOf 1 1 true Y6
def CH:FS:=(sRet (vAnd (f8 true BS (b8 (fN 0) (b8 (fN 1) fNil))) (fBlt bAll (b8 (j9 1 [] (iSeq (fN 0)) (Tg.one 0) fYes (fOp opLt (fBlt bAbs (b8 (fN 0) fNil)) (fOp GV (fC (.int 10)) (fC (.int 30))))) fNil))))
def Au:FC:=cOf 2 2 true CH
def V4:FS:=(sIf (fNot (fTru (f8 true Q6 (b8 (fN 0) fNil)))) EH A3)
def N0:FC:=cOf 1 1 true V4
def Y7:FS:=(sIf (fNot (fTru (f8 true Au (b8 (fN 0) (b8 (fN 1) fNil))))) EH A3)
def G1:FC:=cOf 2 2 true Y7
def CI:FS:=(sRet (fTup (b8 (fN 0) (b8 (fBlt bTup (b8 (j9 1 [] (iSeq (fN 1)) (Tg.one 0) fYes (fBlt bTup (b8 (fN 0) fNil))) fNil)) fNil))))
def Av:FC:=cOf 2 2 true CI
def CJ:FS:=(sSeq (EI (f8 true N0 (b8 (fN 0) fNil)))
 (sSeq (sIf (fOr (fNot (fTru (fIsi "list" (fN 1)))) (k6 (fOp opGt (fBlt bLen (b8 (fN 1) fNil)) (fC (.int 8))))) EH A3)
 (sSeq (sFor [] (iSeq (fN 1)) (Tg.one 2)
 (EI (f8 true G1 (b8 (fN 2) (b8 (fN 0) fNil)))))
 (sRet (f8 true Av (b8 (fN 0) (b8 (fN 1) fNil)))))))
def T3:FC:=cOf 2 3 true CJ
def Fo:FS:=(sRet (f8 true Aq (b8 (fAt (fN 0) (fC (.int 0))) fNil)))
def T4:FC:=cOf 1 1 true Fo
def Fp:FS:=(sSeq (sSet [] 2 (fLst (b8 (fN 0) (b8 (fC (.int 1)) (b8 (fC (.int 0)) fNil)))))
 (sSeq (sSet [] 3 (fLst (b8 (fN 1) (b8 (fC (.int 0)) (b8 (fC (.int 1)) fNil)))))
 (sSeq (O1 (k6 (fOp opNe (fAt (fN 3) (fC (.int 0))) (fC (.int 0)))) (sSeq (sSet [] 4 (fOp X1 (fAt (fN 2) (fC (.int 0))) (fAt (fN 3) (fC (.int 0)))))
 (sSeq (sSet [] 5 (j9 1 [2,4,3] (k9 (fC (.int 3))) (Tg.one 0) fYes (fOp L6 (fAt (fN 1) (fN 0)) (fOp L7 (fN 2) (fAt (fN 3) (fN 0))))))
 (sSeq (sSet [] 2 (fN 3))
 (sSet [] 3 (fN 5))))))
 (sSeq (sIf (k6 (fOp opLt (fAt (fN 2) (fC (.int 0))) (fC (.int 0)))) (sSet [] 2 (j9 1 [] (iSeq (fN 2)) (Tg.one 0) fYes (fNeg (fN 0)))) A3)
 (sRet (fBlt bTup (b8 (fN 2) fNil)))))))
def Fq:FC:=cOf 2 6 true Fp
def CK:FS:=(sSeq (sSet [] 1 (fC (.int 1)))
 (sSeq (sFor [] (iSeq (fN 0)) (Tg.one 2)
 (sSet [] 1 (fOp L7 (fN 1) (fN 2))))
 (sRet (fN 1))))
def Aw:FC:=cOf 1 3 true CK
def AX:FS:=(sSeq (sSet [] 2 (fBlt bLst (b8 (fN 0) fNil)))
 (sSeq (sOwn 3 (fLst fNil))
 (sSeq (sFor [] (iSeq (fN 1)) (Tg.one 4)
 (sSeq (sSet [] 5 (f8 true j7 (b8 (fN 4) fNil)))
 (sSeq (sSet [] 6 (fOp X1 (fAt (fN 2) (fN 5)) (fAt (fN 4) (fN 5))))
 (sSeq (sIf (k6 (fOp opNe (fN 6) (fC (.int 0)))) (sSet [] 2 (f8 true Ar (b8 (fN 2) (b8 (f8 true C7 (b8 (fN 4) (b8 (fN 6) fNil))) fNil)))) A3)
 (sWr wApp 3 (fN 6))))))
 (sRet (fTup (b8 (fN 3) (b8 (fN 2) fNil)))))))
def V5:FC:=cOf 2 7 true AX
def CL:FS:=(sRet (fAt (f8 true V5 (b8 (fN 0) (b8 (fN 1) fNil))) (fC (.int 1))))
def n9:FC:=cOf 2 2 true CL
def CM:FS:=(sSeq (sSet [] 2 (f8 true j7 (b8 (fN 0) fNil)))
 (sSeq (sSet [] 3 (f8 true Fq (b8 (fAt (fN 0) (fN 2)) (b8 (fAt (fN 1) (fN 2)) fNil))))
 (sSeq (sSet [] 4 (f8 true M9 (b8 (f8 true C7 (b8 (fN 0) (b8 (fAt (fN 3) (fC (.int 1))) fNil))) (b8 (f8 true C7 (b8 (fN 1) (b8 (fAt (fN 3) (fC (.int 2))) fNil))) fNil))))
 (sSeq (sSet [] 5 (f8 true Ar (b8 (f8 true C7 (b8 (fN 1) (b8 (fOp X1 (fAt (fN 0) (fN 2)) (fAt (fN 3) (fC (.int 0)))) fNil))) (b8 (f8 true C7 (b8 (fN 0) (b8 (fOp X1 (fAt (fN 1) (fN 2)) (fAt (fN 3) (fC (.int 0)))) fNil))) fNil))))
 (sRet (fTup (b8 (fN 4) (b8 (fN 5) fNil))))))))
def N5:FC:=cOf 2 6 true CM
def Y8:FS:=(sRet (fIf (k6 (fOp opLt (fAt (fN 0) (f8 true j7 (b8 (fN 0) fNil))) (fC (.int 0)))) (f8 true C7 (b8 (fN 0) (b8 (fNeg (fC (.int 1))) fNil))) (fBlt bLst (b8 (fN 0) fNil))))
def B5:FC:=cOf 1 1 true Y8
def P1:FS:=(sSeq (sOwn 2 (fBlt bLst (b8 (fN 0) fNil)))
 (sSeq (Q1 3 (f8 true n9 (b8 (fN 1) (b8 (fN 2) fNil))))
 (sSeq (O1 (k6 (fOp opLt (f8 true j7 (b8 (fN 3) fNil)) (fBlt bLen (b8 (fN 3) fNil)))) (sSeq (Q1 4 (j9 2 [3] (BB (fN 2)) (Tg.many [0,1]) (k6 (fOp opEq (f8 true j7 (b8 (fN 1) fNil)) (f8 true j7 (b8 (fN 2) fNil)))) (fN 0)))
 (sSeq (sIf (k6 (fOp opEq (fBlt bLen (b8 (fN 4) fNil)) (fC (.int 0)))) (sRet (AS j7 (fOp l9 (fN 2) (fLst (b8 (f8 true B5 (b8 (fN 3) fNil)) fNil))))) A3)
 (sSeq (Q1 5 (f8 true N5 (b8 (fAt (fN 2) (fAt (fN 4) (fC (.int 0)))) (b8 (fN 3) fNil))))
 (sSeq (sPut 2 (fAt (fN 4) (fC (.int 0))) (fAt (fN 5) (fC (.int 0))))
 (Q1 3 (f8 true n9 (b8 (fAt (fN 5) (fC (.int 1))) (b8 (fN 2) fNil)))))))))
 (sRet (fN 2)))))
def K4:FC:=cOf 2 6 false P1
def Ft:FS:=(sSeq (sOwn 1 (fLst fNil))
 (sSeq (sFor [] (iRev (fN 0)) (Tg.one 2)
 (sWrA EJ 1 (f8 true n9 (b8 (fN 2) (b8 (fN 1) fNil)))))
 (sRet (fN 1))))
def Y9:FC:=cOf 1 3 true Ft
def CN:FS:=(sSeq (sSet [] 1 (fLst fNil))
 (sSeq (sFor [] (iSeq (fN 0)) (Tg.one 2)
 (sSet [] 1 (f8 true Y9 (b8 (f8 false K4 (b8 (fN 1) (b8 (fN 2) fNil))) fNil))))
 (sRet (fN 1))))
def T5:FC:=cOf 1 3 true CN
def M4:FS:=(sRet (f8 true Aw (b8 (j9 1 [] (iSeq (fN 0)) (Tg.one 0) fYes (fAt (fN 0) (f8 true j7 (b8 (fN 0) fNil)))) fNil)))
def F1:FC:=cOf 1 1 true M4
def Jc:FS:=(sRet (f8 true T5 (b8 (fAt (fN 0) (fC (.int 1))) fNil)))
def F2:FC:=cOf 1 1 true Jc
def AY:FS:=(sSeq (sSet [] 1 (f8 true F2 (b8 (fN 0) fNil)))
 (sSeq (sIf (k6 (fOp opLt (fBlt bLen (b8 (fN 1) fNil)) (fAt (fN 0) (fC (.int 0))))) (sRet (fC .non)) A3)
 (sRet (f8 true F1 (b8 (fN 1) fNil)))))
def P2:FC:=cOf 1 2 true AY
def AZ:FS:=(sSeq (sSet [] 1 (f8 true P2 (b8 (fN 0) fNil)))
 (sIf (fOr (k6 (fOp Pi (fN 1) (fC .non))) (k6 (fOp opGt (fN 1) (fC (.int 200))))) EH A3))
def K5:FC:=cOf 1 2 true AZ
def P3:FS:=(sSeq (sSet [] 1 (j9 1 [0] (k9 (fN 0)) (Tg.one 0) fYes (f8 true P0 (b8 (fN 1) (b8 (fN 0) fNil)))))
 (sRet (fOp l9 (fN 1) (j9 1 [] (iSeq (fN 1)) (Tg.one 0) fYes (f8 true C7 (b8 (fN 0) (b8 (fNeg (fC (.int 1))) fNil)))))))
def C0:FC:=cOf 1 2 false P3
def K6:FC:=λds=>@dite _ (∃ d,Ks K5 F2 C0 T4 M9 n9 ds d) (Classical.propDecidable _) (λh=>some (vi h)) λ_=>none
def Z0:FS:=(sSeq (sIf (k6 (fOp opLt (fN 1) (fBlt bLen (b8 (fN 0) fNil)))) (sRet (fAt (fN 0) (fN 1))) A3)
 (sSeq (sIf (k6 (fOp opEq (fN 0) (fLst fNil))) (sRet (fC (.int 0))) A3)
 (sRet (fOp l9 (fOp L7 (fAt (fN 0) (fOp S8 (fN 1) (fBlt bLen (b8 (fN 0) fNil)))) (fC (.int 31))) (fN 1)))))
def o7:FC:=cOf 2 2 true Z0
def Ax:FS:=(sRet (vAnd (fIsi "int" (fN 0)) (vNot (fIsi "bool" (fN 0)))))
def E1:FC:=cOf 1 1 true Ax
def Ba:FS:=(sSeq (sIf (fOr (fNot (fTru (fIsi "list" (fN 0)))) (k6 (fOp opNe (fBlt bLen (b8 (fN 0) fNil)) (fN 1)))) (sRet (fC (.bl false))) A3)
 (sSeq (sFor [] (iSeq (fN 0)) (Tg.one 2)
 (sIf (fNot (fTru (f8 true E1 (b8 (fN 2) fNil)))) (sRet (fC (.bl false))) A3))
 (sRet (fC (.bl true)))))
def P4:FC:=cOf 2 3 true Ba
def P5:FS:=(sSeq (sIf (k6 (fOp opEq (fN 1) (fC (.int 2)))) (sSeq (sSet [] 2 (fOp S8 (fN 0) (fOp GV (fC (.int 10)) (fC (.int 30)))))
 (sSeq (sIf (k6 (fOp opEq (fOp S8 (fOp X1 (fN 0) (fOp GV (fC (.int 10)) (fC (.int 30)))) (fC (.int 2))) (fC (.int 1)))) (sRet (fNeg (fN 2))) A3)
 (sRet (fN 2)))) A3)
 (sSeq (sSet [] 3 (fAt (fLst (b8 (fC (.int 9)) (b8 (fC (.int 61)) fNil))) (fN 1)))
 (sSeq (sSet [] 2 (fOp S8 (fN 0) (fN 3)))
 (sSeq (sIf (k6 (fOp opGt (fN 2) (fOp X1 (fN 3) (fC (.int 2))))) (sRet (fOp L6 (fN 2) (fN 3))) A3)
 (sRet (fN 2))))))
def K7:FC:=cOf 2 4 true P5
def Jd:FS:=(sRet (j9 1 [0,1,3] (k9 (fN 2)) (Tg.one 0) fYes (f8 true K7 (b8 (f8 true o7 (b8 (fN 1) (b8 (fOp l9 (fN 2) (fN 0)) fNil))) (b8 (fN 3) fNil)))))
def Ei:FC:=cOf 4 4 true Jd
def Fv:FS:=(sRet (j9 1 [0,2,1] (k9 (fBlt bLen (b8 (fN 0) fNil))) (Tg.one 0) fYes (fOp l9 (fAt (fN 1) (fN 0)) (fOp L7 (fN 2) (fAt (fN 3) (fN 0))))))
def Z1:FC:=cOf 3 3 true Fv
def Fw:FS:=(sSeq (sSet [] 1 (fC (.int 0)))
 (sSeq (O1 (fAnd (k6 (fOp opLt (fN 1) (fBlt bLen (b8 (fN 0) fNil)))) (k6 (fOp opEq (fAt (fN 0) (fN 1)) (fC (.int 0))))) (sSet [] 1 (fOp l9 (fN 1) (fC (.int 1)))))
 (sRet (fN 1))))
def Z2:FC:=cOf 1 2 true Fw
def Fx:FS:=(sSeq (sSet [] 2 (fBlt bLst (b8 (fN 1) fNil)))
 (sSeq (sFor [] (iSeq (fN 0)) (Tg.one 3)
 (sSeq (sSet [] 4 (f8 true Z2 (b8 (fN 3) fNil)))
 (sSet [] 2 (f8 true Z1 (b8 (fN 2) (b8 (fN 3) (b8 (fNeg (fOp X1 (fAt (fN 2) (fN 4)) (fAt (fN 3) (fN 4)))) fNil)))))))
 (sRet (fN 2))))
def G8:FC:=cOf 2 5 true Fx
def Bb:FS:=(sRet (j9 1 [] (iSeq (fN 0)) (Tg.one 0) fYes (fBlt bLst (b8 (fN 0) fNil))))
def V6:FC:=cOf 1 1 true Bb
def Je:FS:=(sSeq (sSet [] 1 (fOp l9 (fC (.int 1)) (fOp S8 (f8 true o7 (b8 (fN 0) (b8 (fC (.int 0)) fNil))) (fC (.int 3)))))
 (sSeq (sOwn 2 (fLst fNil))
 (sSeq (sFor [] (k9 (fN 1)) (Tg.one 3)
 (sSeq (sSet [] 4 (fOp l9 (fC (.int 1)) (fOp S8 (f8 true o7 (b8 (fN 0) (b8 (fOp l9 (fC (.int 1)) (fN 3)) fNil))) (fC (.int 6)))))
 (sSeq (sIf (fAnd (k6 (fOp opGt (fN 4) (fC (.int 4)))) (k6 (fOp opEq (fN 1) (fC (.int 3))))) (sSet [] 4 (fC (.int 2))) A3)
 (sSeq (sSet [] 5 (j9 1 [0,3] (k9 (fOp L6 (fOp L6 (fN 1) (fN 3)) (fC (.int 1)))) (Tg.one 0) fYes (fOp L6 (fOp S8 (f8 true o7 (b8 (fN 1) (b8 (fOp l9 (fOp l9 (fC (.int 8)) (fOp L7 (fC (.int 3)) (fN 2))) (fN 0)) fNil))) (fC (.int 7))) (fC (.int 3)))))
 (sWr wApp 2 (fOp l9 (fOp l9 (j9 1 [] (k9 (fN 3)) (Tg.one 0) fYes (fC (.int 0))) (fLst (b8 (fN 4) fNil))) (fN 5)))))))
 (sSeq (sIf (k6 (fOp opEq (fOp S8 (f8 true o7 (b8 (fN 0) (b8 (fC (.int 4)) fNil))) (fC (.int 3))) (fC (.int 1)))) (sWr wApp 2 (f8 true Ei (b8 (fN 0) (b8 (fC (.int 20)) (b8 (fN 1) (b8 (fC (.int 0)) fNil)))))) A3)
 (sRet (fTup (b8 (fN 1) (b8 (fN 2) fNil))))))))
def Ej:FC:=cOf 1 6 true Je
def V7:FS:=(sSeq (sIf (fOr (fNot (fTru (fIsi "tuple" (fN 0)))) (fOr (k6 (fOp opNe (fBlt bLen (b8 (fN 0) fNil)) (fC (.int 3)))) (fNot (fTru (f8 true E1 (b8 (fAt (fN 0) (fC (.int 1))) fNil)))))) (sRet (fC (.bl false))) A3)
 (sSeq (sIf (fOr (fNot (fTru (f8 true P4 (b8 (fAt (fN 0) (fC (.int 0))) (b8 (fN 2) fNil))))) (fNot (fTru (f8 true P4 (b8 (fAt (fN 0) (fC (.int 2))) (b8 (fN 2) fNil)))))) (sRet (fC (.bl false))) A3)
 (sSeq (sIf (fOr (k6 (fOp opNe (f8 true G8 (b8 (fN 1) (b8 (fAt (fN 0) (fC (.int 0))) fNil))) (fAt (fN 0) (fC (.int 0))))) (k6 (fOp opNe (f8 true G8 (b8 (fN 1) (b8 (fAt (fN 0) (fC (.int 2))) fNil))) (fAt (fN 0) (fC (.int 0)))))) (sRet (fC (.bl false))) A3)
 (sSeq (sSet [] 3 (fC (.int 0)))
 (sSeq (sFor [] (iSeq (fAt (fN 0) (fC (.int 2)))) (Tg.one 4)
 (sSet [] 3 (fOp l9 (fN 3) (fBlt bAbs (b8 (fN 4) fNil)))))
 (sRet (fOp opEq (fN 3) (fAt (fN 0) (fC (.int 1))))))))))
def N1:FC:=cOf 3 5 true V7
def Fy:FC:=λds=>match ds with|[.scr _]=>some (.bl true)|_=>none
theorem G9(ns:aH)(k:Int)(h0:0<=k):o7 [.scr ns,.int k]=some (.int (D3 ns k)):=by
 unfold o7 Z0 D3;by_cases h:k<ns.length
 · have e:atI ns k=some (ns.getD k.toNat 0):=by
     rw[Pt h0,wa (by rfl')];simp[List.getD,wa (show k.toNat<ns.length by rfl')]
   simp[cOf,h,e]
 · by_cases h2:ns=[]
   · subst h2;simp[cOf,h,Kj [] [],show ¬k<0 by rfl'];rfl
   · have hp:0<ns.length:=WA.mpr h2;obtain⟨f1,f2⟩:=V0 k (show(0:Int)<ns.length by rfl');have e:atI ns (k.fmod ns.length)=some (ns.getD (k.fmod ns.length).toNat 0):=by
      rw[Pt f1,wa (by rfl')];simp[List.getD,wa (show(k.fmod ns.length).toNat<ns.length by rfl')]
     have e2:opEq (.scr ns) (.lst [])=some (.nw,.bl false):=by have:=Kj ns [];rw[decide_eq_false h2]at this;exact this
     simp[cOf,h,h2,e,e2,Kk,Y2,show ¬((ns.length:Int)=0) by rfl']
theorem Kz(c m:Int)(h0:0<=m)(h3:m<3):K7 [.int c,.int m]=some (.int (Ho c m)):=by
 unfold K7 Ho;have hm:m=0\/m=1\/m=2:=by rfl'
 have d30:J5 c 1000000000000000000000000000000=true:=by unfold J5;decide
 have d9:J5 9 2=true:=by unfold J5;decide
 have d61:J5 61 2=true:=by unfold J5;decide
 have p30:Ey 10 30=true:=by unfold Ey;decide
 have two:∀(m w v:Int),m≠2->atI [Dt.int 9,Dt.int 61] m=some (.int w)->0<w->J5 w 2=true->w.fdiv 2=v->cOf 2 4 true P5 [.int c,.int m]=some (.int (if v<c.fmod w then c.fmod w-w else c.fmod w)):=λm w v hm2 ha hw hd hv=>by
   refine Ak (f := .nw) rfl (run (ρ':=[.sh false (.int c),.sh false (.int m),.no,.no]) (by simp[cOf,A0,hm2]) (run (ρ':=[.sh false (.int c),.sh false (.int m),.no,.sh true (.int w)]) (by simp[cOf,ha]) (run (ρ':=[.sh false (.int c),.sh false (.int m),.sh true (.int (c.fmod w)),.sh true (.int w)]) (by simp[cOf,Y2,show ¬w=0 by rfl']) ?_))) rfl;by_cases h:v<c.fmod w
   · simp[cOf,hd,hv,h]
   · simp[cOf,hd,hv,h]
 rcases hm with rfl|rfl|rfl
 · exact(two 0 9 4 (by decide) rfl (by decide) d9 rfl).trans (by simp)
 · exact(two 1 61 30 (by decide) rfl (by decide) d61 rfl).trans (by simp)
 · by_cases h:(c.fdiv 1000000000000000000000000000000).fmod 2=1
   · simp[cOf,P5,A0,Y2,p30,d30,h]
   · simp[cOf,P5,A0,Y2,p30,d30,h]
theorem SW(ns:aH)(a:Int)(n:Nat)(m:Int)(ha:0<=a)(hn:n<=1000)(h0:0<=m)(h3:m<3):Ei [.scr ns,.int a,.int n,.int m]=some (L (BJ ns a n m)):=by
 unfold Ei Jd;have q:j9 1 [0,1,3] (k9 (fN 2)) (Tg.one 0) fYes (f8 true K7 (b8 (f8 true o7 (b8 (fN 1) (b8 (fOp l9 (fN 2) (fN 0)) fNil))) (b8 (fN 3) fNil))) (rho0 4 [.scr ns,.int a,.int n,.int m])=some (.nw,L (BJ ns a n m)):=by
  have:=n8 (nt:=1) (js:=[0,1,3]) (Fi:=k9 (fN 2)) (g:=Tg.one 0) (Fe:=f8 true K7 (b8 (f8 true o7 (b8 (fN 1) (b8 (fOp l9 (fN 2) (fN 0)) fNil))) (b8 (fN 3) fNil))) (ρ:=rho0 4 [.scr ns,.int a,.int n,.int m]) (e:=λ(k:Nat) => .int (0+(k:Int))) (h:=λ(k:Nat) => .int (Ho (D3 ns (a+(k:Int))) m)) (xs:=List.range n)
   (by simp[cOf,k9,intD,Bx,C3,show(n:Int)<=1000000 by rfl',show -1000000<=(n:Int) by rfl'])
   (λk hk=>by simp[cOf,Tg.put,sigD,Ha,G9 ns (a+(k:Int)) (by rfl'),Kz _ m h0 h3])
  rw[this];simp[L,BJ]
 exact Ak rfl (f := .nw) (by unfold sRet;rw[q];rfl) rfl
theorem Dz(d:Dt):K3 [d]=some (.bl (isWh d)):=by
 unfold K3 AV;cases d<;>simp[cOf,isWh,Dt.flat,nrm]<;>simp[tyN,Dt.flat]
theorem QP(a:aH)(n:Int):BS [L a,.int n]=some (.bl (decide ((a.length:Int)=n))):=by
 unfold BS Fm;have q:j9 1 [] (iSeq (fN 0)) (Tg.one 0) fYes (f8 true K3 (b8 (fN 0) fNil)) [.sh false (L a),.sh false (.int n)]=some (.nw,.lst (a.map λ_ => .bl true)) :=
   n8 (e:=Dt.int) (h:=λ_ => .bl true) (xs:=a) (by simp[cOf]) (λx _=>by simp[cOf,Tg.put,sigD,Dz,isWh])
 by_cases h:(a.length:Int)=n
 · simp[cOf,C6,h,q,bAll,Cv (λ_=>true) a]
 · simp[cOf,C6,h]
theorem Mz(n:Nat)(h:n<=1000):Aq [.int n]=some (L (u6 n)):=by
 unfold Aq CD;have q:j9 1 [] (k9 (fN 0)) (Tg.one 0) fYes (fC (.int 0)) [.sh false (.int n)]=some (.nw,L (u6 n)):=by
  rw[n8 (e:=λ(k:Nat) => .int (0+(k:Int))) (h:=λ_ => .int 0) (xs:=List.range n) (by simp[cOf,k9,intD,Bx,C3,show(n:Int)<=1000000 by rfl',show -1000000<=(n:Int) by rfl']) (λx _=>by simp[cOf,Tg.put])];simp[L,u6,uY]
 simp[cOf,q]
theorem KA(a b:aH)(h:a.length=b.length):M9 [L a,L b]=some (L (addR a b)):=by
 unfold M9 Ja;have q:j9 2 [] (iZip (fN 0) (fN 1)) (Tg.many [0,1]) fYes (fOp l9 (fN 0) (fN 1)) [.sh false (L a),.sh false (L b)]=some (.nw,L (addR a b)):=by
  rw[n8 (e:=λp:Int×Int => .tup [.int p.1,.int p.2]) (h:=λp => .int (p.1+p.2)) (xs:=a.zip b) (by simp[cOf,iZip,h,ER]) (λp _=>by simp[cOf,Tg.put,R7,sigD]),Sv]
 simp[cOf,q]
theorem KB(a b:aH)(h:a.length=b.length):Ar [L a,L b]=some (L (subR a b)):=by
 unfold Ar Jb;have q:j9 2 [] (iZip (fN 0) (fN 1)) (Tg.many [0,1]) fYes (fOp L6 (fN 0) (fN 1)) [.sh false (L a),.sh false (L b)]=some (.nw,L (subR a b)):=by
  rw[n8 (e:=λp:Int×Int => .tup [.int p.1,.int p.2]) (h:=λp => .int (p.1-p.2)) (xs:=a.zip b) (by simp[cOf,iZip,h,ER]) (λp _=>by simp[cOf,Tg.put,R7,sigD]),QF]
 simp[cOf,q]
theorem K8(a:aH)(k:Int)(h:∀ x∈a,D1 k x=true):C7 [L a,.int k]=some (L (sclR k a)):=by
 unfold C7 Fn;have q:j9 1 [1] (iSeq (fN 0)) (Tg.one 0) fYes (fOp L7 (fN 1) (fN 0)) [.sh false (L a),.sh false (.int k)]=some (.nw,L (sclR k a)):=by
  rw[n8 (e:=Dt.int) (h:=λx => .int (k*x)) (xs:=a) (by simp[cOf]) (λx hx=>by simp[cOf,Tg.put,sigD,Ha,h x hx])];simp[L,sclR]
 simp[cOf,q]
theorem Jf(n:Nat)(h1:1<=n)(h2:n<=6):Q6 [.int n]=some (.bl true):=by
 unfold Q6 Y6;have e:=Dz (.int n);simp[cOf,e,isWh,IF,show(1:Int)<=n by rfl',show(n:Int)<=6 by rfl']
theorem GC(n:Nat)(h1:1<=n)(h2:n<=6):N0 [.int n]=some .non:=by
 unfold N0 V4;simp[cOf,Jf n h1 h2]
theorem MA(a:aH)(n:Nat)(hl:a.length=n)(h:∀ x∈a,x.natAbs<10 ^ 30):Au [L a,.int n]=some (.bl true):=by
 unfold Au CH;have e:=QP a n;have p30:Ey 10 30=true:=by unfold Ey;decide
 have q:j9 1 [] (iSeq (fN 0)) (Tg.one 0) fYes (fOp opLt (fBlt bAbs (b8 (fN 0) fNil)) (fOp GV (fC (.int 10)) (fC (.int 30)))) [.sh false (L a),.sh false (.int n)]=some (.nw,.lst (a.map λ_ => .bl true)) :=
  n8 (e:=Dt.int) (h:=λ_ => .bl true) (xs:=a) (by simp[cOf]) (λx hx=>by
   have:=h x hx;have:(if x<0 then -x else x)<1000000000000000000000000000000:=by split<;>rfl'
   simp[cOf,Tg.put,sigD,bAbs,p30,this])
 simp[cOf,e,hl,q,bAll,Cv (λ_=>true) a]
theorem Jg(a:aH)(n:Nat)(hl:a.length=n)(h:∀ x∈a,x.natAbs<10 ^ 30):G1 [L a,.int n]=some .non:=by
 unfold G1 Y7;simp[cOf,MA a n hl h]
theorem MB(k:Int)(rows:aA):Av [.int k,LL rows]=some (G6 k rows):=by
 unfold Av CI;have q:j9 1 [] (iSeq (fN 1)) (Tg.one 0) fYes (fBlt bTup (b8 (fN 0) fNil)) [.sh false (.int k),.sh false (LL rows)]=some (.nw,.lst (rows.map T)) :=
  n8 (e:=L) (h:=T) (xs:=rows) (by simp[cOf]) (λx hx=>by simp[cOf,Tg.put,sigD,bTup,O6])
 simp[cOf,q,bTup,Hn]
theorem MC(n:Nat)(bills:aA)(h1:1<=n)(h2:n<=6)(hm:bills.length<=8)(hw:Wide n bills)(hb:∀ r∈bills,∀ x∈r,x.natAbs<10 ^ 30):T3 [.int n,LL bills]=some (G6 n bills):=by
 unfold T3 CJ;obtain⟨j,q⟩:=Aj (g:=Tg.one 2) (F:=EI (f8 true G1 (b8 (fN 2) (b8 (fN 0) fNil)))) (e:=L) (R:=λ(_:Unit) (c:Cell)=>[.sh false (.int n),.sh false (LL bills),c]) (step:=λ_ _=>()) bills () .no
  (λb x j hx=>⟨.sh false (L x),by simp[cOf,Tg.put,Jg x n (hw x hx) (hb x hx)]⟩)
 have q:forF (Tg.one 2) (EI (f8 true G1 (b8 (fN 2) (b8 (fN 0) fNil)))) (bills.map L) [.sh false (.int n),.sh false (LL bills),.no]=some (.nx [.sh false (.int n),.sh false (LL bills),j]):=q;simp[cOf,GC n h1 h2,show ¬(8<(bills.length:Int)) by rfl',q,MB]
theorem QQ(n:Nat)(bills:aA)(h:n<=1000):T4 [G6 n bills]=some (L (u6 n)):=by
 unfold T4 Fo;simp[cOf,atI,ixN,Mz n h]
abbrev HF:FS:=sIf (k6 (fOp opNe (fN 2) (fC (.int 0)))) (sRet (fN 1)) A3
theorem HA(c0:Cell):∀(r:aH) (j:Nat) (c1 c2:Cell),(St.b7 r<r.length->forF (Tg.many [1,2]) HF (O3 j (r.map .int)) [c0,c1,c2]=some (.rt .nw (.int ((j+St.b7 r:Nat):Int)))) /\
  (¬St.b7 r<r.length->∃ c1' c2',forF (Tg.many [1,2]) HF (O3 j (r.map .int)) [c0,c1,c2]=some (.nx [c0,c1',c2']))
 | [],j,c1,c2=>⟨λh=>by simp[St.b7]at h,λ_=>⟨c1,c2,rfl⟩⟩
 | x::r,j,c1,c2=>by
  obtain⟨i1,i2⟩:=HA c0 r (j+1) (.sh false (.int j)) (.sh false (.int x));rw[wj,O3,F8];by_cases hx:x=0
  · have e:(Tg.put (Tg.many [1,2]) (.tup [.int j,.int x]) [c0,c1,c2]).bind HF=some (.nx [c0,.sh false (.int j),.sh false (.int x)]):=by simp[cOf,C6,hx]
    have eh:St.b7 (x::r)=St.b7 r+1:=by simp[St.b7,hx]
    rw[e,eh,wm];refine⟨λh=>?_,λh=>i2 (by rfl')⟩;have:=i1 (by rfl');rw[show j+(St.b7 r+1)=j+1+St.b7 r by rfl'];exact this
  · have e:(Tg.put (Tg.many [1,2]) (.tup [.int j,.int x]) [c0,c1,c2]).bind HF=some (.rt .nw (.int j)):=by simp[cOf,C6,hx]
    have eh:St.b7 (x::r)=0:=by simp[St.b7,hx]
    rw[e,eh,wm];exact⟨λ_=>rfl,λh=>absurd (Nat.succ_pos _) h⟩
theorem D4(r:aH):j7 [L r]=some (.int (St.b7 r)):=by
 unfold j7 CG;obtain⟨h1,h2⟩:=HA (.sh false (L r)) r 0 .no .no;have hl:=St.Al r;by_cases h:St.b7 r<r.length
 · have h1:=h1 h;simp only[wZ]at h1;simp[cOf,h1]
 · obtain⟨c1,c2,h2⟩:=h2 h;simp[cOf,h2,show St.b7 r=r.length by rfl']
theorem CO{r:aH}{k:Nat}(h:k<r.length):atI (r.map Dt.int) (k:Int)=some (.int (St.at0 r k)):=by
 rw[BK,Mq h];simp[St.at0,List.getD,wa h]
theorem VT(a b:aH)(q:Int):subR a (sclR q b)=St.sub a q b:=by
 unfold subR sclR St.sub;rw[WY]
theorem PM{r:aH}{x:Int}(h:x∈r):∃ k,St.at0 r k=x:=by
 obtain⟨k,hk,e⟩:=ug.mp h;exact⟨k,by simp[St.at0,List.getD,wa hk,e]⟩
theorem PN{x:Int}{m:Nat}(h:x.natAbs<2 ^ m):Builtin.Int.intBits x<=m:=ID h
theorem N6{i j:Int}{m k:Nat}(h1:i.natAbs<2 ^ m)(h2:j.natAbs<2 ^ k)(h:m+k<=134217728):D1 i j=true:=by
 unfold D1;rw[decide_eq_true (show Builtin.Int.intBits i+Builtin.Int.intBits j<=134217728 from by have:=PN h1;have:=PN h2;rfl')];rfl
theorem Ay{i j:Int}(h0:0<j)(h:j<2 ^ 9000):J5 i j=true:=by
 unfold J5;rw[decide_eq_true (show j≠0 by rfl'),decide_eq_true (show j.natAbs.log2<9000 from ?_)]
 · rfl
 · rw[uM (by rfl')];have:((2 ^ 9000:Nat):Int)=(2:Int) ^ 9000:=by norm_cast
   rfl'
abbrev LF:FS:=(sSeq (sSet [] 5 (f8 true j7 (b8 (fN 4) fNil)))
 (sSeq (sSet [] 6 (fOp X1 (fAt (fN 2) (fN 5)) (fAt (fN 4) (fN 5))))
 (sSeq (sIf (k6 (fOp opNe (fN 6) (fC (.int 0)))) (sSet [] 2 (f8 true Ar (b8 (fN 2) (b8 (f8 true C7 (b8 (fN 4) (b8 (fN 6) fNil))) fNil)))) A3)
 (sWr wApp 3 (fN 6)))))
theorem Fz{n m:Nat}(hm:2*m<=134217728)(c0 c1:Cell):∀(S:aA) (left:aH) (cs:aH) (c4 c5 c6:Cell),(∀ r∈S,r.length=n/\St.b7 r<n/\0<St.hd r/\St.hd r<2 ^ 9000)->left.length=n->St.LowB m left S->cs.length+S.length<=1000 ->
  ∃ c4' c5' c6',forF (Tg.one 4) LF (S.map L) [c0,c1,.sh true (L left),.ow true (cs.map .int),c4,c5,c6]=some (.nx [c0,c1,.sh true (L (St.d8 left S)),.ow true ((cs++St.ET left S).map .int),c4',c5',c6'])
 | [],left,cs,c4,c5,c6,_,_,_,_=>⟨c4,c5,c6,by simp[Sq,St.d8,St.ET]⟩
 | r::S,left,cs,c4,c5,c6,hr,hl,hb,hc=>by
  obtain⟨r1,r2,r3,r4⟩:=hr r wc;have hs:(St.sub left (St.m9 left r) r).length=n:=by rw[St.L3 (by rfl')];exact hl
  obtain⟨d4,d5,d6,ih⟩:=Fz hm c0 c1 S (St.sub left (St.m9 left r) r) (cs++[St.m9 left r]) (.sh false (L r)) (.sh true (.int (St.b7 r))) (.sh true (.int (St.m9 left r))) (λx hx=>hr x (wb _ hx)) hs hb.2 (by simp at hc ⊢;rfl');refine⟨d4,d5,d6,?_⟩;rw[wj,F8];have a1:=CO (r:=left) (k:=St.b7 r) (by rfl');have a2:=CO (r:=r) (k:=St.b7 r) (by rfl');have dv:J5 (St.at0 left (St.b7 r)) (St.at0 r (St.b7 r))=true:=Ay r3 r4;have ef:(St.at0 left (St.b7 r)).fdiv (St.at0 r (St.b7 r))=St.m9 left r:=rfl;have hcs:cs.length<1000000:=by simp at hc;rfl'
  have e:(Tg.put (Tg.one 4) (L r) [c0,c1,.sh true (L left),.ow true (cs.map .int),c4,c5,c6]).bind LF=some (.nx [c0,c1,.sh true (L (St.sub left (St.m9 left r) r)),.ow true ((cs++[St.m9 left r]).map .int),.sh false (L r),.sh true (.int (St.b7 r)),.sh true (.int (St.m9 left r))]):=by
   refine(show LF [c0,c1,.sh true (L left),.ow true (cs.map .int),.sh false (L r),c5,c6]=_ from run (ρ':=[c0,c1,.sh true (L left),.ow true (cs.map .int),.sh false (L r),.sh true (.int (St.b7 r)),c6]) (by simp[cOf,D4]) (run (ρ':=[c0,c1,.sh true (L left),.ow true (cs.map .int),.sh false (L r),.sh true (.int (St.b7 r)),.sh true (.int (St.m9 left r))]) (by simp[cOf,a1,a2,dv,ef]) (run (ρ':=[c0,c1,.sh true (L (St.sub left (St.m9 left r) r)),.ow true (cs.map .int),.sh false (L r),.sh true (.int (St.b7 r)),.sh true (.int (St.m9 left r))]) ?_ (by simp[cOf,hcs]))));by_cases ho:St.m9 left r=0
   · have es:St.sub left (St.m9 left r) r=left:=by rw[ho];exact St.sub_zero (by rfl')
     rw[es];simp[cOf,ho,C6]
   · have mo:∀ x∈r,D1 (St.m9 left r) x=true:=λx hx=>by
      obtain⟨k,rfl⟩:=PM hx;rcases hb.1 with h|⟨h1,h2⟩
      · exact absurd h ho
      · exact N6 h1 (h2 k) (by rfl')
     have e1:=K8 r (St.m9 left r) mo;have e2:=KB left (sclR (St.m9 left r) r) (by rw[T2];rfl');rw[VT]at e2;simp[cOf,ho,C6,e1,e2]
  rw[e];show forF (Tg.one 4) LF (S.map L) _=_;rw[ih,St.d8,St.ET];simp
def RowD(d:Dt)(v:aH):Prop:=d=L v\/d=T v
theorem KC{n m:Nat}(d:Dt)(v:aH)(S:aA)(hd:RowD d v)(hm:2*m<=134217728)(hr:∀ r∈S,r.length=n/\St.b7 r<n/\0<St.hd r/\St.hd r<2 ^ 9000)(hl:v.length=n)(hb:St.LowB m v S)(hc:S.length<=1000):
   V5 [d,LL S]=some (.tup [L (St.ET v S),L (St.d8 v S)]):=by
 unfold V5 AX;rcases hd with rfl|rfl
 · obtain⟨d4,d5,d6,q⟩:=Fz hm (.sh false (L v)) (.sh false (LL S)) S v [] .no .no .no hr hl hb (by simpa using hc);simp[cOf]at q ⊢;simp[q]
 · obtain⟨d4,d5,d6,q⟩:=Fz hm (.sh false (T v)) (.sh false (LL S)) S v [] .no .no .no hr hl hb (by simpa using hc);simp[cOf]at q ⊢;simp[q]
theorem V8{n m:Nat}(d:Dt)(v:aH)(S:aA)(hd:RowD d v)(hm:2*m<=134217728)(hr:∀ r∈S,r.length=n/\St.b7 r<n/\0<St.hd r/\St.hd r<2 ^ 9000)(hl:v.length=n)(hb:St.LowB m v S)(hc:S.length<=1000):
  n9 [d,LL S]=some (L (St.d8 v S)):=by
 have e:=KC d v S hd hm hr hl hb hc;have hn:nrm (flOf false) d=(if d.flat then .nw else .sh,d):=rfl;unfold n9 CL;rcases hd with rfl|rfl<;>simp[cOf,e,nrm_nw]
theorem QR{i j:Int}(h0:j≠0)(h:j.natAbs<2 ^ 9000):J5 i j=true:=by
 unfold J5;rw[decide_eq_true h0,decide_eq_true (show j.natAbs.log2<9000 from(uM (by rfl')).mpr h)];rfl
abbrev BC:FT:=k6 (fOp opNe (fAt (fN 3) (fC (.int 0))) (fC (.int 0)))
abbrev BF:FS:=(sSeq (sSet [] 4 (fOp X1 (fAt (fN 2) (fC (.int 0))) (fAt (fN 3) (fC (.int 0)))))
 (sSeq (sSet [] 5 (j9 1 [2,4,3] (k9 (fC (.int 3))) (Tg.one 0) fYes (fOp L6 (fAt (fN 1) (fN 0)) (fOp L7 (fN 2) (fAt (fN 3) (fN 0))))))
 (sSeq (sSet [] 2 (fN 3))
 (sSet [] 3 (fN 5)))))
theorem KD(c0 c1 c4 c5:Cell)(u0 u1 u2 l0 l1 l2:Int)(hl:l0≠0)(h:l0.natAbs<2 ^ 9000)(m0:D1 (u0.fdiv l0) l0=true)(m1:D1 (u0.fdiv l0) l1=true)(m2:D1 (u0.fdiv l0) l2=true):
  BF [c0,c1,.sh true (L [u0,u1,u2]),.sh true (L [l0,l1,l2]),c4,c5]=some (.nx [c0,c1,.sh true (L [l0,l1,l2]),.sh true (L [u0-u0.fdiv l0*l0,u1-u0.fdiv l0*l1,u2-u0.fdiv l0*l2]),.sh true (.int (u0.fdiv l0)),.sh true (L [u0-u0.fdiv l0*l0,u1-u0.fdiv l0*l1,u2-u0.fdiv l0*l2])]):=by
 have dv:=QR (i:=u0) hl h;have q:j9 1 [2,4,3] (k9 (fC (.int 3))) (Tg.one 0) fYes (fOp L6 (fAt (fN 1) (fN 0)) (fOp L7 (fN 2) (fAt (fN 3) (fN 0)))) [Bz c0,Bz c1,.sh true (L [u0,u1,u2]),.sh true (L [l0,l1,l2]),.sh true (.int (u0.fdiv l0)),Bz c5]=some (.nw,L [u0-u0.fdiv l0*l0,u1-u0.fdiv l0*l1,u2-u0.fdiv l0*l2]):=by
  rw[n8 (e:=λ(k:Nat) => .int (0+(k:Int))) (h:=λ(k:Nat) => .int ([u0,u1,u2].getD k 0-u0.fdiv l0*[l0,l1,l2].getD k 0)) (xs:=List.range 3) (by simp[cOf,show Bx 3=true from Mr (n:=3) (by decide),C3]) (λk hk=>by
   have hk:k<3:=wM.mp hk;have a1:=BL (xs:=[u0,u1,u2]) (i:=k) 0 hk;have a2:=BL (xs:=[l0,l1,l2]) (i:=k) 0 hk;have mk:D1 (u0.fdiv l0) ([l0,l1,l2].getD k 0)=true:=by
    have:k=0\/k=1\/k=2:=by rfl'
    rcases this with rfl|rfl|rfl
    · exact m0
    · exact m1
    · exact m2
   generalize [u0,u1,u2].getD k 0=uk at *;generalize [l0,l1,l2].getD k 0=lk at *;generalize [u0,u1,u2]=us at *;generalize [l0,l1,l2]=ls at *;simp[cOf,BK,a1,a2,mk])]
  rfl
 exact run (ρ':=[c0,c1,.sh true (L [u0,u1,u2]),.sh true (L [l0,l1,l2]),.sh true (.int (u0.fdiv l0)),c5]) (by simp[cOf,dv]) (run (ρ':=[c0,c1,.sh true (L [u0,u1,u2]),.sh true (L [l0,l1,l2]),.sh true (.int (u0.fdiv l0)),.sh true (L [u0-u0.fdiv l0*l0,u1-u0.fdiv l0*l1,u2-u0.fdiv l0*l2])]) (by simp[cOf,q]) (run (ρ':=[c0,c1,.sh true (L [l0,l1,l2]),.sh true (L [l0,l1,l2]),.sh true (.int (u0.fdiv l0)),.sh true (L [u0-u0.fdiv l0*l0,u1-u0.fdiv l0*l1,u2-u0.fdiv l0*l2])]) (by simp[cOf]) (by simp[cOf])))
theorem KE{a b:Int}{e:Nat}(he:e<=9000)(ha:a.natAbs<2 ^ e)(hb:b.natAbs<2 ^ e)(c0 c1:Cell):∀(k:Nat) (u0 u1 u2 l0 l1 l2:Int) (c4 c5:Cell),Br.BI a b u0 u1 u2 l0 l1 l2->l0.natAbs<=k ->
 ∃ v0 v1 v2 w1 w2 d4 d5,C1 BC BF (k+1) [c0,c1,.sh true (L [u0,u1,u2]),.sh true (L [l0,l1,l2]),c4,c5]=some (.nx [c0,c1,.sh true (L [v0,v1,v2]),.sh true (L [0,w1,w2]),d4,d5])/\Br.BI a b v0 v1 v2 0 w1 w2:=by
 intro k
 induction k using vy with
 | _ k IH =>
 intro u0 u1 u2 l0 l1 l2 c4 c5 B hk;have hc:BC [c0,c1,.sh true (L [u0,u1,u2]),.sh true (L [l0,l1,l2]),c4,c5]=some (!decide (l0=0)):=by simp[cOf,C6]
 rw[C1,hc,C2];by_cases hl:l0=0
 · subst hl;exact⟨u0,u1,u2,l1,l2,c4,c5,by simp,B⟩
 · have p3:2 ^ (e+3)=8*2 ^ e:=by rw[Wz];rfl'
   obtain⟨z1,z2,z3,z4⟩:=Br.Pu u0 l0 hl;have c1':=B.c1;have c2':=B.c2;have b3:=B.b3;have b4:=B.b4;have hq:(u0.fdiv l0).natAbs<2 ^ (e+3):=by
    have:1*(u0.fdiv l0).natAbs<=l0.natAbs*(u0.fdiv l0).natAbs:=wA _ (by rfl');rw[WG l0.natAbs]at this;rfl'
   have h9:(2:Nat) ^ e<=2 ^ 9000:=wv (by decide) he;have st:=KD c0 c1 c4 c5 u0 u1 u2 l0 l1 l2 hl (by rfl') (N6 hq (show l0.natAbs<2 ^ (e+3) by rfl') (by rfl')) (N6 hq (show l1.natAbs<2 ^ (e+3) by rfl') (by rfl')) (N6 hq (show l2.natAbs<2 ^ (e+3) by rfl') (by rfl'));cases k with
   | zero=>rfl'
   | succ k =>
    obtain⟨v0,v1,v2,w1,w2,d4,d5,ih,B'⟩:=IH k (wR k) _ _ _ _ _ _ (.sh true (.int (u0.fdiv l0))) (.sh true (L [u0-u0.fdiv l0*l0,u1-u0.fdiv l0*l1,u2-u0.fdiv l0*l2])) (B.turn hl) (by rfl');refine⟨v0,v1,v2,w1,w2,d4,d5,?_,B'⟩;rw[st];simp only[hl,decide_false,Bool.not_false,if_true,C2];exact ih
theorem QS(a b:Int)(e:Nat)(he:e<=9000)(ha:a.natAbs<2 ^ e)(hb:b.natAbs<2 ^ e):∃ x y,Fq [.int a,.int b]=some (T [(vo a b:Int),x,y])/\a*x+b*y=vo a b/\x.natAbs<=a.natAbs+2*b.natAbs+1/\y.natAbs<=a.natAbs+2*b.natAbs+1:=by
 obtain⟨v0,v1,v2,w1,w2,d4,d5,lp,B⟩:=KE he ha hb (.sh false (.int a)) (.sh false (.int b)) b.natAbs a 1 0 b 0 1 .no .no (Br.BI.start a b) (wf _);have lp:=Af lp;have fin:=B.fin;have up:=B.up;have b1:=B.b1;have b2:=B.b2;have pre:∀{r:Option Oc},(sSeq (sIf (k6 (fOp opLt (fAt (fN 2) (fC (.int 0))) (fC (.int 0)))) (sSet [] 2 (j9 1 [] (iSeq (fN 2)) (Tg.one 0) fYes (fNeg (fN 0)))) A3) (sRet (fBlt bTup (b8 (fN 2) fNil)))) [.sh false (.int a),.sh false (.int b),.sh true (L [v0,v1,v2]),.sh true (L [0,w1,w2]),d4,d5]=r->Fp (rho0 6 [.int a,.int b])=r:=λh=>run (ρ':=[.sh false (.int a),.sh false (.int b),.sh true (L [a,1,0]),.no,.no,.no]) (by simp[cOf,L]) (run (ρ':=[.sh false (.int a),.sh false (.int b),.sh true (L [a,1,0]),.sh true (L [b,0,1]),.no,.no]) (by simp[cOf,L]) (run lp h));have at0:atI ([v0,v1,v2].map Dt.int) 0=some (.int v0):=rfl;by_cases h0:v0<0
 · refine⟨-v1,-v2,?_,by rw[uP,uP];rfl',by rfl',by rfl'⟩;have q:j9 1 [] (iSeq (fN 2)) (Tg.one 0) fYes (fNeg (fN 0)) [.sh false (.int a),.sh false (.int b),.sh true (L [v0,v1,v2]),.sh true (L [0,w1,w2]),Bz d4,Bz d5]=some (.nw,L [-v0,-v1,-v2]):=by
    rw[n8 (e:=Dt.int) (h:=λx => .int (-x)) (xs:=[v0,v1,v2]) (by simp[cOf,L]) (λx hx=>by simp[cOf])];rfl
   have e0:(vo a b:Int) = -v0:=by rfl'
   rw[e0];refine Ak (f := .nw) rfl (pre (run (ρ':=[.sh false (.int a),.sh false (.int b),.sh true (L [-v0,-v1,-v2]),.sh true (L [0,w1,w2]),d4,d5]) ?_ (by simp[cOf,T]))) rfl;generalize [v0,v1,v2]=vs at *;simp[cOf,at0,h0,q]
 · refine⟨v1,v2,?_,by rfl',by rfl',by rfl'⟩;have e0:(vo a b:Int)=v0:=by rfl'
   rw[e0];refine Ak (f := .nw) rfl (pre (run (ρ':=[.sh false (.int a),.sh false (.int b),.sh true (L [v0,v1,v2]),.sh true (L [0,w1,w2]),d4,d5]) ?_ (by simp[cOf,T]))) rfl;generalize [v0,v1,v2]=vs at *;simp[cOf,at0,h0]
theorem VU(a b:aH)(x y:Int):addR (sclR x a) (sclR y b)=St.lin x a y b:=by
 unfold addR sclR St.lin;rw[uL]
theorem SX(a b:aH)(x y:Int):subR (sclR x a) (sclR y b)=St.lin x a (-y) b:=by
 unfold subR sclR St.lin;rw[uL];congr 1
 funext p q
 rw[vK];rfl'
theorem Ek{q:Int}{r:aH}{m k:Nat}(h1:q.natAbs<2 ^ m)(h2:St.Lt (2 ^ k) r)(h:m+k<=134217728):∀ x∈r,D1 q x=true:=λx hx=>by
 obtain⟨i,rfl⟩:=PM hx;exact N6 h1 (h2 i) h
theorem MD{n e q:Nat}(r left:aH)(hr:r.length=n)(hl:left.length=n)(hh:St.b7 r<n)(hp:0<St.hd r)(h1:St.hd r<2 ^ e)(h2:0<=St.at0 left (St.b7 r))(h3:St.at0 left (St.b7 r)<St.hd r)(he:e<=8990)(s1:St.Lt (2 ^ q) r)(s2:St.Lt (2 ^ q) left)(hq:q<=100000000):
  ∃ g x y,N5 [L r,L left]=some (.tup [L (St.o9 r left x y),L (St.B6 r left g)])/\0<g/\g∣St.hd r/\g∣St.at0 left (St.b7 r)/\St.hd r*x+St.at0 left (St.b7 r)*y=g/\x.natAbs<2 ^ (e+2)/\y.natAbs<2 ^ (e+2):=by
 have cast:((2 ^ e:Nat):Int)=(2:Int) ^ e:=by norm_cast
 have a1:(St.hd r).natAbs<2 ^ e:=by rfl'
 have a2:(St.at0 left (St.b7 r)).natAbs<2 ^ e:=by rfl'
 obtain⟨x,y,eb,exy,bx,bY⟩:=QS (St.hd r) (St.at0 left (St.b7 r)) e (by rfl') a1 a2;have g0:0<vo (St.hd r) (St.at0 left (St.b7 r)):=Int.gcd_pos_of_ne_zero_left _ (by rfl');have d1:(vo (St.hd r) (St.at0 left (St.b7 r)):Int)∣St.hd r:=Int.gcd_dvd_left _ _;have d2:(vo (St.hd r) (St.at0 left (St.b7 r)):Int)∣St.at0 left (St.b7 r):=Int.gcd_dvd_right _ _;generalize eg:(vo (St.hd r) (St.at0 left (St.b7 r)):Int)=g at *;have g0:0<g:=by rfl'
 have p2:2 ^ (e+2)=4*2 ^ e:=by rw[Wz];rfl'
 have x1:x.natAbs<2 ^ (e+2):=by rfl'
 have y1:y.natAbs<2 ^ (e+2):=by rfl'
 refine⟨g,x,y,?_,g0,d1,d2,exy,x1,y1⟩;have gle:g<=St.hd r:=Int.le_of_dvd hp d1;have g9:g<2 ^ 9000:=by
  have h9:(2:Nat) ^ e<=2 ^ 9000:=wv (by decide) (by rfl');have:((2 ^ 9000:Nat):Int)=(2:Int) ^ 9000:=by norm_cast
  rfl'
 have dv1:J5 (St.hd r) g=true:=Ay g0 g9;have dv2:J5 (St.at0 left (St.b7 r)) g=true:=Ay g0 g9;have k1:((St.hd r).fdiv g).natAbs<2 ^ (e+2):=by have:=St.BN (St.hd r) g0;rfl'
 have k2:((St.at0 left (St.b7 r)).fdiv g).natAbs<2 ^ (e+2):=by have:=St.BN (St.at0 left (St.b7 r)) g0;rfl'
 have t1:=CO (r:=r) (k:=St.b7 r) (by rfl');have t2:=CO (r:=left) (k:=St.b7 r) (by rfl');have t1:atI (r.map Dt.int) (St.b7 r:Int)=some (.int (St.hd r)):=t1;have e1:=K8 r x (Ek x1 s1 (by rfl'));have e2:=K8 left y (Ek y1 s2 (by rfl'));have e3:=K8 left ((St.hd r).fdiv g) (Ek k1 s2 (by rfl'));have e4:=K8 r ((St.at0 left (St.b7 r)).fdiv g) (Ek k2 s1 (by rfl'));have e5:=KA (sclR x r) (sclR y left) (by rw[T2,T2];rfl');have e6:=KB (sclR ((St.hd r).fdiv g) left) (sclR ((St.at0 left (St.b7 r)).fdiv g) r) (by rw[T2,T2];rfl');rw[VU]at e5;rw[SX]at e6;have hT:T [g,x,y] = .tup [.int g,.int x,.int y]:=rfl;have nT:∀ f,nrm f (.tup [.int g,.int x,.int y])=(.nw,.tup [.int g,.int x,.int y]):=λf=>nrm_T f [g,x,y];rw[hT]at eb;unfold N5 CM;have eL:St.B6 r left g=St.lin ((St.hd r).fdiv g) left (-((St.at0 left (St.b7 r)).fdiv g)) r:=rfl;simp[cOf,D4,t1,t2,eb,nT,dv1,dv2,e1,e2,e3,e4,e5,e6,St.o9,eL]
theorem Jh{n q:Nat}(left:aH)(hl:left.length=n)(hh:St.b7 left<n):B5 [L left]=some (L (if St.at0 left (St.b7 left)<0 then sclR (-1) left else left)):=by
 have t2:=CO (r:=left) (k:=St.b7 left) (by rfl');have e1:=K8 left (-1) (λx _=>M8 (by decide));unfold B5 Y8;by_cases h:St.at0 left (St.b7 left)<0
 · simp[cOf,D4,t2,h,e1]
 · simp[cOf,D4,t2,h,Cu]
def E2(S:aA):aA:=(M7 (S.map λr=>((St.b7 r:Int),r))).map (·.2)
theorem BU(S:aA):(E2 S).Perm S:=by
 have:=(F5 (S.map λr=>((St.b7 r:Int),r))).map (·.2);rw[wF]at this;have e:S.map ((λx:Int×aH=>x.2)∘λr=>((St.b7 r:Int),r))=S:=by
  have:((λx:Int×aH=>x.2)∘λr:aH=>((St.b7 r:Int),r))=id:=rfl;rw[this,uN]
 rw[e]at this;exact this
theorem FD(S:aA)(hn:(S.map St.b7).Nodup):((E2 S).map St.b7).Pairwise (·<·):=by
 have h1:((E2 S).map St.b7).Pairwise (·<=·):=by
  have q:=U7 (S.map λr=>((St.b7 r:Int),r));have mem:∀ p∈M7 (S.map λr=>((St.b7 r:Int),r)),p.1=(St.b7 p.2:Int):=λp hp=>by
   obtain⟨r,_,rfl⟩:=wg.mp ((F5 _).mem_iff.mp hp);rfl
  unfold E2;rw[wF,Wo];refine List.Pairwise.imp_of_mem (λ{a b} ha hb hab=>?_) q;have e1:=mem a ha;have e2:=mem b hb;show St.b7 a.2<=St.b7 b.2;have hab:a.1<=b.1:=hab;rfl'
 have h2:((E2 S).map St.b7).Nodup:=((BU S).map St.b7).nodup_iff.mpr hn;exact(List.pairwise_and_iff.mpr ⟨h1,h2⟩).imp λ{a b} ⟨p,q⟩=>by rfl'
theorem FG:∀ S:aA,M2 j7 (S.map L)=some (S.map λr=>(St.b7 r:Int))
 | []=>rfl
 | r::S=>by rw[wj,M2,D4,FG S];rfl
theorem QT(S:aA):(M7 ((S.map λr=>(St.b7 r:Int)).zip (S.map L))).map (·.2)=(E2 S).map L:=by
 have e:(S.map λr=>(St.b7 r:Int)).zip (S.map L)=(S.map λr=>((St.b7 r:Int),r)).map λq=>(q.1,L q.2):=by
  rw[List.zip_map,wF];have:S.zip S=S.map λr=>(r,r):=by
   induction S with
   | nil=>rfl
   | cons r S ih=>rw[List.zip_cons_cons,ih];rfl
  rw[this,wF];rfl
 rw[e,Ag];unfold E2;rw[wF,wF];rfl
def AL:Nat->aA->List (Nat×aH)
 | _,[]=>[]
 | j,r::S=>(j,r)::AL (j+1) S
theorem HB:∀(j:Nat) (S:aA),O3 j (S.map L)=(AL j S).map λp => .tup [.int p.1,L p.2]
 | j,[]=>rfl
 | j,r::S=>by rw[wj,O3,AL,wj,HB (j+1) S]
theorem Bc(h:Nat):∀(j:Nat) (S:aA),(∀ r∈S,St.b7 r≠h)->(AL j S).filter (λp=>decide (St.b7 p.2=h))=[]
 | j,[],_=>rfl
 | j,r::S,q=>by
  rw[AL,vU,Bc h (j+1) S λx hx=>q x (wb _ hx)];simp[q r wc]
theorem HC(h:Nat):∀(j:Nat) (S1:aA) (r:aH) (S2:aA),St.b7 r=h->((S1++r::S2).map St.b7).Pairwise (·<·)->(AL j (S1++r::S2)).filter (λp=>decide (St.b7 p.2=h))=[(j+S1.length,r)]
 | j,[],r,S2,hr,pw=>by
  rw[VY]at pw ⊢;rw[wj,wU]at pw;rw[AL,vU,Bc h (j+1) S2 λx hx=>by have:=pw.1 _ (wg.mpr ⟨x,hx,rfl⟩);rfl'];simp[hr]
 | j,x::S1,r,S2,hr,pw=>by
  rw[vP]at pw ⊢;rw[wj,wU]at pw;have hx:=pw.1 (St.b7 r) (wg.mpr ⟨r,by simp,rfl⟩);rw[AL,vU,HC h (j+1) S1 r S2 hr pw.2];simp[show St.b7 x≠h by rfl'];rfl'
theorem HD(S:aA)(left:aH)(c0 c1 c4 c5:Cell)(f:Bool):j9 2 [3] (BB (fN 2)) (Tg.many [0,1]) (k6 (fOp opEq (f8 true j7 (b8 (fN 1) fNil)) (f8 true j7 (b8 (fN 2) fNil)))) (fN 0) [c0,c1,.ow f (S.map L),.sh true (L left),c4,c5] =
   some (.nw,.lst (((AL 0 S).filter λp=>decide (St.b7 p.2=St.b7 left)).map λp => .int (p.1:Int))):=by
 refine IT (e:=λp:Nat×aH => .tup [.int p.1,L p.2]) (h:=λp => .int (p.1:Int)) (p:=λp=>decide (St.b7 p.2=St.b7 left)) (xs:=AL 0 S) ?_ (λx hx=>?_) (λx hx _=>?_)
 · cases f<;>simp[cOf,HB]
 · simp[cOf,D4,A0];rfl'
 · simp[cOf]
abbrev WC:FT:=k6 (fOp opLt (f8 true j7 (b8 (fN 3) fNil)) (fBlt bLen (b8 (fN 3) fNil)))
abbrev WF:FS:=(sSeq (Q1 4 (j9 2 [3] (BB (fN 2)) (Tg.many [0,1]) (k6 (fOp opEq (f8 true j7 (b8 (fN 1) fNil)) (f8 true j7 (b8 (fN 2) fNil)))) (fN 0)))
 (sSeq (sIf (k6 (fOp opEq (fBlt bLen (b8 (fN 4) fNil)) (fC (.int 0)))) (sRet (AS j7 (fOp l9 (fN 2) (fLst (b8 (f8 true B5 (b8 (fN 3) fNil)) fNil))))) A3)
 (sSeq (Q1 5 (f8 true N5 (b8 (fAt (fN 2) (fAt (fN 4) (fC (.int 0)))) (b8 (fN 3) fNil))))
 (sSeq (sPut 2 (fAt (fN 4) (fC (.int 0))) (fAt (fN 5) (fC (.int 0))))
 (Q1 3 (f8 true n9 (b8 (fAt (fN 5) (fC (.int 1))) (b8 (fN 2) fNil))))))))
theorem SY(S:aA)(t:aH)(h:S.length<60):l9 (.lst (S.map L)) (.lst [L t])=some (newL ((S++[t]).map L)):=by
 have:l9 (.lst (S.map L)) (.lst [L t])=Bs (.lst (S.map L)) (.lst [L t]):=rfl;rw[this,Bs,if_pos (by simp;rfl')];simp
theorem SZ(S:aA)(left t:aH)(c0 c1 c4 c5:Cell)(f:Bool)(hn:∀ r∈S,St.b7 r≠St.b7 left)(ht:B5 [L left]=some (L t))(hh:((S++[t]).map St.b7).Nodup)(h60:S.length<60):
  ∃ fl,WF [c0,c1,.ow f (S.map L),.sh true (L left),c4,c5]=some (.rt fl (LL (E2 (S++[t])))):=by
 have pl:=HD S left c0 c1 c4 c5 f;rw[Bc _ 0 S hn]at pl;have st:AS j7 (fOp l9 (fN 2) (fLst (b8 (f8 true B5 (b8 (fN 3) fNil)) fNil))) [c0,c1,.ow f (S.map L),.sh true (L left),.sh true (.lst []),c5]=some (newL ((E2 (S++[t])).map L)):=by
  have e1:fOp l9 (fN 2) (fLst (b8 (f8 true B5 (b8 (fN 3) fNil)) fNil)) [c0,c1,.ow f (S.map L),.sh true (L left),.sh true (.lst []),c5]=some (newL ((S++[t]).map L)):=by
   have:=SY S t h60;simp[cOf,ht,this]
  unfold AS;rw[e1];have k1:=FG (S++[t]);have nd:((S++[t]).map λr=>(St.b7 r:Int)).Nodup:=by
   have:((S++[t]).map λr=>(St.b7 r:Int))=((S++[t]).map St.b7).map (λn:Nat=>(n:Int)):=by rw[wF];rfl
   rw[this];exact List.Pairwise.map _ (λa b hab e=>hab (by rfl')) hh
  show(M2 j7 ((S++[t]).map L)).bind _=_;rw[k1,C2,if_pos ⟨by simp;rfl',nd⟩,QT]
 refine⟨lfl ((E2 (S++[t])).map L),?_⟩;have e1:Q1 4 (j9 2 [3] (BB (fN 2)) (Tg.many [0,1]) (k6 (fOp opEq (f8 true j7 (b8 (fN 1) fNil)) (f8 true j7 (b8 (fN 2) fNil)))) (fN 0)) [c0,c1,.ow f (S.map L),.sh true (L left),c4,c5]=some (.nx [c0,c1,.ow f (S.map L),.sh true (L left),.sh true (.lst []),c5]):=by
  unfold Q1;rw[pl];rfl
 refine run e1 ?_;have e2:sIf (k6 (fOp opEq (fBlt bLen (b8 (fN 4) fNil)) (fC (.int 0)))) (sRet (AS j7 (fOp l9 (fN 2) (fLst (b8 (f8 true B5 (b8 (fN 3) fNil)) fNil))))) A3 [c0,c1,.ow f (S.map L),.sh true (L left),.sh true (.lst []),c5]=some (.rt (lfl ((E2 (S++[t])).map L)) (LL (E2 (S++[t])))):=by
  have c:k6 (fOp opEq (fBlt bLen (b8 (fN 4) fNil)) (fC (.int 0))) [c0,c1,.ow f (S.map L),.sh true (L left),.sh true (.lst []),c5]=some true:=by simp[cOf,A0]
  unfold sIf;rw[c,C2,if_pos rfl,sRet,st];rfl
 unfold sSeq;rw[e2];rfl
theorem ME(S1 S2:aA)(r left up lo:aH)(c0 c1 c4 c5:Cell)(f:Bool)(hh:St.b7 r=St.b7 left)(pw:((S1++r::S2).map St.b7).Pairwise (·<·))(hc:N5 [L r,L left]=some (.tup [L up,L lo]))(res:aH)(hl:n9 [L lo,LL (S1++up::S2)]=some (L res)):
   ∃ d4 d5,WF [c0,c1,.ow f ((S1++r::S2).map L),.sh true (L left),c4,c5]=some (.nx [c0,c1,.ow f ((S1++up::S2).map L),.sh true (L res),d4,d5]):=by
 have pl:=HD (S1++r::S2) left c0 c1 c4 c5 f;rw[HC _ 0 S1 r S2 hh pw]at pl;have pl:j9 2 [3] (BB (fN 2)) (Tg.many [0,1]) (k6 (fOp opEq (f8 true j7 (b8 (fN 1) fNil)) (f8 true j7 (b8 (fN 2) fNil)))) (fN 0) [c0,c1,.ow f ((S1++r::S2).map L),.sh true (L left),c4,c5]=some (.nw,.lst [.int (S1.length:Int)]):=by rw[pl];simp
 refine⟨.sh true (.lst [.int (S1.length:Int)]),.sh true (.tup [L up,L lo]),?_⟩;have at1:atI ((S1++r::S2).map L) (S1.length:Int)=some (L r):=Ab (by simp);have ix:ixN ((S1++r::S2).map L).length (S1.length:Int)=some S1.length:=by
   unfold ixN;rw[if_pos (by rfl'),if_pos (by simp;rfl')];simp
 have set1:((S1++r::S2).map L).set S1.length (L up)=(S1++up::S2).map L:=by
   rw[wI,wI,List.set_append];simp
 have hl:n9 [L lo,.lst ((S1++up::S2).map L)]=some (L res):=hl;generalize (S1++r::S2).map L=D at *;generalize (S1++up::S2).map L=D' at *;have e1:Q1 4 (j9 2 [3] (BB (fN 2)) (Tg.many [0,1]) (k6 (fOp opEq (f8 true j7 (b8 (fN 1) fNil)) (f8 true j7 (b8 (fN 2) fNil)))) (fN 0)) [c0,c1,.ow f D,.sh true (L left),c4,c5]=some (.nx [c0,c1,.ow f D,.sh true (L left),.sh true (.lst [.int (S1.length:Int)]),c5]):=by
   unfold Q1;rw[pl];rfl
 refine run e1 (run (ρ':=[c0,c1,.ow f D,.sh true (L left),.sh true (.lst [.int (S1.length:Int)]),c5]) ?_ (run (ρ':=[c0,c1,.ow f D,.sh true (L left),.sh true (.lst [.int (S1.length:Int)]),.sh true (.tup [L up,L lo])]) ?_ (run (ρ':=[c0,c1,.ow f D',.sh true (L left),.sh true (.lst [.int (S1.length:Int)]),.sh true (.tup [L up,L lo])]) ?_ ?_)))
 · simp[cOf,A0]
 · simp[cOf,at1,hc]
 · simp[cOf,ix,set1]
 · simp[cOf,hl]
theorem QU(S:aA)(h:Nat):(∀ r∈S,St.b7 r≠h)\/∃ S1 r S2,S=S1++r::S2/\St.b7 r=h:=by
 by_cases q:∃ r∈S,St.b7 r=h
 · obtain⟨r,hr,e⟩:=q;obtain⟨S1,S2,rfl⟩:=uA hr;exact .inr ⟨S1,r,S2,rfl,e⟩
 · exact .inl λr hr e=>q ⟨r,hr,e⟩
theorem BV{n e:Nat}{S:aA}(A:St.Asc n 0 S)(hd:∀ r∈S,St.hd r<2 ^ e)(he:e<=8990):∀ r∈S,r.length=n/\St.b7 r<n/\0<St.hd r/\St.hd r<2 ^ 9000:=λr hr=>by
 have q:=A.mem hr;refine⟨q.1,q.2.2.1,q.2.2.2,?_⟩;have h1:=hd r hr;have h9:(2:Nat) ^ e<=2 ^ 9000:=wv (by decide) (by rfl');have c1:((2 ^ 9000:Nat):Int)=(2:Int) ^ 9000:=by norm_cast
 have c2:((2 ^ e:Nat):Int)=(2:Int) ^ e:=by norm_cast
 rfl'
structure Sz(n e eh m0 kk:Nat):Prop where
 n20:n<=20
 e90:eh<=8990
 ehe:eh<=e
 e33:e<=33000
 m0e:m0=e+20*(e+1)
 kke:kk=2*e+3+20*(e+1)
theorem Sz.lim{n e eh m0 kk:Nat}(z:Sz n e eh m0 kk):m0+n*kk<=16000000:=by
 have h1:=z.n20;have h2:=z.e33;have h3:=z.m0e;have h4:=z.kke;have:n*kk<=20*kk:=wA _ h1;rfl'
theorem VV{n e eh m0 kk:Nat}(z:Sz n e eh m0 kk)(S0:aA)(v:aH)(h20:S0.length<=20)(c0 c1:Cell)(f:Bool):∀(k:Nat) (S:aA) (left:aH) (c4 c5:Cell),St.Wi n e eh m0 kk S0 v S left->n-St.b7 left<=k ->
 (∃ S' left' c4' c5',C1 WC WF (k+1) [c0,c1,.ow f (S.map L),.sh true (L left),c4,c5]=some (.nx [c0,c1,.ow f (S'.map L),.sh true (L left'),c4',c5'])/\St.Post n (e+3+(m0+n*kk)) S0 v S') \/
 (∃ S' fl,C1 WC WF (k+1) [c0,c1,.ow f (S.map L),.sh true (L left),c4,c5]=some (.rt fl (LL S'))/\St.Post n (e+3+(m0+n*kk)) S0 v S'):=by
 intro k
 induction k using vy with
 | _ k IH =>
 intro S left c4 c5 I hk;have lim:=z.lim;have hlen:S.length=S0.length:=by have:=congrArg List.length I.heads;simpa using this
 have hc:WC [c0,c1,.ow f (S.map L),.sh true (L left),c4,c5]=some (decide (St.b7 left<n)):=by
   have:(decide ((St.b7 left:Int)<(left.length:Int)))=decide (St.b7 left<n):=by
     have:=I.len;by_cases h:St.b7 left<n
     · rw[decide_eq_true h,decide_eq_true (by rfl')]
     · rw[decide_eq_false h,decide_eq_false (by rfl')]
   simp[cOf,D4,this];have:=I.len;rfl'
 rw[C1,hc,C2];by_cases hn:St.b7 left<n
 · rw[decide_eq_true hn,if_pos rfl];rcases QU S (St.b7 left)with no|⟨S1,r,S2,rfl,hr⟩
   · right;have ht:=Jh (n:=n) (q:=0) left I.len hn;generalize et:(if St.at0 left (St.b7 left)<0 then sclR (-1) left else left)=t at ht;have hne:St.at0 left (St.b7 left)≠0:=St.BM left (by rw[I.len];exact hn)
     have tc:∃ c:Int,(c=1∨c = -1)∧(∀ k,St.at0 t k=c*St.at0 left k)∧0<St.at0 t (St.b7 left)∧t.length=n:=by
       by_cases h:St.at0 left (St.b7 left)<0
       · rw[if_pos h]at et;subst et;have e1:∀ k,St.at0 (sclR (-1) left) k = -1*St.at0 left k:=λk=>by
          simp only[St.at0,sclR,List.getD,wq];cases left[k]?<;>simp
         exact⟨-1,.inr rfl,e1,by rw[e1];rfl',by rw[T2];exact I.len⟩
       · rw[if_neg h]at et;subst et;exact⟨1,.inl rfl,λk=>by rfl',by rfl',I.len⟩
     obtain⟨c,hc1,hc2,hc3,hc4⟩:=tc;have th:St.b7 t=St.b7 left:=St.F9 _ _ (λk hk=>by rw[hc2,St.o6 left k hk];simp) (by rfl');have nd:((S++[t]).map St.b7).Nodup:=by
       rw[wI,Wy];refine⟨(St.Asc.iff.mp I.asc).2.imp λ{a b} h=>by rfl',by simp,λa ha b hb=>?_⟩;obtain⟨x,hx,rfl⟩:=wg.mp ha;have:=no x hx;have hb:b=St.b7 t:=by simpa using hb
       rfl'
     obtain⟨fl,ew⟩:=SZ S left t c0 c1 c4 c5 f no ht nd (by rfl');refine⟨E2 (S++[t]),fl,by rw[ew];rfl,?_⟩;refine I.new hn no hc4 c hc1 hc2 hc3 ?_ (FD _ nd);exact(BU _).trans (List.perm_append_comm)
   · have hm:r∈S1++r::S2:=by simp
     have q:=I.asc.mem hm;have hcast:((2 ^ e:Nat):Int)=(2:Int) ^ e:=by norm_cast
     have hle:m0+St.b7 left*kk<=m0+n*kk:=by have:=wA kk (Ws hn);rfl'
     obtain⟨g,x,y,ec,hg,ga,gb,hxy,hx,hy⟩:=MD (n:=n) (e:=eh) (q:=e+3+(m0+St.b7 left*kk)) r left q.1 I.len q.2.2.1 q.2.2.2 (I.hds r hm) (I.low r hm).1 (I.low r hm).2 z.e90 (I.all r hm) (I.size.mono (wv (by decide) (by rfl'))) (by have:=z.e33;rfl');have hl2:S1.length+S2.length+1<=20:=by simp at hlen;rfl'
     obtain⟨I',hlt,lb,hds'⟩:=I.step hr hn hg ga gb hxy (wt hx (wv (by decide) (by have:=z.ehe;rfl'))) (wt hy (wv (by decide) (by have:=z.ehe;rfl'))) (by have:=z.m0e;rfl') (by
       have:=z.kke;have:(S1.length+S2.length+1)*(e+1)<=20*(e+1):=wA _ hl2;rfl')
     have el:=V8 (n:=n) (m:=m0+n*kk) (L (St.B6 r left g)) (St.B6 r left g) (S1++St.o9 r left x y::S2) (.inl rfl) (by rfl') (BV I'.asc hds' z.e90) (by
       unfold St.B6;rw[St.Ee (by rw[I.len,q.1])];exact I.len) lb (by simp;rfl')
     obtain⟨d4,d5,ew⟩:=ME S1 S2 r left _ _ c0 c1 c4 c5 f hr (St.Asc.iff.mp I.asc).2 ec _ el;cases k with
     | zero=>rfl'
     | succ k =>
       rcases IH k (wR k) _ _ d4 d5 I' (by rfl') with⟨S',l',d4',d5',h1,h2⟩|⟨S',fl,h1,h2⟩
       · exact .inl ⟨S',l',d4',d5',by rw[ew];exact h1,h2⟩
       · exact .inr ⟨S',fl,by rw[ew];exact h1,h2⟩
 · rw[decide_eq_false hn];exact .inl ⟨S,left,c4,c5,rfl,I.done hn⟩
theorem KF{n e eh m0 kk:Nat}(z:Sz n e eh m0 kk)(S:aA)(d:Dt)(v:aH)(hd:RowD d v)(A:St.Asc n 0 S)(hv:v.length=n)(h0:∀ r∈S,St.Lt (2 ^ e) r)(hh:∀ r∈S,St.hd r<2 ^ eh)(hs:St.Lt (2 ^ e) v)(h20:S.length<=20):
   ∃ S',K4 [LL S,d]=some (LL S')/\St.Post n (e+3+(m0+n*kk)) S v S':=by
 have lim:=z.lim;have hm0:=z.m0e;have hml:e+S.length*(e+1)<=m0:=by have:S.length*(e+1)<=20*(e+1):=wA _ h20;rfl'
 obtain⟨I,lb⟩:=St.Wi.start (n:=n) (e:=e) (eh:=eh) (s:=e) (m0:=m0) (kk:=kk) A hv h0 hh hs hml (by rfl');have el:=V8 (n:=n) (m:=m0) d v S hd (by rfl') (BV A I.hds z.e90) hv lb (by rfl');have el:n9 [d,.lst (S.map L)]=some (L (St.d8 v S)):=el;have fl:∃ f:Bool,∀ d0:Dt,sOwn 2 (fBlt bLst (b8 (fN 0) fNil)) [.sh false (LL S),.sh false d0,.no,.no,.no,.no]=some (.nx [.sh false (LL S),.sh false d0,.ow f (S.map L),.no,.no,.no]):=by
   cases S with
   | nil=>exact⟨true,λd0=>by simp[cOf]⟩
   | cons r S=>exact⟨false,λd0=>by simp[cOf,newL,lfl]⟩
 obtain⟨f,hf⟩:=fl;have hb:∀ o,O1 WC WF [.sh false (LL S),.sh false d,.ow f (S.map L),.sh true (L (St.d8 v S)),.no,.no]=some o->(∃ S' fl,seqO (sRet (fN 2)) o=some (.rt fl (LL S'))/\St.Post n (e+3+(m0+n*kk)) S v S')->∃ S',K4 [LL S,d]=some (LL S')/\St.Post n (e+3+(m0+n*kk)) S v S':=by
   rintro o ho ⟨S',fl,h1,h2⟩;refine⟨S',?_,h2⟩;have e2:Q1 3 (f8 true n9 (b8 (fN 1) (b8 (fN 2) fNil))) [.sh false (LL S),.sh false d,.ow f (S.map L),.no,.no,.no]=some (.nx [.sh false (LL S),.sh false d,.ow f (S.map L),.sh true (L (St.d8 v S)),.no,.no]):=by
    rcases hd with rfl|rfl<;>simp[cOf,el]
   have q:P1 [.sh false (LL S),.sh false d,.no,.no,.no,.no]=some (.rt fl (LL S')):=by
    unfold P1;refine run (hf d) (run e2 ?_);show(O1 WC WF _).bind (seqO (sRet (fN 2)))=_;rw[ho];exact h1
   unfold K4 cOf;rw[if_pos (show[LL S,d].length=2 from rfl)];show(P1 [.sh false (LL S),.sh false d,.no,.no,.no,.no]).bind _=_;rw[q];rfl
 rcases VV z S v h20 (.sh false (LL S)) (.sh false d) f (n-St.b7 (St.d8 v S)) S (St.d8 v S) .no .no I (wf _) with⟨S',l',d4',d5',h1,h2⟩|⟨S',fl,h1,h2⟩
 · exact hb _ (Af h1) ⟨S',flOf f,rfl,h2⟩
 · exact hb _ (Af h1) ⟨S',fl,rfl,h2⟩
theorem DA:∀(A T:aA),∃ A',St.even (A++T)=A'++St.even T
 | [],T=>⟨[],rfl⟩
 | r::A,T=>by
  obtain⟨A',e⟩:=DA A T;exact⟨St.d8 r (St.even (A++T))::A',by rw[vP,St.even,e];rfl⟩
theorem FH{n:Nat}:∀{f:Nat} {A T:aA},St.Asc n f (A++T)->St.Asc n 0 T
 | f,[],T,h=>h.weak (wx _)
 | f,r::A,T,h=>FH (A:=A) h.2.2.2.2
abbrev EF:FS:=sWrA EJ 1 (f8 true n9 (b8 (fN 2) (b8 (fN 1) fNil)))
theorem PO{n e eh u:Nat}(he:eh<=8990)(he3:e<=33000)(hu:u<=17000000)(c0:Cell)(S:aA)(A:St.Asc n 0 S)(hs:∀ r∈S,St.Lt (2 ^ u) r)(hE:∀ r∈St.even S,St.Lt (2 ^ e) r)(hH:∀ r∈St.even S,St.hd r<2 ^ eh)(h20:S.length<=21)(heu:e<=u):
  ∀(R T:aA) (c2:Cell),S=R.reverse++T->∃ c2',forF (Tg.one 2) EF (R.map L) [c0,.ow true ((St.even T).map L),c2]=some (.nx [c0,.ow true ((St.even S).map L),c2'])
 | [],T,c2,h=>⟨c2,by rw[h];rfl⟩
 | r::R,T,c2,h=>by
  have h':S=R.reverse++(r::T):=by rw[h];simp
  obtain⟨c2',ih⟩:=PO he he3 hu c0 S A hs hE hH h20 heu R (r::T) (.sh false (L r)) h';refine⟨c2',?_⟩;rw[wj,F8];have hlen:T.length+1<=21:=by have:=congrArg List.length h';simp at this;rfl'
  have rm:r∈S:=by rw[h'];simp
  have AT:St.Asc n 0 T:=FH (A:=R.reverse++[r]) (by rw[We];show St.Asc n 0 (R.reverse++(r::T));rw[←h'];exact A);have AE:=(St.N4 AT).1;obtain⟨A',ea⟩:=DA (R.reverse++[r]) T;have sub:∀ x∈St.even T,x∈St.even S:=λx hx=>by
   rw[h',show R.reverse++(r::T)=(R.reverse++[r])++T by simp,ea];exact wl.mpr (.inr hx)
  have hE':∀ x∈St.even T,St.Lt (2 ^ e) x:=λx hx=>hE x (sub x hx);have hel:(St.even T).length<=20:=by rw[St.O9];rfl'
  have hmul:(St.even T).length*(e+1)<=20*(e+1):=wA _ hel;obtain⟨_,lb⟩:=St.G0 (n:=n) (t:=0) (s:=u) (e:=e) (m:=u+20*(e+1)) (S:=St.even T) (left:=r) (λx hx=>⟨(AE.mem hx).1,(AE.mem hx).2.2.2⟩) (A.mem rm).1 (λk hk=>by rfl') (λx hx _=>hE' x hx) (hs r rm) (by rfl') (by rfl');have el:=V8 (n:=n) (m:=u+20*(e+1)) (L r) r (St.even T) (.inl rfl) (by rfl') (BV AE (λx hx=>hH x (sub x hx)) he) (A.mem rm).1 lb (by rfl');have el:n9 [L r,.lst ((St.even T).map L)]=some (L (St.d8 r (St.even T))):=el;have e1:(Tg.put (Tg.one 2) (L r) [c0,.ow true ((St.even T).map L),c2]).bind EF=some (.nx [c0,.ow true (L (St.d8 r (St.even T))::(St.even T).map L),.sh false (L r)]):=by
   simp[cOf,el,show(St.even T).length<1000000 by rfl']
  rw[e1];exact ih
theorem QV{n e eh u:Nat}(S:aA)(he:eh<=8990)(he3:e<=33000)(hu:u<=17000000)(A:St.Asc n 0 S)(hs:∀ r∈S,St.Lt (2 ^ u) r)(hE:∀ r∈St.even S,St.Lt (2 ^ e) r)(hH:∀ r∈St.even S,St.hd r<2 ^ eh)(h20:S.length<=21)(heu:e<=u):Y9 [LL S]=some (LL (St.even S)):=by
 obtain⟨c2,q⟩:=PO he he3 hu (.sh false (LL S)) S A hs hE hH h20 heu S.reverse [] .no (by simp);have q:forF (Tg.one 2) EF (S.map L).reverse [.sh false (LL S),.ow true [],.no]=some (.nx [.sh false (LL S),.ow true ((St.even S).map L),c2]):=by rw[←List.map_reverse];exact q
 unfold Y9 Ft;simp[cOf,q]
abbrev CF:FS:=sSet [] 1 (f8 true Y9 (b8 (f8 false K4 (b8 (fN 1) (b8 (fN 2) fNil))) fNil))
theorem FJ{n e eh B:Nat}(ed:aH->Dt)(hed:∀ r,RowD (ed r) r)(hn:n<=20)(he:eh<=8990)(hee:eh<=e)(he3:e<=33000)(all:aA)(hl:∀ r∈all,r.length=n)(hb:∀ r∈all,St.Lt B r)(hB:0<B)(hBe:B<=2 ^ e)(hbn:∀ k,k<=all.length->St.bnd k B+1<=2 ^ e)(hH:∀ k S,k<=all.length->St.Good n B (all.take k) S->∀ r∈S,St.hd r<2 ^ eh)(h20:all.length<=20)(c0:Cell):
  ∀(todo done:aA) (S:aA) (c2:Cell),all=done++todo->St.Good n B done S->∃ S' c2',forF (Tg.one 2) CF (todo.map ed) [c0,.sh true (LL S),c2]=some (.nx [c0,.sh true (LL S'),c2'])/\St.Good n B all S'
 | [],done,S,c2,h,G=>⟨S,c2,rfl,by rw[h,Wp];exact G⟩
 | v::todo,done,S,c2,h,G=>by
  have z:Sz n e eh (e+20*(e+1)) (2*e+3+20*(e+1)):=⟨hn,he,hee,he3,rfl,rfl⟩;have hdn:all.take done.length=done:=by rw[h];simp
  have hdv:all.take (done.length+1)=done++[v]:=by rw[h,List.take_append,Wt (by rfl')];simp
  have hld:done.length+1+todo.length=all.length:=by rw[h];simp;rfl'
  have hv:v∈all:=by rw[h];simp
  have sub:∀ r∈done,r∈all:=λr hr=>by rw[h];exact wl.mpr (.inl hr)
  have small:=G.small (λr hr=>hb r (sub r hr)) hB;have len:=G.len;have small:∀ r∈S,St.Lt (2 ^ e) r:=λr hr=>(small r hr).mono (hbn _ (by rfl'));obtain⟨S1,e1,P⟩:=KF z S (ed v) v (hed v) G.asc (hl v hv) small (hH done.length S (by rfl') (by rw[hdn];exact G)) ((hb v hv).mono hBe) (by rfl');have G':=G.step P;have small':=G'.small (λr hr=>by
   rcases wl.mp hr with hr|hr
   · exact hb r (sub r hr)
   · rw[wu.mp hr];exact hb v hv) hB
  have len':=G'.len;have len2:(done++[v]).length=done.length+1:=by simp
  have small':∀ r∈St.even S1,St.Lt (2 ^ e) r:=λr hr=>(small' r hr).mono (hbn _ (by rfl'));have lim:=z.lim;have e2:=QV (n:=n) (e:=e) (u:=e+3+(e+20*(e+1)+n*(2*e+3+20*(e+1)))) S1 he he3 (by rfl') P.asc P.size small' (hH (done.length+1) _ (by rfl') (by rw[hdv];exact G')) (by rw[←St.O9];rfl') (by rfl');obtain⟨S',c2',ih,GG⟩:=FJ ed hed hn he hee he3 all hl hb hB hBe hbn hH h20 c0 todo (done++[v]) (St.even S1) (.sh false (ed v)) (by rw[h];simp) G';refine⟨S',c2',?_,GG⟩;rw[wj,F8];have st:(Tg.put (Tg.one 2) (ed v) [c0,.sh true (LL S),c2]).bind CF=some (.nx [c0,.sh true (LL (St.even S1)),.sh false (ed v)]):=by
   have sn:∀ f,(nrm f (ed v)).2=ed v:=λf=>rfl;simp[cOf,sn,e1,e2]
  rw[st];exact ih
theorem KG{n e eh B:Nat}(ed:aH->Dt)(hed:∀ r,RowD (ed r) r)(hn:n<=20)(he:eh<=8990)(hee:eh<=e)(he3:e<=33000)(rows:aA)(d:Dt)(hd:d = .lst (rows.map ed)\/d = .tup (rows.map ed))(hl:∀ r∈rows,r.length=n)(hb:∀ r∈rows,St.Lt B r)(hB:0<B)(hBe:B<=2 ^ e)(hbn:∀ k,k<=rows.length->St.bnd k B+1<=2 ^ e)(hH:∀ k S,k<=rows.length->St.Good n B (rows.take k) S->∀ r∈S,St.hd r<2 ^ eh)(h20:rows.length<=20):
   ∃ S,T5 [d]=some (LL S)/\St.Good n B rows S:=by
 obtain⟨S,c2,q,G⟩:=FJ ed hed hn he hee he3 rows hl hb hB hBe hbn hH h20 (.sh false d) rows [] [] .no rfl St.Good.nil;refine⟨S,?_,G⟩;have q:forF (Tg.one 2) CF (rows.map ed) [.sh false d,.sh true (.lst []),.no]=some (.nx [.sh false d,.sh true (LL S),c2]):=q;unfold T5 CN;rcases hd with rfl|rfl
 · simp[cOf,q]
 · simp[cOf,q]
theorem MF{n e B:Nat}(ed:aH->Dt)(hed:∀ r,RowD (ed r) r)(hn:n<=20)(he:e<=8990)(rows:aA)(d:Dt)(hd:d = .lst (rows.map ed)\/d = .tup (rows.map ed))(hl:∀ r∈rows,r.length=n)(hb:∀ r∈rows,St.Lt B r)(hB:0<B)(hBe:B<=2 ^ e)(hbn:∀ k,k<=rows.length->St.bnd k B+1<=2 ^ e)(h20:rows.length<=20):
 ∃ S,T5 [d]=some (LL S)/\St.Good n B rows S:=KG (eh:=e) ed hed hn he (wf _) (by rfl') rows d hd hl hb hB hBe hbn (λk S hk G r hr=>by
 have q:=G.small (λr hr=>hb r (List.mem_of_mem_take hr)) hB r hr (St.b7 r);have l:=G.len;have b:=hbn S.length (by rw[Ww]at l;rfl');have q:(St.hd r).natAbs<St.bnd S.length B+1:=q;have c2:((2 ^ e:Nat):Int)=(2:Int) ^ e:=by norm_cast
 rfl') h20
theorem Ta{n e B:Nat}(k:Int)(bills:aA)(hn:n<=20)(he:e<=8990)(hl:∀ r∈bills,r.length=n)(hb:∀ r∈bills,St.Lt B r)(hB:0<B)(hBe:B<=2 ^ e)(hbn:∀ k,k<=bills.length->St.bnd k B+1<=2 ^ e)(h20:bills.length<=20):
  ∃ S,F2 [G6 k bills]=some (LL S)/\St.Good n B bills S:=by
 obtain⟨S,q,G⟩:=MF (n:=n) (e:=e) (B:=B) T (λr => .inr rfl) hn he bills (TTu bills) (.inr rfl) hl hb hB hBe hbn h20;refine⟨S,?_,G⟩;unfold F2 Jc;simp[cOf,q]
def HE(xs:aH):Int:=xs.foldl (λt x=>t*x) 1
theorem MG{e:Nat}(xs:aH)(h:∀ x∈xs,x.natAbs<2 ^ e)(he:e*(xs.length+1)<=1000000):Aw [L xs]=some (.int (HE xs)):=by
 have key:∀(ys:aH) (t:Int) (k:Nat) (c0 c2:Cell) (f:Bool),(∀ x∈ys,x.natAbs<2 ^ e)->t.natAbs<2 ^ k->k+e*(ys.length+1)<=2000000->∃ f' c2',forF (Tg.one 2) (sSet [] 1 (fOp L7 (fN 1) (fN 2))) (ys.map Dt.int) [c0,.sh f (.int t),c2]=some (.nx [c0,.sh f' (.int (ys.foldl (λt x=>t*x) t)),c2']):=by
  intro ys
  induction ys with
  | nil=>intro t k c0 c2 f _ _ _;exact⟨f,c2,rfl⟩
  | cons y ys ih =>
   intro t k c0 c2 f hy ht hk;have e1:e*(ys.length+1+1)=e*(ys.length+1)+e:=Nat.mul_succ _ _;rw[wm,e1]at hk;have m:D1 t y=true:=Mp ht (hy y wc) (by rfl');have b:(t*y).natAbs<2 ^ (k+e):=by rw[wS,Wz];exact vR ht (hy y wc)
   obtain⟨f',c2',q⟩:=ih (t*y) (k+e) c0 (.sh false (.int y)) true (λx hx=>hy x (wb _ hx)) b (by rfl');refine⟨f',c2',?_⟩;rw[wj,F8,uZ,←q];have s:(Tg.put (Tg.one 2) (.int y) [c0,.sh f (.int t),c2]).bind (sSet [] 1 (fOp L7 (fN 1) (fN 2)))=some (.nx [c0,.sh true (.int (t*y)),.sh false (.int y)]):=by
    simp[cOf,m]
   rw[s];rfl
 obtain⟨f',c2',q⟩:=key xs 1 1 (.sh false (L xs)) .no true h (by decide) (by rfl');unfold Aw CK;have q:forF (Tg.one 2) (sSet [] 1 (fOp L7 (fN 1) (fN 2))) (xs.map Dt.int) [.sh false (L xs),.sh true (.int 1),.no]=some (.nx [.sh false (L xs),.sh f' (.int (HE xs)),c2']):=q;simp[cOf,q]
theorem MH(d:Dt):E1 [d]=some (.bl (isWh d)):=by
 unfold E1 Ax;cases d<;>simp[cOf,isWh,Dt.flat,nrm]<;>simp[tyN,Dt.flat]
theorem DB(a:aH)(n:Int):P4 [L a,.int n]=some (.bl (decide ((a.length:Int)=n))):=by
 unfold P4 Ba;obtain⟨j,q⟩:=Aj (g:=Tg.one 2) (F:=sIf (fNot (fTru (f8 true E1 (b8 (fN 2) fNil)))) (sRet (fC (.bl false))) A3) (e:=Dt.int) (R:=λ(_:Unit) (c:Cell)=>[.sh false (L a),.sh false (.int n),c]) (step:=λ_ _=>()) a () .no
   (λb x j hx=>⟨.sh false (.int x),by simp[cOf,Tg.put,MH,isWh]⟩)
 have q:forF (Tg.one 2) (sIf (fNot (fTru (f8 true E1 (b8 (fN 2) fNil)))) (sRet (fC (.bl false))) A3) (a.map Dt.int) [.sh false (L a),.sh false (.int n),.no]=some (.nx [.sh false (L a),.sh false (.int n),j]):=q;by_cases h:(a.length:Int)=n
 · simp[cOf,C6,h,q]
 · simp[cOf,C6,h]
theorem Ji{r:aH}{k:Nat}(h:k<r.length):atI (r.map Dt.int) (k:Int)=some (.int (St.at0 r k)):=by
 rw[BK,Mq h];simp[St.at0,List.getD,wa h]
theorem KH(r:aH):∀(m k:Nat),r.length-k<=m->k<=St.b7 r->(∀ j,j<k->St.at0 r j=0)->C1 (fAnd (k6 (fOp opLt (fN 1) (fBlt bLen (b8 (fN 0) fNil)))) (k6 (fOp opEq (fAt (fN 0) (fN 1)) (fC (.int 0))))) (sSet [] 1 (fOp l9 (fN 1) (fC (.int 1)))) (m+1) [.sh false (L r),.sh true (.int k)]=some (.nx [.sh false (L r),.sh true (.int (St.b7 r))]):=by
 intro m
 induction m using vy with
 | _ m IH =>
 intro k hm hk hz;have hl:=St.Al r;rw[C1];by_cases h:k<r.length
 · have a:=Ji h;by_cases h0:St.at0 r k=0
   · have ne:k≠St.b7 r:=λe=>St.BM r (by rfl') (by rw[←e];exact h0);cases m with
     | zero=>rfl'
     | succ m =>
      have ih:=IH m (wR m) (k+1) (by rfl') (by rfl') (λj hj=>by
       by_cases q:j=k
       · rw[q];exact h0
       · exact hz j (by rfl'))
      rw[show((k+1:Nat):Int)=(k:Int)+1 by rfl']at ih;simp[cOf,a,h,h0,A0];exact ih
   · have e:k=St.b7 r:=(St.F9 r k hz h0).symm;simp[cOf,a,h,h0,A0];rfl'
 · simp[cOf,h];rfl'
theorem QW(r:aH):Z2 [L r]=some (.int (St.b7 r)):=by
 have q:=Af (KH r r.length 0 (by rfl') (wx _) (λj hj=>by rfl'));have q:O1 _ _ [.sh false (L r),.sh true (.int 0)]=_:=q;unfold Z2 Fw;simp[cOf,q]
theorem QX(a b:aH)(k:Int)(hl:a.length=b.length)(hs:a.length<=1000)(h:∀ x∈b,D1 k x=true):Z1 [L a,L b,.int k]=some (L (addR a (sclR k b))):=by
 unfold Z1 Fv;have q:j9 1 [0,2,1] (k9 (fBlt bLen (b8 (fN 0) fNil))) (Tg.one 0) fYes (fOp l9 (fAt (fN 1) (fN 0)) (fOp L7 (fN 2) (fAt (fN 3) (fN 0)))) [.sh false (L a),.sh false (L b),.sh false (.int k)]=some (.nw,L (addR a (sclR k b))):=by
  rw[n8 (e:=λ(j:Nat) => .int (0+(j:Int))) (h:=λ(j:Nat) => .int (a.getD j 0+k*b.getD j 0)) (xs:=List.range a.length) (by simp[cOf,k9,intD,Mr (show a.length<=1000000 by rfl'),C3]) (λj hj=>by
   have hj:=wM.mp hj;have e1:=BL (xs:=a) 0 hj;have e2:=BL (xs:=b) (i:=j) 0 (by rfl');have e3:=h _ (Sx 0 (show j<b.length by rfl'));simp[cOf,Tg.put,sigD,Ha,BK,e1,e2,e3,-List.getD_eq_getElem?_getD]),Sw (λj=>a.getD j 0+k*b.getD j 0),addscl a b k hl]
 simp[cOf,q]
structure Hall(n:Nat)(bills:aA):Prop where
 n1:1<=n
 n6:n<=6
 m8:bills.length<=8
 wide:∀ r∈bills,r.length=n
 small:∀ r∈bills,∀ x∈r,x.natAbs<10 ^ 30
theorem Hall.lt{n:Nat}{bills:aA}(H:Hall n bills):∀ r∈bills,St.Lt (10 ^ 30) r:=λr hr=>St.QI (by decide) (H.small r hr)
theorem MI{n:Nat}{bills:aA}(H:Hall n bills):∃ S,F2 [G6 n bills]=some (LL S)/\St.Good n (10 ^ 30) bills S/\∀ r∈S,St.Lt (2 ^ 900) r:=by
 have m8:=H.m8;have n6:=H.n6;obtain⟨S,es,G⟩:=Ta (n:=n) (e:=900) (B:=10 ^ 30) n bills (by rfl') (by rfl') H.wide H.lt (by decide) (by decide) (λk hk=>St.bnd30 k (by rfl')) (by rfl');have:=G.len;exact⟨S,es,G,λr hr=>(G.small H.lt (by decide) r hr).mono (St.bnd30 _ (by rfl'))⟩
theorem hd_lt{n e:Nat}{S:aA}(A:St.Asc n 0 S)(h:∀ r∈S,St.Lt (2 ^ e) r):∀ r∈S,St.hd r<2 ^ e:=λr hr=>by
 have h1:=h r hr (St.b7 r);have h3:(St.hd r).natAbs<2 ^ e:=h1;have:((2 ^ e:Nat):Int)=(2:Int) ^ e:=by norm_cast
 rfl'
theorem Jj{n e s:Nat}{S:aA}{v:aH}(A:St.Asc n 0 S)(h:∀ r∈S,St.Lt (2 ^ e) r)(he:e<=8990)(hv:v.length=n)(hs:St.Lt (2 ^ s) v)(h20:S.length<=20)(hsl:s<=1000000):
  (∀ r∈S,r.length=n/\St.b7 r<n/\0<St.hd r/\St.hd r<2 ^ 9000)/\St.LowB (s+20*(e+1)) v S/\2*(s+20*(e+1))<=134217728/\S.length<=1000/\St.Lt (2 ^ (s+20*(e+1))) (St.d8 v S):=by
 have hm:S.length*(e+1)<=20*(e+1):=wA _ h20;obtain⟨z1,z2⟩:=St.G0 (n:=n) (t:=0) (s:=s) (e:=e) (m:=s+20*(e+1)) (S:=S) (left:=v) (λr hr=>⟨(A.mem hr).1,(A.mem hr).2.2.2⟩) hv (λk hk=>by rfl') (λr hr _=>h r hr) hs (by rfl') (by rfl');exact⟨BV A (hd_lt A h) he,z2,by rfl',by rfl',z1.mono (wv (by decide) (by rfl'))⟩
theorem copies(bills:aA)(ρ:Rho)(F:FE)(f:Fl)(h:F ρ=some (f,LL bills)):j9 1 [] (iSeq F) (Tg.one 0) fYes (fBlt bLst (b8 (fN 0) fNil)) ρ=some (.nw,LL bills) :=
 n8 (e:=L) (h:=L) (xs:=bills) (by unfold iSeq;rw[h];rfl) (λx hx=>by simp[cOf])
theorem Tb(n:Nat)(hn:n<=1000)(ρ:Rho)(F:FE)(f:Fl)(h:F ρ=some (f,.int n)):j9 1 [] (k9 F) (Tg.one 0) fYes (fC (.int 0)) ρ=some (.nw,L (u6 n)):=by
 rw[n8 (e:=λ(k:Nat) => .int (0+(k:Int))) (h:=λ_ => .int 0) (xs:=List.range n) (by unfold k9;rw[h];simp[cOf,y13 n (by rfl'),C3]) (λx _=>by simp[cOf])];simp[L,u6,uY]
theorem Hall.made{n:Nat}{bills:aA}(H:Hall n bills):T3 [.int n,LL bills]=some (G6 n bills):=MC n bills H.n1 H.n6 H.m8 H.wide H.small
theorem KI(a b:aH)(q:Int):addR a (sclR (-q) b)=St.sub a q b:=by
 unfold addR sclR St.sub;rw[WY];congr 1
 funext x y
 rw[vK];rfl'
abbrev LfF:FS:=(sSeq (sSet [] 4 (f8 true Z2 (b8 (fN 3) fNil)))
 (sSet [] 2 (f8 true Z1 (b8 (fN 2) (b8 (fN 3) (b8 (fNeg (fOp X1 (fAt (fN 2) (fN 4)) (fAt (fN 3) (fN 4)))) fNil))))))
theorem HG{n m:Nat}(hn:n<=1000)(hm:2*m<=134217728)(c0 c1:Cell):∀(S:aA) (left:aH) (c3 c4:Cell),(∀ r∈S,r.length=n/\St.b7 r<n/\0<St.hd r/\St.hd r<2 ^ 9000)->left.length=n->St.LowB m left S ->
  ∃ c3' c4',forF (Tg.one 3) LfF (S.map L) [c0,c1,.sh true (L left),c3,c4]=some (.nx [c0,c1,.sh true (L (St.d8 left S)),c3',c4'])
 | [],left,c3,c4,_,_,_=>⟨c3,c4,rfl⟩
 | r::S,left,c3,c4,hr,hl,hb=>by
  obtain⟨r1,r2,r3,r4⟩:=hr r wc;have hs:(St.sub left (St.m9 left r) r).length=n:=by rw[St.L3 (by rfl')];exact hl
  obtain⟨d3,d4,ih⟩:=HG hn hm c0 c1 S (St.sub left (St.m9 left r) r) (.sh false (L r)) (.sh true (.int (St.b7 r))) (λx hx=>hr x (wb _ hx)) hs hb.2;refine⟨d3,d4,?_⟩;rw[wj,F8];have a1:=Ji (r:=left) (k:=St.b7 r) (by rfl');have a2:=Ji (r:=r) (k:=St.b7 r) (by rfl');have dv:J5 (St.at0 left (St.b7 r)) (St.at0 r (St.b7 r))=true:=Ay r3 r4;have ef:(St.at0 left (St.b7 r)).fdiv (St.at0 r (St.b7 r))=St.m9 left r:=rfl;have mo:∀ x∈r,D1 (-(St.m9 left r)) x=true:=λx hx=>by
   obtain⟨k,rfl⟩:=SG hx;rcases hb.1 with h|⟨h1,h2⟩
   · rw[h];exact M8 (by decide)
   · exact N6 (m:=m) (by rfl') (h2 k) (by rfl')
  have pl:=QX left r (-(St.m9 left r)) (by rfl') (by rfl') mo;rw[KI]at pl;have e:(Tg.put (Tg.one 3) (L r) [c0,c1,.sh true (L left),c3,c4]).bind LfF=some (.nx [c0,c1,.sh true (L (St.sub left (St.m9 left r) r)),.sh false (L r),.sh true (.int (St.b7 r))]):=by
   simp[cOf,QW,a1,a2,dv,ef,pl]
  rw[e];exact ih
theorem CP{n m:Nat}(v:aH)(S:aA)(hn:n<=1000)(hm:2*m<=134217728)(hr:∀ r∈S,r.length=n/\St.b7 r<n/\0<St.hd r/\St.hd r<2 ^ 9000)(hl:v.length=n)(hb:St.LowB m v S):G8 [LL S,L v]=some (L (St.d8 v S)):=by
 obtain⟨d3,d4,q⟩:=HG hn hm (.sh false (LL S)) (.sh false (L v)) S v .no .no hr hl hb;unfold G8 Fx;simp[cOf,q]
theorem DC{ds:List Dt}{d:Dt}(e:K6 ds=some d):Ks K5 F2 C0 T4 M9 n9 ds d:=by
 unfold K6 at e;split at e
 · rename_i h;cases e;exact Wc h
 · cases e
theorem CQ{n:Nat}{S:aA}(A:St.Asc n 0 S)(hs:∀ r∈S,St.Lt (2 ^ 900) r)(h20:S.length<=20):F1 [LL S]=some (.int (HE (S.map St.hd))):=by
 have key:j9 1 [] (iSeq (fN 0)) (Tg.one 0) fYes (fAt (fN 0) (f8 true j7 (b8 (fN 0) fNil))) [.sh false (LL S)]=some (.nw,L (S.map St.hd)):=by
  rw[n8 (e:=L) (h:=λr => .int (St.hd r)) (xs:=S) (by simp[cOf]) (λr hr=>by
   have a:=CO (r:=r) (k:=St.b7 r) (by rw[(A.mem hr).1];exact(A.mem hr).2.2.1);have a:atI (r.map Dt.int) (St.b7 r:Int)=some (.int (St.hd r)):=a;simp[cOf,D4,a])]
  simp[L]
 have pe:=MG (e:=900) (S.map St.hd) (λx hx=>by
  obtain⟨r,hr,rfl⟩:=wg.mp hx;exact hs r hr _) (by rw[we];rfl')
 unfold F1 M4;generalize S.map St.hd=xs at *;simp[cOf,key,pe]
theorem DD{n:Nat}{bills S:aA}(es:F2 [G6 n bills]=some (LL S))(A:St.Asc n 0 S)(hs:∀ r∈S,St.Lt (2 ^ 900) r)(h20:S.length<=20):P2 [G6 n bills]=some (if S.length<n then .non else .int (HE (S.map St.hd))):=by
 have e:=CQ A hs h20;unfold P2 AY;by_cases h:S.length<n
 · simp[cOf,es,h]
 · simp[cOf,es,h,e]
theorem KJ(m j:Nat)(hm:m<=1000):P0 [.int m,.int j]=some (L (St.A4 m j)):=by
 unfold P0 AW;have q:j9 1 [1] (k9 (fN 0)) (Tg.one 0) fYes (fIf (k6 (fOp opEq (fN 0) (fN 1))) (fC (.int 1)) (fC (.int 0))) [.sh false (.int m),.sh false (.int j)]=some (.nw,L (St.A4 m j)):=by
  rw[n8 (e:=λ(k:Nat) => .int (0+(k:Int))) (h:=λk => .int (if k=j then 1 else 0)) (xs:=List.range m) (by simp[cOf,y13 m (by rfl'),C3]) (λk _=>by
   by_cases h:k=j
   · simp[cOf,A0,h]
   · simp[cOf,A0,h,show ¬(k:Int)=(j:Int) by rfl'])]
  rw[Sw (λk=>if k=j then 1 else 0)];rfl
 simp[cOf,q]
theorem cat_LL(a b:aA)(h:a.length+b.length<=1000):∃ f,l9 (LL a) (LL b)=some (f,LL (a++b)):=by
 have e1:(a.map L).length+(b.map L).length<=1000000:=by simp;rfl'
 have:l9 (.lst (a.map L)) (.lst (b.map L))=Bs (.lst (a.map L)) (.lst (b.map L)):=rfl;show ∃ f,l9 (.lst (a.map L)) (.lst (b.map L))=_;rw[this];unfold Bs;simp only[if_pos e1,←wI];exact⟨_,rfl⟩
theorem DE{S:aA}(h:∀ r∈S,0<St.hd r):HE (S.map St.hd)=(Lat.prod (C4 S):Int):=by
 have key:∀(S:aA) (t:Int),(∀ r∈S,0<St.hd r)->(S.map St.hd).foldl (λt x=>t*x) t=t*(Lat.prod (C4 S):Int):=by
  intro S
  induction S with
  | nil=>intro t _;show t=t*((1:Nat):Int);rfl'
  | cons r S ih =>
   intro t h;have p:=h r wc;show(S.map St.hd).foldl (λt x=>t*x) (t*St.hd r)=t*(((St.hd r).toNat*Lat.prod (C4 S):Nat):Int);rw[ih _ λx hx=>h x (wb _ hx),Int.natCast_mul,Int.toNat_of_nonneg (by rfl'),vL]
 unfold HE;rw[key S 1 h,Int.one_mul]
theorem KL{n:Nat}{bills S:aA}(es:F2 [G6 n bills]=some (LL S))(A:St.Asc n 0 S)(hs:∀ r∈S,St.Lt (2 ^ 900) r)(hl:S.length=n)(n6:n<=6)(hp:Lat.prod (C4 S)<=200):K5 [G6 n bills]=some .non:=by
 have e:=DD es A hs (by rfl');rw[if_neg (by rfl'),DE λr hr=>(A.mem hr).2.2.2]at e;unfold K5 AZ;have isn:Pi (.int (Lat.prod (C4 S):Int)) .non=some (.nw,.bl false):=rfl;simp[cOf,e,isn,show ¬(200:Int)<(Lat.prod (C4 S):Int) by rfl']
theorem DZ(n:Nat)(hn:n<=6):C0 [.int n]=some (LL (G7 n)):=by
 have c1:j9 1 [0] (k9 (fN 0)) (Tg.one 0) fYes (f8 true P0 (b8 (fN 1) (b8 (fN 0) fNil))) [.sh false (.int n),.no]=some (.nw,LL ((List.range n).map (St.A4 n))):=by
  rw[n8 (e:=λ(k:Nat) => .int (0+(k:Int))) (h:=λk=>L (St.A4 n k)) (xs:=List.range n) (by simp[cOf,y13 n (by rfl'),C3]) (λk _=>by
   have u:=KJ n k (by rfl');simp[cOf,u])]
  unfold LL;rw[wF];rfl
 have c2:j9 1 [] (iSeq (fN 1)) (Tg.one 0) fYes (f8 true C7 (b8 (fN 0) (b8 (fNeg (fC (.int 1))) fNil))) [.sh false (.int n),.sh true (LL ((List.range n).map (St.A4 n)))]=some (.nw,LL ((List.range n).map λj=>sclR (-1) (St.A4 n j))):=by
  rw[n8 (e:=L) (h:=λr=>L (sclR (-1) r)) (xs:=(List.range n).map (St.A4 n)) (by simp[cOf]) (λr hr=>by
   have u:=K8 r (-1) (λx _=>M8 (by decide));simp[cOf,u])]
  unfold LL;rw[wF,wF];rfl
 obtain⟨f,ct⟩:=cat_LL ((List.range n).map (St.A4 n)) ((List.range n).map λj=>sclR (-1) (St.A4 n j)) (by rw[we,we,wW];rfl');unfold C0 P3;unfold G7;generalize (List.range n).map (St.A4 n)=U at *;generalize (List.range n).map (λj=>sclR (-1) (St.A4 n j))=W at *;unfold LL at *;simp[cOf,c1,c2,ct]
def fewN(ns:aH):Nat:=(1+(D3 ns 0).fmod 3).toNat
def fewS(ns:aH)(n k:Nat):Int:=if 4<1+(D3 ns (1+(k:Int))).fmod 6/\n=3 then 2 else 1+(D3 ns (1+(k:Int))).fmod 6
def fewT(ns:aH)(n k:Nat):aH:=(List.range (n-k-1)).map λ(j:Nat)=>(D3 ns (8+3*(k:Int)+(j:Int))).fmod 7-3
def fewR(ns:aH)(n k:Nat):aH:=u6 k++[fewS ns n k]++fewT ns n k
def fewL(ns:aH):aA:=(List.range (fewN ns)).map (fewR ns (fewN ns))++if(D3 ns 4).fmod 3=1 then[BJ ns 20 (fewN ns) 0] else[]
theorem El(ns:aH):1<=fewN ns/\fewN ns<=3/\(fewN ns:Int)=1+(D3 ns 0).fmod 3:=by
 have:=V0 (D3 ns 0) (show(0:Int)<3 by decide);unfold fewN;rfl'
theorem Jk(ns:aH)(n k:Nat):0<fewS ns n k/\fewS ns n k<=6/\(n=3->fewS ns n k<=4):=by
 have:=V0 (D3 ns (1+(k:Int))) (show(0:Int)<6 by decide);unfold fewS;split<;>rfl'
abbrev FwF:FS:=(sSeq (sSet [] 4 (fOp l9 (fC (.int 1)) (fOp S8 (f8 true o7 (b8 (fN 0) (b8 (fOp l9 (fC (.int 1)) (fN 3)) fNil))) (fC (.int 6)))))
 (sSeq (sIf (fAnd (k6 (fOp opGt (fN 4) (fC (.int 4)))) (k6 (fOp opEq (fN 1) (fC (.int 3))))) (sSet [] 4 (fC (.int 2))) A3)
 (sSeq (sSet [] 5 (j9 1 [0,3] (k9 (fOp L6 (fOp L6 (fN 1) (fN 3)) (fC (.int 1)))) (Tg.one 0) fYes (fOp L6 (fOp S8 (f8 true o7 (b8 (fN 1) (b8 (fOp l9 (fOp l9 (fC (.int 8)) (fOp L7 (fC (.int 3)) (fN 2))) (fN 0)) fNil))) (fC (.int 7))) (fC (.int 3)))))
 (sWr wApp 2 (fOp l9 (fOp l9 (j9 1 [] (k9 (fN 3)) (Tg.one 0) fYes (fC (.int 0))) (fLst (b8 (fN 4) fNil))) (fN 5))))))
theorem Tc(ns:aH){n i:Nat}(B:aA)(hn:n<=3)(hi:i<n)(hB:B.length<=10)(c4 c5:Cell):FwF [.sh false (.scr ns),.sh true (.int n),.ow true (B.map L),.sh false (.int i),c4,c5]=some (.nx [.sh false (.scr ns),.sh true (.int n),.ow true ((B++[fewR ns n i]).map L),.sh false (.int i),.sh true (.int (fewS ns n i)),.sh true (L (fewT ns n i))]):=by
 have ca:=G9 ns (1+(i:Int)) (by rfl');refine run (by simp[cOf,ca,Y2];rfl) ?_;refine run (ρ':=[.sh false (.scr ns),.sh true (.int n),.ow true (B.map L),.sh false (.int i),.sh true (.int (fewS ns n i)),c5]) (by
  unfold fewS;generalize 1+(D3 ns (1+(i:Int))).fmod 6=s;by_cases h1:4<s
  · by_cases h2:n=3
    · subst h2;simp[cOf,A0,h1]
    · simp[cOf,A0,h1,h2,show ¬(n:Int)=3 by rfl']
  · simp[cOf,A0,h1]) ?_
 have cm:∀ c5:Cell,j9 1 [0,3] (k9 (fOp L6 (fOp L6 (fN 1) (fN 3)) (fC (.int 1)))) (Tg.one 0) fYes (fOp L6 (fOp S8 (f8 true o7 (b8 (fN 1) (b8 (fOp l9 (fOp l9 (fC (.int 8)) (fOp L7 (fC (.int 3)) (fN 2))) (fN 0)) fNil))) (fC (.int 7))) (fC (.int 3))) [.sh false (.scr ns),.sh true (.int n),.no,.sh false (.int i),.sh true (.int (fewS ns n i)),c5]=some (.nw,L (fewT ns n i)):=λc5=>by
  have e:(n:Int)-(i:Int)-1=((n-i-1:Nat):Int):=by rfl'
  rw[n8 (e:=λ(k:Nat) => .int (0+(k:Int))) (h:=λ(j:Nat) => .int ((D3 ns (8+3*(i:Int)+(j:Int))).fmod 7-3)) (xs:=List.range (n-i-1)) (by simp[cOf,e,y13 (n-i-1) (by rfl'),C3]) (λk _=>by
    have cb:=G9 ns (8+3*(i:Int)+(k:Int)) (by rfl');have m3:D1 3 (i:Int)=true:=M8 (by decide);simp[cOf,cb,Y2,m3])]
  rw[Sw (λ(j:Nat)=>(D3 ns (8+3*(i:Int)+(j:Int))).fmod 7-3)];rfl
 refine run (ρ':=[.sh false (.scr ns),.sh true (.int n),.ow true (B.map L),.sh false (.int i),.sh true (.int (fewS ns n i)),.sh true (L (fewT ns n i))]) (by
  generalize fewT ns n i=t at *;generalize fewS ns n i=s at *;simp[cOf,cm]) ?_
 have zc:=Tb i (by rfl') [.sh false (.scr ns),.sh true (.int n),.no,.sh false (.int i),.sh true (.int (fewS ns n i)),.sh true (L (fewT ns n i))] (fN 3) .nw (by simp[cOf]);have lt:(fewT ns n i).length=n-i-1:=by unfold fewT;rw[we,wW]
 have c1:l9 (L (u6 i)) (.lst [.int (fewS ns n i)])=_:=Kl (u6 i) [fewS ns n i] (by rw[K1,WL];rfl');have c2:=Kl (u6 i++[fewS ns n i]) (fewT ns n i) (by rw[ww,K1,WL,lt];rfl');have le2:B.length<1000000:=by rfl'
 unfold fewR;rw[wI];generalize hw:u6 i++[fewS ns n i]=w at *;generalize hu:w++fewT ns n i=u at *;generalize fewT ns n i=t at *;generalize fewS ns n i=s at *;generalize u6 i=z at *;simp[cOf,zc,c1,c2,wApp,le2]
theorem Td(ns:aH):Ej [.scr ns]=some (.tup [.int (fewN ns),LL (fewL ns)]):=by
 obtain⟨n1,n3,en⟩:=El ns;have c0:=G9 ns 0 (by rfl');have c4:=G9 ns 4 (by rfl');have lr:=SW ns 20 (fewN ns) 0 (by decide) (by rfl') (by decide) (by decide);unfold fewL;generalize fewN ns=n at *;obtain⟨j,q⟩:=Ms (g:=Tg.one 3) (F:=FwF) (R:=λi (c:Cell×Cell×Cell)=>[.sh false (.scr ns),.sh true (.int n),.ow true (((List.range i).map (fewR ns n)).map L),c.1,c.2.1,c.2.2]) n (.no,.no,.no) (λi c hi=>by
   refine⟨(.sh false (.int i),.sh true (.int (fewS ns n i)),.sh true (L (fewT ns n i))),?_⟩;have:=Tc ns (n:=n) (i:=i) ((List.range i).map (fewR ns n)) n3 hi (by rw[we,wW];rfl') c.2.1 c.2.2;rw[uV,wI];exact this)
 have q:forF (Tg.one 3) FwF (U5 0 n) [.sh false (.scr ns),.sh true (.int n),.ow true [],.no,.no,.no]=some (.nx [.sh false (.scr ns),.sh true (.int n),.ow true (((List.range n).map (fewR ns n)).map L),j.1,j.2.1,j.2.2]):=q;have lB:((List.range n).map (fewR ns n)).length=n:=by rw[we,wW]
 generalize (List.range n).map (fewR ns n)=B at *;generalize BJ ns 20 n 0=r at *;have le:B.length<1000000:=by rfl'
 have nn:=y13 n (by rfl');unfold Ej Je;refine Ak (f := .fr) rfl ?_ rfl;refine run (by simp[cOf,c0,Y2,←en];rfl) ?_;refine run (by simp[cOf];rfl) ?_;refine run (ρ':=[.sh false (.scr ns),.sh true (.int n),.ow true (B.map L),j.1,j.2.1,j.2.2]) (by
   show sFor [] (k9 (fN 1)) (Tg.one 3) FwF _=_;generalize FwF=F at *;simp[cOf,nn,q]) ?_
 by_cases h:(D3 ns 4).fmod 3=1
 · rw[if_pos h];refine run (ρ':=[.sh false (.scr ns),.sh true (.int n),.ow true ((B++[r]).map L),j.1,j.2.1,j.2.2]) (by
    rw[wI];simp[cOf,c4,Y2,A0,h,lr,wApp,le]) ?_
   simp[cOf]
 · rw[if_neg h,Wp];refine run (by simp[cOf,c4,Y2,A0,h];rfl) ?_;simp[cOf]
theorem L_inj{a b:aH}(h:L a=L b):a=b:=by
 injection h with h
 induction a generalizing b with
 | nil=>cases b with
  | nil=>rfl
  | cons _ _=>simp at h
 | cons x a ih=>cases b with
  | nil=>simp at h
  | cons y b =>
   simp only[wj,List.cons.injEq,Dt.int.injEq]at h;rw[h.1,ih h.2]
theorem Te{a b:aA}(h:LL a=LL b):a=b:=by
 injection h with h
 induction a generalizing b with
 | nil=>cases b with
  | nil=>rfl
  | cons _ _=>simp at h
 | cons x a ih=>cases b with
  | nil=>simp at h
  | cons y b =>
   rw[wj,wj]at h;injection h with h1 h2
   rw[L_inj h1,ih h2]
structure Few(n:Nat)(bills S:aA)(told:List Ent):Prop where
 es:F2 [G6 n bills]=some (LL S)
 asc:St.Asc n 0 S
 sS:∀ r∈S,St.Lt (2 ^ 900) r
 len:S.length=n
 cls:K6 [G6 n bills]=some (tolD told)
 fin:Fin n (λb=>St.d8 b S) told
 first:∃ more,told=(u6 n,0,u6 n)::more
 few:Lat.prod (C4 S)<=64
theorem DF{n C:Nat}{bills:aA}(H:Hall n bills)(hh:∀ k,k<n->∃ b∈bills,St.b7 b=k/\0<St.hd b/\St.hd b<=C)(hC:C ^ n<=64):∃ S told,Few n bills S told:=by
 have n1:=H.n1;have n6:=H.n6;obtain⟨S,es,G,sS⟩:=MI H;obtain⟨hl,hp⟩:=QL G hh;have A:=G.asc;have g:=Mx n1 A hl;have bf:=SU A;have sl:(G7 n).length<=12:=by unfold G7;rw[ww,we,we,wW];rfl'
 have nf:=KL es A sS hl n6 (by rfl');have ss:=DZ n n6;have ng:=QQ n bills (by rfl');generalize hM:Lat.prod (C4 S)=M at *;obtain⟨fin,run,_⟩:=run_ex g (ca:=M9) (cl:=n9) (G:=S) (by rfl') sl (λb t hb hs ht=>by
  have lt:=g.len t ht;have la:(addR b t).length=n:=by rw[O7 (by rw[hb,lt]),hb]
  have bd:St.Lt (2 ^ 7) (addR b t):=λk=>by
   have:=SR (b:=addR b t) (j:=k);have:=g.near b t hb ht;have:(2:Nat) ^ 7=128:=by decide
   rfl'
  obtain⟨o1,o2,o3,o4,_⟩:=Jj A sS (by decide) la bd (by rfl') (by decide);exact⟨KA b t (by rw[hb,lt]),V8 (L (addR b t)) (addR b t) S (.inl rfl) o3 o1 la o2 o4⟩) (M+2) 0 _ _ _ bf (by rfl') (λ_=>by show _<=_+1;rfl')
 have ok:Ks K5 F2 C0 T4 M9 n9 [G6 n bills] (tolD fin):=⟨n,_,_,S,G7 n,u6 n,M+2,fin,rfl,nf,es,ss,ng,run,rfl⟩;have ex:∃ d,K6 [G6 n bills]=some d:=by
  unfold K6;rw[dif_pos ⟨_,ok⟩];exact⟨_,rfl⟩
 obtain⟨d,ed⟩:=ex;obtain⟨n',hr,df,G',steps,z,k,told,e0,_,e2,e3,e4,run',ed'⟩:=DC ed;have e0:G6 n bills = .tup (.int n'::hr):=by injection e0
 injection e0 with e0
 injection e0 with e01 _
 injection e01 with e01
 subst e01;rw[es]at e2;rw[ss]at e3;rw[ng]at e4;have e2:=Te (Option.some.inj e2);have e3:=Te (Option.some.inj e3);have e4:=L_inj (Option.some.inj e4);subst e2 e3 e4 ed';obtain⟨f,more,em⟩:=run_fin g k 0 _ _ _ told run' bf;exact⟨S,told,es,A,sS,hl,ed,f,⟨more,em⟩,by rfl'⟩
theorem V9(ns:aH){n k:Nat}(hk:k<n):(fewR ns n k).length=n/\St.b7 (fewR ns n k)=k/\St.hd (fewR ns n k)=fewS ns n k/\∀ x∈fewR ns n k,x.natAbs<10 ^ 30:=by
 have s:=Jk ns n k;have lz:(u6 k).length=k:=K1;have l1:(u6 k++[fewS ns n k]).length=k+1:=by rw[ww,lz];rfl
 have at_k:St.at0 (fewR ns n k) k=fewS ns n k:=by
   unfold fewR;rw[St.Eg l1,if_pos (by rfl'),St.Eg lz,if_neg (by rfl'),uE];rfl
 have hh:St.b7 (fewR ns n k)=k:=St.F9 _ _ (λi hi=>by
   unfold fewR;rw[St.Eg l1,if_pos (by rfl'),St.Eg lz,if_pos hi,CB]) (by rw[at_k];rfl')
 refine⟨?_,hh,by unfold St.hd;rw[hh,at_k],λx hx=>?_⟩
 · unfold fewR fewT;rw[ww,l1,we,wW];rfl'
 · have big:(100:Nat)<=10 ^ 30:=by decide
   unfold fewR at hx;rcases wl.mp hx with hx|hx
   · rcases wl.mp hx with hx|hx
     · unfold u6 at hx;rw[(List.mem_replicate.mp hx).2];decide
     · rw[wu.mp hx];rfl'
   · obtain⟨j,_,rfl⟩:=wg.mp hx;have:=V0 (D3 ns (8+3*(k:Int)+(j:Int))) (show(0:Int)<7 by decide);rfl'
theorem FL(ns:aH):Hall (fewN ns) (fewL ns):=by
 obtain⟨n1,n3,_⟩:=El ns;refine⟨n1,by rfl',?_,λr hr=>?_,λr hr=>?_⟩
 · unfold fewL;rw[ww,we,wW];split<;>simp<;>rfl'
 · unfold fewL at hr;rcases wl.mp hr with hr|hr
   · obtain⟨k,hk,rfl⟩:=wg.mp hr;exact(V9 ns (wM.mp hk)).1
   · split at hr
     · rw[wu.mp hr];exact QE ns 20 _ 0
     · cases hr
 · unfold fewL at hr;rcases wl.mp hr with hr|hr
   · obtain⟨k,hk,rfl⟩:=wg.mp hr;exact(V9 ns (wM.mp hk)).2.2.2
   · split at hr
     · rw[wu.mp hr];exact Sy ns 20 _ 0
     · cases hr
theorem VW(ns:aH):∃ S told,Few (fewN ns) (fewL ns) S told:=by
 obtain⟨n1,n3,_⟩:=El ns;have mem:∀ k,k<fewN ns->fewR ns (fewN ns) k∈fewL ns:=λk hk=>wK _ (WB (wM.mpr hk));by_cases h:fewN ns=3
 · refine DF (C:=4) (FL ns) (λk hk=>?_) (by rw[h];decide);obtain⟨_,f2,f3,_⟩:=V9 ns hk;have s:=Jk ns (fewN ns) k;exact⟨_,mem k hk,f2,by rfl',by have:=s.2.2 h;rfl'⟩
 · refine DF (C:=6) (FL ns) (λk hk=>?_) ?_
   · obtain⟨_,f2,f3,_⟩:=V9 ns hk;have s:=Jk ns (fewN ns) k;exact⟨_,mem k hk,f2,by rfl',by rfl'⟩
   · have:fewN ns=1\/fewN ns=2:=by rfl'
     rcases this with e|e<;>rw[e]<;>decide
theorem KM(R:aA):V6 [LL R]=some (LL R):=by
 have cp:=copies R [.sh false (LL R)] (fN 0) .sh (by simp[cOf]);unfold V6 Bb;simp[cOf,cp]
theorem sz_le{b:aH}{B:Nat}(h:∀ x∈b,x.natAbs<B):sz b<=b.length*B:=by
 induction b with
 | nil=>exact wx _
 | cons x b ih =>
  have h1:=h x wc;have h2:=ih λy hy=>h y (wb _ hy);show x.natAbs+sz b<=(b.length+1)*B;rw[vt];rfl'
theorem Jl{n:Nat}{bills S:aA}{told:List Ent}(F:Few n bills S told)(n6:n<=6){e:Ent}(he:e∈told):e.1.length=n/\e.2.2.length=n/\St.d8 e.1 S=e.1/\St.d8 e.2.2 S=e.1/\e.2.1=(sz e.2.2:Int)/\St.Lt (2 ^ 900) e.1/\St.Lt (2 ^ 910) e.2.2:=by
 obtain⟨b1,b2,b3⟩:=F.fin.ent e he;have b2:e.1=St.d8 e.2.2 S:=b2;have A:=F.asc;have hl:=F.len;have el:e.1.length=n:=by rw[b2];exact St.w8 A b1
 have tw:St.d8 e.1 S=e.1:=by rw[b2];exact St.BQ A b1
 have s1:St.Lt (2 ^ 900) e.1:=λk=>by
  by_cases hk:k<n
  · have er:S[k]?=some (S[k]'(by rfl')):=wa (by rfl');have hr:=WO (l:=S) (n:=k) (by rfl');have hh:=K2 A (by rfl') k _ er;have q:=St.u7 A b1 _ hr;have z:=F.sS _ hr (St.b7 (S[k]'(by rfl')));have z:(St.hd (S[k]'(by rfl'))).natAbs<2 ^ 900:=z;rw[←b2,hh,wZ]at q;generalize St.hd (S[k]'(by rfl'))=d at *;rfl'
  · have:St.at0 e.1 k=0:=by
     unfold St.at0;rw[List.getD,wO (by rfl')];rfl
    rw[this];exact uQ (by decide)
 have sm:sz e.1<=n*2 ^ 900:=by
  rw[←el];refine sz_le λx hx=>?_;obtain⟨i,hi,ei⟩:=wH hx;have z:=s1 i;unfold St.at0 at z;rw[List.getD,wa hi,ei]at z;exact z
 obtain⟨e',he',d1,d2⟩:=F.fin.all e.1 el;have d1:e'.1=St.d8 e.1 S:=d1;have ee:=PL F.fin he' he (by rw[d1,tw]);subst ee;refine⟨el,b1,tw,b2.symm,b3,s1,λk=>?_⟩;have z:=SR (b:=e'.2.2) (j:=k);have m6:n*2 ^ 900<=6*2 ^ 900:=wA _ n6;have p:6*2 ^ 900<2 ^ 910:=by
  have:(2:Nat) ^ 910=2 ^ 10*2 ^ 900:=by rw[←Wz]
  rw[this];exact Nat.mul_lt_mul_of_pos_right (by decide) (uQ (by decide))
 rfl'
theorem GD{n:Nat}{bills S:aA}{told:List Ent}(F:Few n bills S told)(n6:n<=6){e:Ent}(he:e∈told):N1 [entD e,LL S,.int n]=some (.bl true):=by
 obtain⟨g1,g2,g3,g4,g5,g6,g7⟩:=Jl F n6 he;obtain⟨o1,o2,o3,o4,_⟩:=Jj F.asc F.sS (by decide) g1 g6 (by have:=F.len;rfl') (by decide);obtain⟨u1,u2,u3,u4,_⟩:=Jj F.asc F.sS (by decide) g2 g7 (by have:=F.len;rfl') (by decide);have l1:=CP e.1 S (by rfl') o3 o1 g1 o2;have l2:=CP e.2.2 S (by rfl') u3 u1 g2 u2;rw[g3]at l1;rw[g4]at l2;have r1:=DB e.1 n;have r2:=DB e.2.2 n;rw[decide_eq_true (by rw[g1])]at r1;rw[decide_eq_true (by rw[g2])]at r2;have ne:=Hl e.1 e.1;have fold:∀(a:aH) (t:Nat),a.foldl (λ(t:Nat) (x:Int)=>t+x.natAbs) t=t+sz a:=by
  intro a
  induction a with
  | nil=>intro t;rfl
  | cons x a ih=>intro t;rw[uZ,ih];show t+x.natAbs+sz a=t+(x.natAbs+sz a);rfl'
 obtain⟨j,q⟩:=Aj (g:=Tg.one 4) (F:=sSet [] 3 (fOp l9 (fN 3) (fBlt bAbs (b8 (fN 4) fNil)))) (e:=Dt.int) (R:=λ(t:Nat) (c:Cell)=>[.sh false (entD e),.sh false (LL S),.sh false (.int n),.sh true (.int t),c]) (step:=λt x=>t+x.natAbs) e.2.2 0 .no
  (fun t x c hx=>⟨.sh false (.int x),by
   have ab:(if x<0 then -x else x)=(x.natAbs:Int):=by split<;>rfl'
   simp[cOf,bAbs,ab]⟩)
 rw[fold e.2.2 0,wZ]at q;have q:forF (Tg.one 4) (sSet [] 3 (fOp l9 (fN 3) (fBlt bAbs (b8 (fN 4) fNil)))) (e.2.2.map Dt.int) [.sh false (entD e),.sh false (LL S),.sh false (.int n),.sh true (.int 0),.no]=some (.nx [.sh false (entD e),.sh false (LL S),.sh false (.int n),.sh true (.int (sz e.2.2)),j]):=q;have w:E1 [.int e.2.1]=some (.bl true):=by
  unfold E1 Ax;simp[cOf]
 unfold N1 V7;refine Ak (f := .nw) rfl ?_ rfl;refine run (by simp[cOf,w,C6];rfl) ?_;refine run (by simp[cOf,r1,r2];rfl) ?_;refine run (by simp[cOf,l1,l2,ne];rfl) ?_;refine run (by simp[cOf];rfl) ?_;refine run (by simp[cOf,q];rfl) ?_;simp[cOf,A0,g5]
abbrev fL5:FT:=fOr (fNot (fTru (fIsi "list" (fN 5)))) (k6 (fOp opNe (fBlt bLen (b8 (fN 5) fNil)) (f8 true P2 (b8 (fN 3) fNil))))
abbrev fL8:FT:=fNot (fTru (f8 true N1 (b8 (fN 7) (b8 (fN 4) (b8 (fN 2) fNil)))))
abbrev fL9:FT:=fOr (k6 (fOp opNe (fAt (fAt (fN 5) (fC (.int 0))) (fC (.int 0))) (j9 1 [] (k9 (fN 2)) (Tg.one 0) fYes (fC (.int 0))))) (k6 (fOp opNe (fAt (fAt (fN 5) (fC (.int 0))) (fC (.int 1))) (fC (.int 0))))
def tLaw(X:Cx):TS :=
 tSeq (tAsg (upF X (f8 true Ej (b8 (fN 0) fNil))) (u5 1))
 (tSeq (tAsg (upF X (fAt (fN 1) (fC (.int 0)))) (u5 2))
 (tSeq (tAsg (upF X (f8 true T3 (b8 (fN 2) (b8 (f8 true V6 (b8 (fAt (fN 1) (fC (.int 1))) fNil)) fNil)))) (u5 3))
 (tSeq (tAsg (upF X (f8 true F2 (b8 (fN 3) fNil))) (u5 4))
 (tSeq (tAsg (upF X (f8 false K6 (b8 (fN 3) fNil))) (u5 5))
 (tSeq (tIfS (upB X fL5) (tRet (tC (.bl false))) AF)
 (tSeq (tAsg Sg (u5 6))
 (tSeq (tFor (Dk X.K (tVar 5)) (u5 7) (tF8 X fL8))
 (tSeq (tIfS (upB X fL9) (tRet (tC (.bl false))) AF)
 (tSeq (tFor (iRng2 (o0 (tC (.int 1)) (o0 (upF X (fBlt bLen (b8 (fN 5) fNil))) tNil))) (u5 8) (tF10 X.K))
 (tSeq (tFor (Dk X.K (tVar 5)) (u5 7) (tF11 X.K G8))
  (tRet (tC (.bl true)))))))))))))
theorem Tf{n:Nat}{bills S:aA}{told:List Ent}(F:Few n bills S told)(n1:1<=n)(n6:n<=6){e:Ent}(he:e∈told):NrOk G8 S e n (kvE told):=by
 intro k hk q hq;obtain⟨el,e',he',q1,q2⟩:=SV n1 F.asc F.len F.fin he hk hq;obtain⟨_,_,_,_,_,g6,_⟩:=Jl F n6 he;have ls:(e.1.set k (St.at0 e.1 k+q)).length=n:=by rw[wC,el]
 have lt:St.Lt (2 ^ 901) (e.1.set k (St.at0 e.1 k+q)):=λj=>by
  rw[Ao (by rfl')];have z:=g6 j;have z':=g6 k;have p:(2:Nat) ^ 901=2 ^ 1*2 ^ 900:=by rw[←Wz]
  rw[p];have p1:(2:Nat) ^ 1<=2 ^ 900:=wv (by decide) (by decide);have p2:(2:Nat) ^ 1=2:=rfl;rw[p2]at p1 ⊢;generalize (2:Nat) ^ 900=B at *;split<;>rfl'
 obtain⟨o1,o2,o3,o4,_⟩:=Jj F.asc F.sS (by decide) ls lt (by have:=F.len;rfl') (by decide);have l1:=CP _ S (by rfl') o3 o1 ls o2;refine⟨_,e'.2.1,l1,?_,q2⟩;rw[←q1];exact VS F.fin.nd he'
theorem rd_law{X:Cx}{ns:aH}{H:Hp}{vp:V}{Q:VK}{N:List Str}(hN:N.length=9)(h0:X.H₀=H)(hp:Rp X.K emp (.scr ns) H vp)(fin:∀ H',Same H H'->Q (.bl true) H'):tLaw X { nx:=λ_ H'=>Q .non H',rt:=Q } (L2.start N [vp]) H:=by
 have hst:L2.start N [vp]=[some vp,none,none,none,none,none,none,none,none]:=by unfold L2.start;rw[hN];rfl
 rw[hst];obtain⟨S,told,F⟩:=VW ns;have HH:=FL ns;have lf:=Td ns;have eh:=HH.made;have n3:=(El ns).2.1;generalize fewL ns=bills at *;generalize fewN ns=n at *;have n1:=HH.n1;have n6:=HH.n6;have cp:=KM bills;have es:=F.es;have ec:=F.cls;have hm:=DD es F.asc F.sS (by have:=F.len;rfl');rw[if_neg (by have:=F.len;rfl'),DE λr hr=>(F.asc.mem hr).2.2.2,←Hz n1 F.asc F.len F.fin]at hm;have l64:told.length<=64:=by rw[Hz n1 F.asc F.len F.fin];exact F.few
 have R0:RepS X.ky H [.sh false (.scr ns),.no,.no,.no,.no,.no,.no,.no,.no] [some vp,none,none,none,none,none,none,none,none]:=by
  refine⟨rfl,by show Same X.H₀ H;rw[h0];exact Same.refl H,λi c e=>?_⟩
  match i,e with
  | 0,e=>cases e;exact⟨_,rfl,_,rfl,hp⟩
  | 1,e=>cases e;exact⟨_,rfl,trivial⟩
  | 2,e=>cases e;exact⟨_,rfl,trivial⟩
  | 3,e=>cases e;exact⟨_,rfl,trivial⟩
  | 4,e=>cases e;exact⟨_,rfl,trivial⟩
  | 5,e=>cases e;exact⟨_,rfl,trivial⟩
  | 6,e=>cases e;exact⟨_,rfl,trivial⟩
  | 7,e=>cases e;exact⟨_,rfl,trivial⟩
  | 8,e=>cases e;exact⟨_,rfl,trivial⟩
 unfold tLaw;refine Fh (fl := .nw) (d := .tup [.int n,LL bills]) R0 (by simp[cOf,lf]) λv1 H1 s1 _ R1=>?_;refine Fh (fl := .nw) (d := .int n) R1 (by simp[cOf]) λv2 H2 s2 r2 R2=>?_;have r2:=Rp.int_.mp r2;subst r2;refine Fh (fl := .nw) (d:=G6 n bills) R2 (by simp[cOf,cp,eh]) λv3 H3 s3 _ R3=>?_;refine Fh (fl := .nw) (d:=LL S) R3 (by simp[cOf,es]) λv4 H4 s4 r4 R4=>?_;refine Fh (fl := .sh) (d:=tolD told) R4 (by simp[cOf,ec]) λv5 H5 s5 r5 R5=>?_;refine if_up R5 (by simp[cOf,hm,C6]) λH6 s6=>?_;obtain⟨D,ws,rfl,_,hD,rws⟩:=Rp.lst_.mp (Rp.mono _ s6 r5);have rws:=Rps.mono _ k8 rws;have lw:=rws.length;rw[we]at lw;have r4':=Rp.mono _ (s5.trans s6) r4;have R6:=R5.mono s6;have all:Same H H6:=s1.trans (s2.trans (s3.trans (s4.trans (s5.trans s6))));show tSeq (tAsg Sg (u5 6)) _ _ [some vp,some v1,some (.int n),some v3,some v4,some (.ref D),none,none,none] H6;intro a na;have sa:=j6 (o:=HO.dT []) na;have da:upd H6 a (.dT []) a=some (.dT (kvI (kvE []))):=i7;generalize upd H6 a (.dT [])=H7 at sa da ⊢;have R:∀{H':Hp} (x6 x7 x8:Option V),Same H6 H'->RepS X.ky H' [.sh false (.scr ns),.sh false (.tup [.int n,LL bills]),.sh false (.int n),.sh false (G6 n bills),.sh false (LL S),.sh false (tolD told),.no,.no,.no] [some vp,some v1,some (.int n),some v3,some v4,some (.ref D),x6,x7,x8]:=λx6 x7 x8 s=>(((R6.mono s).any 6 x6).any 7 x7).any 8 x8;show tSeq (tFor (Dk X.K (tVar 5)) (u5 7) (tF8 X fL8)) _ _ [some vp,some v1,some (.int n),some v3,some v4,some (.ref D),some (.ref a),none,none] H7;refine⟨.ref D,rfl,D,rfl,⟨_,SqL.of (sa _ _ hD)⟩,?_⟩;refine Y0 (xs:=ws) (λi σ H'=>∃ x7:Option V,σ=[some vp,some v1,some (.int n),some v3,some v4,some (.ref D),some (.ref a),x7,none]/\Same H6 H'/\H' a=some (.dT (kvI (kvE (told.take i))))) ⟨none,rfl,sa,da⟩ (λi σ H' _ ⟨_,_,s,_⟩=>SqL.of (s _ _ hD)) ?st8 ?dn8
 case st8 =>
  rintro i x σ H' hx ⟨x7,rfl,s,ha⟩;have hi:i<told.length:=by rw[←lw];exact(wy.mp hx).1
  obtain⟨x',hx',rx⟩:=rws.get (i:=i) (d:=entD told[i]) (by rw[wq,wa hi];rfl);rw[hx]at hx';obtain rfl:=Option.some.inj hx';have re:=rx;obtain⟨f,y,z,rfl,sf,hy⟩:=My rx;have me:told[i]∈told:=WO hi;have ie:=GD F n6 me;have tk:told.take (i+1)=told.take i++[told[i]]:=by rw[List.take_succ,wa hi];rfl
  have nd:=F.fin.nd;rw[←List.take_append_drop (i+1) told,wI,Wy,tk,wI,Wy]at nd;have nin:told[i].1 ∉ (told.take i).map (·.1):=λz=>nd.1.2.2 _ z _ (by simp) rfl;refine rd_f8 (e:=told[i]) (told:=told.take i) na s ha (by rw[Ww];rfl') nin rfl rfl sf hy ((R (some (.ref a)) x7 none s).put 7 (Rp.mono _ s re)) ?_ rfl λH'' s'' ha''=>?_
  · show fL8 [.sh false (.scr ns),.sh false (.tup [.int n,LL bills]),.sh false (.int n),.sh false (G6 n bills),.sh false (LL S),.sh false (tolD told),.no,.sh false (entD told[i]),.no]=_;simp[cOf,ie]
  · exact⟨_,rfl,s'',by rw[tk];exact ha''⟩
 case dn8 =>
  rintro σ H8 ⟨x7,rfl,s8,ha⟩;rw[lw,List.take_length]at ha;have zc:=Tb n (by rfl') [.sh false (.scr ns),.sh false (.tup [.int n,LL bills]),.sh false (.int n),.sh false (G6 n bills),.sh false (LL S),.sh false (tolD told),.no,.no,.no] (fN 2) .nw (by simp[cOf]);obtain⟨more,em⟩:=F.first;have ne0:=Hl (u6 n) (u6 n);have f0:atI (told.map entD) 0=some (entD (u6 n,0,u6 n)):=by rw[em];exact So
  refine if_up (R (some (.ref a)) x7 none s8) (by
    simp[cOf,f0,zc,ne0,C6]) λH9 s9=>?_
  have t9:=s8.trans s9;have ha9:=s9 _ _ ha;refine⟨_,.nw,.int told.length,R (some (.ref a)) x7 none t9,by simp[cOf],λv H10 s10 r10=>?_⟩;have r10:=Rp.int_.mp r10.sh;subst r10;refine⟨1,told.length,rfl,by rfl',?_⟩;have t10:=t9.trans s10;have ha10:=s10 _ _ ha9;refine GN (λi σ H'=>∃ x8:Option V,σ=[some vp,some v1,some (.int n),some v3,some v4,some (.ref D),some (.ref a),x7,x8]/\Same H6 H'/\H' a=some (.dT (kvI (kvE told)))) ⟨none,rfl,t10,ha10⟩ ?st10 ?dn10
  case st10 =>
    rintro i σ H' hi ⟨x8,rfl,s,h'⟩;have i1:i+1<told.length:=by rfl'
    have g1:told[i]?=some told[i]:=wa (by rfl');have g2:told[i+1]?=some told[i+1]:=wa i1;show tF10 X.K _ [some vp,some v1,some (.int n),some v3,some v4,some (.ref D),some (.ref a),x7,some (.int (1+(i:Int)))] H';rw[Int.add_comm];refine rd_f10 (Hs:=H') (Same.refl H') rfl rfl (s _ _ hD) (Rps.mono _ s rws) g1 g2 (fin_up F.fin (wR i) g1 g2) rfl λH'' s''=>⟨_,rfl,s.trans s'',s'' _ _ h'⟩
  case dn10 =>
    rintro σ H11 ⟨x8,rfl,s11,ha11⟩;show tSeq (tFor (Dk X.K (tVar 5)) (u5 7) (tF11 X.K G8)) _ _ [some vp,some v1,some (.int n),some v3,some v4,some (.ref D),some (.ref a),x7,x8] H11;refine⟨.ref D,rfl,D,rfl,⟨_,SqL.of (s11 _ _ hD)⟩,?_⟩;refine Y0 (xs:=ws) (λi σ H'=>∃ x7:Option V,σ=[some vp,some v1,some (.int n),some v3,some v4,some (.ref D),some (.ref a),x7,x8]/\Same H6 H'/\H' a=some (.dT (kvI (kvE told)))) ⟨x7,rfl,s11,ha11⟩ (λi σ H' _ ⟨_,_,s,_⟩=>SqL.of (s _ _ hD)) ?st11 ?dn11
    case st11 =>
     rintro i x σ H' hx ⟨x7,rfl,s,h'⟩;have hi:i<told.length:=by rw[←lw];exact(wy.mp hx).1
     obtain⟨x',hx',rx⟩:=rws.get (i:=i) (d:=entD told[i]) (by rw[wq,wa hi];rfl);rw[hx]at hx';obtain rfl:=Option.some.inj hx';have me:told[i]∈told:=WO hi;exact rd_f11 (Hs:=H6) (e:=told[i]) s h' rfl rfl rfl rfl rx r4' (Jl F n6 me).1 n6 (Tf F n1 n6 me) rfl λH'' s''=>⟨_,rfl,s.trans s'',s'' _ _ h'⟩
    case dn11 =>
     rintro σ H12 ⟨x7,rfl,s12,_⟩;exact fin _ (all.trans s12)
theorem Th(ns:aH)(h:ns.length<=63):Fy [.scr ns]=some (.bl true):=rfl
theorem law_ok{P:Program}{w:World}{K:aE}{mg:aF}{base:Heap}{tb f:Addr}{q:Str}{fd:FuncData}{st:Stmt}{N pr:List Str}{k:Nat}(D:Df K mg "law" st pr f fd)(S:FnScope N pr (d7 st))(hp:pr.length=1)(hN:N.length=9)
   (body:∀{cdv:Value} {A:Around} {outer:List Env} {s:Shared} {H:Hp} {E:XK},Room k (A.deeper (PyProof.Rows.envOfC "law" (d7 st) s.heap.objs.size f cdv))->(A.deeper (PyProof.Rows.envOfC "law" (d7 st) s.heap.objs.size f cdv)).units+64<cLine->H tb=some (.tbl #[] q)->PSs (cxOf CX0 P w K mg base N "law" (d7 st) f cdv A outer s H E).nox (x9 st) (tLaw (cxOf CX0 P w K mg base N "law" (d7 st) f cdv A outer s H E).nox)):FnOk P w K mg base CX0 (k+1) f fd pr (spcT K tb #[] q true Fy):=by
 obtain⟨oc,od,kV,doc,pm,an,cdv,ct,osl,rfl,lk,hcd⟩:=D.fn.ex;have one:∀{vs:List V} {H:Hp} {Q:VK} {E:XK},spcT K tb #[] q true Fy vs H Q E->H tb=some (.tbl #[] q)/\∃ ns vp,vs=[vp]/\Rp K emp (.scr ns) H vp/\∀ H',Same H H'->Q (.bl true) H':=λ{vs H Q E} h=>by
   obtain⟨hT,ds,d,r,e,q⟩:=h;refine⟨hT,?_⟩;unfold Fy at e;split at e
   · rename_i ns;cases e;obtain⟨vp,rr,rfl,r1,r2⟩:=Rps.cons_.mp r;obtain rfl:rr=[]:=Rps.nil_.mp r2;exact⟨ns,vp,rfl,r1,λH' s'=>q (.bl true) H' s' (Rp.bl_.mpr rfl)⟩
   · cases e
 refine JI lk hcd S (λvs H Q E h=>?_) λA outer s H vs Q E hr h=>?_
 · obtain⟨_,ns,vp,rfl,_⟩:=one h;rw[hp];rfl
 · obtain⟨hT,ns,vp,rfl,r1,q⟩:=one h;exact⟨_,(body (cdv:=cdv) (A:=A) (outer:=outer) (s:=s) (H:=H) (E:=E) hr hr.units hT).nox,rd_law (X:=(cxOf CX0 P w K mg base N "law" (d7 st) f cdv A outer s H E).nox) hN rfl r1 q⟩
end
noncomputable section
noncomputable def top(i:Nat):Stmt:=PySem.Challenge.pw_changehall_k28_whole_classes.main.body.getD i (.Pass ⟨0,0,0,0⟩)
abbrev Bd:Stmt:=top 5
theorem KN:FnScope ["value"] ["value"] (d7 Bd):=scm
abbrev BW:Stmt:=top 6
theorem QY:FnScope ["value", "length"] ["value", "length"] (d7 BW):=scm
abbrev Az:Stmt:=top 7
theorem MJ:FnScope ["length"] ["length"] (d7 Az):=scm
abbrev W0:Stmt:=top 8
theorem KO:FnScope ["length", "one_at"] ["length", "one_at"] (d7 W0):=scm
abbrev Em:Stmt:=top 9
theorem Ti:FnScope ["one", "other"] ["one", "other"] (d7 Em):=scm
abbrev En:Stmt:=top 10
theorem Tj:FnScope ["one", "other"] ["one", "other"] (d7 En):=scm
abbrev BX:Stmt:=top 11
theorem QZ:FnScope ["row", "often"] ["row", "often"] (d7 BX):=scm
abbrev CS:Stmt:=top 12
theorem Be:FnScope ["row", "spot", "number"] ["row"] (d7 CS):=scm
abbrev Z3:Stmt:=top 16
theorem Jm:FnScope ["value"] ["value"] (d7 Z3):=scm
abbrev AA:Stmt:=top 17
theorem MK:FnScope ["value", "kinds"] ["value", "kinds"] (d7 AA):=scm
abbrev W1:Stmt:=top 18
theorem GE:FnScope ["kinds"] ["kinds"] (d7 W1):=scm
abbrev Z4:Stmt:=top 19
theorem Jn:FnScope ["bill", "kinds"] ["bill", "kinds"] (d7 Z4):=scm
abbrev AB:Stmt:=top 21
theorem ML:FnScope ["kinds", "rows"] ["kinds", "rows"] (d7 AB):=scm
abbrev CT:Stmt:=top 20
theorem FM:FnScope ["kinds", "bills", "bill"] ["kinds", "bills"] (d7 CT):=scm
abbrev FN:Stmt:=top 22
theorem Ra:FnScope ["hall"] ["hall"] (d7 FN):=scm
abbrev Z5:Stmt:=top 24
theorem G2:FnScope ["a", "b", "upper", "lower", "often", "left"] ["a", "b"] (d7 Z5):=scm
abbrev CU:Stmt:=top 25
theorem W2:FnScope ["numbers", "found", "number"] ["numbers"] (d7 CU):=scm
abbrev Bg:Stmt:=top 27
theorem D5:FnScope ["row", "rungs", "left", "counts", "rung", "spot", "often"] ["row", "rungs"] (d7 Bg):=scm
abbrev CV:Stmt:=top 28
theorem MM:FnScope ["row", "rungs"] ["row", "rungs"] (d7 CV):=scm
abbrev CW:Stmt:=top 29
theorem P6:FnScope ["rung", "row", "spot", "found", "upper", "lower"] ["rung", "row"] (d7 CW):=scm
abbrev Z6:Stmt:=top 30
theorem Jo:FnScope ["row"] ["row"] (d7 Z6):=scm
abbrev W3:Stmt:=top 31
theorem G3:FnScope ["rungs", "row", "found", "left", "places", "pair"] ["rungs", "row"] (d7 W3):=scm
abbrev FQ:Stmt:=top 32
theorem CY:FnScope ["rungs", "found", "rung"] ["rungs"] (d7 FQ):=scm
abbrev CZ:Stmt:=top 33
theorem W4:FnScope ["rows", "rungs", "row"] ["rows"] (d7 CZ):=scm
abbrev F3:Stmt:=top 34
theorem Da:FnScope ["rungs"] ["rungs"] (d7 F3):=scm
abbrev Jp:Stmt:=top 35
theorem Tk:FnScope ["hall"] ["hall"] (d7 Jp):=scm
abbrev Bh:Stmt:=top 37
theorem DG:FnScope ["hall", "rungs"] ["hall"] (d7 Bh):=scm
abbrev Bi:Stmt:=top 40
theorem DH:FnScope ["hall", "many"] ["hall"] (d7 Bi):=scm
abbrev D6:Stmt:=top 41
theorem X4:FnScope ["kinds", "ones"] ["kinds"] (d7 D6):=scm
abbrev W5:Stmt:=top 42
theorem C8:FnScope ["level", "steps", "rungs", "seen", "found", "start", "step", "basket", "reached"] ["level", "steps", "rungs", "seen"] (d7 W5):=scm
abbrev AC:Stmt:=top 43
theorem C5:FnScope ["hall", "rungs", "steps", "seen", "level", "told", "many"] ["hall"] (d7 AC):=scm
abbrev Z7:Stmt:=top 45
theorem Jq:FnScope ["_law_script", "_law_k"] ["_law_script", "_law_k"] (d7 Z7):=scm
abbrev Db:Stmt:=top 46
theorem MN:FnScope ["_law_found"] ["_law_found"] (d7 Db):=scm
abbrev Bj:Stmt:=top 47
theorem DI:FnScope ["_law_found", "_law_size", "_law_number_here"] ["_law_found", "_law_size"] (d7 Bj):=scm
abbrev Bl:Stmt:=top 48
theorem Q7:FnScope ["_law_cell", "_law_mode", "_law_number_here", "_law_wide"] ["_law_cell", "_law_mode"] (d7 Bl):=scm
abbrev Eo:Stmt:=top 49
theorem Tl:FnScope ["_law_script", "_law_at", "_law_size", "_law_mode"] ["_law_script", "_law_at", "_law_size", "_law_mode"] (d7 Eo):=scm
abbrev BY:Stmt:=top 50
theorem Rb:FnScope ["_law_one", "_law_other", "_law_times"] ["_law_one", "_law_other", "_law_times"] (d7 BY):=scm
abbrev FU:Stmt:=top 51
theorem Dc:FnScope ["_law_row_here", "_law_k"] ["_law_row_here"] (d7 FU):=scm
abbrev FV:Stmt:=top 52
theorem T6:FnScope ["_law_rows", "_law_row_here", "_law_left_here", "_law_one", "_law_at"] ["_law_rows", "_law_row_here"] (d7 FV):=scm
abbrev W6:Stmt:=top 53
theorem KP:FnScope ["_law_rows"] ["_law_rows"] (d7 W6):=scm
abbrev BZ:Stmt:=top 54
theorem P7:FnScope ["_law_script", "_law_kinds", "_law_bills", "_law_k", "_law_size", "_law_tail"] ["_law_script"] (d7 BZ):=scm
abbrev W7:Stmt:=top 55
theorem L4:FnScope ["_law_entry", "_law_rows", "_law_kinds", "_law_sizes", "_law_number_here"] ["_law_entry", "_law_rows", "_law_kinds"] (d7 W7):=scm
abbrev FY:Stmt:=top 56
theorem T7:FnScope ["_law_entry", "_law_rows", "_law_kinds", "_law_steps", "_law_k", "_law_step", "_law_further", "_law_name"] ["_law_entry", "_law_rows", "_law_kinds", "_law_steps"] (d7 FY):=scm
abbrev PP:Stmt:=top 57
theorem R9:FnScope ["_law_script", "_law_drawn", "_law_kinds", "_law_hall", "_law_rows", "_law_found", "_law_steps", "_law_entry", "_law_k"] ["_law_script"] (d7 PP):=scm
set_option genInjectivity false in
structure Adr where
 Gb:Addr
 Gc:FuncData
 Lb:Addr
 Lc:FuncData
 HK:Addr
 HL:FuncData
 Gd:Addr
 Ge:FuncData
 PQ:Addr
 PR:FuncData
 PU:Addr
 PV:FuncData
 Ld:Addr
 Lf:FuncData
 HM:Addr
 HN:FuncData
 DM:Addr
 DN:FuncData
 HP:Addr
 HQ:FuncData
 Ca:Addr
 Cb:FuncData
 DO:Addr
 DP:FuncData
 HR:Addr
 HS:FuncData
 HU:Addr
 HV:FuncData
 Lg:Addr
 Lh:FuncData
 Li:Addr
 Lj:FuncData
 HW:Addr
 HX:FuncData
 Gf:Addr
 Gg:FuncData
 HY:Addr
 HZ:FuncData
 Ia:Addr
 Ib:FuncData
 DQ:Addr
 DR:FuncData
 Gh:Addr
 Gi:FuncData
 Lk:Addr
 Ll:FuncData
 Ic:Addr
 Ie:FuncData
 X5:Addr
 X6:FuncData
 PX:Addr
 PY:FuncData
 Gj:Addr
 Gk:FuncData
 Gm:Addr
 Gn:FuncData
 Z8:Addr
 Z9:FuncData
 Cc:Addr
 J0:FuncData
 Ig:Addr
 Ih:FuncData
 DS:Addr
 DT:FuncData
 Ii:Addr
 Ij:FuncData
 Go:Addr
 Gp:FuncData
 Gq:Addr
 Gr:FuncData
 PZ:Addr
 Qb:FuncData
 Lm:Addr
 Ln:FuncData
 Lo:Addr
 Lp:FuncData
 Lq:Addr
 Lr:FuncData
 Gs:Addr
 Gu:FuncData
 Qc:Addr
 Qd:FuncData
 Cd:Addr
 Ce:FuncData
 Ls:Addr
 Lu:FuncData
 a_law:Addr
 Qe:FuncData
 N2:Tok
 J1:Tok
 N3:Tok
structure Facts(K:aE)(mg:aF)(A:Adr):Prop where
 UP:mg "abs" = none
 n_all:mg "all" = none
 UQ:mg "bool" = none
 DU:mg "enumerate" = none
 n_int:mg "int" = none
 A1:mg "isinstance" = none
 P8:mg "len" = none
 S3:mg "list" = none
 F4:mg "range" = none
 OU:mg "reversed" = none
 Lv:mg "sorted" = none
 L5:mg "tuple" = none
 n_zip:mg "zip" = none
 Jw:mg "MOST_BILLS" = some (.int 8 A.N2)
 Gv:mg "MOST_CLASSES" = some (.int 200 A.J1)
 Jx:mg "MOST_KINDS" = some (.int 6 A.N3)
 Bm:Df K mg "is_whole" Bd ["value"] A.Gb A.Gc
 Lw:Df K mg "is_row" BW ["value", "length"] A.Lb A.Lc
 Ik:Df K mg "noughts" Az ["length"] A.HK A.HL
 Gw:Df K mg "unit_row" W0 ["length", "one_at"] A.Gd A.Ge
 Cf:Df K mg "added" Em ["one", "other"] A.PQ A.PR
 Jy:Df K mg "taken" En ["one", "other"] A.PU A.PV
 M0:Df K mg "scaled" BX ["row", "often"] A.Ld A.Lf
 C9:Df K mg "head_at" CS ["row"] A.HM A.HN
 DV:Df K mg "are_kinds" Z3 ["value"] A.DM A.DN
 Il:Df K mg "is_bill" AA ["value", "kinds"] A.HP A.HQ
 Cg:Df K mg "need_kinds" W1 ["kinds"] A.Ca A.Cb
 DW:Df K mg "need_bill" Z4 ["bill", "kinds"] A.DO A.DP
 Im:Df K mg "hall_by" AB ["kinds", "rows"] A.HR A.HS
 Io:Df K mg "hall_of" CT ["kinds", "bills"] A.HU A.HV
 E7:Df K mg "nought" FN ["hall"] A.Lg A.Lh
 Lx:Df K mg "bridge" Z5 ["a", "b"] A.Li A.Lj
 Ip:Df K mg "product" CU ["numbers"] A.HW A.HX
 Gx:Df K mg "lowering" Bg ["row", "rungs"] A.Gf A.Gg
 L0:Df K mg "lowered" CV ["row", "rungs"] A.HY A.HZ
 Iq:Df K mg "crossed" CW ["rung", "row"] A.Ia A.Ib
 DX:Df K mg "turned_up" Z6 ["row"] A.DQ A.DR
 Gy:Df K mg "with_row" W3 ["rungs", "row"] A.Gh A.Gi
 Ly:Df K mg "evened" FQ ["rungs"] A.Lk A.Ll
 Ir:Df K mg "climbed" CZ ["rows"] A.Ic A.Ie
 X7:Df K mg "heads_product" F3 ["rungs"] A.X5 A.X6
 AD:Df K mg "stair" Jp ["hall"] A.PX A.PY
 Bn:Df K mg "how_many" Bh ["hall"] A.Gj A.Gk
 W9:Df K mg "need_few" Bi ["hall"] A.Gm A.Gn
 J2:Df K mg "single_steps" D6 ["kinds"] A.Z8 A.Z9
 J3:Df K mg "next_level" W5 ["level", "steps", "rungs", "seen"] A.Cc A.J0
 Iu:Df K mg "classes" AC ["hall"] A.Ig A.Ih
 G4:Df K mg "_law_cell_at" Z7 ["_law_script", "_law_k"] A.DS A.DT
 Di:Df K mg "_law_whole" Db ["_law_found"] A.Ii A.Ij
 Bo:Df K mg "_law_is_row" Bj ["_law_found", "_law_size"] A.Go A.Gp
 Gz:Df K mg "_law_number" Bl ["_law_cell", "_law_mode"] A.Gq A.Gr
 Qf:Df K mg "_law_row" Eo ["_law_script", "_law_at", "_law_size", "_law_mode"] A.PZ A.Qb
 Lz:Df K mg "_law_plus" BY ["_law_one", "_law_other", "_law_times"] A.Lm A.Ln
 LA:Df K mg "_law_head" FU ["_law_row_here"] A.Lo A.Lp
 T8:Df K mg "_law_left" FV ["_law_rows", "_law_row_here"] A.Lq A.Lr
 GA:Df K mg "_law_copied" W6 ["_law_rows"] A.Gs A.Gu
 Qg:Df K mg "_law_few" BZ ["_law_script"] A.Qc A.Qd
 Ch:Df K mg "_law_is_entry" W7 ["_law_entry", "_law_rows", "_law_kinds"] A.Cd A.Ce
 Ci:Df K mg "_law_near" FY ["_law_entry", "_law_rows", "_law_kinds", "_law_steps"] A.Ls A.Lu
 f_law:Df K mg "law" PP ["_law_script"] A.a_law A.Qe
section
variable {K:aE}{mg:aF}{P:Program}{w:World}{base:Heap}{A:Adr}
section
variable (T:Facts K mg A)
include T
theorem DJ:FK P w K mg base 1 A.Gb A.Gc ["value"] true K3 :=
 T.Bm.d 0 AV KN (λhr hu =>
  (f9 (k7 (Ph (Bw (T := "int") rfl rfl T.A1 rfl T.n_int (by decide +kernel) (b9 0)) (Pg (p_not (Bw (T := "bool") rfl rfl T.A1 rfl T.UQ (by decide +kernel) (b9 0))))))))
theorem Rc:FK P w K mg base 2 A.Lb A.Lc ["value", "length"] true BS :=
 T.Lw.d 1 Fm QY (λhr hu =>
  (f7 (s_if (PFW.pt (w_or (X3 (X2 (Bw (T := "list") rfl rfl T.A1 rfl T.S3 (by decide +kernel) (b9 0)) (fun _=>rfl))) (Bt (t_cm (o_ne hu) (p_bu O0 T.P8 (q_n 0 e9)) (b9 1))))) (f9 (k7 p_bl)) A8)
   (f9 (k7 (p_bu (c_all rfl) T.n_all (j3 (p_co ["number"] 1 [] ["value", "length"] (d7 BW).names (M6 (b9 0)) (λ_ _ _ _ _=>(p_ca (DJ T) T.Bm hr (q_n 0 e9)))) e9))))))
theorem MO:FK P w K mg base 1 A.HK A.HL ["length"] true Aq :=
 T.Ik.d 0 CD MJ (λhr hu =>
  (f9 (k7 (p_co ["spot"] 1 [] ["length"] (d7 Az).names (E4 rfl T.F4 (b9 0)) (λ_ _ _ _ _=>i4)))))
theorem KQ:FK P w K mg base 1 A.Gd A.Ge ["length", "one_at"] true P0 :=
 T.Gw.d 0 AW KO (λhr hu =>
  (f9 (k7 (p_co ["spot", "one_at"] 1 [1] ["length", "one_at"] (d7 W0).names (E4 rfl T.F4 (b9 0)) (λ_ _ _ _ _=>(p_if (t_cm (o_eq hu) (b9 0) (b9 1)) i4 i4))))))
theorem KR:FK P w K mg base 1 A.PQ A.PR ["one", "other"] true M9 :=
 T.Cf.d 0 Ja Ti (λhr hu =>
  (f9 (k7 (IK (g:=(Tg.many [0,1])) (J9 (N:=["a", "b"]) (nt:=2) (js:=[]) ["one", "other"] (d7 Em).names rfl rfl rfl (by decide +kernel)) rfl (i_zip rfl T.n_zip (b9 0) (b9 1)) (λ_ _ _ _ _=>ED rfl (L1 (A6 (ndp ["a", "b"]) rfl (Or.inl rfl) (Or.inr rfl)) (L1 (A6 (ndp ["a", "b"]) rfl (Or.inl rfl) (Or.inr rfl)) EC))) (jlt [0,1] 2) (λ_ _ _ _ _=>EE) (λ_ _ _ _ _=>(p_op M5 (b9 0) (b9 1))) (jlt [] 2)))))
theorem KS:FK P w K mg base 1 A.PU A.PV ["one", "other"] true Ar :=
 T.Jy.d 0 Jb Tj (λhr hu =>
  (f9 (k7 (IK (g:=(Tg.many [0,1])) (J9 (N:=["a", "b"]) (nt:=2) (js:=[]) ["one", "other"] (d7 En).names rfl rfl rfl (by decide +kernel)) rfl (i_zip rfl T.n_zip (b9 0) (b9 1)) (λ_ _ _ _ _=>ED rfl (L1 (A6 (ndp ["a", "b"]) rfl (Or.inl rfl) (Or.inr rfl)) (L1 (A6 (ndp ["a", "b"]) rfl (Or.inl rfl) (Or.inr rfl)) EC))) (jlt [0,1] 2) (λ_ _ _ _ _=>EE) (λ_ _ _ _ _=>(p_op GW (b9 0) (b9 1))) (jlt [] 2)))))
theorem K9:FK P w K mg base 1 A.Ld A.Lf ["row", "often"] true C7 :=
 T.M0.d 0 Fn QZ (λhr hu =>
  (f9 (k7 (p_co ["number", "often"] 1 [1] ["row", "often"] (d7 BX).names (M6 (b9 0)) (λ_ _ _ _ _=>(p_op GX (b9 1) (b9 0)))))))
theorem D7:FK P w K mg base 1 A.HM A.HN ["row"] true j7 :=
 T.C9.d 0 CG Be (λhr hu =>
  (f7 (AJ (rels:=[]) (g:=(Tg.many [1,2])) PassesOwn.never rfl (RZ rfl T.DU (b9 0)) (ED rfl (L1 (A6 (i:=1) Be.nd rfl (Or.inl rfl) (Or.inl rfl)) (L1 (A6 (i:=2) Be.nd rfl (Or.inl rfl) (Or.inl rfl)) EC))) (f9 (s_if (t_cm (o_ne hu) (b9 2) i4) (f9 (k7 (b9 1))) A8)))
   (f9 (k7 (p_bu O0 T.P8 (q_n 0 e9))))))
theorem Jr:FK P w K mg base 2 A.DM A.DN ["value"] true Q6 :=
 T.DV.d 1 Y6 Jm (λhr hu =>
  (f9 (k7 (Ph (p_ca (DJ T) T.Bm hr (q_n 0 e9)) (Pg (Vg o_le o_le i4 (b9 0) (LR rfl T.Jx)))))))
theorem MP:FK P w K mg base 3 A.HP A.HQ ["value", "kinds"] true Au :=
 T.Il.d 2 CH MK (λhr hu =>
  (f9 (k7 (Ph (p_ca (Rc T) T.Lw hr (q_n 0 (q_n 1 e9))) (Pg (p_bu (c_all rfl) T.n_all (j3 (p_co ["number"] 1 [] ["value", "kinds"] (d7 AA).names (M6 (b9 0)) (λ_ _ _ _ _=>(p_cm o_lt (p_bu c_abs T.UP (q_n 0 e9)) (p_op RI i4 i4)))) e9)))))))
theorem GF:FK P w K mg base 3 A.Ca A.Cb ["kinds"] true N0 :=
 T.Cg.d 2 V4 GE (λhr hu =>
  (f9 (s_if (X3 (X2 (p_ca (Jr T) T.DV hr (q_n 0 e9)) (λ_=>rfl))) (f9 Ed) A8)))
theorem Js:FK P w K mg base 4 A.DO A.DP ["bill", "kinds"] true G1 :=
 T.DW.d 3 Y7 Jn (λhr hu =>
  (f9 (s_if (X3 (X2 (p_ca (MP T) T.Il hr (q_n 0 (q_n 1 e9))) (λ_=>rfl))) (f9 Ed) A8)))
theorem MQ:FK P w K mg base 1 A.HR A.HS ["kinds", "rows"] true Av :=
 T.Im.d 0 CI ML (λhr hu =>
  (f9 (k7 (@JO _ _ _ _ _ (@j3 _ _ _ _ _ (b9 0) (@j3 _ _ _ _ _ (p_ty RL T.L5 (j3 (p_co ["row"] 1 [] ["kinds", "rows"] (d7 AB).names (M6 (b9 1)) (λ_ _ _ _ _=>(p_ty RL T.L5 (q_n 0 e9)))) e9)) e9 rfl) rfl)))))
theorem MR:FK P w K mg base 5 A.HU A.HV ["kinds", "bills"] true T3 :=
 T.Io.d 4 CJ FM (λhr hu =>
  (f7 (RO (p_ca (GF T) T.Cg hr (q_n 0 e9)))
   (f7 (s_if (PFW.pt (w_or (X3 (X2 (Bw (T := "list") rfl rfl T.A1 rfl T.S3 (by decide +kernel) (b9 1)) (λ_=>rfl))) (Bt (t_cm o_gt (p_bu O0 T.P8 (q_n 1 e9)) (LR rfl T.Jw))))) (f9 Ed) A8)
   (f7 (AJ (rels:=[]) (g:=(Tg.one 2)) PassesOwn.never rfl (M6 (b9 1)) (Y4 FM.nd rfl (Or.inl rfl) (Or.inl rfl)) (f9 (RO (p_ca (Js T) T.DW hr (q_n 2 (q_n 0 e9))))))
   (f9 (k7 (p_ca (MQ T) T.Im hr (q_n 0 (q_n 1 e9)))))))))
theorem Dd:FK P w K mg base 2 A.Lg A.Lh ["hall"] true T4 :=
 T.E7.d 1 Fo Ra (λhr hu =>
  (f9 (k7 (p_ca (MO T) T.Ik hr (j3 (p_i (b9 0) i4) e9)))))
theorem Re:FK P w K mg base 1 A.Li A.Lj ["a", "b"] true Fq :=
 T.Lx.d 0 Fp G2 (λhr hu =>
  (f7 (AI (rels:=[]) (B4 (i:=2) (AH (q_n 0 (j3 i4 (j3 i4 e9)))) G2.nd rfl (Or.inr rfl) rfl (Or.inl rfl)))
   (f7 (AI (rels:=[]) (B4 (i:=3) (AH (q_n 1 (j3 i4 (j3 i4 e9)))) G2.nd rfl (Or.inr rfl) rfl (Or.inl rfl)))
   (f7 (IM PassesOwn.never (t_cm (o_ne hu) (p_i (b9 3) i4) i4) (f7 (AI (rels:=[]) (B4 (i:=4) (p_op AQ (p_i (b9 2) i4) (p_i (b9 3) i4)) G2.nd rfl (Or.inr rfl) rfl (Or.inl rfl)))
   (f7 (AI (rels:=[]) (a_co 5 G2.nd ["k", "upper", "often", "lower"] 1 [2,4,3] ["a", "b", "upper", "lower", "often", "left"] (d7 Z5).names (E4 rfl T.F4 i4) (λ_ _ _ _ _=>(p_op GW (p_i (b9 1) (b9 0)) (p_op GX (b9 2) (p_i (b9 3) (b9 0)))))))
   (f7 (AI (rels:=[]) (B4 (i:=2) (b9 3) G2.nd rfl (Or.inr rfl) rfl (Or.inl rfl)))
   (f9 (AI (rels:=[]) (B4 (i:=3) (b9 5) G2.nd rfl (Or.inr rfl) rfl (Or.inl rfl))))))))
   (f7 (s_if (t_cm o_lt (p_i (b9 2) i4) i4) (f9 (AI (rels:=[]) (B4 (i:=2) (p_co ["number"] 1 [] ["a", "b", "upper", "lower", "often", "left"] (d7 Z5).names (M6 (b9 2)) (λ_ _ _ _ _=>(JN (b9 0)))) G2.nd rfl (Or.inr rfl) rfl (Or.inl rfl)))) A8)
   (f9 (k7 (p_ty RL T.L5 (q_n 2 e9)))))))))
theorem MS:FK P w K mg base 1 A.HW A.HX ["numbers"] true Aw :=
 T.Ip.d 0 CK W2 (λhr hu =>
  (f7 (asn 1 i4 W2.nd)
   (f7 (AJ (rels:=[]) (g:=(Tg.one 2)) PassesOwn.never rfl (M6 (b9 0)) (Y4 W2.nd rfl (Or.inl rfl) (Or.inl rfl)) (f9 (asn 1 (p_op GX (b9 1) (b9 2)) W2.nd)))
   (f9 (k7 (b9 1))))))
theorem KU:FK P w K mg base 2 A.Gf A.Gg ["row", "rungs"] true V5 :=
 T.Gx.d 1 AX D5 (λhr hu =>
  (f7 (asn 2 (p_ty JQ T.S3 (q_n 0 e9)) D5.nd)
   (f7 (Pn (B4 (i:=3) (AH e9) D5.nd rfl (Or.inl rfl) rfl (Or.inl rfl)))
   (f7 (AJ (rels:=[]) (g:=(Tg.one 4)) PassesOwn.never rfl (M6 (b9 1)) (Y4 D5.nd rfl (Or.inl rfl) (Or.inl rfl)) (f7 (asn 5 (p_ca (D7 T) T.C9 hr (q_n 4 e9)) D5.nd)
   (f7 (asn 6 (p_op AQ (p_i (b9 2) (b9 5)) (p_i (b9 4) (b9 5))) D5.nd)
   (f7 (s_if (t_cm (o_ne hu) (b9 6) i4) (f9 (asn 2 (p_ca (KS T) T.Jy hr (q_n 2 (j3 (p_ca (K9 T) T.M0 hr (q_n 4 (q_n 6 e9))) e9))) D5.nd)) A8)
   (f9 (Sb (i:=3) Mb F.slot_list_append F.type_list_append rfl (Or.inl rfl) (b9 6)))))))
   (f9 (k7 (JO (q_n 3 (q_n 2 e9)))))))))
theorem W8:FK P w K mg base 3 A.HY A.HZ ["row", "rungs"] true n9 :=
 T.L0.d 2 CL MM (λhr hu =>
  (f9 (k7 (p_i (p_ca (KU T) T.Gx hr (q_n 0 (q_n 1 e9))) i4))))
theorem MT:FK P w K mg base 2 A.Ia A.Ib ["rung", "row"] true N5 :=
 T.Iq.d 1 CM P6 (λhr hu =>
  (f7 (asn 2 (p_ca (D7 T) T.C9 hr (q_n 0 e9)) P6.nd)
   (f7 (asn 3 (p_ca (Re T) T.Lx hr (j3 (p_i (b9 0) (b9 2)) (j3 (p_i (b9 1) (b9 2)) e9))) P6.nd)
   (f7 (asn 4 (p_ca (KR T) T.Cf hr (j3 (p_ca (K9 T) T.M0 hr (q_n 0 (j3 (p_i (b9 3) i4) e9))) (j3 (p_ca (K9 T) T.M0 hr (q_n 1 (j3 (p_i (b9 3) i4) e9))) e9))) P6.nd)
   (f7 (asn 5 (p_ca (KS T) T.Jy hr (j3 (p_ca (K9 T) T.M0 hr (q_n 1 (j3 (p_op AQ (p_i (b9 0) (b9 2)) (p_i (b9 3) i4)) e9))) (j3 (p_ca (K9 T) T.M0 hr (q_n 0 (j3 (p_op AQ (p_i (b9 1) (b9 2)) (p_i (b9 3) i4)) e9))) e9))) P6.nd)
   (f9 (k7 (JO (q_n 4 (q_n 5 e9))))))))))
theorem Jt:FK P w K mg base 2 A.DQ A.DR ["row"] true B5 :=
 T.DX.d 1 Y8 Jo (λhr hu =>
  (f9 (k7 (p_if (t_cm o_lt (p_i (b9 0) (p_ca (D7 T) T.C9 hr (q_n 0 e9))) i4) (p_ca (K9 T) T.M0 hr (q_n 0 (j3 (JN i4) e9))) (p_ty JQ T.S3 (q_n 0 e9))))))
theorem KW:FK P w K mg base 4 A.Gh A.Gi ["rungs", "row"] false K4 :=
 T.Gy.d 3 P1 G3 (λhr hu =>
  (f7 (Pn (B4 (i:=2) (p_ty JQ T.S3 (q_n 0 e9)) G3.nd rfl (Or.inl rfl) rfl (Or.inl rfl)))
   (f7 (IL (B4 (i:=3) (p_ca (W8 T) T.L0 hr (q_n 1 (q_n 2 e9))) G3.nd rfl (Or.inr rfl) rfl (Or.inl rfl)))
   (f7 (IM PassesOwn.never (t_cm o_lt (p_ca (D7 T) T.C9 hr (q_n 3 e9)) (p_bu O0 T.P8 (q_n 3 e9))) (f7 (IL (JT (i:=4) (g:=(Tg.many [0,1])) G3.nd rfl rfl rfl (J9 (N:=["place", "rung", "left"]) (nt:=2) (js:=[3]) ["rungs", "row", "found", "left", "places", "pair"] (d7 W3).names rfl rfl rfl (by decide +kernel)) rfl (RZ rfl T.DU (b9 2)) (λ_ _ _ _ _=>ED rfl (L1 (A6 (ndp ["place", "rung", "left"]) rfl (Or.inl rfl) (Or.inr rfl)) (L1 (A6 (ndp ["place", "rung", "left"]) rfl (Or.inl rfl) (Or.inr rfl)) EC))) (jlt [0,1] 2) (λ_ _ _ _ _=>(ts_one (t_cm (o_eq hu) (p_ca (D7 T) T.C9 hr (q_n 1 e9)) (p_ca (D7 T) T.C9 hr (q_n 2 e9))))) (λ_ _ _ _ _=>(b9 0)) (jlt [3] 6)))
   (f7 (s_if (t_cm (o_eq hu) (p_bu O0 T.P8 (q_n 4 e9)) i4) (f9 (k7 (Vs (D7 T) (hr.mono (by decide)) rfl T.Lv T.C9.mg rfl T.C9.bd (p_op M5 (b9 2) (@AH _ _ _ _ (@j3 _ _ _ _ _ (p_ca (Jt T) T.DX hr (q_n 3 e9)) e9 rfl)))))) A8)
   (f7 (IL (B4 (i:=5) (p_ca (MT T) T.Iq hr (j3 (p_i (b9 2) (p_i (b9 4) i4)) (q_n 3 e9))) G3.nd rfl (Or.inl rfl) rfl (Or.inl rfl)))
   (f7 (s_put (i:=2) rfl (Or.inl rfl) (p_i (b9 4) i4) (p_i (b9 5) i4))
   (f9 (IL (B4 (i:=3) (p_ca (W8 T) T.L0 hr (j3 (p_i (b9 5) i4) (q_n 2 e9))) G3.nd rfl (Or.inr rfl) rfl (Or.inl rfl)))))))))
   (f9 (k7 (b9 2)))))))
theorem Rf:FK P w K mg base 4 A.Lk A.Ll ["rungs"] true Y9 :=
 T.Ly.d 3 Ft CY (λhr hu =>
  (f7 (Pn (B4 (i:=1) (AH e9) CY.nd rfl (Or.inl rfl) rfl (Or.inl rfl)))
   (f7 (AJ (rels:=[]) (g:=(Tg.one 2)) PassesOwn.never rfl (i_rev rfl T.OU (b9 0)) (Y4 CY.nd rfl (Or.inl rfl) (Or.inl rfl)) (f9 (s_insA (i:=1) rfl (Or.inl rfl) (p_ca (W8 T) T.L0 hr (q_n 2 (q_n 1 e9))))))
   (f9 (k7 (b9 1))))))
theorem MU:FK P w K mg base 5 A.Ic A.Ie ["rows"] true T5 :=
 T.Ir.d 4 CN W4 (λhr hu =>
  (f7 (asn 1 (AH e9) W4.nd)
   (f7 (AJ (rels:=[]) (g:=(Tg.one 2)) PassesOwn.never rfl (M6 (b9 0)) (Y4 W4.nd rfl (Or.inl rfl) (Or.inl rfl)) (f9 (asn 1 (p_ca (Rf T) T.Ly hr (j3 (p_ca (KW T) T.Gy hr (q_n 1 (q_n 2 e9))) e9)) W4.nd)))
   (f9 (k7 (b9 1))))))
theorem De:FK P w K mg base 2 A.X5 A.X6 ["rungs"] true F1 :=
 T.X7.d 1 M4 Da (λhr hu =>
  (f9 (k7 (p_ca (MS T) T.Ip hr (j3 (p_co ["rung"] 1 [] ["rungs"] (d7 F3).names (M6 (b9 0)) (λ_ _ _ _ _=>(p_i (b9 0) (p_ca (D7 T) T.C9 hr (q_n 0 e9))))) e9)))))
theorem FZ:FK P w K mg base 6 A.PX A.PY ["hall"] true F2 :=
 T.AD.d 5 Jc Tk (λhr hu =>
  (f9 (k7 (p_ca (MU T) T.Ir hr (j3 (p_i (b9 0) i4) e9)))))
theorem DK:FK P w K mg base 7 A.Gj A.Gk ["hall"] true P2 :=
 T.Bn.d 6 AY DG (λhr hu =>
  (f7 (asn 1 (p_ca (FZ T) T.AD hr (q_n 0 e9)) DG.nd)
   (f7 (s_if (t_cm o_lt (p_bu O0 T.P8 (q_n 1 e9)) (p_i (b9 0) i4)) (f9 (k7 p_non)) A8)
   (f9 (k7 (p_ca (De T) T.X7 hr (q_n 1 e9)))))))
theorem KY:FK P w K mg base 8 A.Gm A.Gn ["hall"] true K5 :=
 T.W9.d 7 AZ DH (λhr hu =>
  (f7 (asn 1 (p_ca (DK T) T.Bn hr (q_n 0 e9)) DH.nd)
   (f9 (s_if (PFW.pt (w_or (t_cm o_isN (b9 1) p_non) (Bt (t_cm o_gt (b9 1) (LR rfl T.Gv))))) (f9 Ed) A8))))
theorem Ea:FK P w K mg base 2 A.Z8 A.Z9 ["kinds"] false C0 :=
 T.J2.d 1 P3 X4 (λhr hu =>
  (f7 (AI (rels:=[]) (a_co 1 X4.nd ["spot", "kinds"] 1 [0] ["kinds", "ones"] (d7 D6).names (E4 rfl T.F4 (b9 0)) (fun _ _ _ _ _=>(p_ca (KQ T) T.Gw hr (q_n 1 (q_n 0 e9))))))
   (f9 (k7 (p_op M5 (b9 1) (p_co ["one"] 1 [] ["kinds", "ones"] (d7 D6).names (M6 (b9 1)) (λ_ _ _ _ _=>(p_ca (K9 T) T.M0 hr (q_n 0 (j3 (JN i4) e9))))))))))
end
theorem GH(T:Facts K mg A)(lm:Lam base mg 236 232)(lc:A.J0.code = .ref 236):FnOk P w K mg base CX0 4 A.Cc A.J0 ["level", "steps", "rungs", "seen"] (spNx K M9 n9 232 #[] "next_level.<locals>.<lambda>") :=
 VL T.J3 C8 rfl rfl lc fun _ _ _ _ _ hr=>have hu:_+1<_:=Nat.lt_of_le_of_lt (Nat.add_le_add_left (by decide:1≤64) _) hr.units
  j8 (B8 C8.nd (i:=4) rfl (Or.inl rfl) (Eu l7))
  (j8 (X9 PassesOwn.never rfl (Bp (pv 0)) (A6 (i:=5) C8.nd rfl (Or.inl rfl))
   (y4 (X9 PassesOwn.never rfl (Bp (pv 1)) (A6 (i:=6) C8.nd rfl (Or.inl rfl))
    (j8 (B8 C8.nd (i:=7) rfl (Or.inl rfl) (D8 (E:=E0) (dvs:=[]) (KR T) (hr.mono (by decide)) rfl T.Cf.mg T.Cf.fn.kp T.Cf.bd .nil S5 (i8 (J4 J7 (pv 5) B7 (λ_ _=>rfl)) (i8 (pv 6) l7))))
    (j8 (B8 C8.nd (i:=8) rfl (Or.inl rfl) (D8 (E:=E0) (dvs:=[]) (W8 T) (hr.mono (by decide)) rfl T.L0.mg T.L0.fn.kp T.L0.bd .nil S5 (i8 (pv 7) (i8 (pv 2) l7))))
    (y4 (Dj (LB (Hi hu (F6 A2 rfl T.L5 (by decide +kernel) (i8 (pv 8) l7)) (pv 3)))
     (j8 (Pq hu (pv 3) (F6 A2 rfl T.L5 (by decide +kernel) (i8 (pv 8) l7)) X0 rfl)
     (y4 (Aa (Pb F.plainAttrs_list F.slot_list_append F.type_list_append Ck (pv 4) (i8 (Et (i8 (pv 8) (i8 (pv 7) l7))) l7)))))
     P9)))))))
  (y4 (N7 (Sn (k:=0) ⟨scm,λ_ _ _ _=>rfl,λ_ _ _ _ _ _=>J4 J7 (pv 0) B7 (λ_ _=>rfl)⟩ (hr.mono (by decide)) lm rfl rfl rfl rfl rfl T.Lv (pv 4)))))
theorem MV(T:Facts K mg A)(lm:Lam base mg 236 232)(lc:A.J0.code = .ref 236):FnOk P w K mg base CX0 9 A.Ig A.Ih ["hall"] (spcT K 232 #[] "next_level.<locals>.<lambda>" false K6) :=
 Mv T.Iu C5 rfl rfl (λds d e=>DC e) λ_ _ _ _ _ _ hr=>have hu:=hr.units
  j8 (Aa (D8 (E:=E0) (dvs:=[]) (KY T) (hr.mono (by decide)) rfl T.W9.mg T.W9.fn.kp T.W9.bd .nil S5 (i8 (pv 0) l7)))
  (j8 (B8 C5.nd (i:=1) rfl (Or.inl rfl) (D8 (E:=E0) (dvs:=[]) (FZ T) (hr.mono (by decide)) rfl T.AD.mg T.AD.fn.kp T.AD.bd .nil S5 (i8 (pv 0) l7)))
  (j8 (B8 C5.nd (i:=2) rfl (Or.inl rfl) (D8 (E:=E0) (dvs:=[]) (Ea T) (hr.mono (by decide)) rfl T.J2.mg T.J2.fn.kp T.J2.bd .nil S5 (i8 (J4 J7 (pv 0) B7 (λ_ _=>rfl)) l7)))
  (j8 (B8 C5.nd (i:=3) rfl (Or.inl rfl) (Vw (Wm (vQ _ 64) hu) (F6 A2 rfl T.L5 (by decide +kernel) (i8 (D8 (E:=E0) (dvs:=[]) (Dd T) (hr.mono (by decide)) rfl T.E7.mg T.E7.fn.kp T.E7.bd .nil S5 (i8 (pv 0) l7)) l7)) X0))
  (j8 (B8 C5.nd (i:=4) rfl (Or.inl rfl) (Eu (i8 (Et (i8 (D8 (E:=E0) (dvs:=[]) (Dd T) (hr.mono (by decide)) rfl T.E7.mg T.E7.fn.kp T.E7.bd .nil S5 (i8 (pv 0) l7)) (i8 (D8 (E:=E0) (dvs:=[]) (Dd T) (hr.mono (by decide)) rfl T.E7.mg T.E7.fn.kp T.E7.bd .nil S5 (i8 (pv 0) l7)) l7))) l7)))
  (j8 (B8 C5.nd (i:=5) rfl (Or.inl rfl) (Eu l7))
  (j8 (B8 C5.nd (i:=6) rfl (Or.inr rfl) B7)
  (j8 (JD PassesOwn.never (t_cm o_gt (p_bu O0 T.P8 (q_n 4 e9)) i4)
   (j8 (Aa (Pb F.plainAttrs_list F.slot_list_extend F.type_list_extend Qn (pv 5) (i8 (IK (g:=(Tg.many [0,1])) (J9 (N:=["reached", "basket", "many"]) (nt:=2) (js:=[6]) ["hall", "rungs", "steps", "seen", "level", "told", "many"] (d7 AC).names rfl rfl rfl (by decide +kernel)) rfl (M6 (b9 4)) (λ_ _ _ _ _=>ED rfl (L1 (A6 (ndp ["reached", "basket", "many"]) rfl (Or.inl rfl) (Or.inr rfl)) (L1 (A6 (ndp ["reached", "basket", "many"]) rfl (Or.inl rfl) (Or.inr rfl)) EC))) (jlt [0,1] 2) (λ_ _ _ _ _=>EE) (λ_ _ _ _ _=>(JO (q_n 0 (q_n 2 (q_n 1 e9))))) (jlt [6] 7)) l7)))
   (j8 (B8 C5.nd (i:=4) rfl (Or.inl rfl) (D8 (E:=E0) (dvs:=[]) (GH T lm lc) (hr.mono (by decide)) rfl T.J3.mg T.J3.fn.kp T.J3.bd .nil S5 (i8 (pv 4) (i8 (pv 2) (i8 (pv 1) (i8 (pv 3) l7))))))
   (y4 (B8 C5.nd (i:=6) rfl (Or.inr rfl) (p_op M5 (b9 6) i4))))))
  (y4 (N7 (pv 5))))))))))
section
variable (T:Facts K mg A)
include T
theorem I0:FK P w K mg base 1 A.DS A.DT ["_law_script", "_law_k"] true o7 :=
 T.G4.d 0 Z0 Jq (λhr hu =>
  (f7 (s_if (t_cm o_lt (b9 1) (p_bu O0 T.P8 (q_n 0 e9))) (f9 (k7 (p_i (b9 0) (b9 1)))) A8)
   (f7 (s_if (t_cm (o_eq hu) (b9 0) (AH e9)) (f9 (k7 i4)) A8)
   (f9 (k7 (p_op M5 (p_op GX (p_i (b9 0) (p_op Dn (b9 1) (p_bu O0 T.P8 (q_n 0 e9)))) i4) (b9 1)))))))
theorem Ga:FK P w K mg base 1 A.Ii A.Ij ["_law_found"] true E1 :=
 T.Di.d 0 Ax MN (λhr hu =>
  (f9 (k7 (Ph (Bw (T := "int") rfl rfl T.A1 rfl T.n_int (by decide +kernel) (b9 0)) (Pg (p_not (Bw (T := "bool") rfl rfl T.A1 rfl T.UQ (by decide +kernel) (b9 0))))))))
theorem DL:FK P w K mg base 2 A.Go A.Gp ["_law_found", "_law_size"] true P4 :=
 T.Bo.d 1 Ba DI (λhr hu =>
  (f7 (s_if (PFW.pt (w_or (X3 (X2 (Bw (T := "list") rfl rfl T.A1 rfl T.S3 (by decide +kernel) (b9 0)) (fun _=>rfl))) (Bt (t_cm (o_ne hu) (p_bu O0 T.P8 (q_n 0 e9)) (b9 1))))) (f9 (k7 p_bl)) A8)
   (f7 (AJ (rels:=[]) (g:=(Tg.one 2)) PassesOwn.never rfl (M6 (b9 0)) (Y4 DI.nd rfl (Or.inl rfl) (Or.inl rfl)) (f9 (s_if (X3 (X2 (p_ca (Ga T) T.Di hr (q_n 2 e9)) (λ_=>rfl))) (f9 (k7 p_bl)) A8)))
   (f9 (k7 p_bl)))))
theorem KZ:FK P w K mg base 1 A.Gq A.Gr ["_law_cell", "_law_mode"] true K7 :=
 T.Gz.d 0 P5 Q7 (λhr hu =>
  (f7 (s_if (t_cm (o_eq hu) (b9 1) i4) (f7 (asn 2 (p_op Dn (b9 0) (p_op RI i4 i4)) Q7.nd)
   (f7 (s_if (t_cm (o_eq hu) (p_op Dn (p_op AQ (b9 0) (p_op RI i4 i4)) i4) i4) (f9 (k7 (JN (b9 2)))) A8)
   (f9 (k7 (b9 2))))) A8)
   (f7 (asn 3 (p_i (AH (j3 i4 (j3 i4 e9))) (b9 1)) Q7.nd)
   (f7 (asn 2 (p_op Dn (b9 0) (b9 3)) Q7.nd)
   (f7 (s_if (t_cm o_gt (b9 2) (p_op AQ (b9 3) i4)) (f9 (k7 (p_op GW (b9 2) (b9 3)))) A8)
   (f9 (k7 (b9 2))))))))
theorem Tm:FK P w K mg base 2 A.PZ A.Qb ["_law_script", "_law_at", "_law_size", "_law_mode"] true Ei :=
 T.Qf.d 1 Jd Tl (λhr hu =>
  (f9 (k7 (p_co ["_law_k", "_law_script", "_law_at", "_law_mode"] 1 [0,1,3] ["_law_script", "_law_at", "_law_size", "_law_mode"] (d7 Eo).names (E4 rfl T.F4 (b9 2)) (λ_ _ _ _ _=>(p_ca (KZ T) T.Gz hr (j3 (p_ca (I0 T) T.G4 hr (q_n 1 (j3 (p_op M5 (b9 2) (b9 0)) e9))) (q_n 3 e9))))))))
theorem Rg:FK P w K mg base 1 A.Lm A.Ln ["_law_one", "_law_other", "_law_times"] true Z1 :=
 T.Lz.d 0 Fv Rb (λhr hu =>
  (f9 (k7 (p_co ["_law_k", "_law_one", "_law_times", "_law_other"] 1 [0,2,1] ["_law_one", "_law_other", "_law_times"] (d7 BY).names (E4 rfl T.F4 (p_bu O0 T.P8 (q_n 0 e9))) (λ_ _ _ _ _=>(p_op M5 (p_i (b9 1) (b9 0)) (p_op GX (b9 2) (p_i (b9 3) (b9 0)))))))))
theorem Rh:FK P w K mg base 1 A.Lo A.Lp ["_law_row_here"] true Z2 :=
 T.LA.d 0 Fw Dc (λhr hu =>
  (f7 (asn 1 i4 Dc.nd)
   (f7 (IM PassesOwn.never (PFW.pt (w_and (t_cm o_lt (b9 1) (p_bu O0 T.P8 (q_n 0 e9))) (RJ (t_cm (o_eq hu) (p_i (b9 0) (b9 1)) i4)))) (f9 (asn 1 (p_op M5 (b9 1) i4) Dc.nd)))
   (f9 (k7 (b9 1))))))
theorem Dg:FK P w K mg base 2 A.Lq A.Lr ["_law_rows", "_law_row_here"] true G8 :=
 T.T8.d 1 Fx T6 (λhr hu =>
  (f7 (asn 2 (p_ty JQ T.S3 (q_n 1 e9)) T6.nd)
   (f7 (AJ (rels:=[]) (g:=(Tg.one 3)) PassesOwn.never rfl (M6 (b9 0)) (Y4 T6.nd rfl (Or.inl rfl) (Or.inl rfl)) (f7 (asn 4 (p_ca (Rh T) T.LA hr (q_n 3 e9)) T6.nd)
   (f9 (asn 2 (p_ca (Rg T) T.Lz hr (q_n 2 (q_n 3 (j3 (JN (p_op AQ (p_i (b9 2) (b9 4)) (p_i (b9 3) (b9 4)))) e9)))) T6.nd))))
   (f9 (k7 (b9 2))))))
theorem La:FK P w K mg base 1 A.Gs A.Gu ["_law_rows"] true V6 :=
 T.GA.d 0 Bb KP (λhr hu =>
  (f9 (k7 (p_co ["_law_row_here"] 1 [] ["_law_rows"] (d7 W6).names (M6 (b9 0)) (λ_ _ _ _ _=>(p_ty JQ T.S3 (q_n 0 e9)))))))
theorem Tn:FK P w K mg base 3 A.Qc A.Qd ["_law_script"] true Ej :=
 T.Qg.d 2 Je P7 (λhr hu =>
  (f7 (asn 1 (p_op M5 i4 (p_op Dn (p_ca (I0 T) T.G4 hr (q_n 0 (j3 i4 e9))) i4)) P7.nd)
   (f7 (Pn (B4 (i:=2) (AH e9) P7.nd rfl (Or.inl rfl) rfl (Or.inl rfl)))
   (f7 (AJ (rels:=[]) (g:=(Tg.one 3)) PassesOwn.never rfl (E4 rfl T.F4 (b9 1)) (Y4 P7.nd rfl (Or.inr rfl) (Or.inl rfl)) (f7 (asn 4 (p_op M5 i4 (p_op Dn (p_ca (I0 T) T.G4 hr (q_n 0 (j3 (p_op M5 i4 (b9 3)) e9))) i4)) P7.nd)
   (f7 (s_if (PFW.pt (w_and (t_cm o_gt (b9 4) i4) (RJ (t_cm (o_eq hu) (b9 1) i4)))) (f9 (asn 4 i4 P7.nd)) A8)
   (f7 (AI (rels:=[]) (a_co 5 P7.nd ["_law_j", "_law_script", "_law_k"] 1 [0,3] ["_law_script", "_law_kinds", "_law_bills", "_law_k", "_law_size", "_law_tail"] (d7 BZ).names (E4 rfl T.F4 (p_op GW (p_op GW (b9 1) (b9 3)) i4)) (λ_ _ _ _ _=>(p_op GW (p_op Dn (p_ca (I0 T) T.G4 hr (q_n 1 (j3 (p_op M5 (p_op M5 i4 (p_op GX i4 (b9 2))) (b9 0)) e9))) i4) i4))))
   (f9 (Sb (i:=2) Mb F.slot_list_append F.type_list_append rfl (Or.inl rfl) (p_op M5 (p_op M5 (p_co ["_law_j"] 1 [] ["_law_script", "_law_kinds", "_law_bills", "_law_k", "_law_size", "_law_tail"] (d7 BZ).names (E4 rfl T.F4 (b9 3)) (λ_ _ _ _ _=>i4)) (AH (q_n 4 e9))) (b9 5))))))))
   (f7 (s_if (t_cm (o_eq hu) (p_op Dn (p_ca (I0 T) T.G4 hr (q_n 0 (j3 i4 e9))) i4) i4) (f9 (Sb (i:=2) Mb F.slot_list_append F.type_list_append rfl (Or.inl rfl) (p_ca (Tm T) T.Qf hr (q_n 0 (j3 i4 (q_n 1 (j3 i4 e9))))))) A8)
   (f9 (k7 (JO (q_n 1 (q_n 2 e9))))))))))
theorem GI:FK P w K mg base 3 A.Cd A.Ce ["_law_entry", "_law_rows", "_law_kinds"] true N1 :=
 T.Ch.d 2 V7 L4 (λhr hu =>
  (f7 (s_if (PFW.pt (w_or (X3 (X2 (Bw (T := "tuple") rfl rfl T.A1 rfl T.L5 (by decide +kernel) (b9 0)) (fun _=>rfl))) (w_or (t_cm (o_ne hu) (p_bu O0 T.P8 (q_n 0 e9)) i4) (Bt (X3 (X2 (p_ca (Ga T) T.Di hr (j3 (p_i (b9 0) i4) e9)) (fun _=>rfl))))))) (f9 (k7 p_bl)) A8)
   (f7 (s_if (PFW.pt (w_or (X3 (X2 (p_ca (DL T) T.Bo hr (j3 (p_i (b9 0) i4) (q_n 2 e9))) (λ_=>rfl))) (Bt (X3 (X2 (p_ca (DL T) T.Bo hr (j3 (p_i (b9 0) i4) (q_n 2 e9))) (λ_=>rfl)))))) (f9 (k7 p_bl)) A8)
   (f7 (s_if (PFW.pt (w_or (t_cm (o_ne hu) (p_ca (Dg T) T.T8 hr (q_n 1 (j3 (p_i (b9 0) i4) e9))) (p_i (b9 0) i4)) (Bt (t_cm (o_ne hu) (p_ca (Dg T) T.T8 hr (q_n 1 (j3 (p_i (b9 0) i4) e9))) (p_i (b9 0) i4))))) (f9 (k7 p_bl)) A8)
   (f7 (asn 3 i4 L4.nd)
   (f7 (AJ (rels:=[]) (g:=(Tg.one 4)) PassesOwn.never rfl (M6 (p_i (b9 0) i4)) (Y4 L4.nd rfl (Or.inl rfl) (Or.inl rfl)) (f9 (asn 3 (p_op M5 (b9 3) (p_bu c_abs T.UP (q_n 4 e9))) L4.nd)))
   (f9 (k7 (p_cm (o_eq hu) (b9 3) (p_i (b9 0) i4))))))))))
theorem Ri:FnOk P w K mg base CX0 3 A.Ls A.Lu ["_law_entry", "_law_rows", "_law_kinds", "_law_steps"] (spNr K G8) :=
 VP T.Ci T7 rfl rfl fun _ _ _ _ _ _ hr=>have h1:_+1<_:=Nat.lt_of_le_of_lt (Nat.add_le_add_left (by decide:1≤64) _) hr.units
  j8 (X9 PassesOwn.never rfl (GM rfl T.F4 (i8 (pv 2) l7)) (A6 (i:=4) T7.nd rfl (Or.inl rfl))
   (y4 (X9 PassesOwn.never rfl (Bp (Eu (i8 (pe_un Rs B7) (i8 B7 l7)))) (A6 (i:=5) T7.nd rfl (Or.inl rfl))
    (j8 (B8 T7.nd (i:=6) rfl (Or.inl rfl) (F6 U1 rfl T.S3 (by decide +kernel) (i8 (J4 J7 (pv 0) B7 (λ_ _=>rfl)) l7)))
    (j8 (Rq (JF Rr (J4 Ac (pv 6) (pv 4) (λ_ _=>rfl)) (pv 5)) (Ro (pv 6) (pv 4) JJ))
    (j8 (B8 T7.nd (i:=7) rfl (Or.inl rfl) (F6 A2 rfl T.L5 (by decide +kernel) (i8 (D8 (E:=E0) (dvs:=[]) (Dg T) (hr.mono (by decide)) rfl T.T8.mg T.T8.fn.kp T.T8.bd .nil S5 (i8 (pv 1) (i8 (pv 6) l7))) l7)))
    (y4 (Dj (PW.pt (Rk (LB (Hi h1 (pv 7) (pv 3))) (LC (Ix op_gt (Ev JG rfl T.UP (by decide +kernel) (i8 (JF Iw (Vu h1 (pv 3) (pv 7) (λ_ _=>rfl)) (J4 J7 (pv 0) B7 (λ_ _=>rfl))) l7)) B7 rfl)))) (y4 (N7 X0)) P9))))))))
  (y4 (N7 X0))
end
theorem ok_law(T:Facts K mg A)(lm:Lam base mg 236 232)(lc:A.J0.code = .ref 236):FnOk P w K mg base CX0 10 A.a_law A.Qe ["_law_script"] (spcT K 232 #[] "next_level.<locals>.<lambda>" true Fy) :=
 law_ok T.f_law R9 rfl rfl λhr hu hT=>have h1:_+1<_:=Wm (vB (by decide:1<=64) _) hu
  j8 (B8 R9.nd (i:=1) rfl (Or.inl rfl) (p_ca (Tn T) T.Qg hr (q_n 0 e9)))
  (j8 (B8 R9.nd (i:=2) rfl (Or.inl rfl) (p_i (b9 1) i4))
  (j8 (B8 R9.nd (i:=3) rfl (Or.inl rfl) (p_ca (MR T) T.Io hr (q_n 2 (j3 (p_ca (La T) T.GA hr (j3 (p_i (b9 1) i4) e9)) e9))))
  (j8 (B8 R9.nd (i:=4) rfl (Or.inl rfl) (p_ca (FZ T) T.AD hr (q_n 3 e9)))
  (j8 (B8 R9.nd (i:=5) rfl (Or.inl rfl) (p_caT (MV T lm lc) T.Iu hr hT (q_n 3 e9)))
  (j8 (Dj (PFW.pt (w_or (X3 (X2 (Bw (T := "list") rfl rfl T.A1 rfl T.S3 (by decide +kernel) (b9 5)) (λ_=>rfl))) (Bt (t_cm (o_ne hu) (p_bu O0 T.P8 (q_n 5 e9)) (p_ca (DK T) T.Bn hr (q_n 3 e9)))))) (y4 (N7 X0)) P9)
  (j8 (B8 R9.nd (i:=6) rfl (Or.inl rfl) Vv)
  (j8 (X9 PassesOwn.never rfl (Bp (pv 5)) (A6 (i:=7) R9.nd rfl (Or.inl rfl)) (j8 (Dj (PW.pt (Rk (X3 (X2 (p_ca (GI T) T.Ch hr (q_n 7 (q_n 4 (q_n 2 e9)))) (λ_=>rfl))) (LC (LB (pc_din h1 (F6 A2 rfl T.L5 (by decide +kernel) (i8 (J4 J7 (pv 7) B7 (λ_ _=>rfl)) l7)) (pv 6)))))) (y4 (N7 X0)) P9) (y4 (Pq h1 (pv 6) (F6 A2 rfl T.L5 (by decide +kernel) (i8 (J4 J7 (pv 7) B7 (λ_ _=>rfl)) l7)) (J4 J7 (pv 7) B7 (λ_ _=>rfl)) rfl))))
  (j8 (Dj (PFW.pt (w_or (t_cm (o_ne hu) (p_i (p_i (b9 5) i4) i4) (p_co ["_law_k"] 1 [] ["_law_script", "_law_drawn", "_law_kinds", "_law_hall", "_law_rows", "_law_found", "_law_steps", "_law_entry", "_law_k"] (d7 PP).names (E4 rfl T.F4 (b9 2)) (λ_ _ _ _ _=>i4))) (Bt (t_cm (o_ne hu) (p_i (p_i (b9 5) i4) i4) i4)))) (y4 (N7 X0)) P9)
  (j8 (X9 PassesOwn.never rfl (Qk rfl T.F4 (i8 B7 (i8 (p_bu O0 T.P8 (q_n 5 e9)) l7))) (A6 (i:=8) R9.nd rfl (Or.inl rfl)) (y4 (Dj (Ix (op_geT hu) (Et (i8 (J4 J7 (J4 Ac (pv 5) (JF Iw (pv 8) B7) (λ_ _=>rfl)) B7 (λ_ _=>rfl)) (i8 (J4 J7 (J4 Ac (pv 5) (JF Iw (pv 8) B7) (λ_ _=>rfl)) B7 (λ_ _=>rfl)) l7))) (Et (i8 (J4 J7 (J4 Ac (pv 5) (pv 8) (λ_ _=>rfl)) B7 (λ_ _=>rfl)) (i8 (J4 J7 (J4 Ac (pv 5) (pv 8) (λ_ _=>rfl)) B7 (λ_ _=>rfl)) l7))) rfl) (y4 (N7 X0)) P9)))
  (j8 (X9 PassesOwn.never rfl (Bp (pv 5)) (A6 (i:=7) R9.nd rfl (Or.inl rfl)) (y4 (Dj (Rl (pt_val (D8 (E:=E0) (dvs:=[]) (Ri T) (hr.mono (by decide)) rfl T.Ci.mg T.Ci.fn.kp T.Ci.bd .nil S5 (i8 (pv 7) (i8 (pv 4) (i8 (pv 2) (i8 (pv 6) l7))))))) (y4 (N7 X0)) P9)))
  (y4 (N7 X0))))))))))))
end
theorem To{l:PySem.W.OpenLaw}{w:World}{K:aE}{h:Heap}{mg:aF}{fa:Addr}(X:K.In h)(G:h.Ns mainGlobals mg)(hfa:mg "law" = some (.ref fa))
  {a0 a1 a2 a3 a4 a5 a6 a7 a8 a9 a10 a11 a12 a13 a14 a15 a16 a17 a18 a19 a20 a21 a22 a23 a24 a25 a26 a27 a28 a29 a30 a31 a32 a33 a34 a35 a36 a37 a38 a39 a40 a41 a42 a43:Addr}
  (h0:Dh K "is_whole" Bd a0)
  (h1:Dh K "is_row" BW a1)
  (h2:Dh K "noughts" Az a2)
  (h3:Dh K "unit_row" W0 a3)
  (h4:Dh K "added" Em a4)
  (h5:Dh K "taken" En a5)
  (h6:Dh K "scaled" BX a6)
  (h7:Dh K "head_at" CS a7)
  (h8:Dh K "are_kinds" Z3 a8)
  (h9:Dh K "is_bill" AA a9)
  (h10:Dh K "need_kinds" W1 a10)
  (h11:Dh K "need_bill" Z4 a11)
  (h12:Dh K "hall_by" AB a12)
  (h13:Dh K "hall_of" CT a13)
  (h14:Dh K "nought" FN a14)
  (h15:Dh K "bridge" Z5 a15)
  (h16:Dh K "product" CU a16)
  (h17:Dh K "lowering" Bg a17)
  (h18:Dh K "lowered" CV a18)
  (h19:Dh K "crossed" CW a19)
  (h20:Dh K "turned_up" Z6 a20)
  (h21:Dh K "with_row" W3 a21)
  (h22:Dh K "evened" FQ a22)
  (h23:Dh K "climbed" CZ a23)
  (h24:Dh K "heads_product" F3 a24)
  (h25:Dh K "stair" Jp a25)
  (h26:Dh K "how_many" Bh a26)
  (h27:Dh K "need_few" Bi a27)
  (h28:Dh K "single_steps" D6 a28)
  (h29:Dh K "next_level" W5 a29)
  (h30:Dh K "classes" AC a30)
  (h31:Dh K "_law_cell_at" Z7 a31)
  (h32:Dh K "_law_whole" Db a32)
  (h33:Dh K "_law_is_row" Bj a33)
  (h34:Dh K "_law_number" Bl a34)
  (h35:Dh K "_law_row" Eo a35)
  (h36:Dh K "_law_plus" BY a36)
  (h37:Dh K "_law_head" FU a37)
  (h38:Dh K "_law_left" FV a38)
  (h39:Dh K "_law_copied" W6 a39)
  (h40:Dh K "_law_few" BZ a40)
  (h41:Dh K "_law_is_entry" W7 a41)
  (h42:Dh K "_law_near" FY a42)
  (h43:Dh K "law" PP a43)
  (z_abs:PySem.W.nsIn K mainGlobals "abs" = some none)
  (z_all:PySem.W.nsIn K mainGlobals "all" = some none)
  (z_bool:PySem.W.nsIn K mainGlobals "bool" = some none)
  (z_enumerate:PySem.W.nsIn K mainGlobals "enumerate" = some none)
  (z_int:PySem.W.nsIn K mainGlobals "int" = some none)
  (z_isinstance:PySem.W.nsIn K mainGlobals "isinstance" = some none)
  (z_len:PySem.W.nsIn K mainGlobals "len" = some none)
  (z_list:PySem.W.nsIn K mainGlobals "list" = some none)
  (z_range:PySem.W.nsIn K mainGlobals "range" = some none)
  (z_reversed:PySem.W.nsIn K mainGlobals "reversed" = some none)
  (z_sorted:PySem.W.nsIn K mainGlobals "sorted" = some none)
  (z_tuple:PySem.W.nsIn K mainGlobals "tuple" = some none)
  (z_zip:PySem.W.nsIn K mainGlobals "zip" = some none)
  {N2:Tok} (y_MOST_BILLS:PySem.W.nsIn K mainGlobals "MOST_BILLS" = some (some (.int 8 N2)))
  {J1:Tok} (y_MOST_CLASSES:PySem.W.nsIn K mainGlobals "MOST_CLASSES" = some (some (.int 200 J1)))
  {N3:Tok} (y_MOST_KINDS:PySem.W.nsIn K mainGlobals "MOST_KINDS" = some (some (.int 6 N3)))
  {oc0:Value} {od0:Option Addr} {fd0:FuncData} {sl0:Array (Option Value)} (n1:PySem.W.nsIn K mainGlobals "next_level" = some (some (.ref 237))) (n2:K.lookup 237=some ⟨oc0,od0,.func fd0,sl0⟩) (n3:fd0.code = .ref 236)
  : ∃ fd:FuncData,(∀(s:Shared) (u:Value),BindsTo s fd ⟨[u],[]⟩ [("_law_script",u)])/\∀ base:Heap,K.In base->base.Ns mainGlobals mg->Lam base mg 236 232->FnOk l.prog w K mg base CX0 10 fa fd ["_law_script"] (spcT K 232 #[] "next_level.<locals>.<lambda>" true Fy):=by
 have key:∃ A:Adr,Facts K mg A/\∀(s:Shared) (u:Value),BindsTo s A.Qe ⟨[u],[]⟩ [("_law_script",u)]:=⟨⟨_,_,_,_,_,_,_,_,_,_,_,_,_,_,_,_,_,_,_,_,_,_,_,_,_,_,_,_,_,_,_,_,_,_,_,_,_,_,_,_,_,_,_,_,_,_,_,_,_,_,_,_,_,_,_,_,_,_,_,_,_,_,_,_,_,_,_,_,_,_,_,_,_,_,_,_,_,_,_,_,_,_,_,_,_,_,_,_,N2,J1,N3⟩,⟨PySem.W.mg_none_of X G z_abs,PySem.W.mg_none_of X G z_all,PySem.W.mg_none_of X G z_bool,PySem.W.mg_none_of X G z_enumerate,PySem.W.mg_none_of X G z_int,PySem.W.mg_none_of X G z_isinstance,PySem.W.mg_none_of X G z_len,PySem.W.mg_none_of X G z_list,PySem.W.mg_none_of X G z_range,PySem.W.mg_none_of X G z_reversed,PySem.W.mg_none_of X G z_sorted,PySem.W.mg_none_of X G z_tuple,PySem.W.mg_none_of X G z_zip,PySem.W.mg_of X G y_MOST_BILLS,PySem.W.mg_of X G y_MOST_CLASSES,PySem.W.mg_of X G y_MOST_KINDS,h0.q X G,h1.q X G,h2.q X G,h3.q X G,h4.q X G,h5.q X G,h6.q X G,h7.q X G,h8.q X G,h9.q X G,h10.q X G,h11.q X G,h12.q X G,h13.q X G,h14.q X G,h15.q X G,h16.q X G,h17.q X G,h18.q X G,h19.q X G,h20.q X G,h21.q X G,h22.q X G,h23.q X G,h24.q X G,h25.q X G,h26.q X G,h27.q X G,h28.q X G,h29.q X G,h30.q X G,h31.q X G,h32.q X G,h33.q X G,h34.q X G,h35.q X G,h36.q X G,h37.q X G,h38.q X G,h39.q X G,h40.q X G,h41.q X G,h42.q X G,h43.q X G⟩,λs u => .of_eq (h43.b (ps:=["_law_script"]) (λ_ _ _ _ _ _=>us1 λ_=>rfl) [u] rfl)⟩;obtain⟨A,FF,hb⟩:=key;have e:=hfa.symm.trans FF.f_law.mg;cases e;exact⟨A.Qe,hb,λbase _ _ lm=>ok_law FF lm (VN FF.J3 (PySem.W.mg_of X G n1) n2 n3)⟩
end
namespace H
noncomputable section
open PySem PySem.W PySem.Calls PyProof.Rows
abbrev pw:Program:=PySem.Challenge.pw_changehall_k28_whole_classes
noncomputable abbrev vs(s:String)(t:Nat):Value := .str (Str.ofString s) t
noncomputable abbrev de(P:Params)(s:String)(t:Nat)(v:Value):DictEntry:=⟨PyData.keyHash P (Str.ofString s),.str (Str.ofString s) t,v⟩
abbrev N:=BT.node
abbrev E:=BT.nil
noncomputable abbrev ins(t:BT)(l:List (Nat×Obj)):BT:=l.foldl (λt x=>t.ins x.1 x.2) t
def fdT(s:Stmt)(g:Addr)(md cd:Value):FuncData:=match s with
 | .FunctionDef name args body _ _ _ scope _ _ _=>{ name:=name,qualname:=name,params:=args,body := .stmts body,scope:=scope,globals:=g,closure:=[],defaults := .none,kwdefaults := .none,pyModule:=md,code:=cd }
 | _=>default
noncomputable abbrev tu(l:aG):Obj:=⟨.type "tuple",none,.seq l.toArray 0,#[]⟩
noncomputable abbrev fi(l:aG):Obj:=⟨.none,none,.fields l.toArray,#[]⟩
noncomputable abbrev fo(c:Value)(i:Nat)(g:Addr)(md cd:Value):Obj:=⟨c,none,.func (fdT (top i) g md cd),#[]⟩
noncomputable abbrev co(a f:String)(t0 t1 t2:Nat)(l n z:Int)(r:Addr)(u:Bool)(v:Int)(s:Addr)(p q1 q2 q3:Value)(w:Int)(t3:Nat):Obj:=⟨.type "code",none,.fields #[vs a t0,vs a t1,vs f t2,.int l 0,.int n 0,.int 0 0,.int 0 0,.int z 0,.ref r,.bool u,.int v 0,.ref s,p,q1,q2,q3,.int w 0,.int l 0,vs f t3],#[]⟩
theorem te_go:@topGo=Fast.tw15667345088766844465:=Fast.te15667345088766844465
theorem te_sr:@segRun=Fast.tw14374325043358763698:=Fast.te14374325043358763698
theorem te_sT:@segRunT=Fast.tw10110043849684766642:=Fast.te10110043849684766642
theorem te_tr:@topRun=Fast.tw14082659384304107361:=Fast.te14082659384304107361
theorem te_tb:treeTable=Fast.tw14364793385576792824:=Fast.te14364793385576792824
theorem te_im:@importedModules=Fast.tw5923862056798008813:=Fast.te5923862056798008813
theorem te_seen:@seen=Fast.tw5160383126252970620:=Fast.te5160383126252970620
theorem te_recs:@recsOf=Fast.tw3399658132070893891:=Fast.te3399658132070893891
theorem te_owns:@ownsOf=Fast.tw5991557255702980513:=Fast.te5991557255702980513
theorem te_keys:@Heap.keysOk=Fast.tw10880121769531294198:=Fast.te10880121769531294198
theorem te_loose:@looseW=Fast.tw821141287760084731:=Fast.te821141287760084731
theorem te_lits:@litsOf=Fast.tw7409074990110511671:=Fast.te7409074990110511671
theorem te_clss:@clssOf=Fast.tw13664370479719496447:=Fast.te13664370479719496447
theorem te_acc:@Heap.accountedOkI=Fast.tw14722251495701143533:=Fast.te14722251495701143533
theorem te_tabl:@tablesOk=Fast.tw10994771534591457954:=Fast.te10994771534591457954
theorem te_tabs:@tabsOk=Fast.tw479339242167458305:=Fast.te479339242167458305
theorem te_pin:@pinSeenD=Fast.tw16090120013241838585:=Fast.te16090120013241838585
theorem te_drecs:@drecsOf=Fast.tw3247288618530077131:=Fast.te3247288618530077131
theorem te_pE:@plainSeenE=Fast.tw2386780881361962483:=Fast.te2386780881361962483
theorem te_pD:@plainSeenD=Fast.tw11698064438423848299:=Fast.te11698064438423848299
theorem te_wide:@wideSeen=Fast.tw7317090234206586261:=Fast.te7317090234206586261
theorem te_cls:@clsSeenW=Fast.tw7369524293546568484:=Fast.te7369524293546568484
theorem te_den:@denote=Fast.tw11892475500146522536:=Fast.te11892475500146522536
theorem te_ns:@Heap.nsMap=Fast.tw8920871248978507458:=Fast.te8920871248978507458
noncomputable abbrev kc(n:String)(b m:aG)(s:Addr)(z:aG)(i:Addr)(x:Option Value)(t u:Nat):Obj:=⟨.type "type",none,.cls { name:=Str.ofString n,bases:=b,mro:=m++[.type "ValueError",.type "Exception",.type "BaseException",.type "object"],ns:=s,qualname:=Str.ofString n,subclasses:=z },#[some (.ref i),x,some (vs n t),some (vs n u),some (.builtin "ValueError.__new__"),some (.bool true)]⟩
noncomputable abbrev fm(a b c:Addr)(v:Value):Obj:=⟨.type "frame",none,.plain,#[some (.ref a),some (.ref b),some (.ref c),none,some v,none,some (.ref 0)]⟩
noncomputable abbrev dc(l:List DictEntry)(n:Nat):Obj:=⟨.type "dict",none,.dict l.toArray n,#[]⟩
noncomputable abbrev pf(s:String)(l:aG):Obj:=⟨.type s,none,.fields l.toArray,#[]⟩
abbrev cf(a:String)(t:Nat)(l n:Int)(r:Addr)(w:Nat):Obj:=co a "/claim/cut.py" t (t+1) (t+2) l n 3 r true 181 (r+1) .none .none .none (.ref (r+2)) w (w+1)
abbrev cg(a:String)(t:Nat)(l n:Int)(r:Addr)(w:Nat):Obj:=co a "/claim/cut.py" t (t+1) (t+2) l n 3 r true 181 (r+1) .none (.ref (r+2)) (.ref (r+3)) (.ref (r+4)) w (w+1)
abbrev cc(a:String)(t:Nat)(l:Int)(r:Addr)(w:Nat):Obj:=co a "/claim/cut.py" t (t+1) (t+2) l 0 0 r false 181 (r+1) .none .none .none .none w (w+1)
abbrev fn(i:Nat):Obj:=fo .none i 0 .none .none
abbrev ff(i:Nat)(m:Value)(c:Addr):Obj:=fo (.type "function") i 3 m (.ref c)
noncomputable abbrev inq(t:BT)(n:Nat)(l:List Obj):BT:=(l.foldl (λ(x:BT×Nat) o=>(x.1.ins x.2 o,x.2+1)) (t,n)).1
abbrev m187:=vs "changehall.errors" 187
abbrev m239:=vs "changehall.rows" 239
abbrev m366:=vs "changehall.stairs" 366
abbrev m293:=vs "changehall.halls" 293
abbrev m349:=vs "changehall.whole" 349
abbrev m455:=vs "changehall.thrift" 455
abbrev m445:=vs "changehall.classes" 445
abbrev m494:=vs "law_changehall_k28_whole_classes" 494
noncomputable abbrev lr(l:List (Nat×Nat)):aG:=l.flatMap λx=>[.int x.1 0,.int 0 0,.ref x.2]
abbrev env:Env:={ scope:=pw.main.scope,locals:=mainNs,globals:=mainNs,cells:=[],code := .ref 13,frame:=some 14 }
abbrev cE:Code := .body (behindTheImports pw) env
abbrev fB:List Frame:=[topFrame ⟨0,0,0,0⟩]
abbrev ann:Option Value:=some (.ref 6)
abbrev o11a:=tu []
abbrev o12aL:aG:=[]
abbrev o12a:=fi o12aL
abbrev o13a:=cc "<module>" 182 1 11 185
abbrev o14a:Obj:=fm 13 3 3 (vs "__main__" 164)
abbrev ha(P:Params):Heap:=⟨⟨[boot_o_0 P,boot_o_1 P,boot_o_2 P,boot_o_3 P,boot_o_4 P,boot_o_5 P,boot_o_6 P,boot_o_7 P,boot_o_8 P,boot_o_9 P,boot_o_10 P,o11a,o12a,o13a,o14a]⟩,{ }⟩
theorem run_a(w:World)(os:OsState):topGo treeTable pw w 11 ann 12 ⟨boot_heap w.params,#[],boot_drawn,boot_toks,os⟩ (topStub pw)=some (⟨ha w.params,#[],{ },187,os⟩,⟨denote treeTable cE,cE,⟨0,0,0,0⟩,fB⟩):=by
 rewrite[te_go,te_den,te_tb];kernel_rfl
abbrev t0(P:Params):BT:=(N (boot_o_0 P) (N (boot_o_1 P) (N (boot_o_3 P) (N (boot_o_7 P) E E) (N (o11a) E E)) (N (boot_o_5 P) (N (boot_o_9 P) E E) (N (o13a) E E))) (N (boot_o_2 P) (N (boot_o_4 P) (N (boot_o_8 P) E E) (N (o12a) E E)) (N (boot_o_6 P) (N (boot_o_10 P) E E) (N (o14a) E E))))
abbrev s0(w:World)(os:OsState):SharedT:=⟨t0 w.params,15,{ },#[],{ },187,os⟩
theorem run_b(w:World)(os:OsState):segRun treeTable pw w 11 ann 1 1 ⟨ha w.params,#[],{ },187,os⟩ (blockOf (behindTheImports pw) env cE ⟨0,0,0,0⟩ fB)=some (.next,(s0 w os).abs,cE,⟨0,0,0,0⟩):=by
 rewrite[te_sr,te_tb];kernel_rfl
abbrev o3_1L(P:Params):List DictEntry:=[de P "__name__" 165 m187,de P "__doc__" 166 .none,de P "__package__" 167 .none,de P "__loader__" 168 (.builtin "__main__.__loader__#opaque"),de P "__spec__" 169 .none,de P "__annotations__" 170 (.ref 6),de P "__builtins__" 171 (.ref 4),de P "__file__" 173 (vs "/claim/cut.py" 172),de P "__cached__" 174 .none,de P "HallError" 206 (.ref 24)]
abbrev o3_1(P:Params):Obj:=dc (o3_1L P) 10
abbrev Tp:aG:=o12aL++lr [(2,20)]
abbrev o12_1:=fi Tp
abbrev Tq:=tu [.type "ValueError"]
abbrev HI:Obj:=pf "builtin_function_or_method" [.builtin "type.__prepare__",.type "type"]
abbrev o17_1L(P:Params):List DictEntry:=[de P "__module__" 196 m187,de P "__qualname__" 198 (vs "HallError" 197),de P "__firstlineno__" 200 (.int 2 199),de P "__static_attributes__" 201 (.ref 22)]
abbrev o17_1(P:Params):Obj:=dc (o17_1L P) 4
abbrev i0:=fi []
abbrev o20_1:=cc "HallError" 191 2 18 194
abbrev o21_1:Obj:=fm 20 3 17 m187
abbrev o23_1L(P:Params):List DictEntry:=[de P "__module__" 196 m187,de P "__firstlineno__" 200 (.int 2 199),de P "__static_attributes__" 201 (.ref 22),de P "__weakref__" 203 (.ref 25),de P "__doc__" 204 .none]
abbrev Tr(P:Params):Obj:=dc (o23_1L P) 3
abbrev o24_1:Obj:=kc "HallError" [.type "ValueError"] [.ref 24] 23 [] 15 none 189 197
abbrev Ts:Obj:=pf "getset_descriptor" [vs "__weakref__" 202,.ref 24,.builtin "ExceptionGroup.__weakref__",.none]
abbrev o26_1:Obj:=pf "super" [.ref 24,.ref 24,.ref 24]
abbrev o27_1:Obj:=pf "builtin_function_or_method" [.builtin "object.__init_subclass__",.ref 24]
abbrev t1(P:Params):BT:=inq (ins (t0 P) [(3,o3_1 P),(12,o12_1)]) 15 [Tq,HI,o17_1 P,o11a,i0,o20_1,o21_1,o11a,Tr P,o24_1,Ts,o26_1,o27_1]
abbrev s1(w:World)(os:OsState):SharedT:=⟨t1 w.params,28,{ },#[],{ },207,os⟩
abbrev l0:List Stmt:=[top 0,top 1]
theorem run_0(w:World)(os:OsState):segRunT treeTable pw w 11 ann 1 196 (s0 w os) (piecesOf l0 env cE ⟨0,0,0,0⟩ fB)=some (.next,s1 w os,cE,⟨2,0,3,8⟩):=by
 rewrite[te_sT,te_tb];kernel_rfl
abbrev o3_2L(P:Params):List DictEntry:=de P "__name__" 165 m187::(o3_1L P).tail++[de P "NoHall" 222 (.ref 37)]
abbrev o3_2(P:Params):Obj:=dc (o3_2L P) 11
abbrev Tt:aG:=Tp++lr [(4,33)]
abbrev o12_2:=fi Tt
abbrev o24_2:Obj:=kc "HallError" [.type "ValueError"] [.ref 24] 23 [.ref 37] 15 none 189 197
abbrev HJ:=tu [.ref 24]
abbrev o30_2L(P:Params):List DictEntry:=[de P "__module__" 214 m187,de P "__qualname__" 216 (vs "NoHall" 215),de P "__firstlineno__" 218 (.int 4 217),de P "__static_attributes__" 219 (.ref 35)]
abbrev o30_2(P:Params):Obj:=dc (o30_2L P) 4
abbrev o33_2:=cc "NoHall" 209 4 31 212
abbrev o34_2:Obj:=fm 33 3 30 m187
abbrev o36_2L(P:Params):List DictEntry:=[de P "__module__" 214 m187,de P "__firstlineno__" 218 (.int 4 217),de P "__static_attributes__" 219 (.ref 35),de P "__doc__" 220 .none]
abbrev Tu(P:Params):Obj:=dc (o36_2L P) 2
abbrev Tv:Obj:=kc "NoHall" [.ref 24] [.ref 37,.ref 24] 36 [] 28 none 207 215
abbrev o38_2:Obj:=pf "super" [.ref 37,.ref 37,.ref 37]
abbrev o39_2:Obj:=pf "builtin_function_or_method" [.builtin "object.__init_subclass__",.ref 37]
abbrev t2(P:Params):BT:=inq (ins (t1 P) [(3,o3_2 P),(12,o12_2),(24,o24_2)]) 28 [HJ,HI,o30_2 P,o11a,i0,o33_2,o34_2,o11a,Tu P,Tv,o38_2,o39_2]
abbrev s2(w:World)(os:OsState):SharedT:=⟨t2 w.params,40,{ },#[],{ },223,os⟩
abbrev l1:List Stmt:=[top 2]
theorem run_1(w:World)(os:OsState):segRunT treeTable pw w 11 ann 1 214 (s1 w os) (piecesOf l1 env cE ⟨2,0,3,8⟩ fB)=some (.next,s2 w os,cE,⟨4,0,5,8⟩):=by
 rewrite[te_sT,te_tb];kernel_rfl
abbrev o3_3L(P:Params):List DictEntry:=de P "__name__" 165 m239::(o3_2L P).tail++[de P "TooMany" 238 (.ref 49),de P "is_whole" 247 (.ref 58),de P "is_row" 253 (.ref 63),de P "noughts" 259 (.ref 68),de P "unit_row" 265 (.ref 73),de P "added" 271 (.ref 78),de P "taken" 277 (.ref 83)]
abbrev o3_3(P:Params):Obj:=dc (o3_3L P) 18
abbrev Tw:aG:=Tt++lr [(6,45),(9,57),(11,62),(15,67),(17,72),(19,77),(21,82)]
abbrev o12_3:=fi Tw
abbrev Tx:Obj:=kc "HallError" [.type "ValueError"] [.ref 24] 23 [.ref 37,.ref 49] 15 none 189 197
abbrev o42_3L(P:Params):List DictEntry:=[de P "__module__" 230 m187,de P "__qualname__" 232 (vs "TooMany" 231),de P "__firstlineno__" 234 (.int 6 233),de P "__static_attributes__" 235 (.ref 47)]
abbrev o42_3(P:Params):Obj:=dc (o42_3L P) 4
abbrev o45_3:=cc "TooMany" 225 6 43 228
abbrev o46_3:Obj:=fm 45 3 42 m187
abbrev o48_3L(P:Params):List DictEntry:=[de P "__module__" 230 m187,de P "__firstlineno__" 234 (.int 6 233),de P "__static_attributes__" 235 (.ref 47),de P "__doc__" 236 .none]
abbrev Ty(P:Params):Obj:=dc (o48_3L P) 2
abbrev Tz:Obj:=kc "TooMany" [.ref 24] [.ref 49,.ref 24] 48 [] 40 none 223 231
abbrev o50_3:Obj:=pf "super" [.ref 49,.ref 49,.ref 49]
abbrev o51_3:Obj:=pf "builtin_function_or_method" [.builtin "object.__init_subclass__",.ref 49]
abbrev TB:=tu [vs "value" 244]
abbrev o56_3:=fn 5
abbrev TC:=cg "is_whole" 241 9 1 52 245
abbrev TD:=ff 5 m239 57
abbrev o61_3:=fn 6
abbrev TF:=cf "is_row" 248 11 2 59 251
abbrev TH:=ff 6 m239 62
abbrev o66_3:=fn 7
abbrev TJ:=cf "noughts" 254 15 1 64 257
abbrev TK:=ff 7 m239 67
abbrev o71_3:=fn 8
abbrev TL:=cf "unit_row" 260 17 2 69 263
abbrev TM:=ff 8 m239 72
abbrev o76_3:=fn 9
abbrev TN:=cf "added" 266 19 2 74 269
abbrev TQ:=ff 9 m239 77
abbrev o81_3:=fn 10
abbrev TR:=cf "taken" 272 21 2 79 275
abbrev TU:=ff 10 m239 82
abbrev t3(P:Params):BT:=inq (ins (t2 P) [(3,o3_3 P),(12,o12_3),(24,Tx)]) 40 [HJ,HI,o42_3 P,o11a,i0,o45_3,o46_3,o11a,Ty P,Tz,o50_3,o51_3,o11a,i0,TB,o11a,o56_3,TC,TD,o11a,i0,o61_3,TF,TH,o11a,i0,o66_3,TJ,TK,o11a,i0,o71_3,TL,TM,o11a,i0,o76_3,TN,TQ,o11a,i0,o81_3,TR,TU]
abbrev s3(w:World)(os:OsState):SharedT:=⟨t3 w.params,84,{ },#[],{ },278,os⟩
abbrev l2:List Stmt:=[top 3,top 4,top 5,top 6,top 7,top 8,top 9,top 10]
theorem run_2(w:World)(os:OsState):segRunT treeTable pw w 11 ann 1 382 (s2 w os) (piecesOf l2 env cE ⟨4,0,5,8⟩ fB)=some (.next,s3 w os,cE,⟨21,0,22,59⟩):=by
 rewrite[te_sT,te_tb];kernel_rfl
abbrev o3_4L(P:Params):List DictEntry:=de P "__name__" 165 m366::(o3_3L P).tail++[de P "scaled" 283 (.ref 88),de P "head_at" 292 (.ref 95),de P "MOST_KINDS" 296 (.int 6 295),de P "MOST_BILLS" 298 (.int 8 297),de P "are_kinds" 305 (.ref 102),de P "is_bill" 311 (.ref 107),de P "need_kinds" 318 (.ref 114),de P "need_bill" 326 (.ref 121),de P "hall_of" 335 (.ref 128),de P "hall_by" 341 (.ref 133),de P "nought" 348 (.ref 140),de P "bridge" 356 (.ref 145),de P "product" 365 (.ref 152),de P "lowering" 380 (.ref 159)]
abbrev o3_4(P:Params):Obj:=dc (o3_4L P) 32
abbrev TV:aG:=Tw++lr [(23,87),(25,94),(33,101),(35,106),(37,113),(40,120),(43,127),(50,132),(52,139),(55,144),(66,151),(72,158)]
abbrev o12_4:=fi TV
abbrev o86_4:=fn 11
abbrev TW:=cf "scaled" 278 23 2 84 281
abbrev TX:=ff 11 m239 87
abbrev TY:=tu [vs "row" 287,vs "spot" 288,vs "number" 289]
abbrev o93_4:=fn 12
abbrev TZ:=cg "head_at" 284 25 1 89 290
abbrev Ua:=ff 12 m239 94
abbrev Ub:=tu [vs "value" 302]
abbrev Uc:=fn 16
abbrev MW:=cg "are_kinds" 299 33 1 96 303
abbrev MX:=ff 16 m293 101
abbrev Ud:=fn 17
abbrev MY:=cf "is_bill" 306 35 2 103 309
abbrev MZ:=ff 17 m293 106
abbrev Na:=tu [vs "kinds" 315]
abbrev Ue:=fn 18
abbrev Nb:=cg "need_kinds" 312 37 1 108 316
abbrev Nc:=ff 18 m293 113
abbrev Nd:=tu [vs "bill" 322,vs "kinds" 323]
abbrev Uf:=fn 19
abbrev Nf:=cg "need_bill" 319 40 2 115 324
abbrev Ng:=ff 19 m293 120
abbrev Nh:=tu [vs "kinds" 330,vs "bills" 331,vs "bill" 332]
abbrev Ug:=fn 20
abbrev Ni:=cg "hall_of" 327 43 2 122 333
abbrev Nj:=ff 20 m293 127
abbrev Uh:=fn 21
abbrev Nk:=cf "hall_by" 336 50 2 129 339
abbrev Nl:=ff 21 m293 132
abbrev Nm:=tu [vs "hall" 345]
abbrev Ui:=fn 22
abbrev Nn:=cg "nought" 342 52 1 134 346
abbrev Np:=ff 22 m293 139
abbrev Uj:=fn 24
abbrev Nq:=cf "bridge" 351 55 2 141 354
abbrev Nr:=ff 24 m349 144
abbrev Nt:=tu [vs "numbers" 360,vs "found" 361,vs "number" 362]
abbrev Uk:=fn 25
abbrev Nu:=cg "product" 357 66 1 146 363
abbrev Nv:=ff 25 m349 151
abbrev Nw:=tu [vs "row" 371,vs "rungs" 372,vs "left" 373,vs "counts" 374,vs "rung" 375,vs "spot" 376,vs "often" 377]
abbrev Ul:=fn 27
abbrev Nx:=cg "lowering" 368 72 2 153 378
abbrev Ny:=ff 27 m366 158
abbrev t4(P:Params):BT:=inq (ins (t3 P) [(3,o3_4 P),(12,o12_4)]) 84 [o11a,i0,o86_4,TW,TX,o11a,i0,TY,o11a,o93_4,TZ,Ua,o11a,i0,Ub,o11a,Uc,MW,MX,o11a,i0,Ud,MY,MZ,o11a,i0,Na,o11a,Ue,Nb,Nc,o11a,i0,Nd,o11a,Uf,Nf,Ng,o11a,i0,Nh,o11a,Ug,Ni,Nj,o11a,i0,Uh,Nk,Nl,o11a,i0,Nm,o11a,Ui,Nn,Np,o11a,i0,Uj,Nq,Nr,o11a,i0,Nt,o11a,Uk,Nu,Nv,o11a,i0,Nw,o11a,Ul,Nx,Ny]
abbrev s4(w:World)(os:OsState):SharedT:=⟨t4 w.params,160,{ },#[],{ },381,os⟩
abbrev l3:List Stmt:=[top 11,top 12,top 13,top 14,top 15,top 16,top 17,top 18,top 19,top 20,top 21,top 22,top 23,top 24,top 25,top 26,top 27]
theorem run_3(w:World)(os:OsState):segRunT treeTable pw w 11 ann 1 395 (s3 w os) (piecesOf l3 env cE ⟨21,0,22,59⟩ fB)=some (.next,s4 w os,cE,⟨72,0,81,25⟩):=by
 rewrite[te_sT,te_tb];kernel_rfl
abbrev o3_5L(P:Params):List DictEntry:=de P "__name__" 165 m455::(o3_4L P).tail++[de P "lowered" 388 (.ref 166),de P "crossed" 400 (.ref 173),de P "turned_up" 407 (.ref 180),de P "with_row" 413 (.ref 185),de P "evened" 422 (.ref 192),de P "climbed" 431 (.ref 199),de P "heads_product" 437 (.ref 204),de P "stair" 444 (.ref 211),de P "how_many" 454 (.ref 218),de P "MOST_CLASSES" 458 (.int 200 457),de P "need_few" 466 (.ref 225),de P "single_steps" 472 (.ref 230),de P "next_level" 487 (.ref 237)]
abbrev o3_5(P:Params):Obj:=dc (o3_5L P) 45
abbrev Um:aG:=TV++lr [(82,165),(84,172),(90,179),(92,184),(103,191),(108,198),(113,203),(115,210),(118,217),(125,224),(129,229),(132,236)]
abbrev o12_5:=fi Um
abbrev Nz:=tu [vs "row" 384,vs "rungs" 385]
abbrev Uo:=fn 28
abbrev NA:=cg "lowered" 381 82 2 160 386
abbrev NB:=ff 28 m366 165
abbrev NC:=tu [vs "rung" 392,vs "row" 393,vs "spot" 394,vs "found" 395,vs "upper" 396,vs "lower" 397]
abbrev Up:=fn 29
abbrev ND:=cg "crossed" 389 84 2 167 398
abbrev NE:=ff 29 m366 172
abbrev NF:=tu [vs "row" 404]
abbrev Uq:=fn 30
abbrev NG:=cg "turned_up" 401 90 1 174 405
abbrev NH:=ff 30 m366 179
abbrev Ur:=fn 31
abbrev NI:=cf "with_row" 408 92 2 181 411
abbrev NJ:=ff 31 m366 184
abbrev NK:=tu [vs "rungs" 417,vs "found" 418,vs "rung" 419]
abbrev Us:=fn 32
abbrev NL:=cg "evened" 414 103 1 186 420
abbrev NM:=ff 32 m366 191
abbrev NN:=tu [vs "rows" 426,vs "rungs" 427,vs "row" 428]
abbrev Ut:=fn 33
abbrev NO:=cg "climbed" 423 108 1 193 429
abbrev NP:=ff 33 m366 198
abbrev Uu:=fn 34
abbrev NQ:=cf "heads_product" 432 113 1 200 435
abbrev NR:=ff 34 m366 203
abbrev NS:=tu [vs "hall" 441]
abbrev Uv:=fn 35
abbrev NT:=cg "stair" 438 115 1 205 442
abbrev NU:=ff 35 m366 210
abbrev NV:=tu [vs "hall" 450,vs "rungs" 451]
abbrev Uw:=fn 37
abbrev NW:=cg "how_many" 447 118 1 212 452
abbrev NX:=ff 37 m445 217
abbrev NY:=tu [vs "hall" 462,vs "many" 463]
abbrev Ux:=fn 40
abbrev NZ:=cg "need_few" 459 125 1 219 464
abbrev Oa:=ff 40 m455 224
abbrev Uy:=fn 41
abbrev Ob:=cf "single_steps" 467 129 1 226 470
abbrev Od:=ff 41 m455 229
abbrev Oe:=tu [vs "level" 476,vs "steps" 477,vs "rungs" 478,vs "seen" 479,vs "found" 480,vs "start" 481,vs "step" 482,vs "basket" 483,vs "reached" 484]
abbrev Uz:=fn 42
abbrev Ju:=cg "next_level" 473 132 4 231 485
abbrev Og:=ff 42 m455 236
abbrev t5(P:Params):BT:=inq (ins (t4 P) [(3,o3_5 P),(12,o12_5)]) 160 [o11a,i0,Nz,o11a,Uo,NA,NB,o11a,i0,NC,o11a,Up,ND,NE,o11a,i0,NF,o11a,Uq,NG,NH,o11a,i0,Ur,NI,NJ,o11a,i0,NK,o11a,Us,NL,NM,o11a,i0,NN,o11a,Ut,NO,NP,o11a,i0,Uu,NQ,NR,o11a,i0,NS,o11a,Uv,NT,NU,o11a,i0,NV,o11a,Uw,NW,NX,o11a,i0,NY,o11a,Ux,NZ,Oa,o11a,i0,Uy,Ob,Od,o11a,i0,Oe,o11a,Uz,Ju,Og]
abbrev s5(w:World)(os:OsState):SharedT:=⟨t5 w.params,238,{ },#[],{ },488,os⟩
abbrev l4:List Stmt:=[top 28,top 29,top 30,top 31,top 32,top 33,top 34,top 35,top 36,top 37,top 38,top 39,top 40,top 41,top 42]
theorem run_4(w:World)(os:OsState):segRunT treeTable pw w 11 ann 1 387 (s4 w os) (piecesOf l4 env cE ⟨72,0,81,25⟩ fB)=some (.next,s5 w os,cE,⟨132,0,141,50⟩):=by
 rewrite[te_sT,te_tb];kernel_rfl
abbrev o3_6L(P:Params):List DictEntry:=de P "__name__" 165 m494::(o3_5L P).tail++[de P "classes" 493 (.ref 242),de P "_law_cell_at" 503 (.ref 249),de P "_law_whole" 510 (.ref 256),de P "_law_is_row" 519 (.ref 263),de P "_law_number" 529 (.ref 270),de P "_law_row" 535 (.ref 275),de P "_law_plus" 541 (.ref 280),de P "_law_head" 549 (.ref 287),de P "_law_left" 560 (.ref 294),de P "_law_copied" 566 (.ref 299),de P "_law_few" 572 (.ref 304),de P "_law_is_entry" 583 (.ref 311),de P "_law_near" 597 (.ref 318)]
abbrev o3_6(P:Params):Obj:=dc (o3_6L P) 58
abbrev UA:aG:=Um++lr [(142,241),(156,248),(162,255),(164,262),(171,269),(182,274),(184,279),(186,286),(191,293),(197,298),(199,303),(211,310),(222,317)]
abbrev o12_6:=fi UA
abbrev UB:=fn 43
abbrev Oh:=cf "classes" 488 142 1 238 491
abbrev Oi:=ff 43 m455 241
abbrev Oj:=tu [vs "_law_script" 499,vs "_law_k" 500]
abbrev UC:=fn 45
abbrev Ol:=cg "_law_cell_at" 496 156 2 243 501
abbrev Om:=ff 45 m494 248
abbrev Oo:=tu [vs "_law_found" 507]
abbrev UD:=fn 46
abbrev Op:=cg "_law_whole" 504 162 1 250 508
abbrev Oq:=ff 46 m494 255
abbrev Os:=tu [vs "_law_found" 514,vs "_law_size" 515,vs "_law_number_here" 516]
abbrev UE:=fn 47
abbrev Ot:=cg "_law_is_row" 511 164 2 257 517
abbrev Ou:=ff 47 m494 262
abbrev Ov:=tu [vs "_law_cell" 523,vs "_law_mode" 524,vs "_law_number_here" 525,vs "_law_wide" 526]
abbrev UF:=fn 48
abbrev Ow:=cg "_law_number" 520 171 2 264 527
abbrev Ox:=ff 48 m494 269
abbrev UG:=fn 49
abbrev Oy:=cf "_law_row" 530 182 4 271 533
abbrev Oz:=ff 49 m494 274
abbrev UH:=fn 50
abbrev OA:=cf "_law_plus" 536 184 3 276 539
abbrev OB:=ff 50 m494 279
abbrev OC:=tu [vs "_law_row_here" 545,vs "_law_k" 546]
abbrev UI:=fn 51
abbrev OD:=cg "_law_head" 542 186 1 281 547
abbrev OE:=ff 51 m494 286
abbrev OF:=tu [vs "_law_rows" 553,vs "_law_row_here" 554,vs "_law_left_here" 555,vs "_law_one" 556,vs "_law_at" 557]
abbrev UJ:=fn 52
abbrev OG:=cg "_law_left" 550 191 2 288 558
abbrev OH:=ff 52 m494 293
abbrev UK:=fn 53
abbrev OI:=cf "_law_copied" 561 197 1 295 564
abbrev OJ:=ff 53 m494 298
abbrev UL:=fn 54
abbrev OK:=cf "_law_few" 567 199 1 300 570
abbrev OL:=ff 54 m494 303
abbrev OM:=tu [vs "_law_entry" 576,vs "_law_rows" 577,vs "_law_kinds" 578,vs "_law_sizes" 579,vs "_law_number_here" 580]
abbrev UM:=fn 55
abbrev ON:=cg "_law_is_entry" 573 211 3 305 581
abbrev OO:=ff 55 m494 310
abbrev OP:=tu [vs "_law_entry" 587,vs "_law_rows" 588,vs "_law_kinds" 589,vs "_law_steps" 590,vs "_law_k" 591,vs "_law_step" 592,vs "_law_further" 593,vs "_law_name" 594]
abbrev UN:=fn 56
abbrev OQ:=cg "_law_near" 584 222 4 312 595
abbrev OR:=ff 56 m494 317
abbrev t6(P:Params):BT:=inq (ins (t5 P) [(3,o3_6 P),(12,o12_6)]) 238 [o11a,i0,UB,Oh,Oi,o11a,i0,Oj,o11a,UC,Ol,Om,o11a,i0,Oo,o11a,UD,Op,Oq,o11a,i0,Os,o11a,UE,Ot,Ou,o11a,i0,Ov,o11a,UF,Ow,Ox,o11a,i0,UG,Oy,Oz,o11a,i0,UH,OA,OB,o11a,i0,OC,o11a,UI,OD,OE,o11a,i0,OF,o11a,UJ,OG,OH,o11a,i0,UK,OI,OJ,o11a,i0,UL,OK,OL,o11a,i0,OM,o11a,UM,ON,OO,o11a,i0,OP,o11a,UN,OQ,OR]
abbrev s6(w:World)(os:OsState):SharedT:=⟨t6 w.params,319,{ },#[],{ },598,os⟩
abbrev l5:List Stmt:=[top 43,top 44,top 45,top 46,top 47,top 48,top 49,top 50,top 51,top 52,top 53,top 54,top 55,top 56]
theorem run_5(w:World)(os:OsState):segRunT treeTable pw w 11 ann 1 394 (s5 w os) (piecesOf l5 env cE ⟨132,0,141,50⟩ fB)=some (.next,s6 w os,cE,⟨222,0,230,15⟩):=by
 rewrite[te_sT,te_tb];kernel_rfl
abbrev o3_7L(P:Params):List DictEntry:=de P "__name__" 165 m494::(o3_6L P).tail++[de P "law" 603 (.ref 323)]
abbrev o3_7(P:Params):Obj:=dc (o3_7L P) 59
abbrev o12_7L:aG:=UA++lr [(231,322)]
abbrev o12_7:=fi o12_7L
abbrev UO:=fn 57
abbrev OS:=cf "law" 598 231 1 319 601
abbrev OT:=ff 57 m494 322
abbrev t7(P:Params):BT:=inq (ins (t6 P) [(3,o3_7 P),(12,o12_7)]) 319 [o11a,i0,UO,OS,OT]
abbrev s7(w:World)(os:OsState):SharedT:=⟨t7 w.params,324,{ },#[],{ },604,os⟩
abbrev l6:List Stmt:=[top 57]
theorem run_6(w:World)(os:OsState):segRunT treeTable pw w 11 ann 1 27 (s6 w os) (piecesOf l6 env cE ⟨222,0,230,15⟩ fB)=some (.next,s7 w os,cE,⟨231,0,252,15⟩):=by
 rewrite[te_sT,te_tb];kernel_rfl
def h1(P:Params):Heap:=⟨⟨[boot_o_0 P,boot_o_1 P,boot_o_2 P,o3_7 P,boot_o_4 P,boot_o_5 P,boot_o_6 P,boot_o_7 P,boot_o_8 P,boot_o_9 P,boot_o_10 P,o11a,o12_7,o13a,o14a,Tq,HI,o17_1 P,o11a,i0,o20_1,o21_1,o11a,Tr P,Tx,Ts,o26_1,o27_1,HJ,HI,o30_2 P,o11a,i0,o33_2,o34_2,o11a,Tu P,Tv,o38_2,o39_2,HJ,HI,o42_3 P,o11a,i0,o45_3,o46_3,o11a,Ty P,Tz,o50_3,o51_3,o11a,i0,TB,o11a,o56_3,TC,TD,o11a,i0,o61_3,TF,TH,o11a,i0,o66_3,TJ,TK,o11a,i0,o71_3,TL,TM,o11a,i0,o76_3,TN,TQ,o11a,i0,o81_3,TR,TU,o11a,i0,o86_4,TW,TX,o11a,i0,TY,o11a,o93_4,TZ,Ua,o11a,i0,Ub,o11a,Uc,MW,MX,o11a,i0,Ud,MY,MZ,o11a,i0,Na,o11a,Ue,Nb,Nc,o11a,i0,Nd,o11a,Uf,Nf,Ng,o11a,i0,Nh,o11a,Ug,Ni,Nj,o11a,i0,Uh,Nk,Nl,o11a,i0,Nm,o11a,Ui,Nn,Np,o11a,i0,Uj,Nq,Nr,o11a,i0,Nt,o11a,Uk,Nu,Nv,o11a,i0,Nw,o11a,Ul,Nx,Ny,o11a,i0,Nz,o11a,Uo,NA,NB,o11a,i0,NC,o11a,Up,ND,NE,o11a,i0,NF,o11a,Uq,NG,NH,o11a,i0,Ur,NI,NJ,o11a,i0,NK,o11a,Us,NL,NM,o11a,i0,NN,o11a,Ut,NO,NP,o11a,i0,Uu,NQ,NR,o11a,i0,NS,o11a,Uv,NT,NU,o11a,i0,NV,o11a,Uw,NW,NX,o11a,i0,NY,o11a,Ux,NZ,Oa,o11a,i0,Uy,Ob,Od,o11a,i0,Oe,o11a,Uz,Ju,Og,o11a,i0,UB,Oh,Oi,o11a,i0,Oj,o11a,UC,Ol,Om,o11a,i0,Oo,o11a,UD,Op,Oq,o11a,i0,Os,o11a,UE,Ot,Ou,o11a,i0,Ov,o11a,UF,Ow,Ox,o11a,i0,UG,Oy,Oz,o11a,i0,UH,OA,OB,o11a,i0,OC,o11a,UI,OD,OE,o11a,i0,OF,o11a,UJ,OG,OH,o11a,i0,UK,OI,OJ,o11a,i0,UL,OK,OL,o11a,i0,OM,o11a,UM,ON,OO,o11a,i0,OP,o11a,UN,OQ,OR,o11a,i0,UO,OS,OT]⟩,{ }⟩
abbrev Jv:Drawn:={ }
theorem run_z(w:World)(os:OsState):topRun treeTable pw w 11 ann 2 (s7 w os).abs ⟨doneF .next,cE,⟨231,0,252,15⟩,fB⟩=some ⟨h1 w.params,#[],Jv,604,os⟩:=by
 rewrite[te_tr,te_tb];kernel_rfl
theorem VX:behindTheImports pw=(l0++(l1++(l2++(l3++(l4++(l5++(l6++[]))))))):=by kernel_rfl
theorem run_all(w:World)(os:OsState):topRun treeTable pw w 11 ann (12+(1+(196+(214+(382+(395+(387+(394+(27+2))))))))) ⟨boot_heap w.params,#[],boot_drawn,boot_toks,os⟩ (topStub pw)=some ⟨h1 w.params,#[],Jv,604,os⟩ :=
 go_top (run_a w os) (piece_block (env:=env) (run_b w os) (by rw[VX];exact(piece_app (segRun_of (run_0 w os)) (piece_app (segRun_of (run_1 w os)) (piece_app (segRun_of (run_2 w os)) (piece_app (segRun_of (run_3 w os)) (piece_app (segRun_of (run_4 w os)) (piece_app (segRun_of (run_5 w os)) (piece_app (segRun_of (run_6 w os)) (run_z w os))))))))))
abbrev keep:List Nat:=[1,2,3,5,6,7,8,9,10,11,12,14,15,16,17,18,19,20,21,22,24,25,27,28,29,30,31,32,33,34,35,37,39,40,41,42,43,45,46,47,48,49,50,51,52,53,54,55,56,57]
def K0:Params->PySem.W.Frag:=λP=>(nat_lit 2,boot_o_2 P)::(nat_lit 3,o3_7 P)::(nat_lit 15,Tq)::(nat_lit 22,o11a)::(nat_lit 23,Tr P)::(nat_lit 24,Tx)::(nat_lit 25,Ts)::(nat_lit 28,HJ)::(nat_lit 35,o11a)::(nat_lit 36,Tu P)::(nat_lit 37,Tv)::(nat_lit 40,HJ)::(nat_lit 47,o11a)::(nat_lit 48,Ty P)::(nat_lit 49,Tz)::(nat_lit 52,o11a)::(nat_lit 54,TB)::(nat_lit 55,o11a)::(nat_lit 57,TC)::(nat_lit 58,TD)::(nat_lit 59,o11a)::(nat_lit 62,TF)::(nat_lit 63,TH)::(nat_lit 64,o11a)::(nat_lit 67,TJ)::(nat_lit 68,TK)::(nat_lit 69,o11a)::(nat_lit 72,TL)::(nat_lit 73,TM)::(nat_lit 74,o11a)::(nat_lit 77,TN)::(nat_lit 78,TQ)::(nat_lit 79,o11a)::(nat_lit 82,TR)::(nat_lit 83,TU)::(nat_lit 84,o11a)::(nat_lit 87,TW)::(nat_lit 88,TX)::(nat_lit 89,o11a)::(nat_lit 91,TY)::(nat_lit 92,o11a)::(nat_lit 94,TZ)::(nat_lit 95,Ua)::(nat_lit 96,o11a)::(nat_lit 98,Ub)::(nat_lit 99,o11a)::(nat_lit 101,MW)::(nat_lit 102,MX)::(nat_lit 103,o11a)::(nat_lit 106,MY)::(nat_lit 107,MZ)::(nat_lit 108,o11a)::(nat_lit 110,Na)::(nat_lit 111,o11a)::(nat_lit 113,Nb)::(nat_lit 114,Nc)::(nat_lit 115,o11a)::(nat_lit 117,Nd)::(nat_lit 118,o11a)::(nat_lit 120,Nf)::(nat_lit 121,Ng)::(nat_lit 122,o11a)::(nat_lit 124,Nh)::(nat_lit 125,o11a)::(nat_lit 127,Ni)::(nat_lit 128,Nj)::(nat_lit 129,o11a)::(nat_lit 132,Nk)::(nat_lit 133,Nl)::(nat_lit 134,o11a)::(nat_lit 136,Nm)::(nat_lit 137,o11a)::(nat_lit 139,Nn)::(nat_lit 140,Np)::(nat_lit 141,o11a)::(nat_lit 144,Nq)::(nat_lit 145,Nr)::(nat_lit 146,o11a)::(nat_lit 148,Nt)::(nat_lit 149,o11a)::(nat_lit 151,Nu)::(nat_lit 152,Nv)::(nat_lit 153,o11a)::(nat_lit 155,Nw)::(nat_lit 156,o11a)::(nat_lit 158,Nx)::(nat_lit 159,Ny)::(nat_lit 160,o11a)::(nat_lit 162,Nz)::(nat_lit 163,o11a)::(nat_lit 165,NA)::(nat_lit 166,NB)::(nat_lit 167,o11a)::(nat_lit 169,NC)::(nat_lit 170,o11a)::(nat_lit 172,ND)::(nat_lit 173,NE)::(nat_lit 174,o11a)::(nat_lit 176,NF)::(nat_lit 177,o11a)::(nat_lit 179,NG)::(nat_lit 180,NH)::(nat_lit 181,o11a)::(nat_lit 184,NI)::(nat_lit 185,NJ)::(nat_lit 186,o11a)::(nat_lit 188,NK)::(nat_lit 189,o11a)::(nat_lit 191,NL)::(nat_lit 192,NM)::(nat_lit 193,o11a)::(nat_lit 195,NN)::(nat_lit 196,o11a)::(nat_lit 198,NO)::(nat_lit 199,NP)::(nat_lit 200,o11a)::(nat_lit 203,NQ)::(nat_lit 204,NR)::(nat_lit 205,o11a)::(nat_lit 207,NS)::(nat_lit 208,o11a)::(nat_lit 210,NT)::(nat_lit 211,NU)::(nat_lit 212,o11a)::(nat_lit 214,NV)::(nat_lit 215,o11a)::(nat_lit 217,NW)::(nat_lit 218,NX)::(nat_lit 219,o11a)::(nat_lit 221,NY)::(nat_lit 222,o11a)::(nat_lit 224,NZ)::(nat_lit 225,Oa)::(nat_lit 226,o11a)::(nat_lit 229,Ob)::(nat_lit 230,Od)::(nat_lit 231,o11a)::(nat_lit 233,Oe)::(nat_lit 234,o11a)::(nat_lit 236,Ju)::(nat_lit 237,Og)::(nat_lit 238,o11a)::(nat_lit 241,Oh)::(nat_lit 242,Oi)::(nat_lit 243,o11a)::(nat_lit 245,Oj)::(nat_lit 246,o11a)::(nat_lit 248,Ol)::(nat_lit 249,Om)::(nat_lit 250,o11a)::(nat_lit 252,Oo)::(nat_lit 253,o11a)::(nat_lit 255,Op)::(nat_lit 256,Oq)::(nat_lit 257,o11a)::(nat_lit 259,Os)::(nat_lit 260,o11a)::(nat_lit 262,Ot)::(nat_lit 263,Ou)::(nat_lit 264,o11a)::(nat_lit 266,Ov)::(nat_lit 267,o11a)::(nat_lit 269,Ow)::(nat_lit 270,Ox)::(nat_lit 271,o11a)::(nat_lit 274,Oy)::(nat_lit 275,Oz)::(nat_lit 276,o11a)::(nat_lit 279,OA)::(nat_lit 280,OB)::(nat_lit 281,o11a)::(nat_lit 283,OC)::(nat_lit 284,o11a)::(nat_lit 286,OD)::(nat_lit 287,OE)::(nat_lit 288,o11a)::(nat_lit 290,OF)::(nat_lit 291,o11a)::(nat_lit 293,OG)::(nat_lit 294,OH)::(nat_lit 295,o11a)::(nat_lit 298,OI)::(nat_lit 299,OJ)::(nat_lit 300,o11a)::(nat_lit 303,OK)::(nat_lit 304,OL)::(nat_lit 305,o11a)::(nat_lit 307,OM)::(nat_lit 308,o11a)::(nat_lit 310,ON)::(nat_lit 311,OO)::(nat_lit 312,o11a)::(nat_lit 314,OP)::(nat_lit 315,o11a)::(nat_lit 317,OQ)::(nat_lit 318,OR)::(nat_lit 319,o11a)::(nat_lit 322,OS)::(nat_lit 323,OT)::[]
def K:Params->PySem.W.Frag:=λP=>(nat_lit 232,i0)::K0 P
abbrev Ka:List Addr:=[232,2,3,15,22,23,24,25,28,35,36,37,40,47,48,49,52,54,55,57,58,59,62,63,64,67,68,69,72,73,74,77,78,79,82,83,84,87,88,89,91,92,94,95,96,98,99,101,102,103,106,107,108,110,111,113,114,115,117,118,120,121,122,124,125,127,128,129,132,133,134,136,137,139,140,141,144,145,146,148,149,151,152,153,155,156,158,159,160,162,163,165,166,167,169,170,172,173,174,176,177,179,180,181,184,185,186,188,189,191,192,193,195,196,198,199,200,203,204,205,207,208,210,211,212,214,215,217,218,219,221,222,224,225,226,229,230,231,233,234,236,237,238,241,242,243,245,246,248,249,250,252,253,255,256,257,259,260,262,263,264,266,267,269,270,271,274,275,276,279,280,281,283,284,286,287,288,290,291,293,294,295,298,299,300,303,304,305,307,308,310,311,312,314,315,317,318,319,322,323]
theorem Ke(P:Params):Ka=(K P).map (·.1):=by kernel_rfl
abbrev qv:Program:=view pw keep
abbrev Xt:Shared->Bool:=λs=>xlAt qv [] s&&recOk [] s
abbrev sW(w:World)(os:OsState):Shared:=⟨h1 w.params,#[],Jv,604,os⟩
theorem opened:∀ w:World,(fencedOpening treeTable pw w 4102).map (λs=>(s.heap,s.gens,s.drawn,s.toks))=some (boot_heap w.params,Array.mk [],boot_drawn,boot_toks):=boot_open (by kernel_rfl) (by kernel_rfl) (λs=>by kernel_rfl)
theorem sized(w:World):((boot_heap w.params).isNs mainGlobals&&(Array.mk []:Array GenState).size==0,(boot_heap w.params).objs.size,(boot_heap w.params).nsMap mainGlobals "__annotations__")=(true,11,ann):=by
 rewrite[te_ns];kernel_rfl
theorem lk0(w:World)(os:OsState):(staticsOk (importedModules pw.main.body) (boot_heap w.params) (h1 w.params)&&namesBound pw (h1 w.params)&&gensDone (sW w os)&&laidKept (boot_heap w.params) (h1 w.params))=true:=by
 rewrite[te_im];kernel_rfl
theorem lk1(w:World)(os:OsState):seen ((recsOf qv).map (·.name)) (ownsOf qv) [] { (sW w os)with gens:=#[] }=expectedOf qv:=by
 rewrite[te_seen,te_recs,te_owns];kernel_rfl
theorem lk2(w:World)(os:OsState):(sW w os).heap.bltView=bltViewBooted:=by
 kernel_rfl
theorem lk3(w:World)(os:OsState):((sW w os).heap.keysOk (looseW qv []) ((recsOf qv).map (·.name)) ((litsOf qv).map (·.1)) ((clssOf qv (looseW qv [])).map (·.name))&&(sW w os).heap.accountedOkI (importedModules pw.main.body)&&(sW w os).heap.isNs mainGlobals&&(sW w os).heap.isNs builtinsNs&&tablesOk qv (sW w os).heap&&Xt (sW w os)&&(if true=true then(sW w os).gens.size==0 else !leftWithCleanup (sW w os).gens))=true:=by
 rewrite[te_keys,te_loose,te_recs,te_lits,te_clss,te_acc,te_im,te_tabl];kernel_rfl
theorem lk4(w:World)(os:OsState):tabsOk qv (sW w os)=true:=by
 rewrite[te_tabs];kernel_rfl
theorem lk5(w:World)(os:OsState):pinSeenD qv (drecsOf qv) (sW w os)=pinGoodD (drecsOf qv):=by
 rewrite[te_pin,te_drecs];kernel_rfl
theorem lk6(w:World)(os:OsState):plainSeenE qv (looseW qv []) (sW w os)=plainGoodE qv (looseW qv []):=by
 rewrite[te_pE,te_loose];kernel_rfl
theorem lk7(w:World)(os:OsState):plainSeenD qv [] (sW w os)=plainGoodD qv []:=by
 rewrite[te_pD];kernel_rfl
theorem lk8(w:World)(os:OsState):wideSeen qv (sW w os)=wideGood qv:=by
 rewrite[te_wide];kernel_rfl
theorem lk9(w:World)(os:OsState):clsSeenW qv [] (sW w os)=clsGoodW qv []:=by
 rewrite[te_cls];kernel_rfl
theorem lk10(w:World)(os:OsState):Hook.obs (kHook K Ka Ke) (sW w os)=Hook.val (kHook K Ka Ke) w:=by
 kernel_rfl
theorem sn(w:World)(os:OsState):openSeen qv [] (importedModules pw.main.body) Xt true (sW w os)=(seen ((recsOf qv).map (·.name)) (ownsOf qv) [] { (sW w os)with gens:=#[] },(sW w os).heap.bltView,((sW w os).heap.keysOk (looseW qv []) ((recsOf qv).map (·.name)) ((litsOf qv).map (·.1)) ((clssOf qv (looseW qv [])).map (·.name))&&(sW w os).heap.accountedOkI (importedModules pw.main.body)&&(sW w os).heap.isNs mainGlobals&&(sW w os).heap.isNs builtinsNs&&tablesOk qv (sW w os).heap&&Xt (sW w os)&&(if true=true then(sW w os).gens.size==0 else !leftWithCleanup (sW w os).gens)),tabsOk qv (sW w os),pinSeenD qv (drecsOf qv) (sW w os),plainSeenE qv (looseW qv []) (sW w os),plainSeenD qv [] (sW w os),wideSeen qv (sW w os),clsSeenW qv [] (sW w os)):=by kernel_rfl
theorem gd:openGood qv []=(expectedOf qv,bltViewBooted,true,true,pinGoodD (drecsOf qv),plainGoodE qv (looseW qv []),plainGoodD qv [],wideGood qv,clsGoodW qv []):=by kernel_rfl
theorem lkS(w:World)(os:OsState):openSeen qv [] (importedModules pw.main.body) Xt true (sW w os)=openGood qv []:=(sn w os).trans (Eq.trans (looks_pair (lk1 w os) (looks_pair (lk2 w os) (looks_pair (lk3 w os) (looks_pair (lk4 w os) (looks_pair (lk5 w os) (looks_pair (lk6 w os) (looks_pair (lk7 w os) (looks_pair (lk8 w os) (lk9 w os))))))))) gd.symm)
theorem left:LeftO pw qv [] Xt (Hook.obs (kHook K Ka Ke)) (Hook.val (kHook K Ka Ke)) 4102 :=
 LeftO.of_pieces (H₀:=boot_heap) (H₁:=h1) (gs₀:=Array.mk []) (gs₁:=#[]) (d₀:=boot_drawn) (d₁:=Jv) (k₀:=boot_toks) (k₁:=604) (m₀:=11) (ann:=ann) (M:=(12+(1+(196+(214+(382+(395+(387+(394+(27+2)))))))))) opened sized run_all (by kernel_rfl) (λw=>funext λos =>
  looks_pair (lk0 w os) (looks_pair (lkS w os) (lk10 w os)))
end
end H
theorem codeK(P:Params):SQ (H.K0 P) 236 232:=⟨H.Ju,_,_,_,_,_,_,_,_,by kernel_rfl,rfl,rfl,rfl,rfl,rfl,rfl,rfl,rfl⟩
end K28
noncomputable def PySem.W.Fast.tw928895671103910927:PySem.Program:=PySem.Challenge.pw_changehall_k28_whole_classes
theorem PySem.W.Fast.te928895671103910927:PySem.Challenge.pw_changehall_k28_whole_classes=PySem.W.Fast.tw928895671103910927:=rfl
open PySem PySem.W PyProof.Rows
set_option maxRecDepth 100000 in
set_option maxHeartbeats 0 in
theorem PySem.Challenge.cw_changehall_k28_whole_classes_holds : PySem.Challenge.rw_changehall_k28_whole_classes.Holds := by
 w_on;o_law
 refine PySem.W.holds_open (q:=K28.H.qv) (loose:=[]) (Xt:=K28.H.Xt) (XP:=XL K28.H.qv []) (Yf:=Hook.obs (kHook K28.H.K K28.H.Ka K28.H.Ke)) (Ya:=Hook.val (kHook K28.H.K K28.H.Ka K28.H.Ke)) (YP:=Hook.says (kHook K28.H.K K28.H.Ka K28.H.Ke)) (N:=4102) K28.H.left (Hook.of _) (Hook.keeps _) (λs e=>xl_of s (ui.mp e).1) XL.keeps (by rfl) (by rfl) (by rfl) (λs e=>recFacts_of (ui.mp e).2) (by rfl) (by first|assumption|decide +kernel) (by decide +kernel) ⟨rfl,rfl,rfl,rfl,rfl,by decide +kernel⟩ ?hw ?hc
 (case hw=>w_witness2)
 k_fill
 refine L2.Mw (x := "_law_script") (qn := "next_level.<locals>.<lambda>") (tb:=232) (cA:=236) (K:=K28.H.K0) (k:=10) (fr:=true) (c:=K28.Fy) (l:=PySem.Challenge.rw_changehall_k28_whole_classes) rfl rfl (λw h Y=>L2.VM rfl (PySem.W.kIn_of Y)) (λw=>⟨rfl,K28.codeK w.params⟩) ?F (λns hl=>K28.Th ns hl) ⟨rfl,by decide,by decide⟩
 case F =>
  k_fill
  intro w mg fa h KX G hmg;apply K28.To KX G hmg
  all_goals first|apply L2.dh|skip
  all_goals try k_is
  all_goals kernel_rfl

end

