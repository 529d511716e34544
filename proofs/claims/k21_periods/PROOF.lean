import PyProof.Rows.All
import Wide.All
import OpenK.AllK
import Wide.FinOn
import Lean
import PyProof.EqAt
import PyProof.EqKinds
import PyProof.TupleCall
import PyProof.CompFree
import PyProof.Cells
import PySem.Challenge.RW_changehall_k21_periods
set_option Elab.async false
set_option linter.all false
set_option maxRecDepth 100000
set_option exponentiation.threshold 20000
abbrev aA:=List (List Int)
abbrev aB:=List (PySem.Addr×PySem.Obj)
abbrev aC:=PySem.Value->PySem.Shared->Prop
abbrev aD:=PySem.W.Frag
abbrev aE:=PySem.Str->Option PySem.Value
abbrev aF:=List PySem.Value
abbrev aH:=List Int
open List renaming getElem?_eq_getElem→wa,mem_cons_of_mem→wc,mem_cons_self→wf,mem_map→wj,length_map→wn,map_cons→wo,length_cons→wu,getElem?_map→wv,mem_cons→ww,mem_append→wx,length_append→wD,size_toArray→wG,getElem_of_mem→wH,mem_range→wM,mem_filter→wP,mem_append_right→wQ,getElem?_eq_none→wR,map_map→wS,mem_singleton→wV,getElem?_append_left→wW,lookup_cons→wX,length_drop→wZ,getElem_mem→ve,getElem?_append_right→vg,pairwise_cons→vj,filter_sublist→vk,map_append→vm,getElem?_replicate→vn,getElem?_set_ne→vo,length_set→vq,length_range→vv,getElem?_set→vw,nodup_cons→vy,of_mem_zip→vz,length_take→vA,drop_of_length_le→vC,length_replicate→vD,length_zipWith→vI,getElem?_eq_some_iff→vJ,ext_getElem→vM,getElem?_range→vU,take_of_length_le→vW,filter_cons→vX,mem_filterMap→vY,length_singleton→vZ,mem_or_eq_of_mem_set→uc,mem_of_getElem?→ud,append_assoc→ue,mem_of_mem_take→ug,not_mem_nil→ui,zip_cons_cons→ur,pairwise_map→uv,mem_append_left→uw,range_eq_range'→uA,getD_eq_getElem?_getD→uB,all_eq_true→uD,drop_append→uF,drop_eq_getElem_cons→uH,map_congr_left→uJ,append_nil→uL,getElem?_drop→uN,forIn_nil→uR,drop_eq_nil_of_le→uS,drop_zero→uT,getElem?_zipWith→uX,cons_append→uY,mem_iff_getElem→w01,forIn_cons→w02,range_succ→w04,filterMap_cons→w05,getElem?_eq_none_iff→w0c,any_eq_false→w0f,map_take→w0n,any_eq_true→w0q,length_eq_zero_iff→w0s,range'_succ→w0t,getElem?_set_self→w0u,zipWith_map_right→w0x,range_succ_eq_map→w0A,nil_append→w0C,foldl_cons→w0D,map_const'→w0E,getElem_zipWith→w0M,length_reverse→w0O,replicate_succ→w0P,append_of_mem→w0R,getElem?_take→w0S,map_nil→w0U,flatMap_cons→w0X,nodup_append→w0Y,map_set→w12,take_length→w14,zipIdx_cons→w15,mem_flatMap→w17,zipWith_map→w1b,range'→w1j,zipIdx_nil→w1l,take_left'→w1o,take_zero→w1q,nodup_nil→w1r,foldl_map→w1s
open Nat renaming pow_le_pow_right→wq,le_refl→wB,lt_of_lt_of_le→wE,mul_le_mul_right→wI,two_pow_pos→wJ,le_trans→wK,zero_le→wU,ne_of_lt→wY,mul_le_mul_left→vc,pow_add→vt,lt_irrefl→vx,lt_succ_self→vB,le_of_not_lt→vK,mul_assoc→vP,pow_succ→vQ,mul_le_mul→vS,le_of_lt→vV,mul_lt_mul''→uj,zero_add→ul,lt_or_gt_of_ne→uq,strongRecOn→ut,pow_lt_pow_right→uC,mul_comm→uE,pow_le_pow_left→uI,ne_of_gt→uP,le_of_succ_le→uQ,succ_mul→uU,sub_self→w06,lt_of_le_of_lt→w0a,le_succ_of_le→w0h,mul_add→w0j,lt_trichotomy→w0l,le_mul_of_pos_right→w0r,lt_trans→w0w,mul_pos→w0L,one_lt_two_pow→w0T,lt_succ_of_lt→w0V,min_eq_right→w16,le_add_right→w18,succ_le_succ→w19,log2_lt→w1d,add_mul→w1f,pow_pos→w1g,min_eq_left→w1m,not_lt→w1p
open Int renaming mul_comm→wO,natAbs_mul→vd,fmod_nonneg_of_pos→vp,dvd_trans→vE,mul_eq_zero→vF,fmod_lt_of_pos→vG,mul_le_mul_of_nonneg_right→vN,mul_assoc→vO,le_of_dvd→vR,mul_left_comm→vT,mul_zero→uf,gcd→uu,dvd_add→uz,dvd_mul_left→uG,mul_nonpos_of_nonpos_of_nonneg→uM,mul_sub→uO,natAbs_neg→uV,dvd_refl→uW,neg_mul→w00,gcd_pos_of_ne_zero_left→w07,fdiv_eq_ediv_of_nonneg→w0b,eq_of_mul_eq_mul_left→w0d,mul_one→w0e,toNat_natCast→w0g,lt_trichotomy→w0i,mul_add→w0k,dvd_mul_right→w0m,mul_fdiv_cancel_left→w0o,mul_ediv_cancel_left→w0p,zero_add→w0y,dvd_zero→w0z,mul_fdiv_add_fmod→w0H,mul_nonneg→w0I,mul_neg→w0J,sub_mul→w0K,natAbs_eq_zero→w0Q,gcd_dvd_right→w0Z,dvd_antisymm→w1a,gcd_dvd_left→w1c,add_mul→w1e,mul_pos→w1h,dvd_sub→w1i,neg_mul_neg→w1n
open Option renaming isSome_iff_exists→uK,getD_none→w13,map_some→w1k
open PySem.Heap renaming get?_push_of_some→wm,lt_size→wy,get?_push_size→wF,size_push→vH,get?_none_of_le→uZ,get?_update_other→w0v,get?_update_self→w0F,get?_push_ne→w0W
open Bool renaming false_ne_true→wL,and_eq_true→wN,or_eq_true→w03,true→w08,false_eq_true→w09,eq_iff_iff→w0B,beq_eq_decide_eq→w0G,and_eq_true_iff→w0N,not_false→w1t
open Classical renaming choose_spec→vh,byContradiction→vi,choose→vL
local macro_rules|`(tactic|rfl')=>`(tactic|omega)
section
local macro_rules|`(tactic|rfl')=>`(tactic|first|lia|omega +splitDisjunctions)
namespace L2
open PySem PySem.Spec PyProof.Rows
abbrev Key:=Sum Int Str
def keyIs:Key->Value->Bool
 | .inl k,v=>Value.isInt k v
 | .inr x,v=>Value.isStrOf x v
def keyH(w:World):Key->Int
 | .inl k=>hashInt k
 | .inr x=>hashStr w x
theorem E6:∀{k:Key} {v:Value},keyIs k v=true->(∃ i t,k=Sum.inl i/\v=Value.int i t)\/(∃ x t,k=Sum.inr x/\v=Value.str x t)
 | .inl i,v,h=>by
  obtain⟨t,e⟩:=Value.isInt_shape (k:=i) (v:=v) h;exact .inl ⟨i,t,rfl,e⟩
 | .inr x,v,h=>by
  obtain⟨t,e⟩:=Value.isStrOf_shape (x:=x) (v:=v) h;exact .inr ⟨x,t,rfl,e⟩
theorem key_ll(a b:Int):decide ((Sum.inl a:Key)=Sum.inl b)=(a==b):=by
 by_cases e:a=b
 · subst e;simp
 · have h:¬(Sum.inl a:Key)=Sum.inl b:=λq=>e (Sum.inl.inj q);rw[decide_eq_false h];exact(beq_eq_false_iff_ne.mpr e).symm
theorem key_rr(a b:Str):decide ((Sum.inr a:Key)=Sum.inr b)=decide (a=b):=by
 by_cases e:a=b
 · subst e;simp
 · have h:¬(Sum.inr a:Key)=Sum.inr b:=λq=>e (Sum.inr.inj q);rw[decide_eq_false h,decide_eq_false e]
theorem key_lr(a:Int)(b:Str):decide ((Sum.inl a:Key)=Sum.inr b)=false:=decide_eq_false (λq=>nomatch q)
theorem key_rl(a:Str)(b:Int):decide ((Sum.inr a:Key)=Sum.inl b)=false:=decide_eq_false (λq=>nomatch q)
def Mt(prog:Program)(w:World):PySem.KeyKind prog w Key where
 is:=keyIs
 hash:=keyH w
 inj:=λv a b ha hb=>by
  rcases E6 ha with⟨i,t,rfl,rfl⟩|⟨x,t,rfl,rfl⟩
  · rcases E6 hb with⟨j,u,rfl,e⟩|⟨y,u,rfl,e⟩
    · injection e with e1 _;rw[e1]
    · exact nomatch e
  · rcases E6 hb with⟨j,u,rfl,e⟩|⟨y,u,rfl,e⟩
    · exact nomatch e
    · injection e with e1 _;rw[e1]
 byValue:=λk v h=>by
  rcases E6 h with⟨i,t,rfl,rfl⟩|⟨x,t,rfl,rfl⟩<;>rfl
 pyHash:=λhv h=>by
  rcases E6 hv with⟨i,t,rfl,rfl⟩|⟨x,t,rfl,rfl⟩
  · exact wpAny_pyHash_int h
  · exact wpAny_pyHash_str h
 eqBool:=λhu hv h=>by
  rcases E6 hu with⟨i,t,rfl,rfl⟩|⟨x,t,rfl,rfl⟩
  · rcases E6 hv with⟨j,u,rfl,rfl⟩|⟨y,u,rfl,rfl⟩
    · rw[key_ll]at h;exact wpAny_eqBool_int h
    · rw[key_lr]at h;exact SeqAt.EqAt.int_str i t y u _ _ _ _ h
  · rcases E6 hv with⟨j,u,rfl,rfl⟩|⟨y,u,rfl,rfl⟩
    · rw[key_rl]at h;exact SeqAt.EqAt.str_int x t j u _ _ _ _ h
    · rw[key_rr]at h;exact wpAny_eqBool_str h
 «strs»:=λk x t v h=>by
  rcases E6 h with⟨i,u,rfl,e⟩|⟨y,u,rfl,e⟩
  · exact nomatch e
  · injection e with e1 _
    subst e1;cases v<;>rfl
end L2
namespace L2
open PySem PySem.Spec PyProof.Rows
inductive V where
 | non|bl (b:Bool)|int (i:Int)|str (x:Str)|byt (b:Array UInt8)|flt (b:UInt64)|ref (a:Addr)|ty (n:String)
 deriving DecidableEq
def RelV:V->Value->Prop
 | .non,u=>u=Value.none
 | .bl b,u=>u=Value.bool b
 | .int i,u=>∃ t,u=Value.int i t
 | .str x,u=>∃ t,u=Value.str x t
 | .byt b,u=>∃ t,u=Value.bytes b t
 | .flt b,u=>∃ t,u=Value.float b t
 | .ref a,u=>u=Value.ref a
 | .ty n,u=>u=Value.type n
abbrev Vals:List V->aF->Prop:=Paired RelV
theorem Vals.length{xs:List V}{us:aF}(r:Vals xs us):xs.length=us.length:=Paired.length r
theorem Vals.get:∀{xs:List V} {us:aF} {i:Nat} {x:V},Vals xs us->xs[i]?=some x->∃ u,us[i]?=some u/\RelV x u
 | _,_,_,_,.nil,e=>by simp at e
 | _,_,0,_,.cons r _,e=>by simp at e;subst e;exact⟨_,rfl,r⟩
 | _,_,i+1,x,.cons _ t,e=>by
  obtain⟨u,h1,h2⟩:=Vals.get (i:=i) (x:=x) t (by simpa using e);exact⟨u,by simpa using h1,h2⟩
theorem Vals.set{x:V}{u:Value}(r:RelV x u):∀{xs:List V} {us:aF} (i:Nat),Vals xs us->Vals (xs.set i x) (us.set i u)
 | _,_,_,.nil => .nil
 | _,_,0,.cons _ t => .cons r t
 | _,_,i+1,.cons q t => .cons q (Vals.set r i t)
theorem Vals.append:∀{xs ys:List V} {us ws:aF},Vals xs us->Vals ys ws->Vals (xs++ys) (us++ws)
 | _,_,_,_,.nil,s=>s
 | _,_,_,_,.cons r t,s => .cons r (Vals.append t s)
theorem Vals.take:∀{xs:List V} {us:aF} (n:Nat),Vals xs us->Vals (xs.take n) (us.take n)
 | _,_,0,_ => .nil
 | _,_,_+1,.nil => .nil
 | _,_,n+1,.cons r t => .cons r (Vals.take n t)
theorem Vals.drop:∀{xs:List V} {us:aF} (n:Nat),Vals xs us->Vals (xs.drop n) (us.drop n)
 | _,_,0,r=>r
 | _,_,_+1,.nil => .nil
 | _,_,n+1,.cons _ t=>Vals.drop n t
theorem Vals.none_of:∀{xs:List V} {us:aF} {i:Nat},Vals xs us->xs[i]?=none->us[i]?=none:=λ{xs us i} r e=>by
 have h1:=r.length;have h2:xs.length<=i:=w0c.mp e;exact w0c.mpr (by rfl')
def RelO:Option V->Option Value->Prop
 | some v,some u=>RelV v u
 | none,none=>True
 | _,_=>False
def KV{κ:Type}:List (κ×V)->List (κ×Value)->Prop:=Paired λ(p:κ×V) (q:κ×Value)=>p.1=q.1/\RelV p.2 q.2
def kV:Key->V
 | .inl i => .int i
 | .inr x => .str x
inductive HO where
 | lst (xs:List V)
 | tup (xs:List V)
 | dK (kvs:List (Key×V))|dT (kvs:List (List Key×V))
 | set (S:Int->Bool) (n:Nat)
 | ins (C dx:Addr) (fs:List (Str×V))
 | own (x:Addr)
 | xd (fs:List (Str×V))
 | met (f x:Addr)
 | rng (lo hi:Int)
 | frz (o:Obj) (u:HO)
 | tbl (ps:Array Value)
 | ext (φ:Heap->Prop)
abbrev Hp:=Addr->Option HO
def upd(H:Hp)(a:Addr)(o:HO):Hp:=λb=>if b=a then some o else H b
theorem D8{H:Hp}{a:Addr}{o:HO}:upd H a o a=some o:=by unfold upd;rw[if_pos rfl]
theorem z9{H:Hp}{a b:Addr}{o:HO}(h:b≠a):upd H a o b=H b:=by unfold upd;rw[if_neg h]
theorem R4{H:Hp}{a b:Addr}{o:HO}(h:H a=some o)(h':H b=none):a≠b:=by
 intro e;subst e;rw[h]at h';cases h'
section
variable (P:Program)(w:World)
def ObjOk(H:Hp)(h:Heap)(a:Addr):HO->Prop
 | .lst xs=>xs.length<=sizeLine/\∃(its:aF) (n:Nat),Vals xs its/\h.get? a=some { cls := .type "list",data := .seq its.toArray n }
 | .tup xs=>xs.length<=sizeLine/\∃ its:aF,Vals xs its/\IsTup h a its.toArray
 | .dK kvs=>kvs.length<=sizeLine/\(a==sysModules)=false/\∃ vs,KV kvs vs/\h.DictOf (Mt P w) a vs
 | .dT kvs=>kvs.length<=sizeLine/\(a==sysModules)=false/\∃ xs:List (List Key×Addr×Value),
  Paired (λ(p:List Key×V) (q:List Key×Addr×Value)=>p.1=q.1/\H q.2.1=some (.tup (p.1.map kV))/\RelV p.2 q.2.2) kvs xs /\
  ∃ o es ep,h.get? a=some o/\o.ExactDict/\o.data = .dict es ep/\es.toList=xs.map (entryOfKey (tupleKind (Mt P w)))/\(xs.map (·.1)).Nodup
 | .set S n=>h.SetOf (intKind P w) a S n
 | .ins C dx fs=>H dx=some (.own a)/\fs.length<=1000/\dx≠a/\h.get? a=some (PySem.W.instObj C dx) /\
  ∃ mA,h.Ns1 dx mA/\(∀ f,RelO (fs.lookup f) (mA f))/\PySem.Within mA (fs.map (·.1))
 | .own _=>∃ o,h.get? a=some o
 | .xd fs=>∃ mA,h.Ns1 a mA/\∀ f,RelO (fs.lookup f) (mA f)
 | .rng lo hi=>∃ t u v,h.get? a=some { cls := .type "range",data := .fields #[.int lo t,.int hi u,.int 1 v] }
 | .frz o u=>h.get? a=some o/\ObjOk H h a u
 | .tbl ps=>h.get? a=some { cls := .none,data := .fields ps }
 | .met f x=>h.get? a=some (PySem.W.methodObj (.ref f) (.ref x))
 | .ext φ=>φ h/\(∃ o,h.get? a=some o)/\∀ h1 h2:Heap,φ h1->(∀ o,h1.get? a=some o->h2.get? a=some o)->φ h2
def HOk(H:Hp)(h:Heap):Prop:=∀ a o,H a=some o->ObjOk P w H h a o
end
section
variable {P:Program}{w:World}{H H':Hp}{h h':Heap}{a:Addr}{o:HO}
theorem ObjOk.lt(x:ObjOk P w H h a o):a<h.objs.size:=by
 cases o with
 | lst xs=>obtain⟨_,_,_,_,e⟩:=x;exact wy e
 | tup xs=>obtain⟨_,_,_,p⟩:=x;exact p.lt
 | dK kvs=>obtain⟨_,_,_,_,o,_,_,e,_⟩:=x;exact wy e
 | dT kvs=>obtain⟨_,_,_,_,o,_,_,e,_⟩:=x;exact wy e
 | set S n=>obtain⟨o,_,_,_,e,_⟩:=x;exact wy e
 | ins C dx fs=>obtain⟨_,_,_,e,_⟩:=x;exact wy e
 | own y=>obtain⟨_,e⟩:=x;exact wy e
 | xd fs=>obtain⟨_,⟨_,_,_,e,_⟩,_⟩:=x;exact wy e
 | rng lo hi=>obtain⟨_,_,_,e⟩:=x;exact wy e
 | frz ob u=>obtain⟨e,_⟩:=x;exact wy e
 | tbl ps=>exact wy (show h.get? a=some _ from x)
 | met f y=>exact wy (show h.get? a=some _ from x)
 | ext φ=>obtain⟨_,⟨_,e⟩,_⟩:=x;exact wy e
theorem Paired.mapP{α β:Type}{F G:α->β->Prop}:∀{l₁:List α} {l₂:List β},Paired F l₁ l₂->(∀ a b,F a b->G a b)->Paired G l₁ l₂
 | _,_,.nil,_ => .nil
 | _,_,.cons r t,f => .cons (f _ _ r) (Paired.mapP t f)
theorem ObjOk.stay(x:ObjOk P w H h a o)(k:∀ b u,(b=a\/H b=some (.own a))->h.get? b=some u->h'.get? b=some u)
  (ho:∀ b,H b=some (.own a)->H' b=some (.own a)) (ht:∀ b xs,H b=some (.tup xs)->H' b=some (.tup xs)):ObjOk P w H' h' a o:=by
 induction o with
 | lst xs=>obtain⟨z,its,n,r,e⟩:=x;exact⟨z,its,n,r,k _ _ (.inl rfl) e⟩
 | tup xs=>obtain⟨z,its,r,ob,e,c⟩:=x;exact⟨z,its,r,ob,k _ _ (.inl rfl) e,c⟩
 | dK kvs=>obtain⟨z,y,vs,r,ob,es,ep,e,c⟩:=x;exact⟨z,y,vs,r,ob,es,ep,k _ _ (.inl rfl) e,c⟩
 | dT kvs =>
  obtain⟨z,y,xs,r,ob,es,ep,e,c⟩:=x;exact⟨z,y,xs,Paired.mapP r λp q z=>⟨z.1,ht _ _ z.2.1,z.2.2⟩,ob,es,ep,k _ _ (.inl rfl) e,c⟩
 | set S n=>obtain⟨ob,es,ep,t,e,c⟩:=x;exact⟨ob,es,ep,t,k _ _ (.inl rfl) e,c⟩
 | ins C dx fs =>
  obtain⟨d,z,ne,e,mA,⟨od,es,ep,e2,c⟩,r⟩:=x;exact⟨ho _ d,z,ne,k _ _ (.inl rfl) e,mA,⟨od,es,ep,k _ _ (.inr d) e2,c⟩,r⟩
 | own y=>obtain⟨ob,e⟩:=x;exact⟨ob,k _ _ (.inl rfl) e⟩
 | xd fs=>obtain⟨mA,⟨od,es,ep,e,c⟩,r⟩:=x;exact⟨mA,⟨od,es,ep,k _ _ (.inl rfl) e,c⟩,r⟩
 | rng lo hi=>obtain⟨t,u,v,e⟩:=x;exact⟨t,u,v,k _ _ (.inl rfl) e⟩
 | frz ob u ih=>obtain⟨e,q⟩:=x;exact⟨k _ _ (.inl rfl) e,ih q⟩
 | tbl ps =>
  have e:h.get? a=some { cls := .none,data := .fields ps }:=x;show h'.get? a=some { cls := .none,data := .fields ps };exact k a _ (.inl rfl) e
 | met f y =>
  have e:h.get? a=some (PySem.W.methodObj (.ref f) (.ref y)):=x;show h'.get? a=some (PySem.W.methodObj (.ref f) (.ref y));exact k a _ (.inl rfl) e
 | ext φ=>obtain⟨p,⟨o,e⟩,st⟩:=x;exact⟨st _ _ p λo q=>k _ _ (.inl rfl) q,⟨o,k _ _ (.inl rfl) e⟩,st⟩
theorem HOk.lt(x:HOk P w H h)(e:H a=some o):a<h.objs.size:=(x a o e).lt
theorem HOk.fresh(x:HOk P w H h)(e:h.objs.size<=a):H a=none:=by
 cases q:H a with
 | none=>rfl
 | some u=>exact absurd (wE (x.lt q) e) (vx _)
theorem HOk.kept(x:HOk P w H h)(k:∀ b u,h.get? b=some u->h'.get? b=some u):HOk P w H h':=λa o e =>
 (x a o e).stay (λb u _ q=>k b u q) (λ_ q=>q) λ_ _ q=>q
theorem HOk.laid(x:HOk P w H h)(k:∀ b u,h.get? b=some u->h'.get? b=some u)(hp:h.objs.size<=a)(new:ObjOk P w (upd H a o) h' a o):HOk P w (upd H a o) h':=λb u e=>by
 have hn:=x.fresh hp;by_cases hb:b=a
 · subst hb;rw[D8]at e;cases e;exact new
 · rw[z9 hb]at e;exact(x b u e).stay (λc v _ q=>k c v q) (λc q=>by rw[z9 (R4 q hn)];exact q) λc xs q=>by rw[z9 (R4 q hn)];exact q
end
def Rd(H:Hp)(a:Addr)(u:HO):Prop:=H a=some u\/∃ o,H a=some (.frz o u)
theorem Rd.ok{P:Program}{w:World}{H:Hp}{h:Heap}{a:Addr}{u:HO}(r:Rd H a u)(x:HOk P w H h):ObjOk P w H h a u:=by
 rcases r with r|⟨o,r⟩
 · exact x a u r
 · obtain⟨_,q⟩:=x a _ r;exact q
def Mut:Option HO->Prop
 | some (.lst _)=>True
 | some (.dK _)=>True
 | some (.dT _)=>True
 | some (.set _ _)=>True
 | some (.ins _ _ _)=>True
 | some (.ext _)=>True
 | _=>False
section
variable {P:Program}{w:World}{H:Hp}{h h':Heap}{x e:Addr}{o':HO}
theorem HOk.write(ok:HOk P w H h)(mu:Mut (H x))(he:e=x\/H e=some (.own x))(k:∀ b u,b≠e->h.get? b=some u->h'.get? b=some u)(heo:∃ u,h'.get? e=some u)
   (new:ObjOk P w (upd H x o') h' x o'):HOk P w (upd H x o') h':=λb u q=>by
 have nown:∀ c y,H c=some (.own y)->c≠x:=λc y r z=>by subst z;rw[r]at mu;exact mu
 have ntup:∀ c xs,H c=some (.tup xs)->c≠x:=λc xs r z=>by subst z;rw[r]at mu;exact mu
 by_cases hb:b=x
 · subst hb;rw[D8]at q;cases q;exact new
 · rw[z9 hb]at q;by_cases hbe:b=e
   · have q':H b=some (.own x):=by
       rcases he with z|z
       · exact absurd (hbe.trans z) hb
       · rw[hbe];exact z
     rw[q]at q';cases q';obtain⟨v,hv⟩:=heo;exact⟨v,by rw[hbe];exact hv⟩
   · refine(ok b u q).stay (λc v hc r=>k c v ?_ r) (λc r=>by rw[z9 (nown c b r)];exact r) λc xs r=>by rw[z9 (ntup c xs r)];exact r
     rcases hc with rfl|hc
     · exact hbe
     · rintro rfl;rcases he with z|z
       · exact nown c b hc z
       · rw[hc]at z;cases z;exact hb rfl
end
structure Un(fs ex:List Addr)(H H':Hp)(h h':Heap):Prop where
 keep:∀ b o,h.get? b=some o->H b=none->b ∉ fs->b ∉ ex->h'.get? b=some o
 slot:∀ b o,h.get? b=some o->H b=none->b∈fs->b ∉ ex->∃ sl,h'.get? b=some { o with slots:=sl }
 free:∀ b o,h.get? b=some o->H b=none->b ∉ ex->H' b=none
 there:∀ b o,h.get? b=some o->b ∉ ex->∃ o',h'.get? b=some o'
 tups:∀ b xs,H b=some (.tup xs)->H' b=some (.tup xs)
 frzs:∀ b o u,H b=some (.frz o u)->H' b=some (.frz o u)
 tbls:∀ b ps,H b=some (.tbl ps)->∃ more,H' b=some (.tbl (ps++more))
section
variable {fs fs' ex ex':List Addr}{H H1 H2:Hp}{h h1 h2 h':Heap}{a x e:Addr}{o:HO}
theorem Un.any(u:Un fs ex H H1 h h1){b:Addr}{ob:Obj}(q:h.get? b=some ob)(n:H b=none)(hx:b ∉ ex):∃ sl,h1.get? b=some { ob with slots:=sl }:=by
 by_cases hb:b∈fs
 · exact u.slot b ob q n hb hx
 · exact⟨ob.slots,u.keep b ob q n hb hx⟩
theorem Un.trans(a:Un fs ex H H1 h h1)(b:Un fs ex H1 H2 h1 h2):Un fs ex H H2 h h2 where
 keep:=λc ob q n hc hx=>b.keep c ob (a.keep c ob q n hc hx) (a.free c ob q n hx) hc hx
 slot:=λc ob q n hc hx=>by
  obtain⟨sl,e1⟩:=a.slot c ob q n hc hx;obtain⟨sl',e2⟩:=b.slot c _ e1 (a.free c ob q n hx) hc hx;exact⟨sl',e2⟩
 free:=λc ob q n hx=>by
  obtain⟨o',e1⟩:=a.there c ob q hx;exact b.free c o' e1 (a.free c ob q n hx) hx
 there:=λc ob q hx=>by
  obtain⟨o',e1⟩:=a.there c ob q hx;exact b.there c o' e1 hx
 tups:=λc xs q=>b.tups c xs (a.tups c xs q)
 frzs:=λc ob xs q=>b.frzs c ob xs (a.frzs c ob xs q)
 tbls:=λc ps q=>by
  obtain⟨m1,e1⟩:=a.tbls c ps q;obtain⟨m2,e2⟩:=b.tbls c _ e1;exact⟨m1++m2,by rw[e2,Array.append_assoc]⟩
theorem Un.kept(k:∀ b u,h.get? b=some u->h'.get? b=some u):Un fs ex H H h h' :=
 ⟨λb ob q _ _ _=>k b ob q,λb ob q _ _ _=>⟨ob.slots,k b ob q⟩,λ_ _ _ n _=>n,λb ob q _=>⟨ob,k b ob q⟩,λ_ _ q=>q,λ_ _ _ q=>q,λ_ ps q=>⟨#[],by rw[q];simp⟩⟩
theorem Un.refl:Un fs ex H H h h:=Un.kept λ_ _ q=>q
theorem Un.laid(k:∀ b u,h.get? b=some u->h'.get? b=some u)(hp:h.objs.size<=a)(hn:H a=none):Un fs ex H (upd H a o) h h' where
 keep:=λb u q _ _ _=>k b u q
 slot:=λb u q _ _ _=>⟨u.slots,k b u q⟩
 free:=λb u q n _=>by rw[z9 (wY (wE (wy q) hp))];exact n
 there:=λb u q _=>⟨u,k b u q⟩
 tups:=λb xs q=>by rw[z9 (R4 q hn)];exact q
 frzs:=λb u xs q=>by rw[z9 (R4 q hn)];exact q
 tbls:=λb ps q=>⟨#[],by rw[z9 (R4 q hn),q];simp⟩
theorem Un.write(mu:Mut (H x))(he:e=x\/H e=some (.own x))(k:∀ b u,b≠e->h.get? b=some u->h'.get? b=some u)(heo:∃ u,h'.get? e=some u):Un fs ex H (upd H x o) h h':=by
 have hx:∀ b,H b=none->b≠x:=λb n z=>by subst z;rw[n]at mu;exact mu
 have hb:∀ b,H b=none->b≠e:=λb n z=>by
   subst z;rcases he with r|r
   · exact hx b n r
   · rw[n]at r;cases r
 have hm:∀ b u,H b=some u->¬Mut (some u)->b≠x:=λb u q nm z=>by subst z;rw[q]at mu;exact nm mu
 refine⟨λb u q n _ _=>k b u (hb b n) q,λb u q n _ _=>⟨u.slots,k b u (hb b n) q⟩,λb u q n _=>by rw[z9 (hx b n)];exact n,λb u q _=>?_,
   λb xs q=>by rw[z9 (hm b _ q λz=>z)];exact q,λb u xs q=>by rw[z9 (hm b _ q λz=>z)];exact q,λb ps q=>⟨#[],by rw[z9 (hm b _ q λz=>z),q];simp⟩⟩
 by_cases hbe:b=e
 · subst hbe;exact heo
 · exact⟨u,k b u hbe q⟩
end
def trk(h:Heap)(H:Hp):List Addr:=(List.range h.objs.size).filter λa=>(H a).isSome
def hidT(h:Heap)(H:Hp):Heap:=PySem.W.hideAll h (trk h H)
theorem Xs(h:Heap)(H:Hp):(hidT h H).objs.size=h.objs.size:=PySem.W.hideAll_size _ _
theorem YR{h:Heap}{H:Hp}{b:Addr}{o:Obj}(e:h.get? b=some o)(n:H b=none):(hidT h H).get? b=some o :=
 PySem.W.hideAll_get _ e λhm=>by
  have q:(H b).isSome=true:=(wP.mp hm).2;rw[n]at q;simp at q
theorem z3l{h:Heap}{H:Hp}{b:Addr}{o:Obj}(e:(hidT h H).get? b=some o):h.get? b=some o/\H b=none:=by
 have e':h.get? b=some o:=PySem.W.of_hideAll (trk h H) e;refine⟨e',?_⟩;cases q:H b with
 | none=>rfl
 | some x =>
  have hm:b∈trk h H:=wP.mpr ⟨wM.mpr (wy e'),by simp[q]⟩;have z:(hidT h H).get? b=none:=PySem.W.hideAll_none (trk h H) hm;rw[z]at e;cases e
def z3m(g h:Heap)(L:Addr):aB:=(List.range h.objs.size).filterMap λa=>if a=L\/(g.get? a).isSome=true then none else(h.get? a).map λo=>(a,o)
def rest(g h:Heap)(L d:Addr):aB:=(z3m g h L).filter λp=>decide (p.1≠d)
end L2
namespace L2
open PySem PySem.Spec PyProof.Rows
structure Mod(K:aD)(mg:aE)(base:Heap):Prop where
 kin:K.In base
 glob:base.Ns mainGlobals mg
 blt:∃ mb,base.Ns builtinsNs mb/\∀ x:Str,x ≠ "__name__" -> mb x=bootBuiltins x
 nolimit:base.NoLimit
structure Cx where
 prog:Program
 w:World
 K:aD
 mg:aE
 base:Heap
 A:Around
 N:List Str
 s₀:Shared
 H₀:Hp
 env:Env
 outer:List Env
 stack:List Env
 ex:List Addr
 fn:Str->Bool
 calm:Bool
 pn:aB
 xe:aC
def frs(l:List Env):List Addr:=l.filterMap (·.frame)
abbrev Cx.fs(X:Cx):List Addr:=frs X.outer
def Vis(sc:Scope)(x:Str):Prop:=sc.names.lookup x=some .local\/sc.names.lookup x=some .cell\/sc.names.lookup x=some .free
def Loc(sc:Scope)(x:Str):Prop:=sc.names.lookup x=some .local\/sc.names.lookup x=some .cell
def Look(env:Env)(h:Heap)(m:aE)(x:Str)(u:Value):Prop :=
 (env.kindOf x=some .local/\m x=some u)\/((env.kindOf x=some .cell\/env.kindOf x=some .free)/\∃ c,env.cells.lookup x=some c/\h.IsCell c (some u))
structure Cx.Ok(X:Cx):Prop where
 mod:Mod X.K X.mg X.base
 kind:X.env.scope.kind = .function
 glob:X.env.globals=mainGlobals
 blt:X.env.builtins=builtinsNs
 above:X.s₀.heap.objs.size<=X.env.locals
 inj:∀ x y c,X.env.cells.lookup x=some c->X.env.cells.lookup y=some c->x=y
 has:∀ x,(X.env.kindOf x=some .cell\/X.env.kindOf x=some .free)->∃ c,X.env.cells.lookup x=some c
 cab:∀ x c,X.fn x=true->X.env.cells.lookup x=some c->X.s₀.heap.objs.size<=c
 hd:X.calm=true->X.A.handled=none
 frames:X.A.frames=some X.stack
 stk:X.stack=X.outer\/(X.stack=X.env::X.outer/\X.env.frame=some X.env.locals)
 exf:∀ b∈X.ex,b≠X.env.locals/\∀ x c,X.env.cells.lookup x=some c->c≠b
 bs:∀ b o,X.base.get? b=some o->X.s₀.heap.get? b=some o/\X.H₀ b=none
 bsz:X.base.objs.size<=X.s₀.heap.objs.size
 noex:∀ b o,X.base.get? b=some o->b ∉ X.ex
 exfs:∀ b∈X.ex,b ∉ X.fs
 funs:X.s₀.heap.FunFrames X.base X.outer
 frf:∀ b∈X.fs,X.H₀ b=none
structure Inv(X:Cx)(π:aB)(σ:List (Option V))(H:Hp)(s:Shared):Prop where
 ok:X.Ok
 os:s.os=X.s₀.os
 bare:AllBare s.gens
 base:Un X.fs X.ex X.H₀ H X.s₀.heap s.heap
 loc:∃ m,s.heap.Ns X.env.locals m/\∀(i:Nat) (x:Str) (v:V),X.N[i]?=some x->σ[i]?=some (some v)->Vis X.env.scope x->∃ u,RelV v u/\Look X.env s.heap m x u
 cell:∀ x c,X.env.cells.lookup x=some c->∃ v,s.heap.IsCell c v
 free:H X.env.locals=none
 freeC:∀ x c,X.env.cells.lookup x=some c->H c=none
 pin:∀ p∈X.pn++π,s.heap.get? p.1=some p.2/\H p.1=none/\p.1≠X.env.locals/\p.1 ∉ X.fs/\∀ v,p.2.data ≠ .cell v
 hok:HOk X.prog X.w H s.heap
 len:σ.length=X.N.length
section
variable {X:Cx}{π:aB}{σ:List (Option V)}{H H':Hp}{s:Shared}{h':Heap}
theorem Cx.Ok.nofr(ok:X.Ok){b:Addr}{o:Obj}(e:X.base.get? b=some o):b ∉ X.fs:=λhb=>by
 have:=(ok.funs.mem hb).1;rw[e]at this;cases this
theorem Inv.bs(I:Inv X π σ H s):∀ b o,X.base.get? b=some o->s.heap.get? b=some o/\H b=none:=λb o e =>
 ⟨I.base.keep b o (I.ok.bs b o e).1 (I.ok.bs b o e).2 (I.ok.nofr e) (I.ok.noex b o e),I.base.free b o (I.ok.bs b o e).1 (I.ok.bs b o e).2 (I.ok.noex b o e)⟩
theorem Inv.bk(I:Inv X π σ H s):∀ b o,X.base.get? b=some o->s.heap.get? b=some o:=λb o e=>(I.bs b o e).1
theorem Inv.mod(I:Inv X π σ H s):Mod X.K X.mg X.base:=I.ok.mod
theorem Inv.kIn(I:Inv X π σ H s):X.K.In s.heap:=I.ok.mod.kin.keeps I.bk
theorem Inv.fr(I:Inv X π σ H s):∃ m,Fr X.base X.env.locals s.heap m :=
 let ⟨m,hn,_⟩:=I.loc
 ⟨m,hn,I.bk,wK I.ok.bsz I.ok.above⟩
theorem Inv.lt(I:Inv X π σ H s):X.env.locals<s.heap.objs.size:=let ⟨_,hn,_⟩:=I.loc;hn.lt
theorem Inv.sz(I:Inv X π σ H s):X.s₀.heap.objs.size<=s.heap.objs.size:=wK I.ok.above (vV I.lt)
theorem Inv.nofs(I:Inv X π σ H s){a:Addr}(h:s.heap.objs.size<=a):a ∉ X.fs:=λhb=>by
 obtain⟨_,o,ho,_⟩:=I.ok.funs.mem hb;exact absurd (wE (wy ho) (wK I.sz h)) (vx _)
theorem Inv.cne(I:Inv X π σ H s):∀ x c,X.env.cells.lookup x=some c->c≠X.env.locals:=λx c e z=>by
 obtain⟨v,o,ho,hd⟩:=I.cell x c e;obtain⟨m,⟨o',es,ep,ho',hd',_⟩,_⟩:=I.loc;rw[z,ho']at ho;cases ho;rw[hd']at hd;cases hd
theorem Inv.funs(I:Inv X π σ H s):s.heap.FunFrames X.base X.outer:=by
 have all:∀(l:List Env),(∀ b∈frs l,b∈X.fs)->X.s₀.heap.FunFrames X.base l->s.heap.FunFrames X.base l:=by
  intro l
  induction l with
  | nil=>intro _ _;trivial
  | cons env r ih =>
   intro hs hl;obtain⟨hk,⟨L,o,hf,hn,ho,hd⟩,hr⟩:=hl;have hL:L∈X.fs:=hs L (by unfold frs;rw[w05,hf];exact wf);obtain⟨sl,e⟩:=I.base.slot L o ho (I.ok.frf L hL) hL λz=>I.ok.exfs L z hL;exact⟨hk,⟨L,_,hf,hn,e,hd⟩,ih (λb hb=>hs b (by unfold frs;rw[w05,hf];exact wc _ hb)) hr⟩
 exact all X.outer (λ_ hb=>hb) I.ok.funs
theorem Inv.stack(I:Inv X π σ H s):s.heap.FunFrames X.base X.stack:=by
 rcases I.ok.stk with e|⟨e,hf⟩
 · rw[e];exact I.funs
 · rw[e];obtain⟨m,hn,_⟩:=I.loc;refine .cons (by rw[I.ok.kind];decide) hf hn ?_ I.funs;exact uZ (wK I.ok.bsz I.ok.above)
theorem Inv.stkSub(I:Inv X π σ H s):∀ b∈frs X.stack,b∈X.env.locals::X.fs:=λb hb=>by
 rcases I.ok.stk with e|⟨e,hf⟩
 · rw[e]at hb;exact wc _ hb
 · rw[e]at hb;unfold frs at hb;rw[w05,hf]at hb;exact hb
theorem Inv.stkFree(I:Inv X π σ H s):∀ b∈frs X.stack,H b=none:=λb hb=>by
 rcases ww.mp (I.stkSub b hb)with e|hb
 · rw[e];exact I.free
 · obtain⟨_,o,ho,_⟩:=I.ok.funs.mem hb;exact I.base.free b o ho (I.ok.frf b hb) λz=>I.ok.exfs b z hb
theorem Inv.step{g':Array GenState}{t':Nat}{d':Drawn}{ch:List Addr}(I:Inv X π σ H s)
   (hch:∀ b∈ch,(b∈X.ex\/X.s₀.heap.objs.size<=b)/\b≠X.env.locals/\(∀ x c,X.env.cells.lookup x=some c->c≠b)/\∀ p∈X.pn++π,p.1≠b)
   (keep:∀ b o,b≠X.env.locals->b ∉ X.fs->b ∉ ch->s.heap.get? b=some o->H b=none->h'.get? b=some o)
   (slot:∀ b o,b≠X.env.locals->b∈X.fs->b ∉ ch->s.heap.get? b=some o->H b=none->∃ sl,h'.get? b=some { o with slots:=sl }) (free:∀ b o,b ∉ ch->s.heap.get? b=some o->H b=none->H' b=none)
   (there:∀ b o,b ∉ ch->s.heap.get? b=some o->∃ o',h'.get? b=some o')
   (tups:∀ b xs,H b=some (.tup xs)->H' b=some (.tup xs)) (frzs:∀ b o u,H b=some (.frz o u)->H' b=some (.frz o u)) (tbls:∀ b ps,H b=some (.tbl ps)->∃ more,H' b=some (.tbl (ps++more)))
   (ns:∀ m,s.heap.Ns X.env.locals m->h'.Ns X.env.locals m) (hok:HOk X.prog X.w H' h') (hg:AllBare g') :
   Inv X π σ H' { s with heap:=h',gens:=g',drawn:=d',toks:=t' }:=by
 have neL:∀ b o,X.s₀.heap.get? b=some o->b≠X.env.locals:=λb o e=>wY (wE (wy e) I.ok.above);have neC:∀ b o,X.s₀.heap.get? b=some o->b ∉ X.ex->b ∉ ch:=λb o e hx hb=>by
   rcases(hch b hb).1 with z|z
   · exact hx z
   · exact absurd (wE (wy e) z) (vx _)
 have cellK:∀ x c,X.env.cells.lookup x=some c->∀ v,s.heap.IsCell c v->h'.IsCell c v:=λx c e v⟨o,ho,hd⟩=>by
   have nch:c ∉ ch:=λz=>(hch c z).2.2.1 x c e rfl;by_cases hc:c∈X.fs
   · obtain⟨sl,q⟩:=slot c o (I.cne x c e) hc nch ho (I.freeC x c e);exact⟨_,q,hd⟩
   · exact⟨o,keep c o (I.cne x c e) hc nch ho (I.freeC x c e),hd⟩
 refine⟨I.ok,I.os,hg,⟨λb o e n hb hx=>?_,λb o e n hb hx=>?_,λb o e n hx=>?_,λb o e hx=>?_,λb xs e=>tups b xs (I.base.tups b xs e),λb o xs e=>frzs b o xs (I.base.frzs b o xs e),λb ps e=>?_⟩,?_,λx c e=>?_,?_,λx c e=>?_,λp hp=>?_,hok,I.len⟩
 · exact keep b o (neL b o e) hb (neC b o e hx) (I.base.keep b o e n hb hx) (I.base.free b o e n hx)
 · obtain⟨sl,e1⟩:=I.base.slot b o e n hb hx;obtain⟨sl',e2⟩:=slot b _ (neL b o e) hb (neC b o e hx) e1 (I.base.free b o e n hx);exact⟨sl',e2⟩
 · obtain⟨o',e1⟩:=I.base.there b o e hx;exact free b o' (neC b o e hx) e1 (I.base.free b o e n hx)
 · obtain⟨o',e1⟩:=I.base.there b o e hx;exact there b o' (neC b o e hx) e1
 · obtain⟨m1,e1⟩:=I.base.tbls b ps e;obtain⟨m2,e2⟩:=tbls b _ e1;exact⟨m1++m2,by rw[e2,Array.append_assoc]⟩
 · obtain⟨m,hn,hl⟩:=I.loc;refine⟨m,ns m hn,λi x v e1 e2 e3=>?_⟩;obtain⟨u,r,l⟩:=hl i x v e1 e2 e3;refine⟨u,r,?_⟩;rcases l with l|⟨k,c,e,z⟩
   · exact .inl l
   · exact .inr ⟨k,c,e,cellK x c e _ z⟩
 · obtain⟨v,z⟩:=I.cell x c e;exact⟨v,cellK x c e v z⟩
 · obtain⟨m,⟨o,_,_,ho,_⟩,_⟩:=I.loc;exact free _ o (λz=>(hch _ z).2.1 rfl) ho I.free
 · obtain⟨v,o,ho,hd⟩:=I.cell x c e;exact free c o (λz=>(hch c z).2.2.1 x c e rfl) ho (I.freeC x c e)
 · obtain⟨e,n,ne,nf,d⟩:=I.pin p hp;have nch:p.1 ∉ ch:=λz=>(hch p.1 z).2.2.2 p hp rfl;exact⟨keep p.1 p.2 ne nf nch e n,free p.1 p.2 nch e n,ne,nf,d⟩
theorem Inv.un{t':Nat}(I:Inv X π σ H s)(u:Un X.fs [] H H' s.heap h')(hok:HOk X.prog X.w H' h'):Inv X π σ H' { s with heap:=h',toks:=t' }:=by
 obtain⟨m,⟨o,es,ep,ho,r⟩,_⟩:=id I.loc;obtain⟨sl,hL⟩:=u.any ho I.free (by simp);exact I.step (g':=s.gens) (d':=s.drawn) (ch:=[]) (λ_ z=>nomatch z) (λb o _ hb _ e n=>u.keep b o e n hb (by simp)) (λb o _ hb _ e n=>u.slot b o e n hb (by simp)) (λb o _ e n=>u.free b o e n (by simp)) (λb o _ e=>u.there b o e (by simp)) u.tups u.frzs u.tbls (λm' hm=>by
  obtain⟨o',es',ep',ho',r'⟩:=hm;rw[ho]at ho';cases ho';exact⟨_,es',ep',hL,r'⟩) hok I.bare
theorem Inv.call{g':Array GenState}{t':Nat}{d':Drawn}{ch:List Addr}(I:Inv X π σ H s)(u:Un (frs X.stack) ch H H' s.heap h')(hok:HOk X.prog X.w H' h')(hg:AllBare g')
  (hch:∀ b∈ch,(b∈X.ex\/X.s₀.heap.objs.size<=b)/\b≠X.env.locals/\(∀ x c,X.env.cells.lookup x=some c->c≠b)/\∀ p∈X.pn++π,p.1≠b) :
  Inv X π σ H' { s with heap:=h',gens:=g',drawn:=d',toks:=t' }:=by
 obtain⟨m,⟨o,es,ep,ho,r⟩,_⟩:=id I.loc;obtain⟨sl,hL⟩:=u.any ho I.free λz=>(hch _ z).2.1 rfl;exact I.step (ch:=ch) hch (λb o hL hb hc e n=>u.keep b o e n (λz=>(ww.mp (I.stkSub b z)).elim hL hb) hc) (λb o _ _ hc e n=>u.any e n hc) (λb o hc e n=>u.free b o e n hc) (λb o hc e=>u.there b o e hc) u.tups u.frzs u.tbls (λm' hm=>by
  obtain⟨o',es',ep',ho',r'⟩:=hm;rw[ho]at ho';cases ho';exact⟨_,es',ep',hL,r'⟩) hok hg
theorem Inv.turned{t':Nat}{it:Addr}(I:Inv X π σ H s)(k:∀ b o,b≠it->s.heap.get? b=some o->h'.get? b=some o)(hn:H it=none)(hL:it≠X.env.locals)
   (h1:it∈X.ex\/X.s₀.heap.objs.size<=it) (h2:∀ x c,X.env.cells.lookup x=some c->c≠it) (h3:∀ p∈X.pn++π,p.1≠it):Inv X π σ H { s with heap:=h',toks:=t' }:=by
 have nit:∀ b u,H b=some u->b≠it:=λb u e z=>by rw[z,hn]at e;cases e
 refine I.step (g':=s.gens) (d':=s.drawn) (ch:=[it]) (λb hb=>?_) (λb o _ _ hc e _=>k b o (λz=>hc (by simp[z])) e) (λb o _ _ hc e _=>⟨o.slots,k b o (λz=>hc (by simp[z])) e⟩) (λ_ _ _ _ n=>n)
   (λb o hc e=>⟨o,k b o (λz=>hc (by simp[z])) e⟩) (λ_ _ e=>e) (λ_ _ _ e=>e) (λb ps e=>⟨#[],by rw[e];simp⟩) (λm hm=>?_) (λb u e=>?_) I.bare
 · have e:b=it:=by simpa using hb
   subst e;exact⟨h1,hL,h2,h3⟩
 · obtain⟨o,es,ep,ho,r⟩:=hm;exact⟨o,es,ep,k _ o (Ne.symm hL) ho,r⟩
 · refine(I.hok b u e).stay (λc v hc q=>k c v ?_ q) (λ_ q=>q) λ_ _ q=>q;rcases hc with z|z
   · rw[z];exact nit b u e
   · exact nit c _ z
theorem Inv.tok(I:Inv X π σ H s)(t:Nat):Inv X π σ H { s with toks:=t }:=I.un (h':=s.heap) (t':=t) Un.refl I.hok
theorem Inv.kept{t':Nat}(I:Inv X π σ H s)(k:∀ b u,s.heap.get? b=some u->h'.get? b=some u):Inv X π σ H { s with heap:=h',toks:=t' }:=I.un (Un.kept k) (I.hok.kept k)
theorem Inv.laid{a:Addr}{o:HO}{t':Nat}(I:Inv X π σ H s)(k:∀ b u,s.heap.get? b=some u->h'.get? b=some u)(hp:s.heap.objs.size<=a)(new:ObjOk X.prog X.w (upd H a o) h' a o):
 Inv X π σ (upd H a o) { s with heap:=h',toks:=t' }:=I.un (Un.laid k hp (I.hok.fresh hp)) (I.hok.laid k hp new)
theorem Inv.write{x e:Addr}{o:HO}{t':Nat}(I:Inv X π σ H s)(mu:Mut (H x))(he:e=x\/H e=some (.own x))(k:∀ b u,b≠e->s.heap.get? b=some u->h'.get? b=some u)(heo:∃ u,h'.get? e=some u)
 (new:ObjOk X.prog X.w (upd H x o) h' x o):Inv X π σ (upd H x o) { s with heap:=h',toks:=t' }:=I.un (Un.write mu he k heo) (I.hok.write mu he k heo new)
theorem Inv.weak{σ':List (Option V)}(I:Inv X π σ H s)(hl:σ'.length=σ.length)(w:∀(i:Nat) v,σ'[i]?=some (some v)->σ[i]?=some (some v)):Inv X π σ' H s :=
 ⟨I.ok,I.os,I.bare,I.base,let ⟨m,hn,hl'⟩:=I.loc;⟨m,hn,λi x v e1 e2 e3=>hl' i x v e1 (w i v e2) e3⟩,I.cell,I.free,I.freeC,I.pin,I.hok,hl.trans I.len⟩
theorem Inv.pins_of{pins':aB}(I:Inv X π σ H s)(h:∀ p∈pins',s.heap.get? p.1=some p.2/\H p.1=none/\p.1≠X.env.locals/\p.1 ∉ X.fs/\∀ v,p.2.data ≠ .cell v):Inv X pins' σ H s :=
 ⟨I.ok,I.os,I.bare,I.base,I.loc,I.cell,I.free,I.freeC,λp hp=>(wx.mp hp).elim (λz=>I.pin p (uw _ z)) (h p),I.hok,I.len⟩
theorem NK{N:List Str}(hN:N.Nodup){i j:Nat}{x:Str}(a:N[i]?=some x)(b:N[j]?=some x):i=j:=by
 obtain⟨h1,e1⟩:=vJ.mp a;obtain⟨h2,e2⟩:=vJ.mp b;exact(List.getElem_inj hN).mp (e1.trans e2.symm)
theorem Kq{M:Model}{A:Around}{E:aC}{i:Nat}{x:Str}{v:V}{u:Value}{Q:Unit->Shared->Prop}(I:Inv X π σ H s)(hN:X.N.Nodup)(hi:X.N[i]?=some x)(hx:Loc X.env.scope x)(r:RelV v u)
   (h:∀ s',Inv X π (σ.set i (some v)) H s'->(∃ a,Heap.SameBut a s.heap s'.heap/\(a=X.env.locals\/X.env.cells.lookup x=some a))->Q () s') (hf:X.fn x=true\/X.env.scope.names.lookup x=some .local:=by first|exact .inl rfl|exact .inr rfl|assumption):wpAny M A (storeName X.env x u) Q E s:=by
 obtain⟨m,hn,hl⟩:=id I.loc;have hcls:(X.env.scope.kind == .class||(X.env.scope.kind == .module&&X.env.locals != X.env.globals))=false:=by rw[I.ok.kind];rfl
 have hiσ:i<σ.length:=by rw[I.len];exact(vJ.mp hi).1
 have cne:=I.cne;have tracked:∀{a:Addr} {h':Heap},(∃ o,s.heap.get? a=some o/\H a=none)->Heap.SameBut a s.heap h'->HOk X.prog X.w H h':=λ{a h'} ha hs b ob e=>by
   obtain⟨_,_,hfree⟩:=ha;refine(I.hok b ob e).stay (λc w' hc q=>(hs.2 c ?_).trans q) (λ_ q=>q) λ_ _ q=>q;rintro rfl;rcases hc with rfl|hc
   · rw[hfree]at e;cases e
   · rw[hfree]at hc;cases hc
 rcases hx with hk|hk
 · refine wpAny_storeName_local hk hn (λh' hn' hs=>?_) hcls;obtain⟨oL,_,_,hoL,_⟩:=id hn;refine h _ ⟨I.ok,I.os,I.bare,⟨λb o e n hb hx=>?_,λb o e n hb hx=>?_,I.base.free,λb o e hx=>?_,I.base.tups,I.base.frzs,I.base.tbls⟩,⟨_,hn',λj y v' e1 e2 e3=>?_⟩,λy c e=>?_,I.free,I.freeC,λp hp=>?_,tracked ⟨oL,hoL,I.free⟩ hs,by simpa using I.len⟩ ⟨_,hs,.inl rfl⟩
   · exact(hs.2 b (wY (wE (wy e) I.ok.above))).trans (I.base.keep b o e n hb hx)
   · obtain⟨sl,e1⟩:=I.base.slot b o e n hb hx;exact⟨sl,(hs.2 b (wY (wE (wy e) I.ok.above))).trans e1⟩
   · obtain⟨o',e1⟩:=I.base.there b o e hx;exact⟨o',(hs.2 b (wY (wE (wy e) I.ok.above))).trans e1⟩
   · by_cases hj:j=i
     · subst hj;rw[hi]at e1;cases e1;rw[w0u hiσ]at e2;cases e2;exact⟨u,r,.inl ⟨hk,by simp⟩⟩
     · rw[vo (Ne.symm hj)]at e2;obtain⟨u',r',q⟩:=hl j y v' e1 e2 e3;refine⟨u',r',?_⟩;rcases q with⟨k,e⟩|⟨k,c,e,z⟩
       · refine .inl ⟨k,?_⟩;have:y≠x:=λe=>hj (NK hN e1 (e ▸ hi));simp[this,e]
       · exact .inr ⟨k,c,e,z.sameBut hs (cne y c e)⟩
   · obtain⟨w',z⟩:=I.cell y c e;exact⟨w',z.sameBut hs (cne y c e)⟩
   · obtain⟨e,n,ne,nf,d⟩:=I.pin p hp;exact⟨(hs.2 p.1 ne).trans e,n,ne,nf,d⟩
 · have hfn:X.fn x=true:=by
     rcases hf with z|z
     · exact z
     · rw[z]at hk;cases hk
   obtain⟨c,hc⟩:=I.ok.has x (.inl hk);obtain⟨w',z⟩:=I.cell x c hc;refine wpAny_storeName_cell I.ok.kind hk hc z (λh' hc' hs=>?_);obtain⟨oc,hoc,hocd⟩:=id z;refine h { s with heap:=h' } ⟨I.ok,I.os,I.bare,⟨λb o e n hb hx=>?_,λb o e n hb hx=>?_,I.base.free,λb o e hx=>?_,I.base.tups,I.base.frzs,I.base.tbls⟩,⟨m,hn.sameBut hs (Ne.symm (cne x c hc)),λj y v' e1 e2 e3=>?_⟩,λy c' e=>?_,I.free,I.freeC,λp hp=>?_,tracked ⟨oc,hoc,I.freeC x c hc⟩ hs,by simpa using I.len⟩ ⟨c,hs,.inr hc⟩
   · exact(hs.2 b (wY (wE (wy e) (I.ok.cab x c hfn hc)))).trans (I.base.keep b o e n hb hx)
   · obtain⟨sl,e1⟩:=I.base.slot b o e n hb hx;exact⟨sl,(hs.2 b (wY (wE (wy e) (I.ok.cab x c hfn hc)))).trans e1⟩
   · obtain⟨o',e1⟩:=I.base.there b o e hx;exact⟨o',(hs.2 b (wY (wE (wy e) (I.ok.cab x c hfn hc)))).trans e1⟩
   · by_cases hj:j=i
     · subst hj;rw[hi]at e1;cases e1;rw[w0u hiσ]at e2;cases e2;exact⟨u,r,.inr ⟨.inl hk,c,hc,hc'⟩⟩
     · rw[vo (Ne.symm hj)]at e2;obtain⟨u',r',q⟩:=hl j y v' e1 e2 e3;refine⟨u',r',?_⟩;rcases q with q|⟨k,c',e,z'⟩
       · exact .inl q
       · refine .inr ⟨k,c',e,z'.sameBut hs ?_⟩;rintro rfl;exact hj (NK hN e1 (I.ok.inj _ _ _ e hc ▸ hi))
   · by_cases hcc:c'=c
     · subst hcc;exact⟨_,hc'⟩
     · obtain⟨w2,z2⟩:=I.cell y c' e;exact⟨w2,z2.sameBut hs hcc⟩
   · obtain⟨e,n,ne,nf,d⟩:=I.pin p hp;refine⟨(hs.2 p.1 ?_).trans e,n,ne,nf,d⟩;intro q;rw[q,hoc]at e;have q':oc=p.2:=Option.some.inj e;exact d w' (by rw[←q'];exact hocd)
theorem NL{M:Model}{A:Around}{E:aC}{i:Nat}{x:Str}{v:V}{u:Value}{Q:Unit->Shared->Prop}(I:Inv X π σ H s)(hN:X.N.Nodup)(hi:X.N[i]?=some x)(hx:Loc X.env.scope x)(r:RelV v u)
  (h:∀ s',Inv X π (σ.set i (some v)) H s'->Q () s') (hf:X.fn x=true\/X.env.scope.names.lookup x=some .local:=by first|exact .inl rfl|exact .inr rfl|assumption):wpAny M A (storeName X.env x u) Q E s :=
 Kq I hN hi hx r (λs' I' _=>h s' I') hf
theorem Inv.call'{s':Shared}{ch:List Addr}(I:Inv X π σ H s)(ho:s'.os=s.os)(u:Un (frs X.stack) ch H H' s.heap s'.heap)(hok:HOk X.prog X.w H' s'.heap)(hg:AllBare s'.gens)
  (hch:∀ b∈ch,(b∈X.ex\/X.s₀.heap.objs.size<=b)/\b≠X.env.locals/\(∀ x c,X.env.cells.lookup x=some c->c≠b)/\∀ p∈X.pn++π,p.1≠b):Inv X π σ H' s':=by
 obtain⟨h',g',d',t',o'⟩:=s';have e:o'=s.os:=ho;subst e;exact I.call (g':=g') (t':=t') (d':=d') u hok hg hch
end
abbrev XK:=Value->Option Addr->Hp->Prop
abbrev St:=List (Option V)
abbrev VK:=V->Hp->Prop
abbrev TE:=St->Hp->VK->Prop
abbrev TT:=St->Hp->(Bool->Hp->Prop)->Prop
abbrev TA:=St->Hp->(List V->Hp->Prop)->Prop
structure Ends where
 nx:St->Hp->Prop
 rt:VK
 bk:St->Hp->Prop:=λ_ _=>False
 ct:St->Hp->Prop:=λ_ _=>False
abbrev TS:=Ends->St->Hp->Prop
def EP(X:Cx)(π:aB)(σ:St)(Q:VK)(u:Value)(s':Shared):Prop:=∃ v H',Inv X π σ H' s'/\RelV v u/\Q v H'
def TP(X:Cx)(π:aB)(σ:St)(Q:Bool->Hp->Prop)(b:Bool)(s':Shared):Prop:=∃ H',Inv X π σ H' s'/\Q b H'
def AP(X:Cx)(π:aB)(σ:St)(Q:List V->Hp->Prop)(us:aF)(s':Shared):Prop:=∃ vs H',Inv X π σ H' s'/\Vals vs us/\Q vs H'
def SP(X:Cx)(π:aB)(D:Ends)(f:Flow)(s':Shared):Prop :=
 match f with
 | .next=>∃ σ' H',Inv X π σ' H' s'/\D.nx σ' H'
 | .brk=>∃ σ' H',Inv X π σ' H' s'/\D.bk σ' H'
 | .cont=>∃ σ' H',Inv X π σ' H' s'/\D.ct σ' H'
 | .ret u=>∃ v σ' H',Inv X π σ' H' s'/\RelV v u/\D.rt v H'
def PE(X:Cx)(e:Expr)(t:TE):Prop :=
 ∀(π:aB) (s:Shared) (σ:St) (H:Hp) (Q:VK),Inv X π σ H s->t σ H Q->wpAny (model X.prog X.w) X.A (eval e X.env) (EP X π σ Q) X.xe s
def PT(X:Cx)(e:Expr)(t:TT):Prop :=
 ∀(π:aB) (s:Shared) (σ:St) (H:Hp) (Q:Bool->Hp->Prop),Inv X π σ H s->t σ H Q->wpAny (model X.prog X.w) X.A (isTrue e X.env (eval e X.env)) (TP X π σ Q) X.xe s
def PW(X:Cx)(e:Expr)(t:TT):Prop :=
 ∀(whole:Sem Value) (π:aB) (s:Shared) (σ:St) (H:Hp) (Q:Bool->Hp->Prop),Inv X π σ H s->t σ H Q->wpAny (model X.prog X.w) X.A (isTrue e X.env whole) (TP X π σ Q) X.xe s
theorem PW.pt{X:Cx}{e:Expr}{t:TT}(h:PW X e t):PT X e t:=h _
def PA(X:Cx)(es:List Expr)(t:TA):Prop :=
 ∀(pos:Pos) (π:aB) (s:Shared) (σ:St) (H:Hp) (Q:List V->Hp->Prop),Inv X π σ H s->t σ H Q->wpAny (model X.prog X.w) X.A (spliced (backTo pos (starEach es X.env))) (AP X π σ Q) X.xe s
def PS(X:Cx)(st:Stmt)(t:TS):Prop :=
 ∀(π:aB) (s:Shared) (σ:St) (H:Hp) (D:Ends),Inv X π σ H s->t D σ H->wpAny (model X.prog X.w) X.A (exec st X.env) (SP X π D) X.xe s
def PSs(X:Cx)(st:List Stmt)(t:TS):Prop :=
 ∀(π:aB) (s:Shared) (σ:St) (H:Hp) (D:Ends),Inv X π σ H s->t D σ H->wpAny (model X.prog X.w) X.A (execs st X.env) (SP X π D) X.xe s
theorem thn{α:Type}{t:Sem α}{Q Q':α->Shared->Prop}{M:Model}{A:Around}{E:aC}{s:Shared}(h:wpAny M A t Q E s)(hQ:∀ a s,Q a s->Q' a s):wpAny M A t Q' E s:=wpAny_mono h hQ λ_ _ x=>x
end L2
namespace L2
open PySem PySem.Spec PyProof.Rows
section
variable {X:Cx}
def tVar(i:Nat):TE:=λσ H Q=>∃ v,σ[i]?=some (some v)/\Q v H
def tC(v:V):TE:=λ_ H Q=>Q v H
theorem Mu{i:Nat}{x:Str}{pos:Pos}(hN:X.N[i]?=some x)(hv:Vis X.env.scope x)(hd:(x==("__debug__" : Str))=false:=by decide)(hcd:(x==("__classdict__" : Str))=false:=by decide):PE X (.Name x pos) (tVar i):=by
 intro π s σ H Q I h;obtain⟨v,e,h⟩:=h;obtain⟨m,hn,hl⟩:=I.loc;obtain⟨u,r,l⟩:=hl i x v hN e hv;have fin:EP X π σ Q u s:=⟨v,H,I,r,h⟩;rcases l with⟨hk,hm⟩|⟨hk,c,hc,hcell⟩
 · exact wpAny_Name (wpAny_loadName_local I.ok.kind hk hn hm fin) hd
 · rcases hk with hk|hk
   · exact wpAny_Name (wpAny_loadName_cell I.ok.kind hk hc hcell fin) hd
   · exact wpAny_Name (wpAny_loadName_free I.ok.kind hk hc hcell fin hcd) hd
theorem pe_int{i j pos}:PE X (.Constant (.int i) j pos) (tC (.int i)):=λ_ _ _ H _ I h=>wpAny_Constant_int ⟨.int i,H,I.tok _,⟨_,rfl⟩,h⟩
theorem pe_bl{b j pos}:PE X (.Constant (.bool b) j pos) (tC (.bl b)):=λ_ _ _ H _ I h=>Constant_bool ⟨.bl b,H,I,rfl,h⟩
theorem pe_non{j pos}:PE X (.Constant .none j pos) (tC .non):=λ_ _ _ H _ I h=>Constant_none ⟨.non,H,I,rfl,h⟩
def Gl(X:Cx)(x:Str):Prop:=X.env.kindOf x=some .globalImplicit
theorem VY{E:aC}{π:aB}{s:Shared}{σ:St}{H:Hp}{x:Str}{u:Value}{pos:Pos}{Q:aC}(I:Inv X π σ H s)(hg:Gl X x)(hm:X.mg x=some u)(h:Q u s)
  (hd:(x==("__debug__" : Str))=false:=by decide):wpAny (model X.prog X.w) X.A (eval (.Name x pos) X.env) Q E s :=
 Calls.Name_function_global I.ok.kind hg (Calls.loadGlobal_global (by rw[I.ok.glob];exact I.mod.glob.keeps I.bk) hm h) hd
theorem AW{E:aC}{π:aB}{s:Shared}{σ:St}{H:Hp}{x:Str}{u:Value}{pos:Pos}{Q:aC}(I:Inv X π σ H s)(hg:Gl X x)(hm:X.mg x=none)(hv:bootBuiltins x=some u)(h:Q u s)
  (hn:x ≠ "__name__" := by decide) (hd:(x==("__debug__" : Str))=false:=by decide):wpAny (model X.prog X.w) X.A (eval (.Name x pos) X.env) Q E s:=by
 obtain⟨mb,h1,h2⟩:=I.mod.blt;exact Calls.Name_function_global I.ok.kind hg (Calls.loadGlobal_builtin (by rw[I.ok.glob];exact I.mod.glob.keeps I.bk) hm (by rw[I.ok.blt];exact h1.keeps I.bk) ((h2 x hn).trans hv) h) hd
theorem VZ{x:Str}{v:V}{u:Value}{pos:Pos}(hg:Gl X x)(hm:X.mg x=some u)(r:RelV v u)(hd:(x==("__debug__" : Str))=false:=by decide):PE X (.Name x pos) (tC v) :=
 λ_ _ _ H _ I h=>VY I hg hm ⟨v,H,I,r,h⟩ hd
theorem z3n{x:Str}{v:V}{u:Value}{pos:Pos}(hg:Gl X x)(hm:X.mg x=none)(hv:bootBuiltins x=some u)(r:RelV v u)(hn:x ≠ "__name__" := by decide)(hd:(x==("__debug__" : Str))=false:=by decide):PE X (.Name x pos) (tC v) :=
 λ_ _ _ H _ I h=>AW I hg hm hv ⟨v,H,I,r,h⟩ hn hd
variable {a b:Expr}{ta tb:TE}{pos:Pos}
variable {tA tB':TT}{rest:List Expr}
def tOr(t u:TT):TT:=λσ H Q=>t σ H λc H1=>if c=true then Q true H1 else u σ H1 Q
def tNot(t:TT):TT:=λσ H Q=>t σ H λc H1=>Q (!c) H1
theorem pw_or1(ha:PT X a tA):PW X (.BoolOp .Or [a] pos) tA:=by
 intro wh π s σ H Q I h;refine isTrue_or (thn (ha π s σ H Q I h) λc s1 e=>?_);cases c with
 | false=>exact isTrue_or_nil e
 | true=>exact e
theorem pw_or(ha:PT X a tA)(hb:PW X (.BoolOp .Or (b::rest) pos) tB'):PW X (.BoolOp .Or (a::b::rest) pos) (tOr tA tB'):=by
 intro wh π s σ H Q I h;refine isTrue_or (thn (ha π s σ H _ I h) ?_);rintro c s1 ⟨H1,I1,q1⟩;cases c with
 | true=>exact⟨H1,I1,q1⟩
 | false=>exact hb wh π s1 σ H1 Q I1 q1
theorem pt_not(ha:PT X a tA):PT X (.UnaryOp .Not a pos) (tNot tA):=by
 intro π s σ H Q I h;exact isTrue_not (ha π s σ H (λc H1=>Q (!c) H1) I h)
def tAndV(ta tb:TE):TE:=λσ H Q=>ta σ H λx H1=>∃ c,x = .bl c/\if c=true then tb σ H1 Q else Q (.bl false) H1
def tNotV(ta:TE):TE:=λσ H Q=>ta σ H λx H1=>∃ c,x = .bl c/\Q (.bl (!c)) H1
theorem pe_one{op}{t:TE}(h:PE X a t):PE X (.BoolOp op [a] pos) t:=λπ s σ H Q I hw=>BoolOp_one (h π s σ H Q I hw)
theorem pe_and(ha:PE X a ta)(hb:PE X (.BoolOp .And (b::rest) pos) tb):PE X (.BoolOp .And (a::b::rest) pos) (tAndV ta tb):=by
 intro π s σ H Q I h;refine BoolOp_and (thn (ha π s σ H _ I h) ?_);rintro v s1 ⟨x,H1,I1,r1,q1⟩;obtain⟨c,rfl,q1⟩:=q1;cases r1;refine wpAny_truthy_bool ?_;cases c with
 | true=>exact hb π s1 σ H1 Q I1 q1
 | false=>exact⟨.bl false,H1,I1,rfl,q1⟩
theorem pe_not(ha:PE X a ta):PE X (.UnaryOp .Not a pos) (tNotV ta):=by
 intro π s σ H Q I h;refine UnaryOp_ (thn (ha π s σ H _ I h) ?_);rintro v s1 ⟨x,H1,I1,r1,q1⟩;obtain⟨c,rfl,q1⟩:=q1;cases r1;exact not_of (wpAny_truthy_bool ⟨.bl (!c),H1,I1,rfl,q1⟩)
def tIf(t:TT)(ta tb:TE):TE:=λσ H Q=>t σ H λc H1=>if c=true then ta σ H1 Q else tb σ H1 Q
theorem YS{c:Expr}(hc:PT X c tA)(ha:PE X a ta)(hb:PE X b tb):PE X (.IfExp c a b pos) (tIf tA ta tb):=by
 intro π s σ H Q I h;refine wpAny_IfExp (thn (hc π s σ H _ I h) ?_);rintro d s1 ⟨H1,I1,q1⟩;cases d with
 | true=>exact ha π s1 σ H1 Q I1 q1
 | false=>exact hb π s1 σ H1 Q I1 q1
end
end L2
namespace L2
open PySem PySem.Spec PyProof.Rows
def SqL(K:aD)(H:Hp)(a:Addr)(xs:List V):Prop :=
 Rd H a (.lst xs) \/
  ∃(o:Obj) (its:Array Value) (n:Nat),K.lookup a=some o/\o.cls = .type "list" /\ o.dict=none/\o.data = .seq its n/\its.size<=sizeLine/\Vals xs its.toList
def SqT(K:aD)(H:Hp)(a:Addr)(xs:List V):Prop :=
 Rd H a (.tup xs) \/
  ∃(o:Obj) (its:Array Value) (n:Nat),K.lookup a=some o/\o.cls = .type "tuple" /\ o.data = .seq its n/\its.size<=sizeLine/\Vals xs its.toList
def absV:Value->Option V
 | .none=>some .non
 | .bool b=>some (.bl b)
 | .int i _=>some (.int i)
 | .str x _=>some (.str x)
 | .bytes b _=>some (.byt b)
 | .float b _=>some (.flt b)
 | .ref a=>some (.ref a)
 | .type n=>some (.ty n)
 | _=>none
theorem RelV.abs{x:V}{u:Value}(r:RelV x u):absV u=some x:=by
 cases x with
 | non=>cases r;rfl
 | bl _=>cases r;rfl
 | int _=>obtain⟨t,rfl⟩:=r;rfl
 | str _=>obtain⟨t,rfl⟩:=r;rfl
 | byt _=>obtain⟨t,rfl⟩:=r;rfl
 | flt _=>obtain⟨t,rfl⟩:=r;rfl
 | ref _=>cases r;rfl
 | ty _=>cases r;rfl
theorem RelV.inj{x y:V}{u:Value}(r:RelV x u)(q:RelV y u):x=y:=Option.some.inj (r.abs.symm.trans q.abs)
theorem Vals.inj:∀{xs ys:List V} {us:aF},Vals xs us->Vals ys us->xs=ys
 | _,_,_,.nil,.nil=>rfl
 | _,_,_,.cons r t,.cons r' t'=>by rw[r.inj r',Vals.inj t t']
section
variable {X:Cx}{π:aB}{σ:St}{H:Hp}{s:Shared}{a:Addr}{xs ys:List V}
theorem SqL.of{K:aD}(h:H a=some (.lst xs)):SqL K H a xs := .inl (.inl h)
theorem SqT.of{K:aD}(h:H a=some (.tup xs)):SqT K H a xs := .inl (.inl h)
theorem Inv.list(I:Inv X π σ H s)(h:SqL X.K H a xs):∃ its:aF,Vals xs its/\PlainL s.heap a its.toArray/\xs.length<=sizeLine:=by
 rcases h with h|⟨o,its,n,hk,hc,hd,hs,hz,r⟩
 · obtain⟨z,its,n,r,e⟩:=h.ok I.hok;exact⟨its,r,⟨_,n,e,rfl,rfl,rfl⟩,z⟩
 · refine⟨its.toList,r,⟨o,n,I.kIn a o hk,hc,hd,by simpa using hs⟩,?_⟩;have e:=r.length;simp only[Array.length_toList]at e;rfl'
theorem Inv.tuple(I:Inv X π σ H s)(h:SqT X.K H a xs):∃ its:aF,Vals xs its/\IsTup s.heap a its.toArray/\xs.length<=sizeLine:=by
 rcases h with h|⟨o,its,n,hk,hc,hs,hz,r⟩
 · obtain⟨z,its,r,p⟩:=h.ok I.hok;exact⟨its,r,p,z⟩
 · refine⟨its.toList,r,⟨o,I.kIn a o hk,hc,n,by simpa using hs⟩,?_⟩;have e:=r.length;simp only[Array.length_toList]at e;rfl'
theorem Inv.list_inj(I:Inv X π σ H s)(h:SqL X.K H a xs)(h':SqL X.K H a ys):xs=ys:=by
 obtain⟨its,r,⟨o,n,e,_,_,d⟩,_⟩:=I.list h;obtain⟨its',r',⟨o',n',e',_,_,d'⟩,_⟩:=I.list h';rw[e]at e';cases e';rw[d]at d';injection d' with d1 _
 have:its=its':=by simpa using congrArg Array.toList d1
 subst this;exact r.inj r'
theorem Inv.tuple_inj(I:Inv X π σ H s)(h:SqT X.K H a xs)(h':SqT X.K H a ys):xs=ys:=by
 obtain⟨its,r,⟨o,e,_,n,d⟩,_⟩:=I.tuple h;obtain⟨its',r',⟨o',e',_,n',d'⟩,_⟩:=I.tuple h';rw[e]at e';cases e';rw[d]at d';injection d' with d1 _
 have:its=its':=by simpa using congrArg Array.toList d1
 subst this;exact r.inj r'
end
abbrev Cx.wish(X:Cx)(E:aC):Cx:={ X with xe:=E }
abbrev Cx.nox(X:Cx):Cx:=X.wish λ_ _=>False
theorem Cx.Ok.wish{X:Cx}(ok:X.Ok)(E:aC):(X.wish E).Ok :=
 ⟨ok.mod,ok.kind,ok.glob,ok.blt,ok.above,ok.inj,ok.has,ok.cab,ok.hd,ok.frames,ok.stk,ok.exf,ok.bs,ok.bsz,ok.noex,ok.exfs,ok.funs,ok.frf⟩
theorem Cx.Ok.unwish{X:Cx}{E:aC}(ok:(X.wish E).Ok):X.Ok :=
 ⟨ok.mod,ok.kind,ok.glob,ok.blt,ok.above,ok.inj,ok.has,ok.cab,ok.hd,ok.frames,ok.stk,ok.exf,ok.bs,ok.bsz,ok.noex,ok.exfs,ok.funs,ok.frf⟩
section
variable {X:Cx}{π:aB}{σ:St}{H:Hp}{s:Shared}{E:aC}
theorem Inv.wish(I:Inv X π σ H s)(E:aC):Inv (X.wish E) π σ H s:=⟨I.ok.wish E,I.os,I.bare,I.base,I.loc,I.cell,I.free,I.freeC,I.pin,I.hok,I.len⟩
theorem Inv.unwish(I:Inv (X.wish E) π σ H s):Inv X π σ H s:=⟨I.ok.unwish,I.os,I.bare,I.base,I.loc,I.cell,I.free,I.freeC,I.pin,I.hok,I.len⟩
theorem SP.unwish{D:Ends}{f:Flow}{s':Shared}(h:SP (X.wish E) π D f s'):SP X π D f s':=by
 cases f with
 | next=>obtain⟨σ',H',I,q⟩:=h;exact⟨σ',H',I.unwish,q⟩
 | brk=>obtain⟨σ',H',I,q⟩:=h;exact⟨σ',H',I.unwish,q⟩
 | cont=>obtain⟨σ',H',I,q⟩:=h;exact⟨σ',H',I.unwish,q⟩
 | ret u=>obtain⟨v,σ',H',I,r,q⟩:=h;exact⟨v,σ',H',I.unwish,r,q⟩
theorem PSs.nox{st:List Stmt}{t:TS}(h:PSs X.nox st t):PSs X st t:=λπ s σ H D I hw =>
 wpAny_mono (h π s σ H D (I.wish _) hw) (λ_ _ q=>q.unwish) λ_ _ z=>False.elim z
end
section
variable {X:Cx}{st:Stmt}{rest:List Stmt}{t u:TS}{e:Expr}{te:TE}{pos:Pos}
def tNext:TS:=λD σ H=>D.nx σ H
def tSeq(t u:TS):TS:=λD σ H=>t { D with nx:=u D } σ H
theorem z3o:PSs X [] tNext:=λ_ _ σ H _ I h=>wpAny_execs_nil ⟨σ,H,I,h⟩
theorem YT(h1:PS X st t)(h2:PSs X rest u):PSs X (st::rest) (tSeq t u):=by
 intro π s σ H D I h;refine wpAny_execs_cons (thn (h1 π s σ H { D with nx:=u D } I h) λf s1 q=>?_);cases f with
 | next =>
  obtain⟨σ',H',I',q⟩:=q;exact h2 π s1 σ' H' D I' q
 | ret v=>exact q
 | brk=>exact q
 | cont=>exact q
theorem z3p(h1:PS X st t):PSs X [st] t:=by
 intro π s σ H D I h;refine wpAny_execs_cons (thn (h1 π s σ H D I h) λf s1 q=>?_);cases f with
 | next=>exact wpAny_execs_nil q
 | ret v=>exact q
 | brk=>exact q
 | cont=>exact q
theorem Inv.quiet{π:aB}{σ:St}{H:Hp}{s:Shared}(I:Inv X π σ H s):interactive X.env=false:=by simp[interactive,I.ok.kind]
def tDrop(te:TE):TS:=λD σ H=>te σ H λ_ H1=>D.nx σ H1
theorem Mv(he:PE X e te)(hs:swapsWith e none pos.line X.env=pure false:=by rfl):PS X (.Expr e pos) (tDrop te):=by
 intro π s σ H D I h;exact wpAny_Expr_any (thn (he π s σ H _ I h) λv s1⟨x,H1,I1,r1,q1⟩=>⟨σ,H1,I1,q1⟩) I.quiet hs
def tRet(te:TE):TS:=λD σ H=>te σ H D.rt
theorem ps_ret(he:PE X e te):PS X (.Return (some e) pos) (tRet te):=by
 intro π s σ H D I h;exact wpAny_Return_some (thn (he π s σ H _ I h) λv s1⟨x,H1,I1,r1,q1⟩=>⟨x,σ,H1,I1,r1,q1⟩)
def tIfS(c:TT)(t u:TS):TS:=λD σ H=>c σ H λb H1=>if b=true then t D σ H1 else u D σ H1
theorem ps_if{c:Expr}{a b:List Stmt}{tc:TT}(hc:PT X c tc)(ha:PSs X a t)(hb:PSs X b u):PS X (.If c a b pos) (tIfS tc t u):=by
 intro π s σ H D I h;refine wpAny_If (thn (hc π s σ H _ I h) ?_);rintro d s1 ⟨H1,I1,q1⟩;cases d with
 | true=>exact ha π s1 σ H1 D I1 q1
 | false=>exact hb π s1 σ H1 D I1 q1
end
abbrev TG:=V->St->Hp->(St->Hp->Prop)->Prop
abbrev TGs:=List V->St->Hp->(St->Hp->Prop)->Prop
def PG(X:Cx)(target:Expr)(t:TG):Prop :=
 ∀(π:aB) (s:Shared) (σ:St) (H:Hp) (v:V) (u:Value) (Q:St->Hp->Prop),Inv X π σ H s->RelV v u->t v σ H Q ->
  wpAny (model X.prog X.w) X.A (assign target X.env u) (λ_ s'=>∃ σ' H',Inv X π σ' H' s'/\Q σ' H') X.xe s
def PGs(X:Cx)(ts:List Expr)(t:TGs):Prop :=
 ∀(π:aB) (s:Shared) (σ:St) (H:Hp) (vs:List V) (us:aF) (Q:St->Hp->Prop),Inv X π σ H s->Vals vs us->t vs σ H Q ->
  wpAny (model X.prog X.w) X.A (assignInOrder ((assignEach ts X.env).map (·.2)) us) (λ_ s'=>∃ σ' H',Inv X π σ' H' s'/\Q σ' H') X.xe s
abbrev TSet:=V->V->V->Hp->(Hp->Prop)->Prop
def PSet(X:Cx)(t:TSet):Prop :=
 ∀(π:aB) (s:Shared) (σ:St) (H:Hp) (o i v:V) (ov iv u:Value) (Q:Hp->Prop),Inv X π σ H s->RelV o ov->RelV i iv->RelV v u->t o i v H Q ->
  wpAny (model X.prog X.w) X.A (setItem ov iv u) (λ_ s'=>∃ H',Inv X π σ H' s'/\Q H') X.xe s
section
variable {X:Cx}{pos:Pos}
def Ih(i:Nat):TG:=λv σ H Q=>Q (σ.set i (some v)) H
theorem A0{i:Nat}{x:Str}(hN:X.N.Nodup)(hi:X.N[i]?=some x)(hx:Loc X.env.scope x)(hf:X.fn x=true\/X.env.scope.names.lookup x=some .local:=by first|exact .inl rfl|exact .inr rfl|assumption):PG X (.Name x pos) (Ih i):=by
 intro π s σ H v u Q I r h;exact wpAny_assign_Name (NL I hN hi hx r (λs' I'=>⟨_,H,I',h⟩) hf)
def gNil:TGs:=λvs σ H Q=>vs=[]/\Q σ H
def gCons(t:TG)(u:TGs):TGs:=λvs σ H Q=>∃ v r,vs=v::r/\t v σ H λσ' H'=>u r σ' H' Q
theorem z3q:PGs X [] gNil:=by
 intro π s σ H vs us Q I r h;obtain⟨e,h⟩:=h;subst e;cases r;exact assignInOrder_nil ⟨σ,H,I,h⟩
theorem YU{e:Expr}{es:List Expr}{t:TG}{u:TGs}(h1:PG X e t)(h2:PGs X es u)
  (hs:(assignEach (e::es) X.env).map (·.2)=assign e X.env::(assignEach es X.env).map (·.2):=by rfl):PGs X (e::es) (gCons t u):=by
 intro π s σ H vs us Q I r h;obtain⟨v,vr,e1,h⟩:=h;subst e1;cases r with
 | cons r rr =>
  rw[hs];refine assignInOrder_cons (thn (h1 π s σ H _ _ _ I r h) ?_);rintro _ s1 ⟨σ1,H1,I1,q1⟩;exact h2 π s1 σ1 H1 _ _ Q I1 rr q1
def gTup(K:aD)(n:Nat)(t:TGs):TG:=λv σ H Q=>∃ a xs,v = .ref a/\SqT K H a xs/\xs.length=n/\t xs σ H Q
theorem pg_tup{es:List Expr}{k:Nat}{t:TGs}{n:Nat}(hc:X.calm=true)(h:PGs X es t)
  (hn:(assignEach es X.env).length=n:=by rfl) (hst:(assignEach es X.env).findIdx? (·.1)=none:=by rfl):PG X (.Tuple es k pos) (gTup X.K n t):=by
 intro π s σ H v u Q I r hw;obtain⟨a,xs,e1,hq,hl,hw⟩:=hw;subst e1;cases r;obtain⟨its,rv,ht,hz⟩:=I.tuple hq;refine assign_Tuple_tuple (I.ok.hd hc) ht (by simp[hn,←hl,rv.length]) hst λh' hx=>?_;have I1:Inv X π σ H { s with heap:=h' }:=I.kept (t':=s.toks) λb o e=>hx b o (wY (wy e)) e;exact h π _ σ H xs _ Q I1 (by simpa using rv) hw
def gSub(to ti:TE)(t:TSet):TG:=λv σ H Q=>to σ H λo H1=>ti σ H1 λi H2=>t o i v H2 λH3=>Q σ H3
theorem pg_sub{o i:Expr}{to ti:TE}{t:TSet}(ho:PE X o to)(hi:PE X i ti)(hs:PSet X t)
  (ha:∀ v,assign (.Subscript o i pos) X.env v=(do
   let ov ←holding [v] (eval o X.env);let iv ←holding [v,ov] (eval i X.env)
   standAt pos
   holding [v,ov,iv] (setItem ov iv v)
   release [v,ov,iv] []):=by intro _;rfl):PG X (.Subscript o i pos) (gSub to ti t):=by
 intro π s σ H v u Q I r h;rw[ha];refine wpAny_bind (wpAny_holding (thn (ho π s σ H _ I h) ?_));rintro ov s1 ⟨x,H1,I1,r1,q1⟩;refine wpAny_bind (wpAny_holding (thn (hi π s1 σ H1 _ I1 q1) ?_));rintro iv s2 ⟨y,H2,I2,r2,q2⟩;refine wpAny_bind (wpAny_standAt (wpAny_bind (wpAny_holding (thn (hs π s2 σ H2 x y v ov iv u _ I2 r1 r2 r q2) ?_))));rintro _ s3 ⟨H3,I3,q3⟩;exact wpAny_release ⟨σ,H3,I3,q3⟩
def tAsg(te:TE)(g:TG):TS:=λD σ H=>te σ H λx H1=>g x σ H1 D.nx
theorem ps_asg{tg e:Expr}{te:TE}{g:TG}(he:PE X e te)(hg:PG X tg g)(hs:swapsWithSole [tg] e pos.line X.env=pure false:=by rfl)(hw:swappedStores [tg] e X.env=pure none:=by rfl)
  (h1:(assignEach [tg] X.env).map (·.2)=[assign tg X.env]:=by rfl):PS X (.Assign [tg] e pos) (tAsg te g):=by
 intro π s σ H D I h;refine wpAny_Assign_stores (thn (he π s σ H _ I h) λv s1⟨x,H1,I1,r1,q1⟩=>?_) hs hw;rw[h1];exact thn (hg π s1 σ H1 x v _ I1 r1 q1) λ_ s2 q=>q
theorem ps_set{i:Nat}{x:Str}{e:Expr}{te:TE}{pos':Pos}(hN:X.N.Nodup)(hi:X.N[i]?=some x)(hx:Loc X.env.scope x)(he:PE X e te)(hs:swapsWith e (some (.Name x pos')) pos.line X.env=pure false:=by rfl)(hf:X.fn x=true\/X.env.scope.names.lookup x=some .local:=by first|exact .inl rfl|exact .inr rfl|assumption):
  PS X (.Assign [.Name x pos'] e pos) (tAsg te (Ih i)):=by
 intro π s σ H D I h;refine wpAny_Assign_Name (thn (he π s σ H _ I h) λv s1⟨y,H1,I1,r1,q1⟩=>?_) hs;exact NL I1 hN hi hx r1 (λs2 I2=>⟨_,H1,I2,q1⟩) hf
end
section
variable {X:Cx}{pos:Pos}
def tWhile(c:TT)(tb:TS):TS:=λD σ H=>∃ W:Nat->St->Hp->Prop,(∃ m,W m σ H)/\∀ m σ H,W m σ H ->
 c σ H λb H1=>if b=true then ∃ N:St->Hp->Prop,(∀ σ' H',N σ' H'->∃ m',m'<m/\W m' σ' H')/\tb { D with nx:=N,ct:=N,bk:=D.nx } σ H1 else D.nx σ H1
theorem YV{c:Expr}{body:List Stmt}{tc:TT}{tb:TS}(hp:PassesOwn (model X.prog X.w) X.A X.env X.xe)(hc:PT X c tc)(hb:PSs X body tb):PS X (.While c body [] pos) (tWhile tc tb):=by
 intro π s σ H D I h;obtain⟨W,⟨m0,w0⟩,turn⟩:=h;refine wpAny_While (codeAny_whileLoop (λn s'=>∃ σ' H',Inv X π σ' H' s'/\W n σ' H') ?_ m0 ⟨σ,H,I,w0⟩);rintro n s1 ⟨σ1,H1,I1,w1⟩;refine wpAny_passesOwn hp (thn (hc π s1 σ1 H1 _ I1 (turn n σ1 H1 w1)) ?_);rintro b s2 ⟨H2,I2,q2⟩;cases b with
 | true =>
  obtain⟨N,hN,q2⟩:=q2;rw[if_pos rfl];refine wpAny_passesOwn hp (thn (hb π s2 σ1 H2 _ I2 q2) λf s3 q3=>?_);cases f with
  | next =>
   obtain⟨σ3,H3,I3,n3⟩:=q3;obtain⟨m',hm,w3⟩:=hN σ3 H3 n3;exact⟨m',hm,σ3,H3,I3,w3⟩
  | cont =>
   obtain⟨σ3,H3,I3,n3⟩:=q3;obtain⟨m',hm,w3⟩:=hN σ3 H3 n3;exact⟨m',hm,σ3,H3,I3,w3⟩
  | brk=>exact q3
  | ret v=>exact q3
 | false =>
  rw[if_neg wL];exact wpAny_execs_nil ⟨σ1,H2,I2,q2⟩
end
structure It where
 go:Nat->Hp->Prop
 yld:Nat->Hp->V->Hp->Prop
 stop:Nat->Hp->Prop
def FpOk(X:Cx)(π:aB)(H:Hp)(b:Addr):Prop :=
 H b=none/\b≠X.env.locals/\b ∉ X.fs/\(b∈X.ex\/X.s₀.heap.objs.size<=b)/\(∀ x c,X.env.cells.lookup x=some c->c≠b)/\∀ p∈X.pn++π,p.1≠b
theorem Inv.fpOk{X:Cx}{π:aB}{σ:St}{H H':Hp}{s:Shared}{b:Addr}(I:Inv X π σ H s)(hb:s.heap.objs.size<=b)(hn:H' b=none):FpOk X π H' b:=by
 refine⟨hn,uP (wE I.lt hb),I.nofs hb,.inr (wK I.sz hb),λx c e z=>?_,λp hp z=>?_⟩
 · obtain⟨v,q⟩:=I.cell x c e;exact absurd (wE q.lt (by rw[z];exact hb)) (vx _)
 · exact absurd (wE (wy (I.pin p hp).1) (by rw[z];exact hb)) (vx _)
structure Turn(P:Program)(w:World)(K:aD)(tg:Expr)(J:It)(fp:List Addr)(it:Addr)(tn:Nat->Heap->Prop):Prop where
 mem:it∈fp
 obj:∀ i h,tn i h->∀ b∈fp,∃ o,h.get? b=some o/\∀ v,o.data ≠ .cell v
 keep:∀ i h h',tn i h->(∀ b∈fp,∀ o,h.get? b=some o->h'.get? b=some o)->tn i h'
 item:∀(X:Cx),X.prog=P->X.w=w->X.K=K->X.calm=true->∀(i:Nat) (π:aB) (s:Shared) (σ:St) (H:Hp) (E:aC),Inv X π σ H s->(∀ b∈fp,FpOk X π H b)->tn i s.heap->J.go i H ->
  wpAny (model P w) X.A (pyNext (.ref it)) (λr s1=>∃ u,r=some u /\
   wpAny (model P w) X.A (letOwnedTupleGo tg (.ref it) u) (λ_ s2=>∃ x H',Inv X π σ H' s2/\RelV x u/\J.yld i H x H'/\tn (i+1) s2.heap/\∀ b∈fp,H' b=none) E s1) E s
 done:∀(X:Cx),X.prog=P->X.w=w->X.K=K->X.calm=true->∀(i:Nat) (π:aB) (s:Shared) (σ:St) (H:Hp) (E:aC),Inv X π σ H s->(∀ b∈fp,FpOk X π H b)->tn i s.heap->J.stop i H ->
  wpAny (model P w) X.A (pyNext (.ref it)) (λr s1=>r=none/\Inv X π σ H s1) E s
 self:∀(A:Around) (i:Nat) (s:Shared) (Q:aC) (E:aC),tn i s.heap->Q (.ref it) s->wpAny (model P w) A (pyIter (.ref it)) Q E s
abbrev TI:=St->Hp->(It->Hp->Prop)->Prop
def PIE(X:Cx)(π:aB)(σ:St)(tg:Expr)(R:It->Hp->Prop)(itv:Value)(s2:Shared):Prop :=
 ∃(it:Addr) (fp:List Addr) (tn:Nat->Heap->Prop) (J:It) (H':Hp),itv = .ref it/\Inv X π σ H' s2/\Turn X.prog X.w X.K tg J fp it tn/\tn 0 s2.heap/\(∀ b∈fp,FpOk X π H' b)/\R J H'
def PI(X:Cx)(tg iter:Expr)(wi:TI):Prop :=
 ∀(π:aB) (s:Shared) (σ:St) (H:Hp) (R:It->Hp->Prop),Inv X π σ H s->wi σ H R ->
  wpAny (model X.prog X.w) X.A (eval iter X.env) (λv s1=>wpAny (model X.prog X.w) X.A (pyIter v) (PIE X π σ tg R) X.xe s1) X.xe s
theorem Wa{M:Model}{A:Around}{E:Value→Shared→Prop}{s:Shared}{tg:Expr}{it:Addr}{u:Value}{o:Obj}{n:String}{vs:Array Value}{Q:Unit→Shared→Prop}(ho:s.heap.get? it=some o)(hc:o.cls = .type n)(hd:o.data = .fields vs)
    (hn:["enumerate", "zip", "dict_itemiterator", "dict_reverseitemiterator", "odict_iterator", "itertools.zip_longest", "itertools.pairwise"].contains n=false) (hQ:Q () s):wpAny M A (letOwnedTupleGo tg (.ref it) u) Q E s:=by
  unfold letOwnedTupleGo
  cases tg<;>first
    | exact wpAny_pure hQ
    | (cases u<;>first
        | exact wpAny_pure hQ
        | (refine wpAny_bind (wpAny_load ho ?_)
           rw[hc,hd];show wpAny M A (if(["enumerate", "zip", "dict_itemiterator", "dict_reverseitemiterator", "odict_iterator", "itertools.zip_longest", "itertools.pairwise"].contains n&&vs[0]?==some (rawInt _))=true then _ else _) Q E s;rw[if_neg (by intro h;rw[hn,Bool.false_and]at h;cases h)];exact wpAny_pure hQ))
def Itl(K:aD)(a:Addr):It :=
 ⟨λi H=>∃ xs x,SqL K H a xs/\xs[i]?=some x,λi H x H'=>H'=H/\∀ xs,SqL K H a xs->xs[i]?=some x,λi H=>∃ xs,SqL K H a xs/\xs.length<=i⟩
def Itt(K:aD)(a:Addr):It :=
 ⟨λi H=>∃ xs x,SqT K H a xs/\xs[i]?=some x,λi H x H'=>H'=H/\∀ xs,SqT K H a xs->xs[i]?=some x,λi H=>∃ xs,SqT K H a xs/\xs.length<=i⟩
def Itr(lo:Int)(n:Nat):It:=⟨λi _=>i<n,λi H x H'=>H'=H/\x = .int (lo+i),λi _=>n<=i⟩
theorem Xu{P:Program}{w:World}{K:aD}{tg:Expr}(a it:Addr):Turn P w K tg (Itl K a) [it] it (λi h=>h.IsListIter it a i) where
 mem:=by simp
 obj:=λi h st b hb=>by
  have e:b=it:=by simpa using hb
  subst e;obtain⟨o,e,c,d⟩:=st;exact⟨o,e,λv z=>by rw[d]at z;cases z⟩
 keep:=λi h h' st k=>st.at λo e=>k it (by simp) o e
 item:=by
  intro X hP hw hK hc i π s σ H E I hf st hg;subst hP hw hK;obtain⟨xs,x,hq,hx⟩:=hg;obtain⟨its,rv,p,hz⟩:=I.list hq;obtain⟨u,hu,ru⟩:=rv.get hx;obtain⟨f0,f1,f2,f3,f4,f5⟩:=hf it (by simp);refine wpAny_pyNext_list_item st p.isList (x:=u) (by simpa using hu) λh' st' sb=>?_;have I1:Inv X π σ H { s with heap:=h' }:=I.turned (t':=s.toks) (λb o hb e=>(sb.2 b hb).trans e) f0 f1 f3 f4 f5;obtain⟨o,e,c,d⟩:=id st';exact⟨u,rfl,Wa (s:={ s with heap:=h' }) e c d (by decide) ⟨x,H,I1,ru,⟨rfl,λys hy=>by rw[I.list_inj hy hq];exact hx⟩,st',λb hb=>(hf b hb).1⟩⟩
 done:=by
  intro X hP hw hK hc i π s σ H E I hf st hg;subst hP hw hK;obtain⟨xs,hq,hx⟩:=hg;obtain⟨its,rv,p,hz⟩:=I.list hq;obtain⟨f0,f1,f2,f3,f4,f5⟩:=hf it (by simp);have hl:=rv.length;exact wpAny_pyNext_list_end (I.ok.hd hc) st p.isList (by simp;rfl') λh' eb=>⟨rfl,I.turned (t':=s.toks) (λb o hb e=>eb b o hb e) f0 f1 f3 f4 f5⟩
 self:=λ_ _ _ _ _ st h=>wpAny_pyIter_listiter st h
theorem PQ{P:Program}{w:World}{K:aD}{tg:Expr}(a it:Addr):Turn P w K tg (Itt K a) [it] it (λi h=>h.IsTupleIter it a i) where
 mem:=by simp
 obj:=λi h st b hb=>by
  have e:b=it:=by simpa using hb
  subst e;obtain⟨o,e,c,d⟩:=st;exact⟨o,e,λv z=>by rw[d]at z;cases z⟩
 keep:=λi h h' st k=>st.at λo e=>k it (by simp) o e
 item:=by
  intro X hP hw hK hc i π s σ H E I hf st hg;subst hP hw hK;obtain⟨xs,x,hq,hx⟩:=hg;obtain⟨its,rv,p,hz⟩:=I.tuple hq;obtain⟨u,hu,ru⟩:=rv.get hx;obtain⟨f0,f1,f2,f3,f4,f5⟩:=hf it (by simp);refine wpAny_pyNext_tuple_item st (show s.heap.IsTuple a its.toArray from p) (x:=u) (by simpa using hu) λh' st' sb=>?_;have I1:Inv X π σ H { s with heap:=h' }:=I.turned (t':=s.toks) (λb o hb e=>(sb.2 b hb).trans e) f0 f1 f3 f4 f5;obtain⟨o,e,c,d⟩:=id st';exact⟨u,rfl,Wa (s:={ s with heap:=h' }) e c d (by decide) ⟨x,H,I1,ru,⟨rfl,λys hy=>by rw[I.tuple_inj hy hq];exact hx⟩,st',λb hb=>(hf b hb).1⟩⟩
 done:=by
  intro X hP hw hK hc i π s σ H E I hf st hg;subst hP hw hK;obtain⟨xs,hq,hx⟩:=hg;obtain⟨its,rv,p,hz⟩:=I.tuple hq;obtain⟨f0,f1,f2,f3,f4,f5⟩:=hf it (by simp);have hl:=rv.length;exact wpAny_pyNext_tuple_end (I.ok.hd hc) st (show s.heap.IsTuple a its.toArray from p) (by simp;rfl') λh' eb=>⟨rfl,I.turned (t':=s.toks) (λb o hb e=>eb b o hb e) f0 f1 f3 f4 f5⟩
 self:=λ_ _ _ _ _ st h=>wpAny_pyIter_tupleiter st h
theorem PR{P:Program}{w:World}{K:aD}{tg:Expr}(it:Addr)(lo:Int)(n:Nat):Turn P w K tg (Itr lo n) [it] it (λi h=>IsRangeIter h it (lo+(i:Nat)*1) ((n:Int)-(i:Nat)) 1) where
 mem:=by simp
 obj:=λi h st b hb=>by
  have e:b=it:=by simpa using hb
  subst e;exact⟨_,st,λv z=>by
   have z':Data.fields _=Data.cell v:=z;cases z'⟩
 keep:=λi h h' st k=>k it (by simp) _ st
 item:=by
  intro X hP hw hK hc i π s σ H E I hf st hg;subst hP hw hK;obtain⟨f0,f1,f2,f3,f4,f5⟩:=hf it (by simp);have W:=Walks.range (prog:=X.prog) (w:=X.w) (I.ok.hd hc) it lo 1 n;refine W.item i s _ _ hg st λv h' tk hv st' kk=>?_;obtain⟨t,rfl⟩:=hv;have I1:Inv X π σ H { s with heap:=h',toks:=tk }:=I.turned (λb o hb e=>kk b o (by simpa using hb) e) f0 f1 f3 f4 f5;refine⟨_,rfl,Wa (s:={ s with heap:=h',toks:=tk }) (n := "range_iterator") st' rfl rfl (by decide) ⟨.int (lo+i),H,I1,⟨t,?_⟩,⟨rfl,rfl⟩,st',λb hb=>(hf b hb).1⟩⟩;rw[w0e]
 done:=by
  intro X hP hw hK hc i π s σ H E I hf st hg;subst hP hw hK;obtain⟨f0,f1,f2,f3,f4,f5⟩:=hf it (by simp);exact wpAny_pyNext_range_end (I.ok.hd hc) st (by have:n<=i:=hg;rfl') λh' eb=>⟨rfl,I.turned (t':=s.toks) (λb o hb e=>eb b o hb e) f0 f1 f3 f4 f5⟩
 self:=λ_ _ _ _ _ st h=>wpAny_pyIter_rangeiter st h
end L2
namespace L2
open PySem PySem.Spec PyProof.Rows
section
variable {X:Cx}{tg:Expr}
theorem NM{π:aB}{σ:St}{H:Hp}{s:Shared}{R:It->Hp->Prop}{E:aC}{lo hi:Int}{t u v:Tok}{tk:Nat}(I:Inv X π σ H s)(h1 : -(2 ^ 62)<=lo)(h2:lo<2 ^ 62)(h3 : -(2 ^ 62)<=hi)(h4:hi<2 ^ 62)
   (q:R (Itr lo (hi-lo).toNat) H):wpAny (model X.prog X.w) X.A (pyIter (.ref s.heap.objs.size)) (PIE X π σ tg R) E { s with heap:=s.heap.push { cls := .type "range",data := .fields #[.int lo t,.int hi u,.int 1 v] },toks:=tk }:=by
 refine wpAny_pyIter_range (IsRange.new ..) (small_one h1 h2 h3 h4) ?_;have I1:Inv X π σ H { s with heap:=s.heap.push { cls := .type "range",data := .fields #[.int lo t,.int hi u,.int 1 v] },toks:=tk }:=I.kept λb o e=>wm _ e;refine⟨(s.heap.push { cls := .type "range",data := .fields #[.int lo t,.int hi u,.int 1 v] }).objs.size,[(s.heap.push { cls := .type "range",data := .fields #[.int lo t,.int hi u,.int 1 v] }).objs.size],_,_,H,rfl,
   I1.kept (t':=tk) λb o e=>wm _ e,PR _ lo (hi-lo).toNat,?_,λb hb=>?_,q⟩
 · have e1:lo+((0:Nat):Int)*1=lo:=by simp
   have e2:(((hi-lo).toNat:Nat):Int)-((0:Nat):Int)=Builtin.Range.rangeSize lo hi 1:=by rw[rangeSize_one];split<;>rfl'
   show IsRangeIter _ _ (lo+((0:Nat):Int)*1) ((((hi-lo).toNat:Nat):Int)-((0:Nat):Int)) 1;rw[e1,e2];exact wF _ rfl
 · have e:b=(s.heap.push { cls := .type "range",data := .fields #[.int lo t,.int hi u,.int 1 v] }).objs.size:=by simpa using hb
   subst e;exact I1.fpOk (wB _) (I1.hok.fresh (wB _))
def iRng1(ta:TA):TI:=λσ H R=>ta σ H λvs H1=>∃ j:Int,vs=[.int j] /\ -(2 ^ 62)<=j/\j<2 ^ 62/\R (Itr 0 j.toNat) H1
def iRng2(ta:TA):TI:=λσ H R=>ta σ H λvs H1=>∃ i j:Int,vs=[.int i,.int j]/\(-(2 ^ 62)<=i/\i<2 ^ 62 /\ -(2 ^ 62)<=j/\j<2 ^ 62)/\R (Itr i (j-i).toNat) H1
theorem Kr{a:Expr}{ta:TA}{p pos:Pos}(hg:Gl X "range")(hm:X.mg "range" = none)(ha:PA X [a] ta)(hs:starEach [a] X.env=[(false,eval a X.env)]:=by rfl):PI X tg (.Call (.Name "range" p) [a] [] pos) (iRng1 ta):=by
 intro π s σ H R I h;refine Call_ (AW I hg hm boot_range (PyProof.Rows.callWith_type1 (thn (ha pos π s σ H _ I h) λus s1⟨vs,H1,I1,r1,q1⟩=>?_) hs rfl));obtain⟨j,e,q1,q2,q⟩:=q1;subst e;cases r1 with
 | cons r rr =>
  cases rr;obtain⟨t,rfl⟩:=r;exact call_range_1 (NM I1 (by rfl') (by rfl') q1 q2 (by simpa using q))
theorem Xv{a b:Expr}{ta:TA}{p pos:Pos}(hg:Gl X "range")(hm:X.mg "range" = none)(ha:PA X [a,b] ta)(hs:starEach [a,b] X.env=[(false,eval a X.env),(false,eval b X.env)]:=by rfl)(hs2:starEach [b] X.env=[(false,eval b X.env)]:=by rfl):
  PI X tg (.Call (.Name "range" p) [a,b] [] pos) (iRng2 ta):=by
 intro π s σ H R I h;refine Call_ (AW I hg hm boot_range (PyProof.Rows.callWith_type1 (thn (ha pos π s σ H _ I h) λus s1⟨vs,H1,I1,r1,q1⟩=>?_) (by rw[hs,hs2]) (by rw[hs2];rfl)));obtain⟨i,j,e,⟨q1,q2,q3,q4⟩,q⟩:=q1;subst e;cases r1 with
 | cons r rr =>
  cases rr with
  | cons r' rr =>
   cases rr;obtain⟨t,rfl⟩:=r;obtain⟨t',rfl⟩:=r';exact call_range_2 (NM I1 q1 q2 q3 q4 q)
def tFor(wi:TI)(g:TG)(tb:TS):TS:=λD σ H=>wi σ H λJ H1=>∃ W:Nat->Nat->St->Hp->Prop,(∃ m,W 0 m σ H1)/\∀ i m σ H,W i m σ H ->
 (J.stop i H/\D.nx σ H)\/(J.go i H/\∃ N:St->Hp->Prop,(∀ σ' H',N σ' H'->∃ m',m'<m/\W (i+1) m' σ' H')/\∀ x H',J.yld i H x H'->g x σ H' λσ2 H2=>tb { D with nx:=N,ct:=N,bk:=D.nx } σ2 H2)
def Ii(fp:List Addr)(h:Heap):aB:=fp.filterMap λb=>(h.get? b).map λo=>(b,o)
theorem AX{fp:List Addr}{h:Heap}{b:Addr}{o:Obj}(hb:b∈fp)(e:h.get? b=some o):(b,o)∈Ii fp h:=vY.mpr ⟨b,hb,by rw[e];rfl⟩
theorem Xw{fp:List Addr}{h:Heap}{p:Addr×Obj}(hp:p∈Ii fp h):p.1∈fp/\h.get? p.1=some p.2:=by
 obtain⟨b,hb,e⟩:=vY.mp hp;cases q:h.get? b with
 | none=>rw[q]at e;cases e
 | some o =>
  rw[q]at e;have e':(b,o)=p:=Option.some.inj e;subst e';exact⟨hb,q⟩
theorem Inv.pinned{π:aB}{σ:St}{H:Hp}{s:Shared}{fp:List Addr}(I:Inv X π σ H s)(hf:∀ b∈fp,FpOk X π H b)(ho:∀ b∈fp,∃ o,s.heap.get? b=some o/\∀ v,o.data ≠ .cell v):Inv X (π++Ii fp s.heap) σ H s :=
 I.pins_of λp hp=>(wx.mp hp).elim (λz=>I.pin p (wQ _ z)) λz=>by
  obtain⟨hb,e⟩:=Xw z;obtain⟨f0,f1,f2,_⟩:=hf p.1 hb;obtain⟨o,e',d⟩:=ho p.1 hb;rw[e]at e';cases e';exact⟨e,f0,f1,f2,d⟩
theorem Inv.unpinned{π pl:aB}{σ:St}{H:Hp}{s:Shared}(I:Inv X (π++pl) σ H s):Inv X π σ H s:=I.pins_of λp hp=>I.pin p (wQ _ (uw _ hp))
theorem YW{iter:Expr}{body:List Stmt}{wi:TI}{g:TG}{tb:TS}{pos:Pos}(hp:PassesOwn (model X.prog X.w) X.A X.env X.xe)(hc:X.calm=true)(hi:PI X tg iter wi)(hg:PG X tg g)(hb:PSs X body tb)
   (hs:∀ x,foldedSetIterable iter X.env x=pure x:=by intro _;rfl):PS X (.For tg iter body [] pos) (tFor wi g tb):=by
 intro π s σ H D I h;refine wpAny_For (thn (hi π s σ H _ I h) λv s1 h1=>thn h1 λitv s2 h2=>?_) hs;obtain⟨it,fp,tn,J,H2,e,I2,T,st2,f2,W,⟨m0,w0⟩,turn⟩:=h2;subst e;have stat:∀{H':Hp},(∀ b∈fp,H' b=none)->∀ b∈fp,FpOk X π H' b:=λhn b hb=>⟨hn b hb,(f2 b hb).2⟩;refine codeAny_forLoop_any (λn s'=>∃ i σ' H',Inv X π σ' H' s'/\tn i s'.heap/\(∀ b∈fp,H' b=none)/\W i n σ' H') ?_ m0 ⟨0,σ,H2,I2,st2,λb hb=>(f2 b hb).1,w0⟩;rintro n s3 ⟨i,σ3,H3,I3,st3,fr3,w3⟩;rcases turn i n σ3 H3 w3 with⟨stop,qn⟩|⟨go,N,hN,step⟩
 · refine wpAny_passesOwn hp (thn (T.done X rfl rfl rfl hc i π s3 σ3 H3 X.xe I3 (stat fr3) st3 stop) ?_);rintro r s4 ⟨hr,I4⟩;subst hr;exact wpAny_execs_nil ⟨σ3,H3,I4,qn⟩
 · refine wpAny_passesOwn hp (thn (T.item X rfl rfl rfl hc i π s3 σ3 H3 X.xe I3 (stat fr3) st3 go) ?_);rintro r s4 ⟨u,hr,h4⟩;subst hr;refine wpAny_passesOwn hp (thn h4 ?_);rintro _ s5 ⟨x,H5,I5,r5,y5,st5,fr5⟩;have I5':=I5.pinned (stat fr5) (T.obj _ _ st5);refine wpAny_passesOwn hp (thn (hg _ s5 σ3 H5 x u _ I5' r5 (step x H5 y5)) ?_);rintro _ s6 ⟨σ6,H6,I6,q6⟩;refine wpAny_passesOwn hp (thn (hb _ s6 σ6 H6 _ I6 q6) λf s7 q7=>?_);have again:∀{σ7:St} {H7:Hp},Inv X (π++Ii fp s5.heap) σ7 H7 s7->N σ7 H7->∃ m,m<n/\∃ i σ' H',Inv X π σ' H' s7/\tn i s7.heap/\(∀ b∈fp,H' b=none)/\W i m σ' H':=λ{σ7 H7} I7 n7=>by
    obtain⟨m',hm,w7⟩:=hN σ7 H7 n7;refine⟨m',hm,i+1,σ7,H7,I7.unpinned,T.keep _ _ _ st5 λb hb o e=>(I7.pin (b,o) (wQ _ (wQ _ (AX hb e)))).1,λb hb=>?_,w7⟩;obtain⟨o,e,d⟩:=T.obj _ _ st5 b hb;exact(I7.pin (b,o) (wQ _ (wQ _ (AX hb e)))).2.1
   cases f with
   | next=>obtain⟨σ7,H7,I7,n7⟩:=q7;exact again I7 n7
   | cont=>obtain⟨σ7,H7,I7,n7⟩:=q7;exact again I7 n7
   | brk=>obtain⟨σ7,H7,I7,q7⟩:=q7;exact⟨σ7,H7,I7.unpinned,q7⟩
   | ret v=>obtain⟨x7,σ7,H7,I7,r7,q7⟩:=q7;exact⟨x7,σ7,H7,I7.unpinned,r7,q7⟩
end
end L2
namespace L2
open PySem PySem.Spec PyProof.Rows
abbrev R2:=V->V->Hp->VK->Prop
def OpR(X:Cx)(f:Value->Value->Sem Value)(r:R2):Prop :=
 ∀(π:aB) (s:Shared) (σ:St) (H:Hp) (x y:V) (v u:Value) (Q:VK),Inv X π σ H s->RelV x v->RelV y u->r x y H Q ->
  wpAny (model X.prog X.w) X.A (f v u) (EP X π σ Q) X.xe s
def UnR(X:Cx)(f:Value->Sem Value)(r:V->Hp->VK->Prop):Prop :=
 ∀(π:aB) (s:Shared) (σ:St) (H:Hp) (x:V) (v:Value) (Q:VK),Inv X π σ H s->RelV x v->r x H Q ->
  wpAny (model X.prog X.w) X.A (f v) (EP X π σ Q) X.xe s
def Et(X:Cx)(f:Value)(r:List V->Hp->VK->Prop):Prop :=
 ∀(π:aB) (s:Shared) (σ:St) (H:Hp) (xs:List V) (us:aF) (Q:VK),Inv X π σ H s->Vals xs us->r xs H Q ->
  wpAny (model X.prog X.w) X.A (call f us) (EP X π σ Q) X.xe s
def TruR(X:Cx)(r:V->Hp->(Bool->Hp->Prop)->Prop):Prop :=
 ∀(π:aB) (s:Shared) (σ:St) (H:Hp) (x:V) (v:Value) (Q:Bool->Hp->Prop),Inv X π σ H s->RelV x v->r x H Q ->
  wpAny (model X.prog X.w) X.A (truthy v) (TP X π σ Q) X.xe s
def tOp(r:R2)(ta tb:TE):TE:=λσ H Q=>ta σ H λx H1=>tb σ H1 λy H2=>r x y H2 Q
def tUn(r:V->Hp->VK->Prop)(ta:TE):TE:=λσ H Q=>ta σ H λx H1=>r x H1 Q
def rI(C:Int->Int->Prop)(g:Int->Int->V):R2:=λx y H Q=>∃ i j,x = .int i/\y = .int j/\C i j/\Q (g i j) H
def rI0(g:Int->Int->V):R2:=λx y H Q=>∃ i j,x = .int i/\y = .int j/\Q (g i j) H
def rU(g:Int->V):V->Hp->VK->Prop:=λx H Q=>∃ i,x = .int i/\Q (g i) H
section
variable {X:Cx}{a b c:Expr}{ta tb tc:TE}{pos:Pos}
theorem binT(ha:PE X a ta)(hb:PE X b tb){π:aB}{s:Shared}{σ:St}{H:Hp}{R:V->V->Hp->Prop}(I:Inv X π σ H s)
  (h:ta σ H λx H1=>tb σ H1 λy H2=>R x y H2) {Q:aC} {f:Value->Value->Sem Value}
  (hf:∀ v u s2 x y H2,Inv X π σ H2 s2->RelV x v->RelV y u->R x y H2->wpAny (model X.prog X.w) X.A (f v u) Q X.xe s2) :
  wpAny (model X.prog X.w) X.A (eval a X.env) (λv s₁=>wpAny (model X.prog X.w) X.A (eval b X.env) (λu s₂=>wpAny (model X.prog X.w) X.A (f v u) Q X.xe s₂) X.xe s₁) X.xe s:=by
 refine thn (ha π s σ H _ I h) ?_;rintro v s1 ⟨x,H1,I1,r1,q1⟩;refine thn (hb π s1 σ H1 _ I1 q1) ?_;rintro u s2 ⟨y,H2,I2,r2,q2⟩;exact hf v u s2 x y H2 I2 r1 r2 q2
theorem pe_op{op:Operator}{r:R2}(ho:OpR X (binaryOp op) r)(ha:PE X a ta)(hb:PE X b tb):PE X (.BinOp a op b pos) (tOp r ta tb):=by
 intro π s σ H Q I h;exact wpAny_BinOp (binT ha hb I h λv u s2 x y H2 I2 rx ry q=>ho π s2 σ H2 x y v u Q I2 rx ry q)
theorem pe_un{op:UnaryOp}{r:V->Hp->VK->Prop}(ho:UnR X (unaryOp op) r)(ha:PE X a ta):PE X (.UnaryOp op a pos) (tUn r ta):=by
 intro π s σ H Q I h;exact UnaryOp_ (thn (ha π s σ H _ I h) λv s1⟨x,H1,I1,r1,q1⟩=>ho π s1 σ H1 x v Q I1 r1 q1)
theorem opI{f:Value->Value->Sem Value}{C:Int->Int->Prop}{g:Int->Int->Int}
  (rule:∀(i j:Int) (t u:Tok) (s:Shared) (Q:aC) (E:aC),C i j->Q (.int (g i j) s.toks) { s with toks:=s.toks+1 }->wpAny (model X.prog X.w) X.A (f (.int i t) (.int j u)) Q E s) :
  OpR X f (rI C λi j => .int (g i j)):=by
 intro π s σ H x y v u Q I rx ry h;obtain⟨i,j,rfl,rfl,hc,q⟩:=h;obtain⟨t,rfl⟩:=rx;obtain⟨t',rfl⟩:=ry;exact rule i j t t' s _ _ hc ⟨.int (g i j),H,I.tok _,⟨_,rfl⟩,q⟩
theorem opI0{f:Value->Value->Sem Value}{g:Int->Int->Int}
  (rule:∀(i j:Int) (t u:Tok) (s:Shared) (Q:aC) (E:aC),Q (.int (g i j) s.toks) { s with toks:=s.toks+1 }->wpAny (model X.prog X.w) X.A (f (.int i t) (.int j u)) Q E s) :
  OpR X f (rI0 λi j => .int (g i j)):=by
 intro π s σ H x y v u Q I rx ry h;obtain⟨i,j,rfl,rfl,q⟩:=h;obtain⟨t,rfl⟩:=rx;obtain⟨t',rfl⟩:=ry;exact rule i j t t' s _ _ ⟨.int (g i j),H,I.tok _,⟨_,rfl⟩,q⟩
theorem opB0{f:Value->Value->Sem Value}{g:Int->Int->Bool}
  (rule:∀(i j:Int) (t u:Tok) (s:Shared) (Q:aC) (E:aC),Q (.bool (g i j)) s->wpAny (model X.prog X.w) X.A (f (.int i t) (.int j u)) Q E s) :
  OpR X f (rI0 λi j => .bl (g i j)):=by
 intro π s σ H x y v u Q I rx ry h;obtain⟨i,j,rfl,rfl,q⟩:=h;obtain⟨t,rfl⟩:=rx;obtain⟨t',rfl⟩:=ry;exact rule i j t t' s _ _ ⟨.bl (g i j),H,I,rfl,q⟩
def CPow(i j:Int):Prop:=0<=j/\j<=1000000/\i.natAbs<2 ^ 64
def CMul(i j:Int):Prop:=(-(2 ^ 64)<i/\i<2 ^ 64)\/(-(2 ^ 64)<j/\j<2 ^ 64)
theorem CMul.ok{i j:Int}(h:CMul i j):IntMulOk i j:=by
 rcases h with⟨h1,h2⟩|⟨h1,h2⟩
 · exact .of_left (intBits_le_64 h1 h2)
 · exact .of_right (intBits_le_64 h1 h2)
theorem op_add:OpR X (binaryOp .Add) (rI0 λi j => .int (i+j)):=opI0 λ_ _ _ _ _ _ _ q=>add_int q
theorem op_sub:OpR X (binaryOp .Sub) (rI0 λi j => .int (i-j)):=opI0 λ_ _ _ _ _ _ _ q=>sub_int q
theorem z3r:OpR X (binaryOp .Mod) (rI (λ_ j=>j≠0) λi j => .int (i.fmod j)):=opI λ_ _ _ _ _ _ _ hc q=>mod_int' hc q
theorem op_pow:OpR X (binaryOp .Pow) (rI CPow λi j => .int (i ^ j.toNat)):=opI λ_ _ _ _ _ _ _ hc q=>pow_int_small hc.1 hc.2.1 hc.2.2 q
theorem unI{f:Value->Sem Value}{g:Int->Int}
  (rule:∀(i:Int) (t:Tok) (s:Shared) (Q:aC) (E:aC),Q (.int (g i) s.toks) { s with toks:=s.toks+1 }->wpAny (model X.prog X.w) X.A (f (.int i t)) Q E s) :
  UnR X f (rU λi => .int (g i)):=by
 intro π s σ H x v Q I rx h;obtain⟨i,rfl,q⟩:=h;obtain⟨t,rfl⟩:=rx;exact rule i t s _ _ ⟨.int (g i),H,I.tok _,⟨_,rfl⟩,q⟩
theorem un_neg:UnR X (unaryOp .USub) (rU λi => .int (-i)):=unI λ_ _ _ _ _ q=>neg_int q
end
def scal:V->V->Bool
 | .non,.non=>true|.non,.int _=>true|.int _,.non=>true|.non,.bl _=>true|.bl _,.non=>true|.non,.str _=>true|.str _,.non=>true
 | .int _,.int _=>true|.bl _,.bl _=>true|.str _,.str _=>true|.byt _,.byt _=>true
 | .int _,.str _=>true|.str _,.int _=>true|.bl _,.str _=>true|.str _,.bl _=>true
 | _,_=>false
section
variable {X:Cx}{a b c:Expr}{ta tb tc:TE}{pos:Pos}
theorem fin_bl{π:aB}{σ:St}{H:Hp}{s:Shared}{Q:VK}{k k':Bool}(I:Inv X π σ H s)(q:Q (.bl k) H)(e:k=k'):EP X π σ Q (.bool k') s:=by
 subst e;exact⟨.bl k,H,I,rfl,q⟩
theorem op_lt:OpR X (compareOp .Lt) (rI0 λi j => .bl (decide (i<j))):=opB0 λ_ _ _ _ _ _ _ q=>lt_int q
theorem op_le:OpR X (compareOp .LtE) (rI0 λi j => .bl (decide (i<=j))):=opB0 λ_ _ _ _ _ _ _ q=>le_int q
theorem op_gt:OpR X (compareOp .Gt) (rI0 λi j => .bl (decide (j<i))):=opB0 λ_ _ _ _ _ _ _ q=>gt_int q
theorem op_ge:OpR X (compareOp .GtE) (rI0 λi j => .bl (decide (j<=i))):=opB0 λ_ _ _ _ _ _ _ q=>ge_int q
theorem op_isN:OpR X (compareOp .Is) (λx y H Q=>y = .non/\Q (.bl (decide (x = .non))) H):=by
 intro π s σ H x y v u Q I rx ry h;obtain⟨rfl,q⟩:=h;cases ry;refine is_none_gen (fin_bl I q ?_);cases x<;>first
  | (cases rx;rfl)
  | (obtain⟨t,rfl⟩:=rx;rfl)
theorem YX(b:Expr){op:CmpOp}(h:op ≠ .In:=by decide)(h2:op ≠ .NotIn:=by decide):behindInMarks op b=false:=by
 have e1:(op==CmpOp.In)=false:=by cases op<;>first|rfl|exact absurd rfl h
 have e2:(op==CmpOp.NotIn)=false:=by cases op<;>first|rfl|exact absurd rfl h2
 cases b<;>simp[behindInMarks,e1,e2]
theorem z3s{op:CmpOp}{r:R2}(ho:OpR X (compareOp op) r)(ha:PE X a ta)(hb:PE X b tb)(hm:behindInMarks op b=false):PE X (.Compare a [op] [b] pos) (tOp r ta tb):=by
 intro π s σ H Q I h;exact wpAny_Compare1 (binT ha hb I h λv u s2 x y H2 I2 rx ry q=>ho π s2 σ H2 x y v u Q I2 rx ry q) hm
def tTest(t:TE):TT:=λσ H Q=>t σ H λx H'=>∃ k,x = .bl k/\Q k H'
theorem z3t{op:CmpOp}{r:R2}(ho:OpR X (compareOp op) r)(ha:PE X a ta)(hb:PE X b tb)(hm:behindInMarks op b=false):PT X (.Compare a [op] [b] pos) (tTest (tOp r ta tb)):=by
 intro π s σ H Q I h;refine wpAny_isTrue_Compare1 (thn (ha π s σ H _ I h) λv s1⟨x,H1,I1,r1,q1⟩=>thn (hb π s1 σ H1 _ I1 q1) λu s2 ⟨y,H2,I2,r2,q2⟩ =>
  thn (ho π s2 σ H2 x y v u _ I2 r1 r2 q2) λc s3⟨z,H3,I3,r3,k,e,q3⟩=>?_) hm
 subst e;cases r3;exact wpAny_truthy_bool ⟨H3,I3,q3⟩
def YY(r r':R2)(ta tb tc:TE):TE:=λσ H Q=>ta σ H λx H1=>tb σ H1 λy H2=>r x y H2 λz H3=>∃ k,z = .bl k /\
 (if k=true then tc σ H3 λw' H4=>r' y w' H4 Q else Q (.bl false) H3)
theorem YZ{op op':CmpOp}{r r':R2}(ho:OpR X (compareOp op) r)(ho':OpR X (compareOp op') r')(ha:PE X a ta)(hb:PE X b tb)(hc:PE X c tc)
  (hm:lastMarks [op,op'] [b,c]=false:=by with_unfolding_all rfl):PE X (.Compare a [op,op'] [b,c] pos) (YY r r' ta tb tc):=by
 intro π s σ H Q I h;refine Compare_chain (thn (ha π s σ H _ I h) λv s1⟨x,H1,I1,r1,q1⟩=>chain_link (thn (hb π s1 σ H1 _ I1 q1) λu s2 ⟨y,H2,I2,r2,q2⟩ =>
  thn (ho π s2 σ H2 x y v u _ I2 r1 r2 q2) λd s3⟨z,H3,I3,r3,k,e,q3⟩=>?_)) hm
 subst e;cases r3;refine wpAny_truthy_bool ?_;cases k with
 | false=>exact ite_ff ⟨.bl false,H3,I3,rfl,q3⟩
 | true=>exact ite_tt (chain_last (thn (hc π s3 σ H3 _ I3 q3) λw' s4⟨z',H4,I4,r4,q4⟩=>ho' π s4 σ H4 y z' u w' Q I4 r2 r4 q4))
def TruV(K:aD)(x:V)(H:Hp)(k:Bool):Prop :=
 match x with
 | .non=>k=false
 | .bl b=>k=b
 | .int i=>k=(i != 0)
 | .str y=>y.length<=sizeLine/\k=((y.length:Int) != 0)
 | .byt y=>y.size<=sizeLine/\k=((y.size:Int) != 0)
 | .ref p=>(∃ xs,SqL K H p xs/\k=!xs.isEmpty)\/(∃ xs,SqT K H p xs/\k=!xs.isEmpty)\/∃ kvs,H p=some (.dK kvs)/\k=!kvs.isEmpty
 | _=>False
theorem PU{κ:Type}{kvs:List (κ×V)}{vs:List (κ×Value)}(r:KV kvs vs):(!vs.isEmpty)=!kvs.isEmpty:=by
 cases r<;>rfl
theorem Ij{xs:List V}{its:aF}(r:Vals xs its):(!its.toArray.isEmpty)=!xs.isEmpty:=by
 cases r<;>simp
theorem FN:(sizeLine:Nat)<2 ^ 63:=by rw[sizeLine_eq];decide
theorem tru_ok:TruR X (λx H Q=>∃ k,TruV X.K x H k/\Q k H):=by
 intro π s σ H x v Q I rx h;obtain⟨k,e,q⟩:=h;have hl:=FN;have hs:sizeLine=16777216:=sizeLine_eq;cases x with
 | non =>
  cases rx;have e':k=false:=e;subst e';exact truthy_none ⟨H,I,q⟩
 | bl b =>
  cases rx;have e':k=b:=e;subst e';exact wpAny_truthy_bool ⟨H,I,q⟩
 | int i =>
  obtain⟨t,rfl⟩:=rx;have e':k=(i != 0):=e;subst e';exact PySem.P.truthy_int ⟨H,I,q⟩
 | str y =>
  obtain⟨t,rfl⟩:=rx;obtain⟨hy,e'⟩:y.length<=sizeLine/\k=((y.length:Int) != 0):=e;subst e';exact PySem.P.truthy_str (by rfl') ⟨H,I.tok _,q⟩
 | byt y =>
  obtain⟨t,rfl⟩:=rx;obtain⟨hy,e'⟩:y.size<=sizeLine/\k=((y.size:Int) != 0):=e;subst e';exact PySem.W.truthy_bytes (by rfl') ⟨H,I.tok _,q⟩
 | ref p =>
  cases rx;have e':(∃ xs,SqL X.K H p xs/\k=!xs.isEmpty)\/(∃ xs,SqT X.K H p xs/\k=!xs.isEmpty)\/∃ kvs,H p=some (.dK kvs)/\k=!kvs.isEmpty:=e;rcases e' with⟨xs,hx,e'⟩|⟨xs,hx,e'⟩|⟨kvs,hx,e'⟩
  · subst e';obtain⟨its,r,pl,hz⟩:=I.list hx;have hlen:=r.length;exact wpAny_truthy_list pl.isList (by simp only[wG];rfl') ⟨H,I.tok _,by rw[Ij r];exact q⟩
  · subst e';obtain⟨its,r,pl,hz⟩:=I.tuple hx;have hlen:=r.length;exact truthy_tuple pl (by simp only[wG];rfl') ⟨H,I.tok _,by rw[Ij r];exact q⟩
  · subst e';obtain⟨hz,hS,vs,r,m⟩:kvs.length<=sizeLine/\(p==sysModules)=false/\∃ vs,KV kvs vs/\s.heap.DictOf (Mt X.prog X.w) p vs:=I.hok p _ hx;have hlen:kvs.length=vs.length:=Paired.length r;exact wpAny_truthy_dict hS m (by rfl') ⟨H,I.tok _,by rw[PU r];exact q⟩
 | _=>exact(show False from e).elim
theorem Za(ha:PE X a ta)(he:∀ whole,isTrue a X.env whole=(do let v ←whole;standAt a.pos;holding [v] (truthy v))):
  PT X a (λσ H Q=>ta σ H λx H'=>∃ k,TruV X.K x H' k/\Q k H'):=by
 intro π s σ H Q I h;exact isTrue_plain (thn (ha π s σ H _ I h) λv s1⟨x,H1,I1,r1,q1⟩=>tru_ok π s1 σ H1 x v Q I1 r1 q1) (he _)
theorem Ks{x:V}{us:aF}(r:Vals [x] us):∃ u,us=[u]/\RelV x u:=by
 cases r with
 | cons r1 r2=>cases r2;exact⟨_,rfl,r1⟩
theorem vals2{x y:V}{us:aF}(r:Vals [x,y] us):∃ u w',us=[u,w']/\RelV x u/\RelV y w':=by
 cases r with
 | cons r1 r2 =>
  cases r2 with
  | cons r3 r4=>cases r4;exact⟨_,_,rfl,r1,r3⟩
theorem Zb:Et X (.builtin "abs") (λxs H Q=>∃ i,xs=[.int i]/\Q (.int (if i<0 then -i else i)) H):=by
 intro π s σ H xs us Q I r h;obtain⟨i,rfl,q⟩:=h;obtain⟨u,rfl,t,rfl⟩:=Ks r;exact call_abs_int λu tk=>⟨.int (if i<0 then -i else i),H,I.tok _,⟨_,rfl⟩,q⟩
theorem Kt:Et X (.type "int") (λxs H Q=>(∃ i,xs=[.int i]/\Q (.int i) H)\/∃ k,xs=[.bl k]/\Q (.int (if k then 1 else 0)) H):=by
 intro π s σ H xs us Q I r h;rcases h with⟨i,rfl,q⟩|⟨k,rfl,q⟩
 · obtain⟨u,rfl,t,rfl⟩:=Ks r;exact call_int_int ⟨.int i,H,I,⟨_,rfl⟩,q⟩
 · obtain⟨u,rfl,r1⟩:=Ks r;cases r1;exact call_int_bool ⟨.int (if k then 1 else 0),H,I.tok _,⟨_,rfl⟩,q⟩
end
end L2
namespace L2
open PySem PySem.Spec PyProof.Rows
structure ObjM(h:Heap)(x dx C:Addr)(mA:aE):Prop where
 obj:h.get? x=some (PySem.W.instObj C dx)
 ns:h.Ns1 dx mA
 ne:dx≠x
theorem Xx{h:Heap}{dx:Addr}{mA:aE}(n:h.Ns1 dx mA):∃ od,h.get? dx=some od/\∀ name,PySem.W.lookIn name od=some (mA name):=by
 obtain⟨o,es,ep,ho,hd,hk,_,hm⟩:=n;refine⟨o,ho,λname=>?_⟩;have e:=hm name;unfold nsFind findBy at e;rw[←Array.find?_toList]at e;unfold PySem.W.lookIn;rw[hd];dsimp only;split
 · rename_i y q;rw[q]at e;exact congrArg some e
 · rename_i q;rw[q]at e;have a:es.toList.any (·.refKey)=false:=by
    rw[w0f];intro y hy;obtain⟨z,t,hkey⟩:=hk y (Array.mem_toList_iff.mp hy);simp[DictEntry.refKey,hkey]
   have a':¬es.toList.any (·.refKey)=true:=by rw[a];exact wL
   rw[if_neg a'];exact congrArg some e
theorem ObjM.look{h:Heap}{x dx C:Addr}{mA:aE}(I:ObjM h x dx C mA):∃ od,PySem.W.InstAt h x (PySem.W.instObj C dx) C (some od)/\∀ name,PySem.W.lookIn name od=some (mA name) :=
 let ⟨od,ho,hl⟩:=Xx I.ns
 ⟨od,⟨I.obj,rfl,rfl,ho⟩,hl⟩
section
variable {prog:Program}{w:World}{A:Around}{E:aC}{s:Shared}{K:aD}{x dx C f:Addr}{mA:aE}{name:Str}{v:Value}
end
section
variable {P:Program}{w:World}{H H':Hp}{h h':Heap}{a C dx:Addr}{fs fs':List (Str×V)}
theorem z3u(hok:HOk P w H h)(e:H a=some (.ins C dx fs)):∃ mA,ObjM h a dx C mA/\(∀ f,RelO (fs.lookup f) (mA f))/\PySem.Within mA (fs.map (·.1))/\fs.length<=1000/\H dx=some (.own a):=by
 obtain⟨d,z,ne,ob,mA,n,r,q⟩:=(show ObjOk P w H h a (.ins C dx fs)from hok a _ e);exact⟨mA,⟨ob,n,ne⟩,r,q,z,d⟩
end
structure Cls(K:aD)(C:Addr):Prop where
 pg:PySem.W.plainGet K C Str.empty=true
 hd:PySem.W.hasDictIn K C=true
 po:PySem.W.plainOver K C=true
 sa:PySem.W.findIn K (.ref C) "__setattr__" = some (some (.builtin "object.__setattr__"))
theorem Cls.get{K:aD}{C:Addr}(c:Cls K C)(f:Str):PySem.W.plainGet K C f=true:=c.pg
section
variable {X:Cx}{π:aB}{σ:St}{H:Hp}{s:Shared}{a C dx:Addr}{fs:List (Str×V)}{f:Str}{v:V}{A:Around}{E:aC}
end
section
variable {X:Cx}{o e value:Expr}{f:Str}{pos pos' tpos:Pos}{ta tv:TE}
end
section
variable {X:Cx}{π:aB}{σ:St}{H:Hp}{s:Shared}{A:Around}{E:aC}{Q:aC}{c:Value}{b:Bool}
inductive TyOf (K:aD) (H:Hp):V->Value->Prop where
 | non:TyOf K H .non (.type "NoneType")
 | bl (x:Bool):TyOf K H (.bl x) (.type "bool")
 | int (i:Int):TyOf K H (.int i) (.type "int")
 | str (x:Str):TyOf K H (.str x) (.type "str")
 | flt (x:UInt64):TyOf K H (.flt x) (.type "float")
 | lst {a:Addr} {xs:List V} (e:H a=some (.lst xs)):TyOf K H (.ref a) (.type "list")
 | frz {a:Addr} {o:Obj} {xs:List V} (e:H a=some (.frz o (.lst xs))):TyOf K H (.ref a) (.type "list")
 | tup {a:Addr} {xs:List V} (e:H a=some (.tup xs)):TyOf K H (.ref a) (.type "tuple")
 | dK {a:Addr} {kvs:List (Key×V)} (e:H a=some (.dK kvs)):TyOf K H (.ref a) (.type "dict")
 | dT {a:Addr} {kvs:List (List Key×V)} (e:H a=some (.dT kvs)):TyOf K H (.ref a) (.type "dict")
 | ins {a C dx:Addr} {fs:List (Str×V)} (e:H a=some (.ins C dx fs)) (cl:Cls K C) (ha:PySem.W.findIn K (.ref C) "__class__" = some (some (.builtin "object.__class__")))
  (hn:PySem.W.specialIn K (.builtin "object.__class__") "__get__" = some (some (.builtin "getset_descriptor.__get__"))) (htk:PySem.W.takesIn K (.builtin "object.__class__")=some true)
  (hm:PySem.W.mroIn K C (.type "object")=some true):TyOf K H (.ref a) (.ref C)
theorem CW{x:V}{u t:Value}(I:Inv X π σ H s)(rx:RelV x u)(ty:TyOf X.K H x t)(e:PySem.W.kitOne X.K t c=some b)(h:∀ tk,Q (.bool b) { s with toks:=tk }):
  wpAny (model X.prog X.w) A (call (.builtin "isinstance") [u,c]) Q E s:=by
 cases ty with
 | non=>cases (show u=Value.none from rx);exact PySem.W.kia_one PySem.W.kitx_none I.kIn True.intro e (λz=>nomatch z) h
 | bl y=>cases (show u=Value.bool y from rx);exact PySem.W.kia_one PySem.W.kitx_bool I.kIn True.intro e (λz=>nomatch z) h
 | int i=>obtain⟨t,q⟩:=(show ∃ t,u=Value.int i t from rx);cases q;exact PySem.W.kia_one PySem.W.kitx_int I.kIn True.intro e (λz=>nomatch z) h
 | str y=>obtain⟨t,q⟩:=(show ∃ t,u=Value.str y t from rx);cases q;exact PySem.W.kia_one PySem.W.kitx_str I.kIn True.intro e (λz=>nomatch z) h
 | flt y=>obtain⟨t,q⟩:=(show ∃ t,u=Value.float y t from rx);cases q;exact PySem.W.kia_one PySem.W.kitx_float I.kIn True.intro e (λz=>nomatch z) h
 | @lst a xs ea =>
  cases (show u=Value.ref a from rx);obtain⟨_,_,n,_,h1⟩:=(show ObjOk X.prog X.w H s.heap a (.lst xs)from I.hok a _ ea);exact PySem.W.kia_one PySem.W.kitx_list I.kIn ⟨_,h1,rfl⟩ e (λz=>nomatch z) h
 | @frz a ob xs ea =>
  cases (show u=Value.ref a from rx);obtain⟨_,_,_,n,_,h1⟩:=(show ObjOk X.prog X.w H s.heap a (.frz ob (.lst xs))from I.hok a _ ea);exact PySem.W.kia_one PySem.W.kitx_list I.kIn ⟨_,h1,rfl⟩ e (λz=>nomatch z) h
 | @tup a xs ea =>
  cases (show u=Value.ref a from rx);obtain⟨_,_,_,p⟩:=(show ObjOk X.prog X.w H s.heap a (.tup xs)from I.hok a _ ea);obtain⟨o,h1,h2,_⟩:=p;exact PySem.W.kia_one PySem.W.kitx_tuple I.kIn ⟨o,h1,h2⟩ e (λz=>nomatch z) h
 | @dK a kvs ea =>
  cases (show u=Value.ref a from rx);obtain⟨_,_,vs,_,p⟩:=(show ObjOk X.prog X.w H s.heap a (.dK kvs)from I.hok a _ ea);obtain⟨o,es,ep,h1,h2,_⟩:=p;exact PySem.W.kia_one PySem.W.kitx_dict I.kIn ⟨o,h1,h2.1⟩ e (λz=>nomatch z) h
 | @dT a kvs ea =>
  cases (show u=Value.ref a from rx);obtain⟨_,_,xs,_,o,es,ep,h1,h2,_⟩:=(show ObjOk X.prog X.w H s.heap a (.dT kvs)from I.hok a _ ea);exact PySem.W.kia_one PySem.W.kitx_dict I.kIn ⟨o,h1,h2.1⟩ e (λz=>nomatch z) h
 | @ins a C dx fs ea cl ha hn htk hm =>
  cases (show u=Value.ref a from rx);obtain⟨mA,O,_⟩:=z3u I.hok ea;obtain⟨od,J,_⟩:=O.look;exact PySem.W.kia_one (PySem.W.kitx_own (cl.get _) cl.hd ha hn htk hm) I.kIn J e (λz=>nomatch z) h
end
end L2
namespace L2
open PySem PySem.Spec PyProof.Rows
structure Room(k:Nat)(A:Around):Prop where
 hd:A.handled=none
 dp:A.depth+3*k+5<recursionLimit
 un:A.units+16*k+200<cLine
theorem Room.mono{j k:Nat}{A:Around}(r:Room k A)(h:j<=k):Room j A:=⟨r.hd,by have:=r.dp;rfl',by have:=r.un;rfl'⟩
theorem Room.deeper{k:Nat}{A:Around}(r:Room (k+1) A)(env:Env):Room k (A.deeper env) :=
 ⟨r.hd,by have:=r.dp;show A.depth+1+3*k+5<_;rfl',by have:=r.un;show A.units+3+16*k+200<_;rfl'⟩
theorem Room.in1{k:Nat}{A:Around}(r:Room (k+1) A):Room k A.in1 :=
 ⟨r.hd,by have:=r.dp;show A.depth+3*k+5<_;rfl',by have:=r.un;show A.units+1+16*k+200<_;rfl'⟩
theorem Room.depth{k:Nat}{A:Around}(r:Room k A):A.depth<recursionLimit:=by have:=r.dp;rfl'
theorem Room.units{k:Nat}{A:Around}(r:Room k A):A.units+64<cLine:=by have:=r.un;rfl'
def tNil:TA:=λ_ H Q=>Q [] H
def tCons(ta:TE)(tr:TA):TA:=λσ H Q=>ta σ H λx H1=>tr σ H1 λxs H2=>Q (x::xs) H2
section
variable {X:Cx}{e:Expr}{es:List Expr}{te:TE}{t:TA}{pos:Pos}
theorem Ik:PA X [] tNil:=λ_ _ _ _ H Q I h=>Calls.spliced_nil ⟨[],H,I,.nil,h⟩
theorem AY(ha:PE X e te)(hr:PA X es t)(hs:starEach (e::es) X.env=(false,eval e X.env)::starEach es X.env:=by rfl):PA X (e::es) (tCons te t):=by
 intro pos π s σ H Q I h;rw[hs];show wpAny _ _ (spliced ((false,eval e X.env)::backTo pos (starEach es X.env))) _ _ s;refine Calls.spliced_cons (thn (ha π s σ H _ I h) ?_);rintro u s1 ⟨x,H1,I1,r1,q1⟩;exact thn (hr pos π s1 σ H1 _ I1 q1) λus s2⟨xs,H2,I2,r2,q2⟩=>⟨x::xs,H2,I2,.cons r1 r2,q2⟩
def tTup(t:TA):TE:=λσ H Q=>t σ H λxs H1=>xs.length<=sizeLine/\∀ p,H1 p=none->Q (.ref p) (upd H1 p (.tup xs))
def tLst(t:TA):TE:=λσ H Q=>t σ H λxs H1=>xs.length<=sizeLine/\∀ p,H1 p=none->Q (.ref p) (upd H1 p (.lst xs))
theorem pe_tup{x1}(h:PA X es t):PE X (.Tuple es x1 pos) (tTup t):=by
 intro π s σ H Q I hq;refine wpAny_Tuple_spliced (thn (h pos π s σ H _ I hq) λus s1⟨xs,H1,I1,r,z,q⟩=>⟨by rw[←r.length];exact z,?_⟩);have hf:H1 s1.heap.objs.size=none:=I1.hok.fresh (wB _);refine⟨.ref s1.heap.objs.size,upd H1 s1.heap.objs.size (.tup xs),I1.laid (t':=s1.toks) (λb u e=>wm _ e) (wB _) ?_,rfl,q _ hf⟩;exact⟨z,us,r,⟨_,wF _ rfl,rfl,_,rfl⟩⟩
theorem pe_lst(h:PA X es t):PE X (.List es pos) (tLst t):=by
 intro π s σ H Q I hq;refine wpAny_List_spliced (thn (h pos π s σ H _ I hq) λus s1⟨xs,H1,I1,r,z,q⟩=>⟨by rw[←r.length];exact z,?_⟩);have hf:H1 s1.heap.objs.size=none:=I1.hok.fresh (wB _);refine⟨.ref s1.heap.objs.size,upd H1 s1.heap.objs.size (.lst xs),I1.laid (t':=s1.toks) (λb u e=>wm _ e) (wB _) ?_,rfl,q _ hf⟩;exact⟨z,us,0,r,wF _ rfl⟩
end
abbrev Sp:=List V->Hp->VK->XK->Prop
abbrev CXT:=List Env->Hp->Shared->XK->aC
structure Env0(P:Program)(w:World)(K:aD)(mg:aE)(base:Heap)(A:Around)(outer:List Env)(s:Shared)(H:Hp):Prop where
 frames:A.frames=some outer
 mod:Mod K mg base
 bs:∀ b o,base.get? b=some o->s.heap.get? b=some o/\H b=none
 bsz:base.objs.size<=s.heap.objs.size
 funs:s.heap.FunFrames base outer
 frf:∀ b∈frs outer,H b=none
 hok:HOk P w H s.heap
 bare:AllBare s.gens
def CE(outer:List Env)(P:Program)(w:World)(H:Hp)(s:Shared)(Q:VK)(u:Value)(s':Shared):Prop :=
 ∃ v H',s'.os=s.os/\AllBare s'.gens/\Un (frs outer) [] H H' s.heap s'.heap/\HOk P w H' s'.heap/\RelV v u/\Q v H'
def CR(CX:CXT)(outer:List Env)(P:Program)(w:World)(H:Hp)(s:Shared)(Q:VK)(E:XK)(r:Result)(s':Shared):Prop :=
 match r with
 | .ok (.ret u)=>CE outer P w H s Q u s'
 | .ok _=>False
 | .error e=>CX outer H s E e s'
structure FnOk(P:Program)(w:World)(K:aD)(mg:aE)(base:Heap)(CX:CXT)(k:Nat)(f:Addr)(fd:FuncData)(ps:List Str)(sp:Sp):Prop where
 len:∀ vs H Q E,sp vs H Q E->vs.length=ps.length
 run:∀(A:Around) (outer:List Env) (s:Shared) (H:Hp) (args:Args) (us:aF) (vs:List V) (Q:VK) (E:XK),Room k A->Env0 P w K mg base A outer s H->BindsTo s fd args (ps.zip us)->Vals vs us->sp vs H Q E ->
  codeAny (model P w) A (.call (.ref f) args) (CR CX outer P w H s Q E) s
theorem Env0.in1{P:Program}{w:World}{K:aD}{mg:aE}{base:Heap}{A:Around}{outer:List Env}{s:Shared}{H:Hp}(e:Env0 P w K mg base A outer s H):
 Env0 P w K mg base A.in1 outer s H:=⟨e.frames,e.mod,e.bs,e.bsz,e.funs,e.frf,e.hok,e.bare⟩
section
variable {X:Cx}{π:aB}{σ:St}{H:Hp}{s s':Shared}
theorem Inv.env0(I:Inv X π σ H s):Env0 X.prog X.w X.K X.mg X.base X.A X.stack s H :=
 ⟨I.ok.frames,I.ok.mod,I.bs,wK I.ok.bsz I.sz,I.stack,I.stkFree,I.hok,I.bare⟩
theorem Inv.after{Q:VK}{u:Value}(I:Inv X π σ H s)(h:CE X.stack X.prog X.w H s Q u s'):EP X π σ Q u s':=by
 obtain⟨v,H',os,bare,un,hok,r,q⟩:=h;obtain⟨hh,g,d,t,os'⟩:=s';obtain rfl:os'=s.os:=os;exact⟨v,H',I.call (h':=hh) (g':=g) (d':=d) (t':=t) (ch:=[]) un hok bare (λb z=>absurd z (by simp)),r,q⟩
end
def tCall(sp:Sp)(dvs:List V)(E:XK)(t:TA):TE:=λσ H Q=>t σ H λvs H1=>sp (vs++dvs) H1 Q E
def Binds(K:aD)(fd:FuncData)(ps:List Str)(ds:aF):Prop :=
 ∀(s:Shared) (us:aF),K.In s.heap->(us++ds).length=ps.length->BindsTo s fd ⟨us,[]⟩ (ps.zip (us++ds))
theorem Binds.all{K:aD}{fd:FuncData}{ps:List Str}(h:∀ us:aF,us.length=ps.length->bindArgs fd ⟨us,[]⟩=pure (ps.zip us)):Binds K fd ps []:=λs us _ hl=>by
 rw[uL]at hl ⊢;exact .of_eq (h us hl)
def Mx(CX:CXT)(X:Cx)(E:XK):Prop:=∀(π:aB) (σ:St) (H:Hp) (s:Shared) (e:Value) (s':Shared),Inv X π σ H s->CX X.stack H s E e s'->X.xe e s'
section
variable {X:Cx}{CX:CXT}{k:Nat}{f C:Addr}{fd:FuncData}{ps:List Str}{sp:Sp}{dvs:List V}{ds:aF}{E:XK}{x m:Str}{p pos apos:Pos}{e o:Expr}{es:List Expr}{ta:TE}{t:TA}
theorem run_fn{π:aB}{σ:St}{H:Hp}{s:Shared}{Q:VK}{us:aF}{vs:List V}(F:FnOk X.prog X.w X.K X.mg X.base CX k f fd ps sp)(hr:Room k X.A)(hb:Binds X.K fd ps ds)(hd:Vals dvs ds)(hx:Mx CX X E)
  (I:Inv X π σ H s) (r:Vals vs us) (h:sp (vs++dvs) H Q E):wpAny (model X.prog X.w) X.A (call (.ref f) us) (EP X π σ Q) X.xe s:=by
 have r2:Vals (vs++dvs) (us++ds):=r.append hd;have hl:(us++ds).length=ps.length:=by rw[←r2.length];exact F.len _ _ _ _ h
 refine wpAny_call (codeAny_mono (F.run X.A X.stack s H ⟨us,[]⟩ (us++ds) (vs++dvs) Q E hr I.env0 (hb s us I.kIn hl) r2 h) λr s' hq=>?_);cases r with
 | error e=>exact hx π σ H s e s' I hq
 | ok fl =>
  cases fl with
  | ret u=>exact I.after hq
  | next=>exact False.elim hq
  | brk=>exact False.elim hq
  | cont=>exact False.elim hq
theorem z3v(F:FnOk X.prog X.w X.K X.mg X.base CX k f fd ps sp)(hr:Room k X.A)(hg:Gl X x)(hm:X.mg x=some (.ref f))(hk:PySem.W.keepIn X.K (.ref f)=true)(hb:Binds X.K fd ps ds)(hd:Vals dvs ds)(hx:Mx CX X E)
  (ha:PA X (e::es) t) (hdb:(x==("__debug__" : Str))=false:=by decide) (he:starEach (e::es) X.env=(false,eval e X.env)::starEach es X.env:=by rfl) (hpl:(backTo pos (starEach es X.env)).any (·.1)=false:=by rfl) :
  PE X (.Call (.Name x p) (e::es) [] pos) (tCall sp dvs E t):=by
 intro π s σ H Q I h;refine wpAny_Call_Name_kw (VY I hg hm ?_ hdb);refine PySem.W.callWith_K (h₀:=X.base) I.ok.mod.kin hk (thn (ha pos π s σ H _ I h) λus s1⟨vs,H1,I1,r,q⟩=>⟨I1.kIn,?_⟩) he hpl;exact run_fn F hr hb hd hx I1 r q
end
def PK(X:Cx)(kws:List Keyword)(t:TA):Prop :=
 ∀(pos:Pos) (π:aB) (s:Shared) (σ:St) (H:Hp) (Q:List V->Hp->Prop),Inv X π σ H s->t σ H Q->wpAny (model X.prog X.w) X.A (evalAll ((backToKw pos (keywordEach kws X.env)).map (·.2))) (AP X π σ Q) X.xe s
section
variable {X:Cx}{CX:CXT}{k:Nat}{f C:Addr}{fd:FuncData}{ps ks:List Str}{sp:Sp}{E:XK}{x m:Str}{p pos apos kpos:Pos}{e o:Expr}{es:List Expr}{kws:List Keyword}{te ta:TE}{t tk:TA}{nm:Option Str}
theorem Zc:PK X [] tNil:=λ_ _ _ _ H Q I h=>wpAny_evalAll_nil ⟨[],H,I,.nil,h⟩
theorem Wb(ha:PE X e te)(hr:PK X kws t):PK X (⟨nm,e,kpos⟩::kws) (tCons te t):=by
 intro pos π s σ H Q I h;show wpAny _ _ (evalAll ((do let v ←eval e X.env;standAt pos;pure v)::(backToKw pos (keywordEach kws X.env)).map (·.2))) _ _ s;refine wpAny_evalAll_cons (wpAny_bind (thn (ha π s σ H _ I h) λu s1⟨x,H1,I1,r1,q1⟩=>wpAny_bind (wpAny_standAt (wpAny_pure ?_))));exact thn (hr pos π s1 σ H1 _ I1 q1) λus s2⟨xs,H2,I2,r2,q2⟩=>⟨x::xs,H2,I2,.cons r1 r2,q2⟩
variable {g:aF->aF->aF}{gV:List V->List V->List V}
end
structure FnScope(N P:List Str)(sc:Scope):Prop where
 kind:sc.kind = .function
 co:sc.isCoroutine=false
 gen:sc.isGenerator=false
 nd:N.Nodup
 pre:N.take P.length=P
 par:∀ x∈P,sc.names.lookup x=some .local\/sc.names.lookup x=some .cell
 nofree:∀ y∈sc.names,y.2 ≠ .free
theorem Ku{kindOf:Str->Option NameKind}{x:Str}:∀{binds:List (Str×Value)} {m:aE},(∀ v,(x,v) ∉ binds)->bindL kindOf binds m x=m x
 | [],_,_=>rfl
 | (n,v)::r,m,h=>by
  unfold bindL;rw[Ku λw hw=>h w (wc _ hw)];split
  · have:x≠n:=by rintro rfl;exact h v wf
    simp[this]
  · rfl
theorem Kv{kindOf:Str->Option NameKind}{x:Str}:∀{binds:List (Str×Value)} {m:aE},(∀ v,(x,v) ∉ binds)->bindC kindOf binds m x=m x
 | [],_,_=>rfl
 | (n,v)::r,m,h=>by
  unfold bindC;rw[Kv λw hw=>h w (wc _ hw)];split
  · rfl
  · have:x≠n:=by rintro rfl;exact h v wf
    simp[this]
theorem Kw{kindOf:Str->Option NameKind}{x:Str}{v:Value}:∀{P:List Str} {vs:aF} {i:Nat} {m:aE},P.Nodup->P[i]?=some x->vs[i]?=some v->kindOf x=some .local ->
  bindL kindOf (P.zip vs) m x=some v
 | [],_,_,_,_,h,_,_=>by simp at h
 | _::_,[],_,_,_,_,h,_=>by simp at h
 | p::P,w::vs,0,m,nd,h1,h2,hk=>by
  simp at h1 h2;subst h1;subst h2;show bindL kindOf ((p,w)::P.zip vs) m p=_;unfold bindL;rw[Ku λv hv=>(vy.mp nd).1 (vz hv).1,if_pos hk];simp
 | p::P,w::vs,i+1,m,nd,h1,h2,hk=>by
  show bindL kindOf ((p,w)::P.zip vs) m x=_;unfold bindL;exact Kw (i:=i) (vy.mp nd).2 (by simpa using h1) (by simpa using h2) hk
theorem Kx{kindOf:Str->Option NameKind}{x:Str}{v:Value}:∀{P:List Str} {vs:aF} {i:Nat} {m:aE},P.Nodup->P[i]?=some x->vs[i]?=some v->kindOf x≠some .local ->
  bindC kindOf (P.zip vs) m x=some v
 | [],_,_,_,_,h,_,_=>by simp at h
 | _::_,[],_,_,_,_,h,_=>by simp at h
 | p::P,w::vs,0,m,nd,h1,h2,hk=>by
  simp at h1 h2;subst h1;subst h2;show bindC kindOf ((p,w)::P.zip vs) m p=_;unfold bindC;rw[Kv λv hv=>(vy.mp nd).1 (vz hv).1,if_neg hk];simp
 | p::P,w::vs,i+1,m,nd,h1,h2,hk=>by
  show bindC kindOf ((p,w)::P.zip vs) m x=_;unfold bindC;exact Kx (i:=i) (vy.mp nd).2 (by simpa using h1) (by simpa using h2) hk
def start(N:List Str)(vs:List V):St:=vs.map some++List.replicate (N.length-vs.length) none
def cxOf(CX:CXT)(P:Program)(w:World)(K:aD)(mg:aE)(base:Heap)(N:List Str)(qual:Str)(scope:Scope)(f:Addr)(cd:Value)(A:Around)(outer:List Env)(s:Shared)(H:Hp)(E:XK):Cx where
 prog:=P
 w:=w
 K:=K
 mg:=mg
 base:=base
 A:=A.deeper (envOfC qual scope s.heap.objs.size f cd)
 N:=N
 s₀:=s
 H₀:=H
 env:=envOfC qual scope s.heap.objs.size f cd
 outer:=outer
 stack:=envOfC qual scope s.heap.objs.size f cd::outer
 ex:=[]
 calm:=true
 fn:=λ_=>true
 pn:=[]
 xe:=λe s'=>wpAny (model P w) (A.deeper (envOfC qual scope s.heap.objs.size f cd)) (leaving (envOfC qual scope s.heap.objs.size f cd) e) (λ_ s''=>CX outer H s E e s'') (λe' s''=>CX outer H s E e' s'') s'
theorem NN{sc:Scope}{n:Nat}{x:Str}(h:sc.names.lookup x=some .cell):∃ c,(cellsFrom n sc.names []).lookup x=some c:=by
 have q:=PySem.W.cellsFrom_some sc.names n [] (.inl h);exact uK.mp q
theorem Xy{CX:CXT}{P:Program}{w:World}{K:aD}{mg:aE}{base:Heap}{N ps:List Str}{qual:Str}{scope:Scope}{f:Addr}{cd:Value}{A:Around}{outer:List Env}{s s1:Shared}{H:Hp}{E:XK}{us:aF}{vs:List V}
   (S:FnScope N ps scope) (hd:A.handled=none) (e0:Env0 P w K mg base A outer s H) (hl:vs.length=ps.length) (r:Vals vs us)
   (x:InCallC s s.heap.objs.size (bindL (envOfC qual scope s.heap.objs.size f cd).kindOf (ps.zip us) λ_=>none) (cellsFrom (s.heap.objs.size+1) scope.names []) (bindC (envOfC qual scope s.heap.objs.size f cd).kindOf (ps.zip us) λ_=>none) s1) :
   Inv (cxOf CX P w K mg base N qual scope f cd A outer s H E) [] (start N vs) H s1:=by
 have hpl:ps.length<=N.length:=by have:=congrArg List.length S.pre;rw[vA]at this;rfl'
 obtain⟨h1,tk,rfl,hk⟩:=x.done;have noA:∀ b:Addr,b ∉ (cxOf CX P w K mg base N qual scope f cd A outer s H E).ex:=λb z=>absurd (show b∈([]:List Addr)from z) (by simp);refine⟨⟨e0.mod,S.kind,rfl,rfl,wB _,λy z c h1 h2=>?_,λy hy=>?_,λy c _ h=>?_,λ_=>hd,Around.frames_deeper e0.frames,.inr ⟨rfl,rfl⟩,λb z=>absurd z (noA b),e0.bs,e0.bsz,λb _ _=>noA b,λb z=>absurd z (noA b),e0.funs,e0.frf⟩,
   rfl,e0.bare,Un.kept hk,⟨_,x.toInCall.ns,λi y v h1 h2 h3=>?_⟩,λy c h=>⟨_,x.cell y c h⟩,e0.hok.fresh (wB _),λy c h=>?_,λp hp=>absurd (show p∈([]:aB)from hp) (by simp),e0.hok.kept hk,?_⟩
 · exact name_of_addr x.apart (PySem.mem_of_lookup h1) (PySem.mem_of_lookup h2)
 · have hy:scope.names.lookup y=some .cell\/scope.names.lookup y=some .free:=hy;rcases hy with hy|hy
   · exact NN hy
   · exact absurd rfl (S.nofree _ (PySem.mem_of_lookup hy))
 · exact vV (x.above y c (PySem.mem_of_lookup h))
 · have hi:i<vs.length:=by
     unfold start at h2;by_cases hi:i<vs.length
     · exact hi
     · rw[vg (by simpa using hi)]at h2;rw[vn]at h2;split at h2<;>cases h2
   have ha:vs[i]?=some v:=by
     unfold start at h2;rw[wW (by simpa using hi),wv]at h2;cases e:vs[i]? with
     | none=>rw[e]at h2;cases h2
     | some a=>rw[e]at h2;cases h2;rfl
   obtain⟨u,hu,rv⟩:=r.get ha;have hp:ps[i]?=some y:=by
     rw[←S.pre,List.getElem?_take_of_lt (by rfl')];exact h1
   have ndP:ps.Nodup:=by rw[←S.pre];exact S.nd.sublist (List.take_sublist _ _)
   refine⟨u,rv,?_⟩;rcases S.par y (ud hp)with k|k
   · exact .inl ⟨k,Kw ndP hp hu k⟩
   · obtain⟨c,e⟩:=NN (n:=s.heap.objs.size+1) k;refine .inr ⟨.inl k,c,e,?_⟩;have q:=x.cell y c e;rw[Kx ndP hp hu (by show scope.names.lookup y≠_;rw[k];decide)]at q;exact q
 · exact e0.hok.fresh (vV (x.above y c (PySem.mem_of_lookup h)))
 · unfold start;show _=N.length;rw[wD,wn,vD];rfl'
theorem fn_of{CX:CXT}{P:Program}{w:World}{K:aD}{mg:aE}{base:Heap}{k:Nat}{f:Addr}{name qual:Str}{params:Arguments}{body:List Stmt}{scope:Scope}{dV kV doc pm cdv ct oc:Value}{an od:Option Addr}
  {osl:Array (Option Value)} {N ps:List Str} {sp:Sp} (lk:K.lookup f=some ⟨oc,od,.func (PySem.W.fnOf name qual params body scope dV kV doc pm an cdv ct),osl⟩) (hcd:PySem.W.codeIn K cdv qual=true) (S:FnScope N ps scope)
  (len:∀ vs H Q E,sp vs H Q E->vs.length=ps.length)
  (hbody:∀(A:Around) (outer:List Env) (s:Shared) (H:Hp) (vs:List V) (Q:VK) (E:XK),Room k (A.deeper (envOfC qual scope s.heap.objs.size f cdv))->sp vs H Q E ->
    ∃ t,PSs (cxOf CX P w K mg base N qual scope f cdv A outer s H E) body t/\t { nx:=λ_ H'=>Q .non H',rt:=Q } (start N vs) H) :
  FnOk P w K mg base CX (k+1) f (PySem.W.fnOf name qual params body scope dV kV doc pm an cdv ct) ps sp:=by
 refine⟨len,λA outer s H args us vs Q E hr e0 hb r hsp=>?_⟩;have hl:=len _ _ _ _ hsp;have KX:K.In s.heap:=e0.mod.kin.keeps λb o e=>(e0.bs b o e).1;have lim:s.heap.NoLimit:=e0.mod.nolimit.keeps λb o e=>(e0.bs b o e).1;have hkind:∀ y∈ps.zip us,scope.names.lookup y.1=some .local\/(scope.names.lookup y.1=some .cell/\((cellsFrom (s.heap.objs.size+1) scope.names []).lookup y.1).isSome=true):=λ⟨n,v⟩ hy=>by
  rcases S.par n (vz hy).1 with q|q
  · exact .inl q
  · exact .inr ⟨q,PySem.W.cellsFrom_some _ _ _ (.inl q)⟩
 refine codeAny_call_function hr.depth (KX _ _ lk) rfl S.co S.gen rfl (PySem.W.codeRec_of KX hcd) (hb _ _ _ _ ?_);refine wpAny_newFunctionEnv_cells S.kind hkind λenv he s1 x=>?_;subst he;refine⟨lim.keeps x.toInCall.keep,codeAny_func ?_⟩;obtain⟨t,ht,hq⟩:=hbody A outer s H vs Q E (hr.deeper _) hsp;have I:Inv (cxOf CX P w K mg base N qual scope f cdv A outer s H E) [] (start N vs) H s1:=Xy S hr.hd e0 hl r x;refine wpAny_mono (ht [] s1 (start N vs) H _ I hq) (λfl s' hs=>?_) λe s' hs=>hs;have fin:∀{σ':St} {H':Hp} {v:V} {u:Value},Inv (cxOf CX P w K mg base N qual scope f cdv A outer s H E) [] σ' H' s'->RelV v u->Q v H'->CE outer P w H s Q u s' :=
  λ{σ' H' v u} J rv q=>⟨v,H',J.os,J.bare,J.base,J.hok,rv,q⟩
 cases fl with
 | ret u =>
  obtain⟨v,σ',H',J,rv,q⟩:=hs;exact fin J rv q
 | next =>
  obtain⟨σ',H',J,q⟩:=hs;exact fin (v:=V.non) (u:=Value.none) J rfl q
 | brk =>
  obtain⟨_,_,_,q⟩:=hs;exact False.elim q
 | cont =>
  obtain⟨_,_,_,q⟩:=hs;exact False.elim q
end L2
namespace L2
open PySem PySem.Spec PyProof.Rows
section
variable {X:Cx}{x:Str}{p pos:Pos}{e:Expr}{es:List Expr}{t:TA}{id T:String}{r:List V->Hp->VK->Prop}
def tCB(r:List V->Hp->VK->Prop)(t:TA):TE:=λσ H Q=>t σ H λvs H1=>r vs H1 Q
theorem NO(hc:Et X (.builtin id) r)(hg:Gl X x)(hm:X.mg x=none)(hv:bootBuiltins x=some (.builtin id))(ha:PA X (e::es) t)(hn:x ≠ "__name__" := by decide)(hdb:(x==("__debug__" : Str))=false:=by decide)
  (he:starEach (e::es) X.env=(false,eval e X.env)::starEach es X.env:=by rfl) (hpl:(backTo pos (starEach es X.env)).any (·.1)=false:=by rfl):PE X (.Call (.Name x p) (e::es) [] pos) (tCB r t):=by
 intro π s σ H Q I h;refine wpAny_Call_Name_kw (AW I hg hm hv ?_ hn hdb);exact PyProof.Rows.callWith_builtin1 (thn (ha pos π s σ H _ I h) λus s1⟨vs,H1,I1,r1,q1⟩=>hc π s1 σ H1 vs us Q I1 r1 q1) he hpl
theorem Xz(hc:Et X (.type T) r)(hg:Gl X x)(hm:X.mg x=none)(hv:bootBuiltins x=some (.type T))(ha:PA X (e::es) t)(hn:x ≠ "__name__" := by decide)(hdb:(x==("__debug__" : Str))=false:=by decide)
  (he:starEach (e::es) X.env=(false,eval e X.env)::starEach es X.env:=by rfl) (hpl:(backTo pos (starEach es X.env)).any (·.1)=false:=by rfl):PE X (.Call (.Name x p) (e::es) [] pos) (tCB r t):=by
 intro π s σ H Q I h;refine wpAny_Call_Name_kw (AW I hg hm hv ?_ hn hdb);exact PyProof.Rows.callWith_type1 (thn (ha pos π s σ H _ I h) λus s1⟨vs,H1,I1,r1,q1⟩=>hc π s1 σ H1 vs us Q I1 r1 q1) he hpl
end
end L2
namespace HT
open PySem PyProof.Rows
section
open PySem.SeqAt
open PySem.AutoSeq1 (wpAny_loadPart')
open PySem.MeetsSeq PySem.MeetsSeq2 PySem.MeetsSeq3
end
section
variable {prog:Program}{w:World}{A:Around}{E:aC}{s:Shared}
def sIx(n d:Nat):Option Int->Nat
 | none=>d
 | some v=>if v<0 then(v+(n:Int)).toNat else min v.toNat n
theorem sIx_none(n d:Nat):sIx n d none=d:=rfl
theorem sIx_nat(n d k:Nat):sIx n d (some (k:Int))=min k n:=by
 show(if(k:Int)<0 then((k:Int)+(n:Int)).toNat else min (k:Int).toNat n)=min k n;rw[if_neg (by rfl'),w0g]
end
end HT
namespace L2
open PySem PySem.Spec PyProof.Rows
abbrev TO:=St->Hp->(Option Int->Hp->Prop)->Prop
def PO(X:Cx)(e:Option Expr)(t:TO):Prop :=
 ∀(π:aB) (s:Shared) (σ:St) (H:Hp) (Q:Option Int->Hp->Prop),Inv X π σ H s->t σ H Q ->
  wpAny (model X.prog X.w) X.A (evalPart e X.env) (λu s'=>∃ o H',Inv X π σ H' s'/\IsPart u o/\Q o H') X.xe s
def z3w:TO:=λ_ H Q=>Q none H
def tPart(t:TE):TO:=λσ H Q=>t σ H λx H1=>∃ i,x = .int i/\Q (some i) H1
section
variable {X:Cx}{e:Expr}{te:TE}{lo hi:Option Expr}{tl th:TO}{pos p2:Pos}
theorem z3x:PO X none z3w:=by
 intro π s σ H Q I h;rw[evalPart_none];exact wpAny_pure ⟨none,H,I,.none,h⟩
theorem z3y(h:PE X e te):PO X (some e) (tPart te):=by
 intro π s σ H Q I hw;rw[evalPart_some];refine thn (h π s σ H _ I hw) ?_;rintro u s1 ⟨x,H1,I1,r1,q1⟩;obtain⟨i,rfl,q⟩:=q1;obtain⟨t,rfl⟩:=r1;exact⟨some i,H1,I1,.int i t,q⟩
def SlR(X:Cx)(r:V->Option Int->Option Int->Hp->VK->Prop):Prop :=
 ∀(π:aB) (s:Shared) (σ:St) (H:Hp) (x:V) (v vl vu:Value) (lo hi:Option Int) (sl:Addr) (Q:VK),Inv X π σ H s->RelV x v->s.heap.IsSliceOf sl vl vu .none->IsPart vl lo->IsPart vu hi->r x lo hi H Q ->
  ∃ T id,typeLookup (.type T) "__getitem__" = pure (some (.builtin id))/\s.TypeIs v T/\wpAny (model X.prog X.w) X.A (getItem v (.ref sl)) (EP X π σ Q) X.xe s
def tSl(r:V->Option Int->Option Int->Hp->VK->Prop)(te:TE)(tl th:TO):TE:=λσ H Q=>te σ H λx H1=>tl σ H1 λl H2=>th σ H2 λu H3=>r x l u H3 Q
theorem Zd{r:V->Option Int->Option Int->Hp->VK->Prop}(hr:SlR X r)(he:PE X e te)(hl:PO X lo tl)(hu:PO X hi th):PE X (.Subscript e (.Slice lo hi none p2) pos) (tSl r te tl th):=by
 intro π s σ H Q I h;refine Subscript_ (thn (he π s σ H _ I h) ?_);rintro v s1 ⟨x,H1,I1,r1,q1⟩;refine wpAny_Slice (thn (hl π s1 σ H1 _ I1 q1) λvl s2⟨l,H2,I2,pl,q2⟩=>thn (hu π s2 σ H2 _ I2 q2) ?_);rintro vu s3 ⟨u,H3,I3,pu,q3⟩;rw[evalPart_none];refine wpAny_pure ?_;have I4:Inv X π σ H3 { s3 with heap:=s3.heap.push { cls := .type "slice",data := .fields #[vl,vu,.none] } }:=I3.kept (t':=s3.toks) λb ob q=>wm _ q;obtain⟨T,id,hT,ht,hg⟩:=hr π { s3 with heap:=s3.heap.push { cls := .type "slice",data := .fields #[vl,vu,.none] } } σ H3 x v vl vu l u s3.heap.objs.size Q I4 r1 (Heap.IsSliceOf.new ..) pl pu q3;show wpAny (model X.prog X.w) X.A (subscriptTail e (.Slice lo hi none p2) v (.ref s3.heap.objs.size)) (EP X π σ Q) X.xe { s3 with heap:=s3.heap.push { cls := .type "slice",data := .fields #[vl,vu,.none] } };exact tail_any (ops:=[.ref s3.heap.objs.size,v]) ht hT hg (by with_unfolding_all rfl)
def cutV(xs:List V)(lo hi:Option Int):List V:=(xs.drop (HT.sIx xs.length 0 lo)).take (HT.sIx xs.length xs.length hi-HT.sIx xs.length 0 lo)
theorem NP(xs:List V)(lo hi:Option Int):(cutV xs lo hi).length<=xs.length:=by
 unfold cutV;rw[vA,wZ];rfl'
end
end L2
namespace L2
open PySem PySem.Spec PyProof.Rows
def ixN(n:Nat)(i:Int):Option Nat:=if 0<=i then(if i<n then some i.toNat else none) else if -(n:Int)<=i then some (i+n).toNat else none
def atI{α:Type}(xs:List α)(i:Int):Option α:=(ixN xs.length i).bind λj=>xs[j]?
theorem Wc{n:Nat}{i:Int}{j:Nat}(h:ixN n i=some j):seqIndex? i n=some j/\j<n /\ -(n:Int)<=i/\i<n:=by
 unfold ixN at h;by_cases h0:0<=i
 · rw[if_pos h0]at h;by_cases h1:i<n
   · rw[if_pos h1]at h;have e:i.toNat=j:=Option.some.inj h;exact⟨by rw[seqIndex_of h0 h1,e],by rfl',by rfl',h1⟩
   · rw[if_neg h1]at h;cases h
 · rw[if_neg h0]at h;by_cases h1 : -(n:Int)<=i
   · rw[if_pos h1]at h;have e:(i+n).toNat=j:=Option.some.inj h;exact⟨by rw[seqIndex_neg (by rfl') h1,e],by rfl',h1,by rfl'⟩
   · rw[if_neg h1]at h;cases h
theorem My{α:Type}{xs:List α}{i:Int}{v:α}(h:atI xs i=some v):∃ j,seqIndex? i xs.length=some j/\xs[j]?=some v/\j<xs.length /\ -(xs.length:Int)<=i/\i<xs.length:=by
 unfold atI at h;cases e:ixN xs.length i with
 | none=>rw[e]at h;cases h
 | some j =>
  rw[e]at h;obtain⟨h1,h2,h3,h4⟩:=Wc e;exact⟨j,h1,h,h2,h3,h4⟩
theorem S9{α:Type}{xs:List α}{j:Nat}{v:α}(h:xs[j]?=some v):atI xs (j:Int)=some v:=by
 have hj:j<xs.length:=(vJ.mp h).1;have e:ixN xs.length (j:Int)=some j:=by
  unfold ixN;rw[if_pos (by rfl'),if_pos (by rfl')];simp
 unfold atI;rw[e];exact h
def MA(b:Expr):Prop:=∀ o i,subscripted b false o i=operate [o,i] (getItem o i)
def IxR(X:Cx)(r:R2):Prop :=
 ∀(value slice:Expr) (π:aB) (s:Shared) (σ:St) (H:Hp) (x y:V) (v u:Value) (Q:VK),Inv X π σ H s->RelV x v->RelV y u->r x y H Q ->
  subscripted slice false v u=operate [v,u] (getItem v u)->wpAny (model X.prog X.w) X.A (subscriptTail value slice v u) (EP X π σ Q) X.xe s
def MtR(X:Cx)(id:String)(r:V->List V->Hp->VK->Prop):Prop :=
 ∀(π:aB) (s:Shared) (σ:St) (H:Hp) (x:V) (xs:List V) (v:Value) (us:aF) (Q:VK),Inv X π σ H s->RelV x v->Vals xs us->r x xs H Q ->
  wpAny (model X.prog X.w) X.A (call (.builtin id) (v::us)) (EP X π σ Q) X.xe s
section
variable {X:Cx}{a b:Expr}{ta tb:TE}{pos:Pos}
theorem IxR.or{r r':R2}(h:IxR X r)(h':IxR X r'):IxR X (λx y H Q=>r x y H Q\/r' x y H Q):=by
 intro value slice π s σ H x y v u Q I rx ry q hs;rcases q with q|q
 · exact h value slice π s σ H x y v u Q I rx ry q hs
 · exact h' value slice π s σ H x y v u Q I rx ry q hs
theorem pe_ix{r:R2}(hr:IxR X r)(ha:PE X a ta)(hb:PE X b tb)(hs:MA b):PE X (.Subscript a b pos) (tOp r ta tb):=by
 intro π s σ H Q I h;exact Subscript_ (binT ha hb I h λv u s2 x y H2 I2 rx ry q=>hr a b π s2 σ H2 x y v u Q I2 rx ry q (hs _ _))
def rIxL(K:aD):R2:=λx y H Q=>∃ p xs i v,x = .ref p/\y = .int i/\SqL K H p xs/\atI xs i=some v/\Q v H
def rIxT(K:aD):R2:=λx y H Q=>∃ p xs i v,x = .ref p/\y = .int i/\SqT K H p xs/\atI xs i=some v/\Q v H
def rIxS:R2:=λx y H Q=>∃ z i c,x = .str z/\y = .int i/\z.length<=sizeLine/\atI z.cps.toList i=some c/\Q (.str ⟨#[c]⟩) H
theorem z3z:IxR X (rIxL X.K):=by
 intro value slice π s σ H x y v u Q I rx ry h hs;obtain⟨p,xs,i,z,rfl,rfl,hq,he,q⟩:=h;cases rx;obtain⟨t,rfl⟩:=ry;obtain⟨its,r,pl,hz⟩:=I.list hq;obtain⟨j,h1,h2,h3,h4,h5⟩:=My he;obtain⟨w,ew,rw'⟩:=r.get h2;have hl:=r.length;have hn:=FN;have fin:EP X π σ Q w s:=⟨z,H,I,rw',q⟩;by_cases h0:0<=i
 · have hj:i.toNat=j:=by
    rw[seqIndex_of h0 h5]at h1;exact Option.some.inj h1
   exact item_listR pl.isList h0 (by rfl') (by rw[hj];simpa using ew) fin hs
 · have hj:(i+(its.toArray.size:Int)).toNat=j:=by
    rw[seqIndex_neg (by rfl') h4]at h1;rw[wG,←hl];exact Option.some.inj h1
   exact subscriptTail_builtinR (x:=w) pl.isList.typeIs slot_list_getitem.lookup
    (wpAny_getItem_list_neg (Q:=λr s'=>r=w/\EP X π σ Q r s') pl.isList (by rfl') (by rw[wG]<;>rfl') (by rfl') (by rw[hj];simpa using ew) ⟨rfl,fin⟩) hs
theorem ix_tup:IxR X (rIxT X.K):=by
 intro value slice π s σ H x y v u Q I rx ry h hs;obtain⟨p,xs,i,z,rfl,rfl,hq,he,q⟩:=h;cases rx;obtain⟨t,rfl⟩:=ry;obtain⟨its,r,pl,hz⟩:=I.tuple hq;obtain⟨j,h1,h2,h3,h4,h5⟩:=My he;obtain⟨w,ew,rw'⟩:=r.get h2;have hl:=r.length;have hn:=FN;have fin:EP X π σ Q w s:=⟨z,H,I,rw',q⟩;exact subscriptTail_builtinR (x:=w) pl.typeIs slot_tuple_getitem.lookup
  (getItem_tuple (j:=j) (Q:=λr s'=>r=w/\EP X π σ Q r s') pl (by rfl') (by rfl') (by rw[wG,←hl];exact h1) (by simpa using ew) ⟨rfl,fin⟩) hs
theorem ix_str:IxR X rIxS:=by
 intro value slice π s σ H x y v u Q I rx ry h hs;obtain⟨z,i,c,rfl,rfl,hz,he,q⟩:=h;obtain⟨t,rfl⟩:=rx;obtain⟨t',rfl⟩:=ry;obtain⟨j,h1,h2,h3,h4,h5⟩:=My he;have hl:z.cps.toList.length=z.length:=by simp[Str.length]
 rw[hl]at h1 h4 h5;have hn:=FN;exact tail_any (typeIs_str s z t) slot_str_getitem.lookup (getItem_str (c:=c) (by
  have e1:decide (i < -(2 ^ 63:Int))=false:=decide_eq_false (by rfl');have e2:decide (i≥2 ^ 63)=false:=decide_eq_false (by rfl');rw[e1,e2,Bool.or_false]) (by rw[h1];simpa using h2) ⟨.str ⟨#[c]⟩,H,I.tok _,⟨_,rfl⟩,q⟩) hs
def rIx(K:aD):R2:=λx y H Q=>rIxL K x y H Q\/rIxT K x y H Q\/rIxS x y H Q
theorem ix_seq:IxR X (rIx X.K):=z3z.or (ix_tup.or ix_str)
theorem PV(its:aF)(n j:Nat)(u:Value):Obj.mapSeq (·.setIfInBounds j u) { cls := .type "list",data := .seq its.toArray n }={ cls := .type "list",data := .seq (its.set j u).toArray n }:=by
 simp[Obj.mapSeq]
theorem Inv.lst{π:aB}{σ:St}{H:Hp}{s:Shared}{p:Addr}{xs:List V}(I:Inv X π σ H s)(h:H p=some (.lst xs)):
  ∃(its:aF) (n:Nat),Vals xs its/\s.heap.get? p=some { cls := .type "list",data := .seq its.toArray n }/\xs.length<=sizeLine:=by
 obtain⟨z,its,n,r,e⟩:=I.hok p _ h;exact⟨its,n,r,e,z⟩
theorem Inv.lstUpd{π:aB}{σ:St}{H:Hp}{s:Shared}{p:Addr}{xs ys:List V}{its its':aF}{n n':Nat}{f:Obj->Obj}(I:Inv X π σ H s)(h:H p=some (.lst xs))
  (ho:s.heap.get? p=some { cls := .type "list",data := .seq its.toArray n }) (hf:f { cls := .type "list",data := .seq its.toArray n }={ cls := .type "list",data := .seq its'.toArray n' }) (r:Vals ys its') (hz:ys.length<=sizeLine) (t:Nat) :
  Inv X π σ (upd H p (.lst ys)) { s with heap:=s.heap.update p f,toks:=t }:=by
 have e:(s.heap.update p f).get? p=some { cls := .type "list",data := .seq its'.toArray n' }:=by
  rw[w0F f ho (by rw[hf]<;>rfl),hf]
 refine I.write (x:=p) (e:=p) (by rw[h];trivial) (.inl rfl) (λb u hb q=>(w0v _ _ (Ne.symm hb)).trans q) ⟨_,e⟩ ?_;exact⟨hz,its',n',r,e⟩
def rSetL:V->V->V->Hp->(Hp->Prop)->Prop:=λo i v H Q=>∃ p xs k j,o = .ref p/\i = .int k/\H p=some (.lst xs)/\ixN xs.length k=some j/\Q (upd H p (.lst (xs.set j v)))
theorem Ze:PSet X rSetL:=by
 intro π s σ H o i v ov iv u Q I ro ri rv h;obtain⟨p,xs,k,j,rfl,rfl,hp,hj,q⟩:=h;cases ro;obtain⟨t,rfl⟩:=ri;obtain⟨its,n,r,ho,hz⟩:=I.lst hp;obtain⟨h1,h2,h3,h4⟩:=Wc hj;have hl:=r.length;have hn:=FN;have I':Inv X π σ (upd H p (.lst (xs.set j v))) { s with heap:=s.heap.update p (Obj.mapSeq (·.setIfInBounds j u)) } :=
   I.lstUpd hp ho (PV its n j u) (r.set rv j) (by rw[vq];exact hz) s.toks
 by_cases h0:0<=k
 · have hk:k.toNat=j:=by
    rw[seqIndex_of h0 h4]at h1;exact Option.some.inj h1
   exact PySem.W.ki_setAt ho h0 (by rfl') (by rw[wG,←hl];exact h4) (by rw[hk];exact⟨_,I',q⟩)
 · have hk:(k+(its.toArray.size:Int)).toNat=j:=by
    rw[seqIndex_neg (by rfl') h3]at h1;rw[wG,←hl];exact Option.some.inj h1
   exact PySem.W.ki_setBack ho (by rfl') (by rw[wG,←hl];exact h3) (by rfl') (by rw[hk];exact⟨_,I',q⟩)
theorem MB(lo hi:Option Int)(n:Nat):(sliceBounds lo hi none n).1=((HT.sIx n 0 lo:Nat):Int)/\(sliceBounds lo hi none n).2.1=((HT.sIx n n hi:Nat):Int)/\(sliceBounds lo hi none n).2.2=1:=by
 refine⟨?_,?_,rfl⟩
 · cases lo with
   | none=>simp[sliceBounds,HT.sIx]
   | some i =>
    simp only[sliceBounds,HT.sIx,w13,show(1:Int) > 0 by decide,if_true];by_cases h:i<0
    · simp only[h,if_true]<;>rfl'
    · simp only[h,if_false]<;>rfl'
 · cases hi with
   | none=>simp[sliceBounds,HT.sIx]
   | some i =>
    simp only[sliceBounds,HT.sIx,w13,show(1:Int) > 0 by decide,if_true];by_cases h:i<0
    · simp only[h,if_true]<;>rfl'
    · simp only[h,if_false]<;>rfl'
theorem Ki(its:aF)(lo hi:Option Int):slicePick its.toArray lo hi none=((its.drop (HT.sIx its.length 0 lo)).take (HT.sIx its.length its.length hi-HT.sIx its.length 0 lo)).toArray:=by
 obtain⟨h1,h2,h3⟩:=MB lo hi its.toArray.size;unfold slicePick;rw[h1,h2,h3];simp only[sliceRange_one,pick_run,wG]<;>rfl
def rSlL(K:aD):V->Option Int->Option Int->Hp->VK->Prop:=λx lo hi H Q=>∃ a xs,x = .ref a/\SqL K H a xs/\∀ p,H p=none->Q (.ref p) (upd H p (.lst (cutV xs lo hi)))
theorem z3A:SlR X (rSlL X.K):=by
 intro π s σ H x v vl vu lo hi sl Q I rx hs pl pu h;obtain⟨a,xs,rfl,hx,q⟩:=h;cases rx;obtain⟨its,r,ht,hz⟩:=I.list hx;have hlen:=r.length;refine⟨"list",_,slot_list_getitem.lookup,ht.isList.typeIs,?_⟩;refine wpAny_getItem_list_slice ht.isList hs pl pu .none (by simp) ?_ (by rw[wG]<;>rfl');rw[Ki,←hlen];refine⟨.ref s.heap.objs.size,_,I.laid (t':=s.toks) (o := .lst (cutV xs lo hi)) (λb ob q=>wm _ q) (wB _) ?_,rfl,q _ (I.hok.fresh (wB _))⟩;exact⟨wK (NP xs lo hi) hz,_,0,(r.drop (HT.sIx xs.length 0 lo)).take (HT.sIx xs.length xs.length hi-HT.sIx xs.length 0 lo),wF _ rfl⟩
def Eu:V->Bool
 | .non=>true
 | .bl _=>true
 | .int _=>true
 | .str _=>true
 | _=>false
def eqV:V->V->Bool
 | .non,.non=>true
 | .bl a,.bl b=>a==b
 | .bl a,.int b=>(if a then 1 else 0)==b
 | .int a,.bl b=>a==(if b then 1 else 0)
 | .int a,.int b=>a==b
 | .str a,.str b=>a==b
 | _,_=>false
theorem eqAt_V{A:Around}{s:Shared}{y x:V}{u v:Value}(ry:RelV y u)(rx:RelV x v)(fy:Eu y=true)(fx:Eu x=true):SeqAt.EqAt A s u v (eqV y x):=by
 cases y with
 | non =>
  cases ry;cases x with
  | non=>cases rx;exact SeqAt.EqAt.same _
  | bl b=>cases rx;exact SeqAt.EqAt.none_bool b
  | int b=>obtain⟨t,rfl⟩:=rx;exact SeqAt.EqAt.none_int b t
  | str b=>obtain⟨t,rfl⟩:=rx;exact SeqAt.EqAt.none_str b t
  | _=>exact absurd (show false=true from fx) wL
 | bl a =>
  cases ry;cases x with
  | non=>cases rx;exact SeqAt.EqAt.bool_none a
  | bl b=>cases rx;exact SeqAt.EqAt.bool_bool a b
  | int b=>obtain⟨t,rfl⟩:=rx;exact SeqAt.EqAt.bool_int a b t
  | str b=>obtain⟨t,rfl⟩:=rx;exact SeqAt.EqAt.bool_str a b t
  | _=>exact absurd (show false=true from fx) wL
 | int a =>
  obtain⟨t',rfl⟩:=ry;cases x with
  | non=>cases rx;exact SeqAt.EqAt.int_none a t'
  | bl b=>cases rx;exact SeqAt.EqAt.int_bool a t' b
  | int b=>obtain⟨t,rfl⟩:=rx;exact SeqAt.EqAt.int_int a t' b t
  | str b=>obtain⟨t,rfl⟩:=rx;exact SeqAt.EqAt.int_str a t' b t
  | _=>exact absurd (show false=true from fx) wL
 | str a =>
  obtain⟨t',rfl⟩:=ry;cases x with
  | non=>cases rx;exact SeqAt.EqAt.str_none a t'
  | bl b=>cases rx;exact SeqAt.EqAt.str_bool a t' b
  | int b=>obtain⟨t,rfl⟩:=rx;exact SeqAt.EqAt.str_int a t' b t
  | str b=>obtain⟨t,rfl⟩:=rx;exact SeqAt.EqAt.str_str a t' b t
  | _=>exact absurd (show false=true from fx) wL
 | _=>exact absurd (show false=true from fy) wL
def eqU(x:V)(u:Value):Bool:=match u with
 | .none=>eqV .non x
 | .bool b=>eqV (.bl b) x
 | .int i _=>eqV (.int i) x
 | .str z _=>eqV (.str z) x
 | _=>false
theorem Zf{x y:V}{u:Value}(r:RelV y u)(f:Eu y=true):eqU x u=eqV y x:=by
 cases y with
 | non=>cases r;rfl
 | bl b=>cases r;rfl
 | int i=>obtain⟨t,rfl⟩:=r;rfl
 | str z=>obtain⟨t,rfl⟩:=r;rfl
 | _=>exact absurd (show false=true from f) wL
theorem MC{x:V}:∀{xs:List V} {us:aF},Vals xs us->xs.all Eu=true->us.any (eqU x)=xs.any λy=>eqV y x
 | _,_,.nil,_=>rfl
 | y::xs,u::us,.cons r t,f=>by
  rw[List.all_cons,wN]at f;rw[List.any_cons,List.any_cons,Zf r f.1,MC t f.2]
theorem Il{A:Around}{s:Shared}{x:V}{v:Value}(rx:RelV x v)(fx:Eu x=true):∀{xs:List V} {us:aF},Vals xs us->xs.all Eu=true->∀ u∈us,SeqAt.EqAt A s u v (eqU x u)
 | _,_,.nil,_=>λu hu=>by cases hu
 | y::xs,u::us,.cons r t,f=>λu' hu=>by
  rw[List.all_cons,wN]at f;rcases ww.mp hu with rfl|hu
  · rw[Zf r f.1];exact eqAt_V r rx f.1 fx
  · exact Il rx fx t f.2 u' hu
def inV(x:V)(xs:List V):Bool:=xs.any λy=>eqV y x
def rIn(K:aD)(neg:Bool):R2:=λx y H Q=>∃ p xs,y = .ref p/\(SqL K H p xs\/SqT K H p xs)/\Eu x=true/\xs.all Eu=true/\Q (.bl (if neg then !inV x xs else inV x xs)) H
theorem XA:OpR X (compareOp .In) (rIn X.K false):=by
 intro π s σ H x y v u Q I rx ry h;obtain⟨p,xs,rfl,hq,fx,fs,q⟩:=h;cases ry;rcases hq with hq|hq
 · obtain⟨its,r,pl,hz⟩:=I.list hq;refine SeqAt.in_listAt (eqU x) pl.isList (λw hw=>Il rx fx r fs w (by simpa using hw)) ⟨.bl _,H,I,rfl,?_⟩;rw[show its.toArray.any (eqU x)=its.any (eqU x) by simp,MC r fs];exact q
 · obtain⟨its,r,pl,hz⟩:=I.tuple hq;refine SeqAt.in_tupleAt (eqU x) pl (λw hw=>Il rx fx r fs w (by simpa using hw)) ⟨.bl _,H,I,rfl,?_⟩;rw[show its.toArray.any (eqU x)=its.any (eqU x) by simp,MC r fs];exact q
theorem AZ:Et X (.builtin "len") (λxs H Q=>∃ p ys,xs=[.ref p]/\(SqL X.K H p ys\/SqT X.K H p ys)/\Q (.int ys.length) H):=by
 intro π s σ H xs us Q I r h;obtain⟨p,ys,rfl,hq,q⟩:=h;obtain⟨u,rfl,rx⟩:=Ks r;cases rx;have hn:=FN;rcases hq with hq|hq
 · obtain⟨its,r',pl,hz⟩:=I.list hq;have hlen:=r'.length;exact Calls.call_len_list pl.isList (by simp only[wG]<;>rfl') ⟨.int ys.length,H,I.tok _,⟨s.toks+1,by rw[wG,hlen]⟩,q⟩
 · obtain⟨its,r',pl,hz⟩:=I.tuple hq;have hlen:=r'.length;exact len_tuple pl (by simp only[wG]<;>rfl') ⟨.int ys.length,H,I.tok _,⟨s.toks+1,by rw[wG,hlen]⟩,q⟩
theorem Ev:Et X (.type "list") (λxs H Q=>∃ p ys,xs=[.ref p]/\(SqL X.K H p ys\/SqT X.K H p ys)/\∀ l,H l=none->Q (.ref l) (upd H l (.lst ys))):=by
 intro π s σ H xs us Q I r h;obtain⟨p,ys,rfl,hq,q⟩:=h;obtain⟨u,rfl,rx⟩:=Ks r;cases rx;have fin:∀(its:aF),Vals ys its->ys.length<=sizeLine->∀(h':Heap) (c':Nat),(∀ b o',s.heap.get? b=some o'->h'.get? b=some o') ->
    h'.get? s.heap.objs.size=some { cls := .type "list",dict:=none,data := .seq its.toArray c',slots:=#[] }->EP X π σ Q (.ref s.heap.objs.size) { s with heap:=h' }:=λits r' hz h' c' kp e =>
   ⟨.ref s.heap.objs.size,_,I.laid (t':=s.toks) kp (wB _) (show ObjOk X.prog X.w _ h' _ (.lst ys) from⟨hz,its,c',r',e⟩),rfl,q _ (I.hok.fresh (wB _))⟩
 rcases hq with hq|hq
 · obtain⟨its,r',pl,hz⟩:=I.list hq;have hlen:=r'.length;obtain⟨o,ho,hc,n,hd⟩:=pl.isList;exact call_list_seq p (.inl rfl) ho hc hd (λh' c' kp e=>fin its r' hz h' c' kp e) (by simp only[wG]<;>rfl')
 · obtain⟨its,r',pl,hz⟩:=I.tuple hq;have hlen:=r'.length;obtain⟨o,ho,hc,n,hd⟩:=pl;exact call_list_seq p (.inr rfl) ho hc hd (λh' c' kp e=>fin its r' hz h' c' kp e) (by simp only[wG]<;>rfl')
theorem DE:Et X (.type "tuple") (λxs H Q=>∃ p ys,xs=[.ref p]/\((SqL X.K H p ys/\∀ l,H l=none->Q (.ref l) (upd H l (.tup ys)))\/(SqT X.K H p ys/\Q (.ref p) H))):=by
 intro π s σ H xs us Q I r h;obtain⟨p,ys,rfl,h⟩:=h;obtain⟨u,rfl,rx⟩:=Ks r;cases rx;rcases h with⟨hq,q⟩|⟨hq,q⟩
 · obtain⟨its,r',pl,hz⟩:=I.list hq;have hlen:=r'.length;refine call_tuple_list pl.isList (λh' kp=>?_) (by simp only[wG]<;>rfl');have I1:Inv X π σ H { s with heap:=h' }:=I.kept (t':=s.toks) kp;have I2:Inv X π σ (upd H h'.objs.size (.tup ys)) { s with heap:=h'.push { cls := .type "tuple",data := .seq its.toArray } } :=
    I1.laid (t':=s.toks) (λb o e=>wm _ e) (wB _) (show ObjOk X.prog X.w _ _ _ (.tup ys) from⟨hz,its,r',IsTup.new _ _⟩)
   exact⟨.ref h'.objs.size,_,I2,rfl,q _ (I1.hok.fresh (wB _))⟩
 · obtain⟨its,r',pl,hz⟩:=I.tuple hq;exact call_tuple_same pl ⟨.ref p,H,I,rfl,q⟩
def tyV(K:aD)(T:String)(x:V)(H:Hp):Prop:=match x with
 | .str _=>T = "str"
 | .int _=>T = "int"
 | .ref p=>(T = "list" /\ ∃ xs,SqL K H p xs)\/(T = "tuple" /\ ∃ o,K.lookup p=some o/\o.cls = .type "tuple" /\ o.dict=none) \/
  (T = "dict" /\ ((∃ kvs,H p=some (.dK kvs))\/∃ kvs,H p=some (.dT kvs)))\/(T = "set" /\ ∃ S n,H p=some (.set S n))
 | _=>False
theorem tyV_is{π:aB}{σ:St}{H:Hp}{s:Shared}{T:String}{x:V}{v:Value}(I:Inv X π σ H s)(r:RelV x v)(ty:tyV X.K T x H):
  s.TypeIs v T/\∀ a,v = .ref a->∃ ob,s.heap.get? a=some ob/\ob.dict=none:=by
 cases x with
 | str z =>
  obtain⟨t,rfl⟩:=r;cases (show T = "str" from ty);exact⟨typeIs_str s z t,λ_ e=>nomatch e⟩
 | int i =>
  obtain⟨t,rfl⟩:=r;cases (show T = "int" from ty);exact⟨typeIs_int s i t,λ_ e=>nomatch e⟩
 | ref p =>
  cases r;rcases ty with⟨rfl,xs,hq⟩|⟨rfl,o,hk,hc,hd⟩|⟨rfl,hk⟩|⟨rfl,S,n,hk⟩
  · obtain⟨its,_,pl,_⟩:=I.list hq;refine⟨pl.isList.typeIs,λa e=>?_⟩;cases e;obtain⟨o,n,e,c,hd,_⟩:=pl;exact⟨o,e,hd⟩
  · refine⟨⟨o,I.kIn p o hk,hc⟩,λa e=>?_⟩;cases e;exact⟨o,I.kIn _ o hk,hd⟩
  · have z:∃ o,s.heap.get? p=some o/\o.ExactDict:=by
     rcases hk with⟨kvs,hk⟩|⟨kvs,hk⟩
     · obtain⟨_,_,_,_,o,_,_,e,ex,_⟩:=I.hok p _ hk;exact⟨o,e,ex⟩
     · obtain⟨_,_,_,_,o,_,_,e,ex,_⟩:=I.hok p _ hk;exact⟨o,e,ex⟩
    obtain⟨o,e,ex⟩:=z;refine⟨⟨o,e,ex.1⟩,λa e2=>?_⟩;cases e2;exact⟨o,e,ex.2.1⟩
  · obtain⟨o,_,_,_,e,ex,_⟩:=I.hok p _ hk;refine⟨⟨o,e,ex.1⟩,λa e2=>?_⟩;cases e2;exact⟨o,e,ex.2.1⟩
 | _=>exact False.elim ty
def tBM(K:aD)(T:String)(r:V->List V->Hp->VK->Prop)(to:TE)(t:TA):TE:=λσ H Q=>to σ H λx H1=>tyV K T x H1/\t σ H1 λxs H2=>r x xs H2 Q
variable {o e:Expr}{es:List Expr}{to:TE}{t:TA}{name:Str}{apos cpos:Pos}{T id:String}{r:V->List V->Hp->VK->Prop}
theorem pe_bm(pa:PlainAttrs T)(slot:Slot T name id)(hty:typeOf (.builtin id)=pure (.type "method_descriptor"))(hm:MtR X id r)(ho:PE X o to)(ha:PA X (e::es) t)
  (hbase:attributeBase o name X.env (eval o X.env)=eval o X.env:=by rfl)
  (hfew:((backTo cpos (starEach (e::es) X.env)).all (fun x=>!x.1)&&(backToKw cpos (keywordEach [] X.env)).all (fun x=>x.1.isSome)
   && decide ((e::es).length+([]:List Keyword).length+(if([]:List Keyword).isEmpty then 0 else 1)<30))=true:=by rfl)
  (hline:(apos.endLine==cpos.line)=true:=by rfl) (hs:starEach (e::es) X.env=(false,eval e X.env)::starEach es X.env:=by rfl) (hplain:(backTo cpos (starEach es X.env)).any (·.1)=false:=by rfl) :
  PE X (.Call (.Attribute o name apos) (e::es) [] cpos) (tBM X.K T r to t):=by
 intro π s σ H Q I h;refine wpAny_Call_method_late hbase hfew hline rfl (thn (ho π s σ H _ I h) ?_);rintro v s1 ⟨x,H1,I1,r1,ty,q1⟩;obtain⟨h1,h2⟩:=tyV_is I1 r1 ty;refine⟨T,id,pa,slot,hty,h1,h2,?_⟩;have hA:=ha cpos π s1 σ H1 _ I1 q1;rw[hs]at hA ⊢;refine Calls.callWith_builtin (by show(false||(backTo cpos (starEach es X.env)).any (·.1))=false;rw[hplain]<;>rfl) (Calls.evalArgs_plain ?_);exact thn hA λus s2⟨vs,H2,I2,r2,q2⟩=>hm π s2 σ H2 x vs v us Q I2 r1 r2 q2
end
end L2
namespace L2
open PySem PySem.Spec PyProof.Rows
def MtM(X:Cx)(id:String)(r:V->List V->Hp->VK->Prop):Prop :=
 ∀(π:aB) (s:Shared) (σ:St) (H:Hp) (x:V) (xs:List V) (v:Value) (us:aF) (Q:VK),Inv X π σ H s->RelV x v->Vals xs us->r x xs H Q ->
  wpAny (model X.prog X.w) X.A (call (.builtin id) (v::us)) (EP X π σ Q) X.xe s
theorem Vals.zero:∀{us:aF},Vals [] us->us=[]
 | _,.nil=>rfl
theorem Vals.uncons{x:V}{xs:List V}{us:aF}(h:Vals (x::xs) us):∃ u vs,us=u::vs/\RelV x u/\Vals xs vs:=by
 cases h with
 | cons r t=>exact⟨_,_,rfl,r,t⟩
theorem Vals.one{x:V}{us:aF}(h:Vals [x] us):∃ u,us=[u]/\RelV x u:=by
 obtain⟨u,vs,e,r,t⟩:=h.uncons;rw[t.zero]at e;exact⟨u,e,r⟩
theorem Vals.two{x y:V}{us:aF}(h:Vals [x,y] us):∃ u v,us=[u,v]/\RelV x u/\RelV y v:=by
 obtain⟨u,vs,e,r,t⟩:=h.uncons;obtain⟨v,e2,q⟩:=t.one;rw[e2]at e;exact⟨u,v,e,r,q⟩
section
variable {X:Cx}{π:aB}{σ:St}{H:Hp}{s:Shared}{l b:Addr}{xs ys zs:List V}
theorem Inv.lset{its its':aF}{n:Nat}{f:Array Value->Array Value}{t':Nat}(I:Inv X π σ H s)(hH:H l=some (.lst xs))
  (e:s.heap.get? l=some { cls := .type "list",data := .seq its.toArray n }) (hf:f its.toArray=its'.toArray) (hv:Vals ys its') (hz:ys.length<=sizeLine) :
  Inv X π σ (upd H l (.lst ys)) { s with heap:=s.heap.update l (Obj.mapSeq f),toks:=t' }:=by
 have q:=PySem.IsL.update e f;rw[hf]at q;refine I.write (x:=l) (e:=l) (by rw[hH];exact trivial) (.inl rfl) (λb' u hb hu=>(w0v s.heap (Obj.mapSeq f) (Ne.symm hb)).trans hu) ⟨_,q⟩ ?_;exact⟨hz,its',_,hv,q⟩
theorem Inv.lnew{its:aF}{t':Nat}(I:Inv X π σ H s)(hv:Vals ys its)(hz:ys.length<=sizeLine):
  Inv X π σ (upd H s.heap.objs.size (.lst ys)) { s with heap:=s.heap.push { cls := .type "list",data := .seq its.toArray },toks:=t' } :=
 I.laid (λ_ _ q=>wm _ q) (wB _) ⟨hz,its,0,hv,wF _ rfl⟩
theorem Inv.fresh(I:Inv X π σ H s):H s.heap.objs.size=none:=I.hok.fresh (wB _)
theorem Inv.lstM(I:Inv X π σ H s)(hH:H l=some (.lst xs)):xs.length<=sizeLine/\∃(its:aF) (n:Nat),Vals xs its/\xs.length=its.length/\s.heap.get? l=some { cls := .type "list",data := .seq its.toArray n }:=by
 obtain⟨z,its,n,r,e⟩:=I.hok l _ hH;exact⟨z,its,n,r,r.length,e⟩
end
section
variable {X:Cx}
def z3B:V->List V->Hp->VK->Prop:=λx vs H Q=>∃ l xs y,x = .ref l/\vs=[y]/\H l=some (.lst xs)/\xs.length<sizeLine/\Q .non (upd H l (.lst (xs++[y])))
theorem Kz:MtM X "list.append" z3B:=by
 intro π s σ H x vs v us Q I rx rv h;obtain⟨l,xs,y,rfl,rfl,hH,hz,q⟩:=h;cases rx;obtain⟨u,rfl,ru⟩:=rv.one;obtain⟨z,its,n,r,hl,e⟩:=I.lstM hH;refine call_meets F.slot_list_append ⟨_,e,rfl⟩ F.entry_list_append (F.args_list_append_2 _ _) (PySem.list_append l its.toArray n u (by rw[wG];rfl')) ⟨e,?_⟩;refine⟨.non,_,I.lset (its':=its++[u]) hH e (by simp) (r.append (.cons ru .nil)) ?_,rfl,q⟩;rw[wD,vZ];rfl'
def rCat:R2:=λx y H Q=>∃ l b xs zs,x = .ref l/\y = .ref b/\H l=some (.lst xs)/\H b=some (.lst zs)/\xs.length+zs.length<=sizeLine/\∀ p,H p=none->Q (.ref p) (upd H p (.lst (xs++zs)))
theorem op_cat:OpR X (binaryOp .Add) rCat:=by
 intro π s σ H x y v u Q I rx ry h;obtain⟨l,b,xs,zs,rfl,rfl,hH,hB,hz,q⟩:=h;cases rx;cases ry;obtain⟨z,its,n,r,hl,e⟩:=I.lstM hH;obtain⟨z2,its2,n2,r2,hl2,e2⟩:=I.lstM hB;refine PySem.P.add_list e e2 ?_ (by rw[wG,wG];rfl');have ea:its.toArray++its2.toArray=(its++its2).toArray:=by simp
 rw[ea];exact⟨.ref _,_,I.lnew (t':=s.toks) (r.append r2) (by rw[wD];rfl'),rfl,q _ I.fresh⟩
end
section
variable {prog:Program}{w:World}{A:Around}{E:aC}{s:Shared}
end
section
variable {X:Cx}
end
end L2
namespace Att
open PySem PySem.W PySem.Calls PyProof.Rows
theorem HK{P:Params}{h:Heap}:∀(ns:aH) (vs:aF),WellAll P h vs (ns.map WData.int)->IntsAre vs ns:=by
 intro ns
 induction ns with
 | nil =>
  intro vs w;rw[w0U]at w;cases w;exact .nil
 | cons n ns ih =>
  intro vs w;rw[wo]at w;cases w with
  | cons a b =>
   cases a;exact .cons _ _ (ih _ b)
theorem XB{l:OpenLaw}{n:Nat}(hn:l.most=some n){P:Params}{h:Heap}{args:List WData}{vals:aF}
  (hpre:l.row.toRowW.claim.pre args=true) (hwl:WellAll P h vals args) :
  ∃ a vs ns,vals=[Value.ref a]/\args=[WData.list (ns.map WData.int)]/\h.get? a=some { cls := .type "list",data := .seq vs.toArray }/\IntsAre vs ns/\ns.length<=n:=by
 have hsh:WShape.hasAll [] args [.list .int]=true:=(pre_splitW hpre).1;have hc:l.pre.holds [] { args:=args }=true:=(pre_splitW hpre).2;obtain⟨d,r,rfl,h1,h2⟩:=hasAllW_cons hsh;obtain rfl:=hasAllW_nil h2;obtain⟨xs,rfl,h3⟩:=hasW_list h1;obtain⟨ns,rfl⟩:=items_int h3;have hlen:ns.length<=n:=by
  unfold OpenLaw.pre at hc;have h4:(WTm.not (.lt (.lit (.int (n:Int))) (.len (.arg 0)))).holds [] { args:=[.list (ns.map .int)] }=true:=by
   have h4:=(holds_andW hc).1;rw[hn]at h4;exact h4
  have h5:=condW_of h4 (w_not (w_lt w_lit (w_len_list (w_arg rfl))));rw[wn]at h5;refine vK λq=>?_;have q':(n:Int)<((ns.length:Nat):Int):=by rfl'
  first
   | (rw[decide_eq_true q']at h5;exact absurd h5 (by decide))
   | (simp at h5;rfl')
 cases hwl with
 | cons w1 w2 =>
  cases w2;cases w1 with
  | list ho hall=>exact⟨_,_,ns,rfl,rfl,ho,HK ns _ hall,hlen⟩
theorem XC(l:OpenLaw)(args:List WData):l.row.toRowW.claim.post args (.bool true) args=true :=
 postW_of (r:=l.row.toRowW) (X:=(true==true))
  (show WShape.has [] (.bool true) .bool=true by first|rfl|decide|simp[WShape.has,WShape.arms,WShape.armsAll])
  (show(WTm.eq .res (.lit (.bool true))).value [] { args:=args,res:=some (.bool true),after:=args }=some (.bool (true==true))from w_eq_bool (w_res rfl) w_lit) rfl
theorem attach_call{l:OpenLaw}{n:Nat}{q:Program}{loose:List Str}{XP:(aE)->Heap->Prop}{YP:World->Heap->Prop}{d:DefRec}
  (hn:l.most=some n) (hdf:d.params.defaults=[])
  (call:∀(w:World) (s₀ s₁:Shared) (mg mb:Str→Option Value) (fa:Addr) (o:Obj) (pm cd doc:Value) (a:Addr) (vs:List Value) (ns:List Int),
   Ground q loose [] XP w s₀ mg mb s₁.heap->YP w s₁.heap ->
   s₁.heap.get? fa=some o->o.data = .func (docDef d.name d.params d.body d.scope pm cd doc)->s₁.heap.CodeRec cd d.name->mg d.name=some (.ref fa) ->
   s₁.heap.get? a=some { cls := .type "list",data := .seq vs.toArray }->IntsAre vs ns->ns.length<=n->s₁.gens=#[] ->
   codeAny (model l.prog w) callerA (.call (.ref fa) ⟨[.ref a],[]⟩) (λr s'=>r = .ok (.ret (.bool true))/\OldK s₁.heap s'.heap/\s'.os=s₁.os/\AllBare s'.gens) s₁) :
  WalkO q loose XP YP l.row.toRowW d [] (λf vs=>PySem.call f vs):=by
 intro w s₀ s₁ mg mb G Y fa o pm cd doc dV kV ho hd hcd hD hmg hg args vals as hpre hlay hrd hwl hlo;obtain rfl:dV = .none:=Dflts.none hD hdf;obtain rfl:kV = .none:=Dflts.noKw hD;obtain⟨a,vs,ns,rfl,rfl,hobj,hints,hlen⟩:=XB hn hpre hwl;refine enter_call (codeAny_mono (call w s₀ s₁ mg mb fa o pm cd doc a vs ns G Y ho (fd_plain hd) hcd hmg hobj hints hlen hg) λr s' hq=>?_);obtain⟨rfl,h2,h3,h4⟩:=hq;exact⟨.inl ⟨.bool true,.bool true,[],rfl,λ_=>rfl,.bool true,XC l _,λ_=>⟨List.Pairwise.nil,λ_ hm=>(nomatch hm)⟩⟩,h2,h3,h4⟩
section
variable {prog:Program}{w:World}{A:Around}{E:aC}{s:Shared}{K:Frag}
end
end Att
namespace L2
open PySem PySem.Spec PyProof.Rows
theorem KA:∀{vs:aF} {ns:aH},IntsAre vs ns->Vals (ns.map V.int) vs
 | _,_,.nil => .nil
 | _,_,.cons n t h => .cons ⟨t,rfl⟩ (KA h)
def Only(H:Hp):Prop:=∀ b,H b=none\/∃ o xs,H b=some (.frz o (.lst xs))
theorem Zg{P:Program}{w:World}{K:aD}{mg mb:aE}{CX:CXT}{k:Nat}{fa a:Addr}{fd:FuncData}{x:Str}{sp:Sp}{s₁:Shared}{vs:aF}{ns:aH}
  (KX:K.In s₁.heap) (hns:s₁.heap.Ns mainGlobals mg) (hb:s₁.heap.Ns builtinsNs mb) (hbb:∀ x:Str,x ≠ "__name__" -> mb x=bootBuiltins x) (hlim:s₁.heap.NoLimit) (hg:s₁.gens=#[])
  (ha:s₁.heap.get? a=some { cls := .type "list",data := .seq vs.toArray }) (hi:IntsAre vs ns) (hl:ns.length<=sizeLine) (hr:Room k callerA)
  (F:∀ base:Heap,K.In base->base.Ns mainGlobals mg->FnOk P w K mg base CX k fa fd [x] sp) (hbind:∀(s:Shared) (u:Value),BindsTo s fd ⟨[u],[]⟩ [(x,u)])
  (hsp:∀ H:Hp,Only H->SqL K H a (ns.map V.int)->sp [.ref a] H (λv _=>v = .bl true) λ_ _ _=>False)
  (hCX:∀ H e s',CX [] H s₁ (λ_ _ _=>False) e s'->False) :
  codeAny (model P w) callerA (.call (.ref fa) ⟨[.ref a],[]⟩) (λr s'=>r = .ok (.ret (.bool true))/\OldK s₁.heap s'.heap/\s'.os=s₁.os/\AllBare s'.gens) s₁:=by
 have rv:=KA hi;have lenV:=hi.length
 have core:∀ H:Hp,Only H→SqL K H a (ns.map V.int)→HOk P w H s₁.heap→(∀ b,H b≠none→b=a)→(H a≠none→K.lookup a=none) →
    codeAny (model P w) callerA (.call (.ref fa) ⟨[.ref a],[]⟩) (λr s'=>r = .ok (.ret (.bool true))/\OldK s₁.heap s'.heap/\s'.os=s₁.os/\AllBare s'.gens) s₁:=by
  intro H hO hS hok hA hK;have base_of:∀{b:Addr} {o:Obj},s₁.heap.get? b=some o->H b=none->(hidT s₁.heap H).get? b=some o:=λe n=>YR e n;have noA:∀{b:Addr} {o:Obj} {es:Array DictEntry} {ep:Nat},s₁.heap.get? b=some o->o.data = .dict es ep->H b=none:=λ{b o es ep} e d=>by
    cases q:H b with
    | none=>rfl
    | some u =>
      have e':b=a:=hA b (by rw[q];simp);subst e';rw[ha]at e;cases e;have d':Data.seq vs.toArray _=Data.dict es ep:=d;cases d'
  have nsK:∀{b:Addr} {m:aE},s₁.heap.Ns b m->(hidT s₁.heap H).Ns b m:=λ{b m} ⟨o,es,ep,e,d,r⟩=>⟨o,es,ep,base_of e (noA e d),d,r⟩;have hKb:K.In (hidT s₁.heap H):=λb o e=>base_of (KX b o e) (by
    cases q:H b with
    | none=>rfl
    | some u =>
      have e':b=a:=hA b (by rw[q];simp);subst e';rw[hK (by rw[q];simp)]at e;cases e)
  have hM:Mod K mg (hidT s₁.heap H):=⟨hKb,nsK hns,⟨mb,nsK hb,hbb⟩,let ⟨mc,h1,h2⟩:=hlim;⟨mc,nsK h1,h2⟩⟩;have e0:Env0 P w K mg (hidT s₁.heap H) callerA [] s₁ H:=⟨rfl,hM,λb o e=>z3l e,Nat.le_of_eq (Xs _ _),trivial,λb hb=>absurd (show b∈([]:List Addr)from hb) (by simp),hok,.of_eq hg⟩;refine codeAny_mono ((F _ hKb (nsK hns)).run callerA [] s₁ H ⟨[.ref a],[]⟩ [.ref a] [.ref a] _ _ hr e0 (hbind s₁ (.ref a)) (.cons rfl .nil) (hsp H hO hS)) λr s' h=>?_;cases r with
  | error e=>exact(hCX H e s' h).elim
  | ok fl =>
    cases fl with
    | next=>exact False.elim h
    | brk=>exact False.elim h
    | cont=>exact False.elim h
    | ret u =>
      obtain⟨v,H',os,bare,un,hok',r',q⟩:=h;have q':v = .bl true:=q;subst q';obtain rfl:u=Value.bool true:=r';refine⟨rfl,OldK.of_keep λb o e=>?_,os,bare⟩;cases q:H b with
      | none=>exact un.keep b o e q (by intro z;exact absurd (show b∈([]:List Addr)from z) (by simp)) (by simp)
      | some u =>
       rcases hO b with z|⟨ob,xs,z⟩
       · rw[q]at z;cases z
       · have z2:=un.frzs b ob _ z;obtain⟨e1,_⟩:=hok b _ z;obtain⟨e2,_⟩:=hok' b _ z2;rw[e]at e1;cases e1;exact e2
 cases hk:K.lookup a with
 | some o =>
  have e:=KX a o hk;rw[ha]at e;cases e;refine core (λ_=>none) (λ_ => .inl rfl) (.inr ⟨_,vs.toArray,_,hk,rfl,rfl,rfl,by rw[wG,lenV];exact hl,by simpa using rv⟩) (λb u z=>by have z':(none:Option HO)=some u:=z;cases z') (λb z=>absurd rfl z) λz=>absurd rfl z
 | none =>
  refine core (λb=>if b=a then some (.frz { cls := .type "list",data := .seq vs.toArray } (.lst (ns.map V.int))) else none) (λb=>?_) (.inl (.inr ⟨{ cls := .type "list",data := .seq vs.toArray },if_pos rfl⟩)) (λb u z=>?_) (λb z=>?_) λ_=>hk
  · by_cases hb:b=a
    · exact .inr ⟨_,_,if_pos hb⟩
    · exact .inl (if_neg hb)
  · by_cases hb:b=a
    · have z':=(if_pos hb).symm.trans z;cases z';subst hb;exact⟨ha,by rw[wn];exact hl,vs,_,rv,ha⟩
    · have z':=(if_neg hb).symm.trans z;cases z'
  · by_cases hb:b=a
    · exact hb
    · exact absurd (if_neg hb) z
end L2
namespace L2
open PySem PySem.Spec PyProof.Rows
theorem z3C{l:PySem.W.OpenLaw}{n k:Nat}{q:Program}{loose:List Str}{XP:(aE)->Heap->Prop}{YP:World->Heap->Prop}{d:DefRec}{K:Params->aD}{CX:World->CXT}{sp:World->Sp}{x:Str}
  (hn:l.most=some n) (hn2:n<=sizeLine) (hdf:d.params.defaults=[]) (hr:Room k callerA)
  (hY:∀(w:World) (h:Heap),YP w h->(K w.params).In h)
  (F:∀(w:World) (mg:Str→Option Value) (fa:Addr) (h:Heap),(K w.params).In h→h.Ns mainGlobals mg→mg d.name=some (.ref fa) →
   ∃ fd:FuncData,(∀(s:Shared) (u:Value),BindsTo s fd ⟨[u],[]⟩ [(x,u)]) /\
    ∀ base:Heap,(K w.params).In base->base.Ns mainGlobals mg->FnOk l.prog w (K w.params) mg base (CX w) k fa fd [x] (sp w))
  (hsp:∀(w:World) (H:Hp) (a:Addr) (ns:aH),ns.length<=n->Only H->SqL (K w.params) H a (ns.map V.int)->sp w [.ref a] H (λv _=>v = .bl true) λ_ _ _=>False)
  (hCX:∀(w:World) (H:Hp) (s:Shared) (e:Value) (s':Shared),CX w [] H s (λ_ _ _=>False) e s'->False) :
  PySem.W.WalkO q loose XP YP l.row.toRowW d [] (λf vs=>PySem.call f vs):=by
 refine Att.attach_call hn hdf λw s₀ s₁ mg mb fa o pm cd doc a vs ns G Y ho hd hcd hmg hobj hints hlen hg=>?_;have KX:=hY w _ Y;obtain⟨fd,hb,hF⟩:=F w mg fa _ KX G.T.g hmg;exact Zg KX G.T.g G.T.b G.T.builtins G.T.nolimit hg hobj hints (wK hlen hn2) hr hF hb (λH hO hS=>hsp w H a ns hlen hO hS) λH e s'=>hCX w H s₁ e s'
end L2
namespace L2
open PySem PySem.Spec PyProof.Rows
def T0(s:Stmt):Arguments:=match s with
 | .FunctionDef _ a _ _ _ _ _ _ _ _=>a
 | _=>{ posonlyargs:=[],args:=[],vararg:=none,kwonlyargs:=[],kw_defaults:=[],kwarg:=none,defaults:=[] }
def K8(s:Stmt):List Stmt:=match s with
 | .FunctionDef _ _ b _ _ _ _ _ _ _=>b
 | _=>[]
def i0(s:Stmt):Scope:=match s with
 | .FunctionDef _ _ _ _ _ _ sc _ _ _=>sc
 | _=>{ kind := .function,names:=[],isGenerator:=false,isCoroutine:=false }
abbrev CX0:CXT:=λ_ _ _ _ _ _=>False
abbrev E0:XK:=λ_ _ _=>False
theorem pass0{X:Cx}:Mx CX0 X E0:=λ_ _ _ _ _ _ _ h=>h.elim
structure Fun(K:aD)(x qual:Str)(st:Stmt)(f:Addr)(fd:FuncData):Prop where
 ex:∃(oc:Value) (od:Option Addr) (kV doc pm:Value) (an:Option Addr) (cdv ct:Value) (osl:Array (Option Value)),
  fd=PySem.W.fnOf x qual (T0 st) (K8 st) (i0 st) .none kV doc pm an cdv ct/\K.lookup f=some ⟨oc,od,.func fd,osl⟩/\PySem.W.codeIn K cdv qual=true
 kp:PySem.W.keepIn K (.ref f)=true
section
variable {P:Program}{w:World}{K:aD}{mg:aE}{base:Heap}
theorem Fun.ok{x qual:Str}{st:Stmt}{f:Addr}{fd:FuncData}{N ps:List Str}{k:Nat}{sp:Sp}(F:Fun K x qual st f fd)(S:FnScope N ps (i0 st))(len:∀ vs H Q E,sp vs H Q E->vs.length=ps.length)
  (hbody:∀(cdv:Value) (A:Around) (outer:List Env) (s:Shared) (H:Hp) (vs:List V) (Q:VK) (E:XK),Room k (A.deeper (envOfC qual (i0 st) s.heap.objs.size f cdv))→sp vs H Q E →
   ∃ t,PSs (cxOf CX0 P w K mg base N qual (i0 st) f cdv A outer s H E).nox (K8 st) t/\t { nx:=λ_ H'=>Q .non H',rt:=Q } (start N vs) H):FnOk P w K mg base CX0 (k+1) f fd ps sp:=by
 obtain⟨oc,od,kV,doc,pm,an,cdv,ct,osl,rfl,lk,hcd⟩:=F.ex;refine fn_of lk hcd S len λA outer s H vs Q E hr hsp=>?_;obtain⟨t,h,q⟩:=hbody cdv A outer s H vs Q E hr hsp;exact⟨t,h.nox,q⟩
theorem Fun.binds{x qual:Str}{st:Stmt}{f:Addr}{fd:FuncData}{ps:List Str}(F:Fun K x qual st f fd)
  (h:∀(kV doc pm:Value) (an:Option Addr) (cdv ct:Value) (us:aF),us.length=ps.length->bindArgs (PySem.W.fnOf x qual (T0 st) (K8 st) (i0 st) .none kV doc pm an cdv ct) ⟨us,[]⟩=pure (ps.zip us)):Binds K fd ps []:=by
 obtain⟨oc,od,kV,doc,pm,an,cdv,ct,osl,rfl,lk,hcd⟩:=F.ex;exact .all (h kV doc pm an cdv ct)
theorem Zh{x qual:Str}{st:Stmt}{f:Addr}{oc:Value}{od an:Option Addr}{osl:Array (Option Value)}{kV doc pm cdv ct:Value}(l:K.lookup f=some ⟨oc,od,.func (PySem.W.fnOf x qual (T0 st) (K8 st) (i0 st) .none kV doc pm an cdv ct),osl⟩)
 (c:PySem.W.codeIn K cdv qual=true) (k:PySem.W.keepIn K (.ref f)=true):Fun K x qual st f (PySem.W.fnOf x qual (T0 st) (K8 st) (i0 st) .none kV doc pm an cdv ct):=⟨⟨oc,od,kV,doc,pm,an,cdv,ct,osl,rfl,l,c⟩,k⟩
end
section
variable {X:Cx}
end
def Same(H H':Hp):Prop:=∀ b o,H b=some o->H' b=some o
theorem Same.refl(H:Hp):Same H H:=λ_ _ h=>h
theorem Same.trans{H H1 H2:Hp}(a:Same H H1)(b:Same H1 H2):Same H H2:=λc o h=>b c o (a c o h)
theorem Same.free{H H':Hp}(e:Same H H'){l:Addr}(h:H' l=Option.none):H l=Option.none:=by
 cases q:H l with
 | none=>rfl
 | some o =>
  rw[e l o q]at h;cases h
theorem Same.seq{K:aD}{H H':Hp}{a:Addr}{xs:List V}(e:Same H H')(h:SqL K H a xs):SqL K H' a xs:=by
 rcases h with(h|⟨o,h⟩)|h
 · exact .inl (.inl (e _ _ h))
 · exact .inl (.inr ⟨o,e _ _ h⟩)
 · exact .inr h
end L2

end
section
namespace L2
open PySem PySem.Spec PyProof.Rows
theorem Zi{x:Str}{lo:Nat}:∀(names:List (Str×NameKind)) (n:Nat) (acc:List (Str×Addr)) (c:Addr),lo<=n->(∀ c,acc.lookup x=some c->lo<=c)->(cellsFrom n names acc).lookup x=some c->lo<=c
 | [],_,_,_,_,h,e=>h _ e
 | (y,k)::r,n,acc,c,hn,h,e=>by
  unfold cellsFrom at e;split at e
  · refine Zi r (n+1) _ c (w0h hn) (λc' e'=>?_) e;rw[wX]at e';split at e'
    · cases e';exact hn
    · exact h c' e'
  · exact Zi r n acc c hn h e
theorem PX{x:Str}:∀(names:List (Str×NameKind)) (n:Nat) (acc:List (Str×Addr)) (c:Addr),names.lookup x=some .cell->(cellsFrom n names acc).lookup x=some c->n<=c
 | [],_,_,_,h,_=>by cases h
 | (y,k)::r,n,acc,c,h,e=>by
  rw[wX]at h;unfold cellsFrom at e;cases hb:x==y with
  | true =>
   rw[hb]at h;have hk:k = .cell:=by cases h;rfl
   subst hk;rw[if_pos (show(NameKind.cell==NameKind.cell)=true from rfl)]at e;refine Zi r (n+1) _ c (Nat.le_succ _) (λc' e'=>?_) e;rw[wX,hb]at e';cases e';exact wB _
  | false =>
   rw[hb]at h;split at e
   · exact uQ (PX r (n+1) _ c h e)
   · exact PX r n acc c h e
theorem PY{x:Str}:∀(names:List (Str×NameKind)) (n:Nat) (acc:List (Str×Addr)),(∀ y∈names,y.1=x->y.2 ≠ .cell)->(cellsFrom n names acc).lookup x=acc.lookup x
 | [],_,_,_=>rfl
 | (y,k)::r,n,acc,h=>by
  unfold cellsFrom;have hr:∀ y∈r,y.1=x->y.2 ≠ .cell:=λz hz=>h z (wc _ hz);split
  · rename_i hk;rw[PY r (n+1) _ hr,wX];have hne:(x==y)=false:=by
     cases hb:x==y with
     | false=>rfl
     | true=>exact absurd (beq_iff_eq.mp hk) (h (y,k) wf (beq_iff_eq.mp hb).symm)
    rw[hne]
  · exact PY r n acc hr
theorem PZ:∀(names:List (Str×NameKind)) (n:Nat) (acc:List (Str×Addr)) (p:Str×Addr),p∈cellsFrom n names acc->n<=p.2\/p∈acc
 | [],_,_,_,e => .inr e
 | (y,k)::r,n,acc,p,e=>by
  unfold cellsFrom at e;split at e
  · rcases PZ r (n+1) _ p e with q|q
    · exact .inl (uQ q)
    · rcases ww.mp q with q|q
      · subst q;exact .inl (wB _)
      · exact .inr q
  · exact PZ r n acc p e
theorem Im:∀(names:List (Str×NameKind)) (n:Nat) (acc:List (Str×Addr)),(∀ p∈acc,p.2<n)->(acc.Pairwise λx y=>x.2≠y.2)->(cellsFrom n names acc).Pairwise λx y=>x.2≠y.2
 | [],_,_,_,h=>h
 | (y,k)::r,n,acc,hl,h=>by
  unfold cellsFrom;split
  · refine Im r (n+1) _ (λp hp=>?_) (vj.mpr ⟨λp hp e=>?_,h⟩)
    · rcases ww.mp hp with q|q
      · subst q;exact vB _
      · exact w0V (hl p q)
    · have e':n=p.2:=e;have q:=hl p hp;rw[←e']at q;exact absurd q (vx _)
  · exact Im r n acc hl h
theorem Io:∀(names:List (Str×NameKind)) (n:Nat) (acc:List (Str×Addr)),cellsFrom n names acc=cellsFrom n names []++acc
 | [],_,_=>rfl
 | (y,k)::r,n,acc=>by
  unfold cellsFrom;split
  · rw[Io r (n+1) ((y,n)::acc),Io r (n+1) [(y,n)],ue];rfl
  · exact Io r n acc
def B5(env:Env):List (Str×NameKind)->List (Str×Addr)->List (Str×Addr)
 | [],acc=>acc
 | (y,k)::r,acc=>if k == .free then B5 env r (match env.cells.lookup y with|some c=>(y,c)::acc|none=>acc) else B5 env r acc
theorem Af{env:Env}{x:Str}:∀(names:List (Str×NameKind)) (acc:List (Str×Addr)),(∀ c,acc.lookup x=some c->env.cells.lookup x=some c)->∀ c,(B5 env names acc).lookup x=some c->env.cells.lookup x=some c
 | [],_,h=>h
 | (y,k)::r,acc,h=>by
  unfold B5;split
  · refine Af r _ λc e=>?_;cases hy:env.cells.lookup y with
    | none=>rw[hy]at e;exact h c e
    | some d =>
     rw[hy]at e;dsimp only at e;rw[wX]at e;split at e
     · rename_i hb;cases e;rw[beq_iff_eq.mp hb];exact hy
     · exact h c e
  · exact Af r acc h
theorem DN{env:Env}:∀(names:List (Str×NameKind)) (acc:List (Str×Addr)) (p:Str×Addr),p∈B5 env names acc->p∈acc\/env.cells.lookup p.1=some p.2
 | [],_,_,h => .inl h
 | (y,k)::r,acc,p,h=>by
  unfold B5 at h;split at h
  · rcases DN r _ p h with q|q
    · cases hy:env.cells.lookup y with
      | none=>rw[hy]at q;exact .inl q
      | some d =>
       rw[hy]at q;rcases ww.mp q with q|q
       · subst q;exact .inr hy
       · exact .inl q
    · exact .inr q
  · exact DN r acc p h
theorem Ba{env:Env}{x:Str}:∀(names:List (Str×NameKind)) (acc:List (Str×Addr)),(acc.lookup x).isSome=true->((B5 env names acc).lookup x).isSome=true
 | [],_,h=>h
 | (y,k)::r,acc,h=>by
  unfold B5;split
  · refine Ba r _ ?_;cases hy:env.cells.lookup y with
    | none=>exact h
    | some d =>
     show(List.lookup x ((y,d)::acc)).isSome=true;rw[wX];split
     · rfl
     · exact h
  · exact Ba r acc h
theorem DO{env:Env}{x:Str}{c:Addr}:∀(names:List (Str×NameKind)) (acc:List (Str×Addr)),names.lookup x=some .free->env.cells.lookup x=some c->((B5 env names acc).lookup x).isSome=true
 | [],_,h,_=>by cases h
 | (y,k)::r,acc,h,hc=>by
  rw[wX]at h;unfold B5;cases hb:x==y with
  | true =>
   rw[hb]at h;have hk:k = .free:=by cases h;rfl
   subst hk;rw[if_pos (show(NameKind.free==NameKind.free)=true from rfl)];refine Ba r _ ?_;have hxy:x=y:=beq_iff_eq.mp hb;subst hxy;rw[hc];show(List.lookup x ((x,c)::acc)).isSome=true;rw[wX,hb];rfl
  | false =>
   rw[hb]at h;split
   · exact DO r _ h hc
   · exact DO r _ h hc
theorem DP{env:Env}:∀(names:List (Str×NameKind)) (acc:List (Str×Addr)) (f:Str×NameKind->List (Str×Addr)->Sem (ForInStep (List (Str×Addr)))),
  (∀ name kind cs,f (name,kind) cs=if kind == .free then(do let a ←cellOf env name;pure (.yield ((name,a)::cs))) else pure (.yield cs)) ->
  (∀ y∈names,y.2 = .free->∃ c,env.cells.lookup y.1=some c)->forIn names acc f=(pure (B5 env names acc):Sem _)
 | [],acc,f,hf,h=>by rw[uR];rfl
 | (y,k)::r,acc,f,hf,h=>by
  have hr:∀ z∈r,z.2 = .free->∃ c,env.cells.lookup z.1=some c:=λz hz=>h z (wc _ hz);rw[w02,hf];unfold B5;by_cases hk:(k==NameKind.free)=true
  · rw[if_pos hk,if_pos hk];obtain⟨c,hc⟩:=h (y,k) wf (beq_iff_eq.mp hk);have hc':env.cells.lookup y=some c:=hc;have e:cellOf env y=(pure c:Sem Addr):=by unfold cellOf;rw[hc']
    rw[e,hc'];simp only[pure_bind];exact DP r _ f hf hr
  · rw[if_neg hk,if_neg hk];simp only[pure_bind];exact DP r _ f hf hr
theorem Qb{scope:Scope}{env:Env}(h:∀ y∈scope.names,y.2 = .free->∃ c,env.cells.lookup y.1=some c):closureFor scope env=pure (B5 env scope.names []):=by
 unfold closureFor;simp only[];rw[DP scope.names [] _ (λname kind cs=>by cases hk:kind==NameKind.free<;>simp[hk]) h];rfl
end L2

end
section
namespace L2
open PySem
section
variable {prog:Program}{w:World}{A:Around}{R:Result->Shared->Prop}{s:Shared}
theorem ME{elt target iter:Expr}{ifs:List Expr}{scope:Scope}{pos:Pos}{it acc:Value}{env:Env}(I:Nat->Shared->Prop)
  (turn:∀ n s,I n s→wpAny (model prog w) A (pyNext it) (fun r s₁=>match r with
   | none=>R (.ok .next) s₁
   | some v=>wpAny (model prog w) A (letOwnedTupleGo target it v) (fun _ s₁'=>wpAny (model prog w) A (assign target env v) (fun _ s₂ =>
    wpAny (model prog w) A (forIn ifs true λc r=>if r=true then do let ok ←isTrue c env (eval c env);pure (ForInStep.yield ok) else pure (ForInStep.yield r)) (λok s₃ =>
     if ok=true then wpAny (model prog w) A (eval elt env) (λx s₄ =>
      wpAny (model prog w) A (call (.builtin "list.append") [acc,x]) (λ_ s₅=>∃ m,m<n/\I m s₅) (notedBy (model prog w) A env λe s'=>R (.error e) s') s₄) (notedBy (model prog w) A env λe s'=>R (.error e) s') s₃
     else ∃ m,m<n/\I m s₃) (notedBy (model prog w) A env λe s'=>R (.error e) s') s₂) (notedBy (model prog w) A env λe s'=>R (.error e) s') s₁')
    (notedBy (model prog w) A env λe s'=>R (.error e) s') s₁) (notedBy (model prog w) A env λe s'=>R (.error e) s') s)
  (n:Nat) (h:I n s) :
  codeAny (model prog w) A (.compLoop (.ListComp elt [⟨target,iter,ifs,0⟩] scope pos) 0 it acc env) R s:=by
 refine codeAny_loop rfl I (λn s hI=>?_) n h;show wpAny _ A ((compTurn (.ListComp elt [⟨target,iter,ifs,0⟩] scope pos) 0 it acc env).onRaise (λx=>do noteFrame x env;theTreesLotGoes x)) _ _ s;refine wpAny_noted ?_;rw[compTurn_list];refine wpAny_bind (wpAny_standAt (wpAny_bind (wpAny_mono (turn n s hI) (λr s₁ h₁=>?_) λ_ _ h'=>h')));cases r with
 | none=>exact wpAny_pure h₁
 | some v =>
  refine wpAny_bind (wpAny_mono h₁ (λ_ s₁' h₁'=>?_) λ_ _ h'=>h');refine wpAny_bind (wpAny_mono h₁' (λ_ s₂ h₂=>wpAny_bind (wpAny_mono h₂ (λok s₃ h₃=>?_) λ_ _ h'=>h')) λ_ _ h'=>h');cases ok with
  | false=>exact wpAny_pure ⟨rfl,h₃⟩
  | true =>
   exact wpAny_bind (wpAny_bind (wpAny_mono h₃ (λx s₄ h₄=>wpAny_bind (wpAny_mono h₄ (λ_ s₅ h₅=>wpAny_pure (wpAny_pure ⟨rfl,h₅⟩)) λ_ _ h'=>h')) λ_ _ h'=>h'))
theorem Zj{M:Model}{E:aC}{scope:Scope}{globals:Addr}{cl:List (Str×Addr)}{qual:Str}{func:Option Addr}{code:Value}{env:Env}{Q:Env->Shared->Prop}
  (hQ:∀ h',h'.Ns s.heap.objs.size (fun _=>none)→(∀ b o,s.heap.get? b=some o→h'.get? b=some o)→(∀ n c,(n,c)∈cellsFrom (s.heap.objs.size+1) scope.names []→h'.IsCell c none) →
   Q (newEnv scope s.heap.objs.size globals (cellsFrom (s.heap.objs.size+1) scope.names cl) qual func code (some env) builtinsNs) { s with heap:=h' }) :
  wpAny M A (newFunctionEnv scope globals cl [] qual func code (some env)) Q E s:=by
 simp only[newFunctionEnv,Option.isSome_some,if_true];refine wpAny_bind (wpAny_alloc ?_);refine wpAny_bind (wpAny_layCells _ (λname kind cells=>by cases hkc:kind==NameKind.cell<;>simp[hkc]) _ _ _ _ ?_);have ok:=cellsFrom_ok scope.names (s.heap.push { cls := .type "dict",data := .dict #[] }) (s.heap.objs.size+1) [] ⟨λ_ _ hm=>(nomatch hm),List.Pairwise.nil⟩ (by rw[vH];exact wB _);rw[vH]at ok;rw[show({ s with heap:=s.heap.push { cls := .type "dict",data := .dict #[] } }:Shared).heap.objs.size=s.heap.objs.size+1 from vH ..];refine wpAny_bind ?_;rw[uR];refine wpAny_pure (wpAny_pure ?_);exact hQ _ ((Heap.Ns.new s.heap (.type "dict")).keeps (pushCells_keeps _ _)) (λb o e=>pushCells_keeps _ _ b o (wm _ e)) λn c hm=>(ok.empty n c hm).1
end
end L2

end
section
namespace L2
open PySem PySem.Spec PyProof.Rows
def C2(X:Cx)(N:List Str)(scope:Scope)(cl:List (Str×Addr))(C:Addr)(fp:List Addr)(s:Shared)(H:Hp):Cx where
 prog:=X.prog
 w:=X.w
 K:=X.K
 mg:=X.mg
 base:=X.base
 A:=X.A
 N:=N
 s₀:=s
 H₀:=H
 env:=compEnvC scope cl C X.env
 outer:=X.stack
 stack:=X.stack
 ex:=fp
 fn:=λx=>scope.names.lookup x==some .cell
 calm:=X.calm
 pn:=[]
 xe:=λ_ _=>False
structure CompScope(X:Cx)(N:List Str)(scope:Scope)(nt:Nat)(js:List Nat):Prop where
 kind:scope.kind = .function
 nd:(scope.names.map (·.1)).Nodup
 loc:∀ x∈scope.names,x.2 = .local->scope.names.lookup x.1=some .local
 len:N.length=nt+js.length
 names:∀ k j,js[k]?=some j->∃ x,N[nt+k]?=some x/\X.N[j]?=some x/\scope.names.lookup x=some .free
 fre:∀ x∈scope.names,x.2 = .free->X.env.kindOf x.1=some .cell\/X.env.kindOf x.1=some .free
def sig(nt:Nat)(js:List Nat)(σ:St):St:=List.replicate nt none++js.map λj=>(σ[j]?).join
def PTs(X:Cx)(ifs:List Expr)(t:TT):Prop :=
 ∀(π:aB) (s:Shared) (σ:St) (H:Hp) (Q:Bool->Hp->Prop),Inv X π σ H s->t σ H Q ->
  wpAny (model X.prog X.w) X.A (forIn ifs true λc r=>if r=true then do let ok ←isTrue c X.env (eval c X.env);pure (ForInStep.yield ok) else pure (ForInStep.yield r)) (TP X π σ Q) X.xe s
def tYes:TT:=λ_ H Q=>Q true H
theorem z3D{X:Cx}:PTs X [] tYes:=λπ s σ H Q I h=>wpAny_tests_nil ⟨H,I,h⟩
theorem z3E{X:Cx}{c:Expr}{t:TT}(hc:PT X c t):PTs X [c] t:=λπ s σ H Q I h=>wpAny_tests_one (hc π s σ H Q I h)
theorem nlt{a b:Nat}(h1:a+1<=b)(h2:b<a):False:=by rfl'
theorem U4{α:Type}:∀{l:List (Str×α)} {p:Str×α},(l.map (·.1)).Nodup->p∈l->l.lookup p.1=some p.2
 | [],_,_,h=>by cases h
 | (y,k)::r,p,nd,h=>by
  have nd:(y::r.map (·.1)).Nodup:=nd;obtain⟨n1,n2⟩:=vy.mp nd;rw[wX];rcases ww.mp h with e|e
  · subst e;show(match y==y with|true=>some k|false=>_)=some k;rw[beq_self_eq_true]
  · cases hb:p.1==y with
    | true =>
     rw[←beq_iff_eq.mp hb]at n1;exact absurd (wj.mpr ⟨p,e,rfl⟩) n1
    | false=>exact U4 n2 e
theorem BZ{env:Env}{x:Str}:∀{names:List (Str×NameKind)} {k:NameKind},names.lookup x=some k ->
  (names.map λ(n,k)=>if(k==NameKind.free&&env.scope.kind == .function&&env.kindOf n==some .cell) then(n,NameKind.cell) else(n,k)).lookup x=some (if(k==NameKind.free&&env.scope.kind == .function&&env.kindOf x==some .cell)=true then .cell else k)
 | [],_,h=>by cases h
 | (y,k')::r,k,h=>by
  rw[wX]at h;show List.lookup x ((if(k'==NameKind.free&&env.scope.kind == .function&&env.kindOf y==some .cell)=true then(y,NameKind.cell) else(y,k'))::_)=_;cases hb:x==y with
  | true =>
   rw[hb]at h;have hk:k'=k:=by cases h;rfl
   have hxy:x=y:=beq_iff_eq.mp hb;subst hk;subst hxy;split<;>(rw[wX];rw[hb])
  | false =>
   rw[hb]at h;have ih:=@BZ env x r k h;split<;>(rw[wX];rw[hb];exact ih)
theorem Bb{env:Env}{x:Str}{k:NameKind}:∀{names:List (Str×NameKind)},
  (names.map λ(n,k)=>if(k==NameKind.free&&env.scope.kind == .function&&env.kindOf n==some .cell) then(n,NameKind.cell) else(n,k)).lookup x=some k->∃ k',names.lookup x=some k'/\(k=k'\/(k' = .free/\k = .cell))
 | [],h=>by cases h
 | (y,k')::r,h=>by
  have h:List.lookup x ((if(k'==NameKind.free&&env.scope.kind == .function&&env.kindOf y==some .cell)=true then(y,NameKind.cell) else(y,k'))::r.map λ(n,k)=>if(k==NameKind.free&&env.scope.kind == .function&&env.kindOf n==some .cell) then(n,NameKind.cell) else(n,k))=some k:=h;rw[wX];cases hb:x==y with
  | true =>
   split at h
   · rename_i hc;rw[wX,hb]at h;have hf:(k'==NameKind.free)=true:=by
      rw[wN,wN]at hc;exact hc.1.1
     cases h;exact⟨k',rfl,.inr ⟨beq_iff_eq.mp hf,rfl⟩⟩
   · rw[wX,hb]at h;cases h;exact⟨k,rfl,.inl rfl⟩
  | false =>
   split at h
   all_goals
     rw[wX,hb]at h;exact Bb h
section
variable {X:Cx}{N:List Str}{scope:Scope}{nt:Nat}{js:List Nat}{π:aB}{σ:St}{H:Hp}{s:Shared}{fp:List Addr}
theorem Zk{s2:Shared}{H2:Hp}(S:CompScope X N scope nt js)(I2:Inv X π σ H2 s2)(I:Inv X π σ H s)(hu:Un (frs X.stack) fp H2 H s2.heap s.heap)(hos:s.os=s2.os)(hz:s2.heap.objs.size<=s.heap.objs.size)
   (hf:∀ b∈fp,FpOk X π H b) (ho:∀ b∈fp,∃ o,s.heap.get? b=some o) {h':Heap}
   (ns:h'.Ns s.heap.objs.size (λ_=>none)) (k:∀ b o,s.heap.get? b=some o->h'.get? b=some o) (nc:∀ n c,(n,c)∈cellsFrom (s.heap.objs.size+1) scope.names []->h'.IsCell c none) :
   Inv (C2 X N scope (cellsFrom (s.heap.objs.size+1) scope.names (B5 X.env scope.names [])) s.heap.objs.size fp s2 H2) [] (sig nt js σ) H { s with heap:=h' }:=by
 have ok:=I.ok;have hcl:∀ p∈B5 X.env scope.names [],X.env.cells.lookup p.1=some p.2:=λp hp=>(DN _ _ p hp).resolve_left (by simp);have hlt:∀ x c,X.env.cells.lookup x=some c->c<s.heap.objs.size:=λx c e=>by
   obtain⟨v,o,ho,_⟩:=I.cell x c e;exact wy ho
 have mem:∀ x c,(cellsFrom (s.heap.objs.size+1) scope.names (B5 X.env scope.names [])).lookup x=some c->s.heap.objs.size+1<=c\/X.env.cells.lookup x=some c:=λx c e=>by
   rcases PZ _ _ _ _ (PySem.mem_of_lookup e)with q|q
   · exact .inl q
   · exact .inr (hcl _ q)
 have frec:∀ x,scope.names.lookup x=some .free->∃ c,X.env.cells.lookup x=some c/\(cellsFrom (s.heap.objs.size+1) scope.names (B5 X.env scope.names [])).lookup x=some c:=λx hx=>by
   obtain⟨c,hc⟩:=ok.has x (S.fre (x,.free) (PySem.mem_of_lookup hx) rfl);refine⟨c,hc,?_⟩;rw[PY _ _ _ λy hy e=>?_]
   · obtain⟨d,hd⟩:=uK.mp (DO (env:=X.env) scope.names [] hx hc);have:=Af (env:=X.env) (x:=x) scope.names [] (λc e=>by simp at e) d hd;rw[hc]at this;cases this;exact hd
   · have q:=U4 S.nd hy;rw[e,hx]at q;intro z;rw[z]at q;cases q
 refine⟨⟨ok.mod,S.kind,ok.glob,ok.blt,hz,λx y c hx hy=>?_,λx hx=>?_,λx c hx e=>?_,ok.hd,ok.frames,.inl rfl,λb hb=>⟨?_,λx c e=>?_⟩,λb o e=>?_,?_,λb o e hb=>?_,λb hb=>?_,I2.stack,I2.stkFree⟩,
   hos,I.bare,hu.trans (Un.kept k),⟨_,ns,λi x v h1 h2 h3=>?_⟩,λx c e=>?_,?_,λx c e=>?_,λp hp=>absurd (show p∈([]:aB)from hp) (by simp),I.hok.kept k,?_⟩
 ·
   rcases mem x c hx with q|q
   · rcases mem y c hy with q'|q'
     · have in1:∀ z:Str,(z,c)∈cellsFrom (s.heap.objs.size+1) scope.names (B5 X.env scope.names [])->(z,c)∈cellsFrom (s.heap.objs.size+1) scope.names []:=λz hz=>by
         rw[Io]at hz;rcases wx.mp hz with hz|hz
         · exact hz
         · exact(nlt q (hlt _ _ (hcl _ hz))).elim
       exact name_of_addr (Im scope.names (s.heap.objs.size+1) [] (λp hp=>by simp at hp) List.Pairwise.nil) (in1 x (PySem.mem_of_lookup hx)) (in1 y (PySem.mem_of_lookup hy))
     · exact(nlt q (hlt _ _ q')).elim
   · rcases mem y c hy with q'|q'
     · exact(nlt q' (hlt _ _ q)).elim
     · exact ok.inj x y c q q'
 ·
   have hx:(relabel scope X.env).names.lookup x=some .cell\/(relabel scope X.env).names.lookup x=some .free:=hx;have cs:scope.names.lookup x=some .cell\/scope.names.lookup x=some .free:=by
     rcases hx with q|q
     · obtain⟨k',e1,e2⟩:=Bb q;rcases e2 with e2|⟨e2,_⟩
       · rw[←e2]at e1;exact .inl e1
       · rw[e2]at e1;exact .inr e1
     · obtain⟨k',e1,e2⟩:=Bb q;rcases e2 with e2|⟨_,e2⟩
       · rw[←e2]at e1;exact .inr e1
       · cases e2
   rcases cs with q|q
   · exact uK.mp (PySem.W.cellsFrom_some scope.names _ _ (.inl q))
   · obtain⟨c,_,e⟩:=frec x q;exact⟨c,e⟩
 ·
   have hx:(scope.names.lookup x==some .cell)=true:=hx;exact wK hz (uQ (PX scope.names _ _ c (beq_iff_eq.mp hx) e))
 ·
   intro e;obtain⟨o,hb'⟩:=ho b hb;exact absurd (wy hb') (by rw[e];exact vx _)
 · rcases mem x c e with q|q
   · intro z;obtain⟨o,hb'⟩:=ho b hb;have:=wy hb';rw[←z]at this;exact nlt q this
   · exact(hf b hb).2.2.2.2.1 x c q
 · exact I2.bs b o e
 · exact wK ok.bsz I2.sz
 ·
   rcases(hf b hb).2.2.2.1 with q|q
   · exact ok.noex b o e q
   · exact absurd (wE (wy e) (wK ok.bsz q)) (vx _)
 ·
   intro z;rcases ww.mp (I.stkSub b z)with q|q
   · exact(hf b hb).2.1 q
   · exact(hf b hb).2.2.1 q
 ·
   have hi:nt<=i:=by
     by_cases hi:i<nt
     · unfold sig at h2;rw[wW (by simpa using hi),vn]at h2;split at h2<;>cases h2
     · rfl'
   unfold sig at h2;rw[vg (by simpa using hi),vD,wv]at h2;cases ej:js[i-nt]? with
   | none=>rw[ej]at h2;cases h2
   | some j =>
     rw[ej]at h2;have h2:(σ[j]?).join=some v:=Option.some.inj h2;obtain⟨y,n1,n2,n3⟩:=S.names _ _ ej;have hxy:x=y:=by
       have e:nt+(i-nt)=i:=by rfl'
       rw[e]at n1;have h1:N[i]?=some x:=h1;rw[h1]at n1;exact Option.some.inj n1
     subst hxy;have h2':σ[j]?=some (some v):=by
       cases eσ:σ[j]? with
       | none=>rw[eσ]at h2;cases h2
       | some a =>
         rw[eσ]at h2;have h2:a=some v:=h2;rw[h2]
     obtain⟨m,hn,hl⟩:=I.loc;have kd:=S.fre (x,.free) (PySem.mem_of_lookup n3) rfl;obtain⟨u,ru,lk⟩:=hl j x v n2 h2' (.inr kd);refine⟨u,ru,?_⟩;obtain⟨c,c1,c2⟩:=frec x n3;rcases lk with⟨z,_⟩|⟨_,d,d1,d2⟩
     · have kd':X.env.kindOf x=some .cell\/X.env.kindOf x=some .free:=kd;rw[z]at kd';rcases kd' with q|q<;>cases q
     · rw[c1]at d1;cases d1;refine .inr ⟨?_,c,c2,d2.keeps k⟩;have:=BZ (env:=X.env) n3;show(relabel scope X.env).names.lookup x=some .cell\/(relabel scope X.env).names.lookup x=some .free;unfold relabel;dsimp only;rw[this];split
       · exact .inl rfl
       · exact .inr rfl
 ·
   have e:(cellsFrom (s.heap.objs.size+1) scope.names (B5 X.env scope.names [])).lookup x=some c:=e;have hm:=PySem.mem_of_lookup e;rw[Io]at hm;rcases wx.mp hm with q|q
   · exact⟨none,nc x c q⟩
   · obtain⟨v,hv⟩:=I.cell x c (hcl _ q);exact⟨v,hv.keeps k⟩
 · exact I.hok.fresh (wB _)
 · rcases mem x c e with q|q
   · exact I.hok.fresh (uQ q)
   · exact I.freeC x c q
 · show(sig nt js σ).length=N.length;unfold sig;rw[wD,vD,wn,S.len]
end
end L2

end
section
namespace L2
open PySem PySem.Spec PyProof.Rows
def Wd(nt:Nat)(js:List Nat)(wi:TI)(g:TG)(tc:Hp->TT)(te:Hp->TE):TE:=λσ H Q=>wi σ H λJ H1=>∀ D,H1 D=none ->
 ∃ W:Nat→Nat→List V→Hp→Prop,(∃ m,W 0 m [] (upd H1 D (.lst [])))∧∀ i m ys H,W i m ys H →
  (J.stop i H∧Q (.ref D) H)∨(J.go i H∧∀ x H',J.yld i H x H'→g x (sig nt js σ) H' fun σ2 H2=>tc H1 σ2 H2 fun b H3 =>
   if b=true then te H1 σ2 H3 λv H4=>H4 D=some (.lst ys)/\ys.length<sizeLine/\∃ m',m'<m/\W (i+1) m' (ys++[v]) (upd H4 D (.lst (ys++[v])))
   else ∃ m',m'<m/\W (i+1) m' ys H3)
section
variable {X:Cx}{N:List Str}{scope:Scope}{nt:Nat}{js:List Nat}{tg elt iter:Expr}{ifs:List Expr}{wi:TI}{g:TG}{tc:Hp->TT}{te:Hp->TE}{pos:Pos}
theorem Zl{σ σ2:St}(hl:σ2.length=(sig nt js σ).length)(h:∀ i,nt<=i->σ2[i]?=(sig nt js σ)[i]?):∀(i:Nat) v,(sig nt js σ)[i]?=some (some v)->σ2[i]?=some (some v):=λi v e=>by
 by_cases hi:nt<=i
 · rw[h i hi];exact e
 · unfold sig at e;rw[wW (by rw[vD];rfl'),vn]at e;split at e<;>cases e
def TgOk(nt:Nat)(g:TG):Prop:=∀ x σ H (Q:St->Hp->Prop),g x σ H Q->g x σ H λσ2 H2=>(σ2.length=σ.length/\∀ i,nt<=i->σ2[i]?=σ[i]?)/\Q σ2 H2
theorem NQ(S:CompScope X N scope nt js)(hc:X.calm=true)(hi:PI X tg iter wi)
  (hg:∀ cl C fp s H,PG (C2 X N scope cl C fp s H) tg g) (ht:TgOk nt g) (hcs:∀ cl C fp s H,PTs (C2 X N scope cl C fp s H) ifs (tc H)) (he:∀ cl C fp s H,PE (C2 X N scope cl C fp s H) elt (te H))
  {use:Option (Value->Sem Unit)} {π:aB} {s:Shared} {σ:St} {H:Hp} {Q:VK} {Q':aC} (I:Inv X π σ H s) (h:Wd nt js wi g tc te σ H Q)
  (hs:∀ x,foldedSetIterable iter X.env x=pure x)
  (fin:∀(D C:Addr) (H':Hp) (s':Shared),Inv X π σ H' s'->Q (.ref D) H'->H' C=none->C≠X.env.locals->(X.s₀.heap.objs.size<=C)->(∀ x c,X.env.cells.lookup x=some c->c≠C)->(∀ p∈X.pn++π,p.1≠C)->(∃ m,s'.heap.Ns C m) ->
    compPost (model X.prog X.w) X.A X.xe use Q' (.ref D) C (.ok .next) s') :
  wpAny (model X.prog X.w) X.A (comprehension (.ListComp elt [⟨tg,iter,ifs,0⟩] scope pos) scope X.env (firstIterPos [⟨tg,iter,ifs,0⟩] pos) (newList []) false (eval iter X.env) use) Q' X.xe s:=by
 have clo:closureFor scope X.env=pure (B5 X.env scope.names []):=Qb λy hy e=>I.ok.has y.1 (S.fre y hy e);refine wpAny_comprehension_free (cl:=B5 X.env scope.names []) rfl hs clo S.kind S.loc (thn (hi π s σ H _ I h) λxv s1 h1=>thn h1 λitv s2 h2=>?_);obtain⟨it,fp,tn,J,H2,rfl,I2,T,st2,f2,q2⟩:=h2;refine wpAny_newObj_type (hd:=by size_fits) ?_;have fresh2:H2 s2.heap.objs.size=none:=I2.fresh;have I3:=I2.lnew (ys:=[]) (its:=[]) (t':=s2.toks) .nil (wU _);obtain⟨W,⟨m0,w0⟩,turn⟩:=q2 s2.heap.objs.size fresh2;have ltf:∀ b∈fp,b<s2.heap.objs.size:=λb hb=>by
  obtain⟨o,e,_⟩:=T.obj 0 _ st2 b hb;exact wy e
 have ned:∀ b∈fp,b≠s2.heap.objs.size:=λb hb=>wY (ltf b hb);have f3:∀ b∈fp,FpOk X π (upd H2 s2.heap.objs.size (.lst [])) b:=λb hb=>⟨by rw[z9 (ned b hb)];exact(f2 b hb).1,(f2 b hb).2⟩;generalize e3:({ s2 with heap:=s2.heap.push { cls := .type "list",dict:=none,data := .seq ([]:aF).toArray } }:Shared)=s3 at *;have k3:∀ b o,s2.heap.get? b=some o->s3.heap.get? b=some o:=λb o e=>by rw[←e3];exact wm _ e
 have os3:s3.os=s2.os:=by rw[←e3]
 have sz3:s2.heap.objs.size<s3.heap.objs.size:=by rw[←e3];show _<(s2.heap.push _).objs.size;rw[vH];exact vB _
 refine Zj λh4 ns4 k4 nc4=>?_;have I4:=Zk S I2 I3 (Un.laid k3 (wB _) fresh2) os3 (vV sz3) f3 (λb hb=>by obtain⟨o,e,_⟩:=T.obj 0 _ st2 b hb;exact⟨o,k3 b o e⟩) ns4 k4 nc4;have st4:tn 0 h4:=T.keep _ _ _ st2 λb _ o e=>k4 b o (k3 b o e);generalize eC:s3.heap.objs.size=C at *;have stat:∀{H':Hp},(∀ b∈fp,H' b=none)->∀ b∈fp,FpOk (C2 X N scope (cellsFrom (C+1) scope.names (B5 X.env scope.names [])) C fp s2 H2) [] H' b:=λhn b hb =>
  ⟨hn b hb,(I4.ok.exf b hb).1,I4.ok.exfs b hb,.inl hb,(I4.ok.exf b hb).2,λp hp=>absurd (show p∈([]:aB)from hp) (by simp)⟩
 have loop:∀ s4:Shared,s4={ s3 with heap:=h4 }→codeAny (model X.prog X.w) X.A (.compLoop (.ListComp elt [⟨tg,iter,ifs,0⟩] scope pos) 0 (.ref it) (.ref s2.heap.objs.size) (compEnvC scope (cellsFrom (C+1) scope.names (B5 X.env scope.names [])) C X.env))
    (compPost (model X.prog X.w) X.A X.xe use Q' (.ref s2.heap.objs.size) C) s4:=by
  rintro s4 rfl;refine ME (λn s'=>∃ i ys H',Inv (C2 X N scope (cellsFrom (C+1) scope.names (B5 X.env scope.names [])) C fp s2 H2) [] (sig nt js σ) H' s'/\tn i s'.heap/\(∀ b∈fp,H' b=none)/\W i n ys H') ?_ m0
    ⟨0,[],_,I4,st4,λb hb=>(f3 b hb).1,w0⟩
  rintro n s5 ⟨i,ys,H5,I5,st5,fr5,w5⟩;rcases turn i n ys H5 w5 with⟨stop,q⟩|⟨go,step⟩
  · refine wpAny_mono (T.done (C2 X N scope (cellsFrom (C+1) scope.names (B5 X.env scope.names [])) C fp s2 H2) rfl rfl rfl hc i [] s5 _ H5 _ I5 (stat fr5) st5 stop) (λr s6⟨hr,I6⟩=>?_) λ_ _ z=>z;subst hr;have u:Un (frs X.stack) fp H2 H5 s2.heap s6.heap:=I6.base;have J6:Inv X π σ H5 s6:=I2.call' I6.os u I6.hok I6.bare λb hb=>⟨(f2 b hb).2.2.2.1,(f2 b hb).2.1,(f2 b hb).2.2.2.2.1,(f2 b hb).2.2.2.2.2⟩;have hCs:s2.heap.objs.size<=C:=vV sz3;refine fin _ C H5 s6 J6 q I6.free (λz=>?_) (wK I2.sz hCs) (λx c e z=>?_) (λp hp z=>?_) ?_
    · exact absurd I2.lt (by rw[←z];exact w1p.mpr hCs)
    · obtain⟨v,o,ho,_⟩:=I2.cell x c e;exact absurd (wy ho) (by rw[z];exact w1p.mpr hCs)
    · exact absurd (wy (I2.pin p hp).1) (by rw[z];exact w1p.mpr hCs)
    · obtain⟨m,hm,_⟩:=I6.loc;exact⟨m,hm⟩
  · refine wpAny_mono (T.item (C2 X N scope (cellsFrom (C+1) scope.names (B5 X.env scope.names [])) C fp s2 H2) rfl rfl rfl hc i [] s5 _ H5 _ I5 (stat fr5) st5 go) (λr s6⟨u,hr,h6⟩=>?_) λ_ _ z=>z;subst hr;refine wpAny_mono h6 (λ_ s7⟨x,H7,I7,r7,y7,st7,fr7⟩=>?_) λ_ _ z=>z;have I7':=I7.pinned (stat fr7) (T.obj _ _ st7);refine wpAny_mono (hg _ _ _ _ _ _ s7 _ H7 x u _ I7' r7 (ht _ _ _ _ (step x H7 y7))) (λ_ s8 ⟨σ8,H8,I8,⟨l8,o8⟩,q8⟩=>?_) λ_ _ z=>z.elim;have again:∀{s9:Shared} {H9:Hp} {ys9:List V},Inv (C2 X N scope (cellsFrom (C+1) scope.names (B5 X.env scope.names [])) C fp s2 H2) ([]++Ii fp s7.heap) σ8 H9 s9->(∃ m',m'<n/\W (i+1) m' ys9 H9) ->
       ∃ m,m<n/\∃ i ys H',Inv (C2 X N scope (cellsFrom (C+1) scope.names (B5 X.env scope.names [])) C fp s2 H2) [] (sig nt js σ) H' s9/\tn i s9.heap/\(∀ b∈fp,H' b=none)/\W i m ys H':=λ{s9 H9 ys9} I9 ⟨m',hm,w9⟩=>by
      refine⟨m',hm,i+1,ys9,H9,I9.unpinned.weak l8.symm (Zl l8 o8),T.keep _ _ _ st7 λb hb o e=>(I9.pin (b,o) (wQ _ (wQ _ (AX hb e)))).1,λb hb=>?_,w9⟩;obtain⟨o,e,_⟩:=T.obj _ _ st7 b hb;exact(I9.pin (b,o) (wQ _ (wQ _ (AX hb e)))).2.1
    refine wpAny_mono (hcs _ _ _ _ _ _ s8 σ8 H8 _ I8 q8) (λok s9⟨H9,I9,q9⟩=>?_) λ_ _ z=>z.elim;cases ok with
    | false =>
      rw[if_neg wL]at q9 ⊢;exact again I9 q9
    | true =>
      rw[if_pos rfl]at q9 ⊢;refine wpAny_mono (he _ _ _ _ _ _ s9 σ8 H9 _ I9 q9) (λy s10⟨v,H10,I10,r10,d10,l10,w10⟩=>?_) λ_ _ z=>z.elim;refine wpAny_mono (Kz (X:=C2 X N scope (cellsFrom (C+1) scope.names (B5 X.env scope.names [])) C fp s2 H2) _ s10 σ8 H10 (.ref s2.heap.objs.size) [v] (.ref s2.heap.objs.size) [y] (λz H'=>∃ m',m'<n/\W (i+1) m' (ys++[v]) H') I10 rfl (.cons r10 .nil) ⟨_,ys,v,rfl,rfl,d10,l10,w10⟩) (λ_ s11⟨_,H11,I11,_,w11⟩=>?_) λ_ _ z=>z.elim;exact again I11 w11
 exact codeAny_compStart_list (loop _ rfl) (T.self _ _ _ _ _ st4 (loop _ rfl))
theorem z3F(S:CompScope X N scope nt js)(hc:X.calm=true)(hi:PI X tg iter wi)
  (hg:∀ cl C fp s H,PG (C2 X N scope cl C fp s H) tg g) (ht:TgOk nt g) (hcs:∀ cl C fp s H,PTs (C2 X N scope cl C fp s H) ifs (tc H)) (he:∀ cl C fp s H,PE (C2 X N scope cl C fp s H) elt (te H))
  (hs:∀ x,foldedSetIterable iter X.env x=pure x:=by intro _;rfl):PE X (.ListComp elt [⟨tg,iter,ifs,0⟩] scope pos) (Wd nt js wi g tc te):=by
 intro π s σ H Q I h;rw[eval_ListComp];refine NQ (use:=none) S hc hi hg ht hcs he I h hs ?_;rintro D C H' s' I' q hC hL hz hcl hpn ⟨m,hm⟩;exact⟨m,hm,λh' sb=>⟨.ref D,H',I'.turned (λb o hb e=>sb.extBut b o hb e) hC hL (.inr hz) hcl hpn,rfl,q⟩⟩
theorem z3G{i:Nat}{x:Str}{pos' spos:Pos}(hN:X.N.Nodup)(hix:X.N[i]?=some x)(hx:X.env.scope.names.lookup x=some .local)(S:CompScope X N scope nt js)(hc:X.calm=true)(hi:PI X tg iter wi)
  (hg:∀ cl C fp s H,PG (C2 X N scope cl C fp s H) tg g) (ht:TgOk nt g) (hcs:∀ cl C fp s H,PTs (C2 X N scope cl C fp s H) ifs (tc H)) (he:∀ cl C fp s H,PE (C2 X N scope cl C fp s H) elt (te H))
  (hsw:swapsWith (.ListComp elt [⟨tg,iter,ifs,0⟩] scope pos) (some (.Name x pos')) spos.line X.env=pure true)
  (hs:∀ x,foldedSetIterable iter X.env x=pure x:=by intro _;rfl):PS X (.Assign [.Name x pos'] (.ListComp elt [⟨tg,iter,ifs,0⟩] scope pos) spos) (tAsg (Wd nt js wi g tc te) (Ih i)):=by
 intro π s σ H D0 I h;rw[exec_Assign_Name_used _ _ _ _ hsw];refine wpAny_bind (wpAny_standAt (wpAny_bind ?_));show wpAny _ X.A (do let _ ←comprehension (.ListComp elt [⟨tg,iter,ifs,0⟩] scope pos) scope X.env _ (newList []) false (eval iter X.env) (some (assign (.Name x pos') X.env))) _ _ s;refine wpAny_bind (wpAny_mono (NQ (use:=some (assign (.Name x pos') X.env)) (Q':=λ_ s'=>SP X π D0 .next s') S hc hi hg ht hcs he I h hs λD C H' s' I' q hC hL hz hcl hpn⟨m,hm⟩=>?_) (λ_ s' hq=>wpAny_pure (wpAny_pure hq)) λ_ _ e=>e);show wpAny _ X.A (assign (.Name x pos') X.env (.ref D)) _ _ s';refine wpAny_assign_Name (Kq (v := .ref D) I' hN hix (.inl hx) rfl (λs'' I''⟨a,sb,ha⟩=>?_) (.inr hx));have hCa:C≠a:=by
  rintro rfl;rcases ha with ha|ha
  · exact hL ha
  · exact hcl x C ha rfl
 refine⟨m,hm.sameBut sb hCa,λh' sb'=>⟨_,H',I''.turned (λb o hb e=>sb'.extBut b o hb e) hC hL (.inr hz) hcl hpn,q⟩⟩
end
end L2

end
section
namespace L2
open PySem PySem.Spec PyProof.Rows
section
variable {X:Cx}
def CDivG(_ j:Int):Prop:=j≠0/\j.natAbs.log2<9000
theorem Zm:OpR X (binaryOp .FloorDiv) (rI CDivG λi j => .int (i.fdiv j)):=opI λ_ _ _ _ _ _ _ hc q=>floordiv_int hc.1 q (.inl (PyProof.noPylong_of_log2 hc.2))
theorem MF{i:Int}{k:Nat}(h:i.natAbs<2 ^ k):Builtin.Int.intBits i<=k:=by
 unfold Builtin.Int.intBits;split
 · exact wU _
 · rename_i h0;have h1:i.natAbs≠0:=by
    intro e;apply h0;have:i=0:=w0Q.mp e;subst this;rfl
   exact Nat.succ_le_of_lt ((w1d h1).mpr h)
theorem pe_ty{x:Str}{T:String}{pos:Pos}(hg:Gl X x)(hm:X.mg x=none)(hv:bootBuiltins x=some (.type T))(hn:x ≠ "__name__" := by decide)(hd:(x==("__debug__" : Str))=false:=by decide):PE X (.Name x pos) (tC (.ty T)):=z3n (v:=V.ty T) hg hm hv rfl hn hd
end
end L2

end
section
namespace L2
open PySem PySem.Spec PyProof.Rows
def hidL(A:List Addr)(H:Hp):Hp:=λb=>if b∈A then none else H b
def F7(A:List Addr)(H H':Hp):Hp:=λb=>if b∈A then H b else H' b
section
variable {A:List Addr}{H H' H1:Hp}{a b:Addr}{o:HO}
theorem T1(h:b∈A):hidL A H b=none:=if_pos h
theorem u8(h:b ∉ A):hidL A H b=H b:=if_neg h
theorem Bc(h:hidL A H b=some o):b ∉ A/\H b=some o:=by
 unfold hidL at h;split at h
 · cases h
 · rename_i q;exact⟨q,h⟩
theorem A8:Same (hidL A H) H:=λb o e=>(Bc e).2
theorem NR:hidL [] H=H:=funext λb=>by unfold hidL;simp
theorem CY(h:b∈A):F7 A H H' b=H b:=if_pos h
theorem E7(h:b ∉ A):F7 A H H' b=H' b:=if_neg h
theorem Same.glue(h:Same (hidL A H) H')(hn:∀ a∈A,H' a=none):Same H (F7 A H H'):=λb o e=>by
 by_cases q:b∈A
 · rw[CY q];exact e
 · rw[E7 q];exact h b o (by rw[u8 q];exact e)
theorem X0(hn:∀ a∈A,H' a=none):hidL A (F7 A H H')=H':=funext λb=>by
 by_cases q:b∈A
 · rw[T1 q,hn b q]
 · rw[u8 q,E7 q]
end
def OwnL(X:Cx)(A:List Addr)(H:Hp):Prop:=∀ a∈A,(∃ vs,H a=some (.lst vs))/\X.H₀ a=none
section
variable {X:Cx}{A:List Addr}{π:aB}{σ:St}{H H':Hp}{s s':Shared}
def NS(h:Heap)(A:List Addr):aB:=A.filterMap λa=>(h.get? a).map λo=>(a,o)
theorem KB{h:Heap}{a:Addr}{o:Obj}(ha:a∈A)(e:h.get? a=some o):(a,o)∈NS h A:=vY.mpr ⟨a,ha,by rw[e];rfl⟩
theorem Zn{h:Heap}{p:Addr×Obj}(hp:p∈NS h A):p.1∈A/\h.get? p.1=some p.2:=by
 obtain⟨a,ha,e⟩:=vY.mp hp;cases q:h.get? a with
 | none=>rw[q]at e;cases e
 | some o=>rw[q]at e;cases e;exact⟨ha,q⟩
theorem Inv.fsFree(I:Inv X π σ H s){b:Addr}(hb:b∈X.fs):H b=none:=by
 obtain⟨_,o,ho,_⟩:=I.ok.funs.mem hb;exact I.base.free b o ho (I.ok.frf b hb) λz=>I.ok.exfs b z hb
theorem Inv.hide(I:Inv X π σ H s)(hA:OwnL X A H):Inv X (π++NS s.heap A) σ (hidL A H) s:=by
 have nl:∀ b o,H b=some o->(∀ vs,o ≠ .lst vs)->b ∉ A:=λb o e n hb=>by
   obtain⟨⟨vs,q⟩,_⟩:=hA b hb;rw[e]at q;exact n vs (Option.some.inj q)
 refine⟨I.ok,I.os,I.bare,⟨I.base.keep,I.base.slot,λb o e n hx=>?_,I.base.there,λb xs e=>?_,λb o u e=>?_,λb ps e=>?_⟩,I.loc,I.cell,?_,λx c e=>?_,λp hp=>?_,λa o e=>?_,I.len⟩
 · have:=I.base.free b o e n hx;unfold hidL;split
   · rfl
   · exact this
 · have:=I.base.tups b xs e;rw[u8 (nl b _ this λ_ z=>by cases z)];exact this
 · have:=I.base.frzs b o u e;rw[u8 (nl b _ this λ_ z=>by cases z)];exact this
 · obtain⟨more,this⟩:=I.base.tbls b ps e;exact⟨more,by rw[u8 (nl b _ this λ_ z=>by cases z)];exact this⟩
 · have:=I.free;unfold hidL;split
   · rfl
   · exact this
 · have:=I.freeC x c e;unfold hidL;split
   · rfl
   · exact this
 · rw[←ue]at hp;rcases wx.mp hp with hp|hp
   · obtain⟨q1,q2,q3⟩:=I.pin p hp;refine⟨q1,?_,q3⟩;unfold hidL;split
     · rfl
     · exact q2
   · obtain⟨q1,q2⟩:=Zn hp;obtain⟨⟨vs,q⟩,_⟩:=hA _ q1;refine⟨q2,T1 q1,λz=>?_,λz=>?_,λv z=>?_⟩
     · rw[z,I.free]at q;cases q
     · rw[I.fsFree z]at q;cases q
     · obtain⟨_,its,n,_,e⟩:=I.hok _ _ q;rw[q2]at e;have e:=Option.some.inj e;rw[e]at z;cases z
 · obtain⟨q1,q2⟩:=Bc e;refine(I.hok a o q2).stay (λb u _ z=>z) (λb z=>?_) (λb xs z=>?_)
   · rw[u8 (nl b _ z λ_ z=>by cases z)];exact z
   · rw[u8 (nl b _ z λ_ z=>by cases z)];exact z
theorem Inv.unhide{σ':St}(I:Inv X π σ H s)(hA:OwnL X A H)(J:Inv X (π++NS s.heap A) σ' H' s'):(∀ a∈A,H' a=none)/\Inv X π σ' (F7 A H H') s':=by
 have pn:∀ a∈A,∃ o,s.heap.get? a=some o/\s'.heap.get? a=some o/\H' a=none:=λa ha=>by
   obtain⟨⟨vs,q⟩,_⟩:=hA a ha;obtain⟨_,its,n,_,e⟩:=I.hok _ _ q;have:=J.pin _ (wQ _ (wQ _ (KB ha e)));exact⟨_,e,this.1,this.2.1⟩
 have hn:∀ a∈A,H' a=none:=λa ha=>by obtain⟨o,_,_,q⟩:=pn a ha;exact q
 have out:∀ b,H b=none->b ∉ A:=λb e hb=>by
   obtain⟨⟨vs,q⟩,_⟩:=hA b hb;rw[e]at q;cases q
 have tr:∀ b o,H' b=some o->b ∉ A:=λb o e hb=>by rw[hn b hb]at e;cases e
 refine⟨hn,J.ok,J.os,J.bare,⟨J.base.keep,J.base.slot,λb o e n hx=>?_,J.base.there,λb xs e=>?_,λb o u e=>?_,λb ps e=>?_⟩,J.loc,J.cell,?_,λx c e=>?_,λp hp=>?_,λa o e=>?_,J.len⟩
 · rw[E7 (out b (I.base.free b o e n hx))];exact J.base.free b o e n hx
 · have:=J.base.tups b xs e;rw[E7 (tr b _ this)];exact this
 · have:=J.base.frzs b o u e;rw[E7 (tr b _ this)];exact this
 · obtain⟨more,this⟩:=J.base.tbls b ps e;exact⟨more,by rw[E7 (tr b _ this)];exact this⟩
 · rw[E7 (out _ I.free)];exact J.free
 · rw[E7 (out _ (I.freeC x c e))];exact J.freeC x c e
 · have hp':p∈X.pn++(π++NS s.heap A):=by
     rw[←ue];exact uw _ hp
   obtain⟨q1,q2,q3⟩:=J.pin p hp';refine⟨q1,?_,q3⟩;rw[E7 (out _ (I.pin p hp).2.1)];exact q2
 · by_cases ha:a∈A
   · rw[CY ha]at e;obtain⟨⟨vs,q⟩,_⟩:=hA a ha;rw[q]at e;cases e;obtain⟨hz,its,n,r,e1⟩:=I.hok _ _ q;obtain⟨o,e2,e3,_⟩:=pn a ha;rw[e1]at e2;cases e2;exact⟨hz,its,n,r,e3⟩
   · rw[E7 ha]at e;refine(J.hok a o e).stay (λb u _ z=>z) (λb z=>?_) (λb xs z=>?_)
     · rw[E7 (tr b _ z)];exact z
     · rw[E7 (tr b _ z)];exact z
theorem PE.frame{e:Expr}{t:TE}(h:PE X e t):PE X e (λσ H Q=>∃ A,OwnL X A H/\t σ (hidL A H) λv H'=>(∀ a∈A,H' a=none)->Q v (F7 A H H')):=by
 intro π s σ H Q I ⟨A,hA,z⟩;refine thn (h _ s σ _ _ (I.hide hA) z) ?_;rintro u s' ⟨v,H',J,r,q⟩;obtain⟨hn,J'⟩:=I.unhide hA J;exact⟨v,_,J',r,q hn⟩
theorem PA.frame{es:List Expr}{t:TA}(h:PA X es t):PA X es (λσ H Q=>∃ A,OwnL X A H/\t σ (hidL A H) λv H'=>(∀ a∈A,H' a=none)->Q v (F7 A H H')):=by
 intro pos π s σ H Q I ⟨A,hA,z⟩;refine thn (h pos _ s σ _ _ (I.hide hA) z) ?_;rintro u s' ⟨v,H',J,r,q⟩;obtain⟨hn,J'⟩:=I.unhide hA J;exact⟨v,_,J',r,q hn⟩
def hidD(A:List Addr)(H:Hp)(D:Ends):Ends where
 nx:=λσ H'=>(∀ a∈A,H' a=none)->D.nx σ (F7 A H H')
 rt:=λv H'=>(∀ a∈A,H' a=none)->D.rt v (F7 A H H')
 bk:=λσ H'=>(∀ a∈A,H' a=none)->D.bk σ (F7 A H H')
 ct:=λσ H'=>(∀ a∈A,H' a=none)->D.ct σ (F7 A H H')
theorem PS.frame{st:Stmt}{t:TS}(h:PS X st t):PS X st (λD σ H=>∃ A,OwnL X A H/\t (hidD A H D) σ (hidL A H)):=by
 intro π s σ H D I ⟨A,hA,z⟩;refine thn (h _ s σ _ _ (I.hide hA) z) λf s' q=>?_;cases f with
 | next=>obtain⟨σ',H',J,q⟩:=q;obtain⟨hn,J'⟩:=I.unhide hA J;exact⟨_,_,J',q hn⟩
 | brk=>obtain⟨σ',H',J,q⟩:=q;obtain⟨hn,J'⟩:=I.unhide hA J;exact⟨_,_,J',q hn⟩
 | cont=>obtain⟨σ',H',J,q⟩:=q;obtain⟨hn,J'⟩:=I.unhide hA J;exact⟨_,_,J',q hn⟩
 | ret u=>obtain⟨v,σ',H',J,r,q⟩:=q;obtain⟨hn,J'⟩:=I.unhide hA J;exact⟨_,_,_,J',r,q hn⟩
theorem PI.frame{tg e:Expr}{t:TI}(h:PI X tg e t):PI X tg e (λσ H R=>∃ A,OwnL X A H/\t σ (hidL A H) λJ H'=>(∀ a∈A,H' a=none)->R J (F7 A H H')):=by
 intro π s σ H R I ⟨A,hA,z⟩;refine thn (h _ s σ _ _ (I.hide hA) z) λv s1 q=>thn q ?_;rintro itv s2 ⟨it,fp,tn,J,H',e,I2,T,st,hf,r⟩;obtain⟨hn,I3⟩:=I.unhide hA I2;refine⟨it,fp,tn,J,_,e,I3,T,st,λb hb=>?_,r hn⟩;obtain⟨f1,f2,f3,f4,f5,f6⟩:=hf b hb;have hbA:b ∉ A:=λha=>by
  obtain⟨⟨vs,q⟩,_⟩:=hA b ha;obtain⟨_,its,n,_,e⟩:=I.hok _ _ q;exact f6 _ (wQ _ (wQ _ (KB ha e))) rfl
 refine⟨by rw[E7 hbA];exact f1,f2,f3,f4,f5,λp hp=>f6 p ?_⟩;rw[←ue];exact uw _ hp
end
end L2

end
section
namespace L2
open PySem PySem.Spec PyProof.Rows
inductive Dt where
 | non|bl (b:Bool)|int (i:Int)|str (x:Str)|lst (xs:List Dt)|tup (xs:List Dt)|scr (ns:aH)|dic
def emp:Hp:=λ_=>none
theorem Ip{A C:List Addr}{H:Hp}:hidL A (hidL C H)=hidL C (hidL A H):=funext λb=>by
 unfold hidL;by_cases p:b∈A<;>by_cases q:b∈C<;>simp[p,q]
theorem M3{A:List Addr}{H H':Hp}(h:Same H H'):Same (hidL A H) (hidL A H'):=λb o e=>by
 obtain⟨q1,q2⟩:=Bc e;rw[u8 q1];exact h b o q2
theorem Ao{A B:List Addr}{H:Hp}(h:∀ a∈B,a∈A):Same (hidL A H) (hidL B H):=λb o e=>by
 obtain⟨q1,q2⟩:=Bc e;rw[u8 λz=>q1 (h b z)];exact q2
theorem Same.seqT{K:aD}{H H':Hp}{a:Addr}{xs:List V}(e:Same H H')(h:SqT K H a xs):SqT K H' a xs:=by
 rcases h with(h|⟨o,h⟩)|h
 · exact .inl (.inl (e _ _ h))
 · exact .inl (.inr ⟨o,e _ _ h⟩)
 · exact .inr h
theorem Same.emp{H:Hp}:Same emp H:=λ_ _ e=>by cases e
def dicAt(a:Addr)(h:Heap):Prop:=h.get? a=some { cls := .type "dict",data := .dict #[] }
mutual
def Rp(K:aD)(B:Hp):Dt->Hp->V->Prop
 | .non,_,v=>v = .non
 | .bl b,_,v=>v = .bl b
 | .int i,_,v=>v = .int i
 | .str x,_,v=>v = .str x
 | .dic,H,v=>∃ a,v = .ref a/\H a=some (.ext (dicAt a))
 | .lst ds,H,v=>∃ a vs,v = .ref a/\B a=none/\H a=some (.lst vs)/\Rps K B ds (hidL [a] H) vs
 | .tup ds,H,v=>∃ a vs,v = .ref a/\SqT K H a vs/\Rps K B ds H vs
 | .scr ns,H,v=>∃ a,v = .ref a/\B a=none/\SqL K H a (ns.map V.int)
def Rps(K:aD)(B:Hp):List Dt->Hp->List V->Prop
 | [],_,vs=>vs=[]
 | d::ds,H,vs=>∃ v r,vs=v::r/\Rp K B d H v/\Rps K B ds H r
end
section
variable {K:aD}{B B' H H':Hp}
theorem Rp.int_{i:Int}{v:V}:Rp K B (.int i) H v↔v = .int i:=by unfold Rp;exact Iff.rfl
theorem Rp.bl_{b:Bool}{v:V}:Rp K B (.bl b) H v↔v = .bl b:=by unfold Rp;exact Iff.rfl
theorem Rp.non_{v:V}:Rp K B .non H v↔v = .non:=by unfold Rp;exact Iff.rfl
theorem Rp.str_{x:Str}{v:V}:Rp K B (.str x) H v↔v = .str x:=by unfold Rp;exact Iff.rfl
theorem Rp.dic_{v:V}:Rp K B .dic H v↔∃ a,v = .ref a/\H a=some (.ext (dicAt a)):=by unfold Rp;exact Iff.rfl
theorem Rp.lst_{ds:List Dt}{v:V}:Rp K B (.lst ds) H v↔∃ a vs,v = .ref a/\B a=none/\H a=some (.lst vs)/\Rps K B ds (hidL [a] H) vs:=by rw[Rp]
theorem Rp.tup_{ds:List Dt}{v:V}:Rp K B (.tup ds) H v↔∃ a vs,v = .ref a/\SqT K H a vs/\Rps K B ds H vs:=by rw[Rp]
theorem Rp.scr_{ns:aH}{v:V}:Rp K B (.scr ns) H v↔∃ a,v = .ref a/\B a=none/\SqL K H a (ns.map V.int):=by rw[Rp]
theorem Rps.nil_{vs:List V}:Rps K B [] H vs↔vs=[]:=by rw[Rps]
theorem Rps.cons_{d:Dt}{ds:List Dt}{vs:List V}:Rps K B (d::ds) H vs↔∃ v r,vs=v::r/\Rp K B d H v/\Rps K B ds H r:=by rw[Rps]
mutual
theorem Rp.mono:∀(d:Dt) {H H':Hp} {v:V},Same H H'->Rp K B d H v->Rp K B d H' v
 | .non,_,_,v,e,h=>by unfold Rp at h ⊢;exact h
 | .bl b,_,_,v,e,h=>by unfold Rp at h ⊢;exact h
 | .int i,_,_,v,e,h=>by unfold Rp at h ⊢;exact h
 | .str x,_,_,v,e,h=>by unfold Rp at h ⊢;exact h
 | .dic,_,_,v,e,h=>by unfold Rp at h ⊢;obtain⟨a,q,r⟩:=h;exact⟨a,q,e _ _ r⟩
 | .lst ds,_,_,v,e,h=>by
  unfold Rp at h ⊢;obtain⟨a,vs,rfl,h0,h1,h2⟩:=h;exact⟨a,vs,rfl,h0,e _ _ h1,Rps.mono ds (M3 e) h2⟩
 | .tup ds,_,_,v,e,h=>by
  unfold Rp at h ⊢;obtain⟨a,vs,rfl,h1,h2⟩:=h;exact⟨a,vs,rfl,e.seqT h1,Rps.mono ds e h2⟩
 | .scr ns,_,_,v,e,h=>by
  unfold Rp at h ⊢;obtain⟨a,rfl,h0,h1⟩:=h;exact⟨a,rfl,h0,e.seq h1⟩
theorem Rps.mono:∀(ds:List Dt) {H H':Hp} {vs:List V},Same H H'->Rps K B ds H vs->Rps K B ds H' vs
 | [],_,_,vs,e,h=>by unfold Rps at h ⊢;exact h
 | d::ds,_,_,vs,e,h=>by
  unfold Rps at h ⊢;obtain⟨v,r,rfl,h1,h2⟩:=h;exact⟨v,r,rfl,Rp.mono d e h1,Rps.mono ds e h2⟩
end
mutual
theorem Rp.anti(e:Same B' B):∀(d:Dt) {H:Hp} {v:V},Rp K B d H v->Rp K B' d H v
 | .non,_,v,h=>by unfold Rp at h ⊢;exact h
 | .bl b,_,v,h=>by unfold Rp at h ⊢;exact h
 | .int i,_,v,h=>by unfold Rp at h ⊢;exact h
 | .str x,_,v,h=>by unfold Rp at h ⊢;exact h
 | .dic,_,v,h=>by unfold Rp at h ⊢;exact h
 | .lst ds,_,v,h=>by
  unfold Rp at h ⊢;obtain⟨a,vs,rfl,h0,h1,h2⟩:=h;exact⟨a,vs,rfl,e.free h0,h1,Rps.anti e ds h2⟩
 | .tup ds,_,v,h=>by
  unfold Rp at h ⊢;obtain⟨a,vs,rfl,h1,h2⟩:=h;exact⟨a,vs,rfl,h1,Rps.anti e ds h2⟩
 | .scr ns,_,v,h=>by
  unfold Rp at h ⊢;obtain⟨a,rfl,h0,h1⟩:=h;exact⟨a,rfl,e.free h0,h1⟩
theorem Rps.anti(e:Same B' B):∀(ds:List Dt) {H:Hp} {vs:List V},Rps K B ds H vs->Rps K B' ds H vs
 | [],_,vs,h=>by unfold Rps at h ⊢;exact h
 | d::ds,_,vs,h=>by
  unfold Rps at h ⊢;obtain⟨v,r,rfl,h1,h2⟩:=h;exact⟨v,r,rfl,Rp.anti e d h1,Rps.anti e ds h2⟩
end
theorem SqT.hid{A:List Addr}{a:Addr}{xs:List V}(hA:∀ b∈A,∀ o,H b=some o->∃ vs,o = .lst vs)(h:SqT K H a xs):SqT K (hidL A H) a xs:=by
 rcases h with(h|⟨o,h⟩)|h
 · refine .inl (.inl ?_);rw[u8 λz=>by obtain⟨vs,e⟩:=hA a z _ h;cases e];exact h
 · refine .inl (.inr ⟨o,?_⟩);rw[u8 λz=>by obtain⟨vs,e⟩:=hA a z _ h;cases e];exact h
 · exact .inr h
theorem SqL.hid{A:List Addr}{a:Addr}{xs:List V}(hA:a ∉ A)(h:SqL K H a xs):SqL K (hidL A H) a xs:=by
 rcases h with(h|⟨o,h⟩)|h
 · exact .inl (.inl (by rw[u8 hA];exact h))
 · exact .inl (.inr ⟨o,by rw[u8 hA];exact h⟩)
 · exact .inr h
mutual
theorem Rp.hid{A:List Addr}(hB:∀ b∈A,B b≠none):∀(d:Dt) {H:Hp} {v:V},(∀ b∈A,∀ o,H b=some o->∃ vs,o = .lst vs)->Rp K B d H v->Rp K B d (hidL A H) v
 | .non,_,v,_,h=>by unfold Rp at h ⊢;exact h
 | .bl b,_,v,_,h=>by unfold Rp at h ⊢;exact h
 | .int i,_,v,_,h=>by unfold Rp at h ⊢;exact h
 | .str x,_,v,_,h=>by unfold Rp at h ⊢;exact h
 | .dic,_,v,hA,h=>by unfold Rp at h ⊢;obtain⟨a,q,r⟩:=h;exact⟨a,q,by rw[u8 λz=>by obtain⟨vs,e⟩:=hA a z _ r;cases e];exact r⟩
 | .lst ds,H,v,hA,h=>by
  unfold Rp at h ⊢;obtain⟨a,vs,rfl,h0,h1,h2⟩:=h;refine⟨a,vs,rfl,h0,by rw[u8 λz=>hB a z h0];exact h1,?_⟩;rw[Ip];exact Rps.hid hB ds (λb hb o e=>hA b hb o (Bc e).2) h2
 | .tup ds,H,v,hA,h=>by
  unfold Rp at h ⊢;obtain⟨a,vs,rfl,h1,h2⟩:=h;exact⟨a,vs,rfl,h1.hid hA,Rps.hid hB ds hA h2⟩
 | .scr ns,H,v,hA,h=>by
  unfold Rp at h ⊢;obtain⟨a,rfl,h0,h1⟩:=h;exact⟨a,rfl,h0,h1.hid λz=>hB a z h0⟩
theorem Rps.hid{A:List Addr}(hB:∀ b∈A,B b≠none):∀(ds:List Dt) {H:Hp} {vs:List V},(∀ b∈A,∀ o,H b=some o->∃ vs,o = .lst vs)->Rps K B ds H vs->Rps K B ds (hidL A H) vs
 | [],_,vs,_,h=>by unfold Rps at h ⊢;exact h
 | d::ds,_,vs,hA,h=>by
  unfold Rps at h ⊢;obtain⟨v,r,rfl,h1,h2⟩:=h;exact⟨v,r,rfl,Rp.hid hB d hA h1,Rps.hid hB ds hA h2⟩
end
end
mutual
def Dt.flat:Dt->Bool
 | .lst _=>false
 | .scr _=>false
 | .tup ds=>J8 ds
 | _=>true
def J8:List Dt->Bool
 | []=>true
 | d::ds=>d.flat&&J8 ds
end
section
variable {K:aD}{B B' H H':Hp}
mutual
theorem Rp.flat:∀(d:Dt) {H:Hp} {v:V},d.flat=true->Rp K B d H v->Rp K B' d H v
 | .non,_,v,_,h=>by unfold Rp at h ⊢;exact h
 | .bl b,_,v,_,h=>by unfold Rp at h ⊢;exact h
 | .int i,_,v,_,h=>by unfold Rp at h ⊢;exact h
 | .str x,_,v,_,h=>by unfold Rp at h ⊢;exact h
 | .dic,_,v,_,h=>by unfold Rp at h ⊢;exact h
 | .lst ds,_,v,f,h=>by unfold Dt.flat at f;cases f
 | .tup ds,_,v,f,h=>by
  unfold Dt.flat at f;unfold Rp at h ⊢;obtain⟨a,vs,rfl,h1,h2⟩:=h;exact⟨a,vs,rfl,h1,Rps.flat ds f h2⟩
 | .scr ns,_,v,f,h=>by unfold Dt.flat at f;cases f
theorem Rps.flat:∀(ds:List Dt) {H:Hp} {vs:List V},J8 ds=true->Rps K B ds H vs->Rps K B' ds H vs
 | [],_,vs,_,h=>by unfold Rps at h ⊢;exact h
 | d::ds,_,vs,f,h=>by
  unfold J8 at f;rw[wN]at f;unfold Rps at h ⊢;obtain⟨v,r,rfl,h1,h2⟩:=h;exact⟨v,r,rfl,Rp.flat d f.1 h1,Rps.flat ds f.2 h2⟩
end
theorem Rps.length:∀{ds:List Dt} {vs:List V},Rps K B ds H vs->vs.length=ds.length
 | [],vs,h=>by rw[Rps.nil_.mp h];rfl
 | d::ds,vs,h=>by
  obtain⟨v,r,rfl,_,h2⟩:=Rps.cons_.mp h;rw[wu,wu,Rps.length h2]
theorem Rps.get:∀{ds:List Dt} {vs:List V} {i:Nat} {d:Dt},Rps K B ds H vs->ds[i]?=some d->∃ v,vs[i]?=some v/\Rp K B d H v
 | [],vs,i,d,_,e=>by simp at e
 | c::ds,vs,0,d,h,e=>by
  obtain⟨v,r,rfl,h1,_⟩:=Rps.cons_.mp h;simp at e;subst e;exact⟨v,rfl,h1⟩
 | c::ds,vs,i+1,d,h,e=>by
  obtain⟨v,r,rfl,_,h2⟩:=Rps.cons_.mp h;have e:ds[i]?=some d:=by simpa using e
  obtain⟨u,q1,q2⟩:=Rps.get h2 e;exact⟨u,by simpa using q1,q2⟩
theorem Rps.append:∀{ds ds':List Dt} {vs vs':List V},Rps K B ds H vs->Rps K B ds' H vs'->Rps K B (ds++ds') H (vs++vs')
 | [],ds',vs,vs',h,h'=>by rw[Rps.nil_.mp h];exact h'
 | d::ds,ds',vs,vs',h,h'=>by
  obtain⟨v,r,rfl,h1,h2⟩:=Rps.cons_.mp h;exact Rps.cons_.mpr ⟨v,r++vs',rfl,h1,Rps.append h2 h'⟩
theorem Rps.one{d:Dt}{v:V}(h:Rp K B d H v):Rps K B [d] H [v]:=Rps.cons_.mpr ⟨v,[],rfl,h,Rps.nil_.mpr rfl⟩
theorem Rps.take:∀{ds:List Dt} {vs:List V} (n:Nat),Rps K B ds H vs->Rps K B (ds.take n) H (vs.take n)
 | ds,vs,0,_=>by rw[w1q,w1q];exact Rps.nil_.mpr rfl
 | [],vs,n+1,h=>by rw[Rps.nil_.mp h];exact Rps.nil_.mpr rfl
 | d::ds,vs,n+1,h=>by
  obtain⟨v,r,rfl,h1,h2⟩:=Rps.cons_.mp h;exact Rps.cons_.mpr ⟨v,r.take n,rfl,h1,Rps.take n h2⟩
theorem Rps.drop:∀{ds:List Dt} {vs:List V} (n:Nat),Rps K B ds H vs->Rps K B (ds.drop n) H (vs.drop n)
 | ds,vs,0,h=>h
 | [],vs,n+1,h=>by rw[Rps.nil_.mp h];exact Rps.nil_.mpr rfl
 | d::ds,vs,n+1,h=>by
  obtain⟨v,r,rfl,h1,h2⟩:=Rps.cons_.mp h;exact Rps.drop n h2
theorem Rps.set:∀{ds:List Dt} {vs:List V} (i:Nat) {d:Dt} {v:V},Rps K B ds H vs->Rp K B d H v->Rps K B (ds.set i d) H (vs.set i v)
 | [],vs,i,d,v,h,_=>by rw[Rps.nil_.mp h];exact Rps.nil_.mpr rfl
 | c::ds,vs,0,d,v,h,q=>by
  obtain⟨u,r,rfl,h1,h2⟩:=Rps.cons_.mp h;exact Rps.cons_.mpr ⟨v,r,rfl,q,h2⟩
 | c::ds,vs,i+1,d,v,h,q=>by
  obtain⟨u,r,rfl,h1,h2⟩:=Rps.cons_.mp h;exact Rps.cons_.mpr ⟨u,r.set i v,rfl,h1,Rps.set i h2 q⟩
theorem Rps.ints:∀{ns:aH} {vs:List V},Rps K B (ns.map Dt.int) H vs↔vs=ns.map V.int
 | [],vs=>Rps.nil_
 | n::ns,vs=>by
  rw[wo,Rps.cons_];constructor
  · rintro⟨v,r,rfl,h1,h2⟩;rw[Rp.int_.mp h1,Rps.ints.mp h2];rfl
  · rintro rfl;exact⟨_,_,rfl,Rp.int_.mpr rfl,Rps.ints.mpr rfl⟩
theorem NT{p:Addr}{o:HO}(h:H p=none):hidL [p] (upd H p o)=H:=funext λb=>by
 by_cases q:b=p
 · subst q;rw[T1 (by simp),h]
 · rw[u8 (by simpa using q),z9 q]
theorem F8{p:Addr}{o:HO}(h:H p=none):Same H (upd H p o):=λb u e=>by rw[z9 (R4 e h)];exact e
theorem Rp.new{ds:List Dt}{vs:List V}{p:Addr}(hp:H p=none)(hB:B p=none)(r:Rps K B ds H vs):Rp K B (.lst ds) (upd H p (.lst vs)) (.ref p) :=
 Rp.lst_.mpr ⟨p,vs,rfl,hB,D8,by rw[NT hp];exact r⟩
end
inductive Fl where
 | sh|tn|fr|nw
def Fl.isNw:Fl->Bool
 | .nw=>true
 | _=>false
def Fl.isFr:Fl->Bool
 | .nw=>true
 | .fr=>true
 | _=>false
abbrev Dv:=Fl×Dt
def nrm(f:Fl)(d:Dt):Dv:=(if d.flat then .nw else f,d)
structure Ky where
 K:aD
 H₀:Hp
abbrev Cx.ky(X:Cx):Ky:=⟨X.K,X.H₀⟩
def RpF(X:Ky)(H:Hp)(f:Fl)(d:Dt)(H':Hp)(v:V):Prop:=match f with
 | .sh=>Rp X.K emp d H' v
 | .tn=>Rp X.K emp d H' v/\(∃ ds,d = .lst ds)/\∀ a,v = .ref a->H a=none
 | .fr=>Rp X.K X.H₀ d H' v
 | .nw=>Rp X.K H d H' v
section
variable {X:Ky}{H H' H1:Hp}{f:Fl}{d:Dt}{v:V}
theorem RpF.sh(h:RpF X H f d H' v):Rp X.K emp d H' v:=by
 cases f with
 | sh=>exact h
 | tn=>exact h.1
 | fr=>exact Rp.anti Same.emp d h
 | nw=>exact Rp.anti Same.emp d h
theorem RpF.fr(h0:Same X.H₀ H)(e:f.isFr=true)(h:RpF X H f d H' v):Rp X.K X.H₀ d H' v:=by
 cases f with
 | sh=>cases e
 | tn=>cases e
 | fr=>exact h
 | nw=>exact Rp.anti h0 d h
theorem RpF.mono(h:RpF X H f d H' v)(s:Same H' H1):RpF X H f d H1 v:=by
 cases f with
 | sh=>exact Rp.mono d s h
 | tn=>exact⟨Rp.mono d s h.1,h.2⟩
 | fr=>exact Rp.mono d s h
 | nw=>exact Rp.mono d s h
theorem RpF.early(s:Same H H1)(h:RpF X H1 f d H' v):RpF X H f d H' v:=by
 cases f with
 | sh=>exact h
 | tn=>exact⟨h.1,h.2.1,λa e=>s.free (h.2.2 a e)⟩
 | fr=>exact h
 | nw=>exact Rp.anti s d h
theorem RpF.nrm(h:RpF X H f d H' v):RpF X H (nrm f d).1 d H' v:=by
 unfold L2.nrm;by_cases q:d.flat=true
 · rw[if_pos q];exact Rp.flat d q h.sh
 · rw[if_neg q];exact h
theorem RpF.scal(q:d.flat=true)(h:Rp X.K emp d H' v):RpF X H .nw d H' v:=Rp.flat d q h
end
inductive Cell where
 | no|sh (f:Bool) (d:Dt)|ow (f:Bool) (ds:List Dt)|ex
abbrev Rho:=List Cell
def flOf(f:Bool):Fl:=if f then .fr else .sh
def Cell.val:Cell->Option Dv
 | .no=>none
 | .ex=>none
 | .sh f d=>some (nrm (flOf f) d)
 | .ow f ds=>some (flOf f,.lst ds)
def KC(ρ:Rho)(i:Nat):Option Dv:=(ρ[i]?).bind Cell.val
def bsOf(X:Ky)(f:Bool):Hp:=if f then X.H₀ else emp
def ExcAt(K:aD)(a:Addr)(h:Heap):Prop:=∃ oe C,h.get? a=some oe/\oe.cls = .ref C/\PySem.W.kitCls K (.ref C) (.type "ValueError")=some true
def RpC(X:Ky)(H:Hp):Cell->Option V->Prop
 | .no,_=>True
 | .ex,o=>∃ a φ,o=some (.ref a)/\H a=some (.ext φ)/\∀ h,φ h->ExcAt X.K a h
 | .sh f d,o=>∃ v,o=some v/\Rp X.K (bsOf X f) d H v
 | .ow f ds,o=>∃ v,o=some v/\Rp X.K (bsOf X f) (.lst ds) H v
structure RepS(X:Ky)(H:Hp)(ρ:Rho)(σ:St):Prop where
 len:ρ.length=σ.length
 base:Same X.H₀ H
 at_:∀(i:Nat) (c:Cell),ρ[i]?=some c->∃ o,σ[i]?=some o/\RpC X H c o
section
variable {X:Ky}{H H':Hp}{ρ:Rho}{σ:St}
theorem RpC.mono(e:Same H H'){c:Cell}{o:Option V}(h:RpC X H c o):RpC X H' c o:=by
 cases c with
 | no=>trivial
 | ex=>obtain⟨a,φ,q,r,z⟩:=h;exact⟨a,φ,q,e _ _ r,z⟩
 | sh f d=>obtain⟨v,q,r⟩:=h;exact⟨v,q,Rp.mono d e r⟩
 | ow f ds=>obtain⟨v,q,r⟩:=h;exact⟨v,q,Rp.mono _ e r⟩
theorem RepS.mono(h:RepS X H ρ σ)(e:Same H H'):RepS X H' ρ σ:=⟨h.len,h.base.trans e,λi c q=>by obtain⟨o,q1,q2⟩:=h.at_ i c q;exact⟨o,q1,q2.mono e⟩⟩
theorem Zo{f:Bool}{d:Dt}{v:V}(h:Rp X.K (bsOf X f) d H v):RpF X H (flOf f) d H v:=by
 cases f with
 | false=>exact h
 | true=>exact h
theorem RepS.val(h:RepS X H ρ σ){i:Nat}{f:Fl}{d:Dt}(e:KC ρ i=some (f,d)):∃ v,σ[i]?=some (some v)/\RpF X H f d H v:=by
 unfold KC at e;cases q:ρ[i]? with
 | none=>rw[q]at e;cases e
 | some c =>
  rw[q]at e;obtain⟨o,q1,q2⟩:=h.at_ i c q;cases c with
  | no=>cases e
  | ex=>cases e
  | sh f' d' =>
   obtain⟨v,rfl,r⟩:=q2;have e:nrm (flOf f') d'=(f,d):=Option.some.inj e;have r':=(Zo r).nrm;refine⟨v,q1,?_⟩;have e1:d'=d:=congrArg Prod.snd e;subst e1;rw[e]at r';exact r'
  | ow f' ds =>
   obtain⟨v,rfl,r⟩:=q2;cases e;exact⟨v,q1,Zo r⟩
end
end L2

end
section
namespace L2
open PySem PySem.Spec PyProof.Rows
theorem PE.imp{X:Cx}{e:Expr}{t t':TE}(h:PE X e t)(q:∀ σ H Q,t' σ H Q->t σ H Q):PE X e t':=λπ s σ H Q I z=>h π s σ H Q I (q σ H Q z)
theorem PT.imp{X:Cx}{e:Expr}{t t':TT}(h:PT X e t)(q:∀ σ H Q,t' σ H Q->t σ H Q):PT X e t':=λπ s σ H Q I z=>h π s σ H Q I (q σ H Q z)
theorem PW.imp{X:Cx}{e:Expr}{t t':TT}(h:PW X e t)(q:∀ σ H Q,t' σ H Q->t σ H Q):PW X e t':=λwhole π s σ H Q I z=>h whole π s σ H Q I (q σ H Q z)
theorem PA.imp{X:Cx}{es:List Expr}{t t':TA}(h:PA X es t)(q:∀ σ H Q,t' σ H Q->t σ H Q):PA X es t':=λpos π s σ H Q I z=>h pos π s σ H Q I (q σ H Q z)
theorem i8{α β:Type}{o:Option α}{f:α->Option β}{b:β}(h:o.bind f=some b):∃ a,o=some a/\f a=some b:=by
 cases o with
 | none=>cases h
 | some a=>exact⟨a,rfl,h⟩
section
variable {X:Ky}{H H':Hp}
theorem RpF.i_{i:Int}:RpF X H .nw (.int i) H' (.int i):=(Rp.int_ (K:=X.K) (B:=H) (H:=H')).mpr rfl
theorem RpF.b_{i:Bool}:RpF X H .nw (.bl i) H' (.bl i):=(Rp.bl_ (K:=X.K) (B:=H) (H:=H')).mpr rfl
theorem RpF.n_:RpF X H .nw .non H' .non:=(Rp.non_ (K:=X.K) (B:=H) (H:=H')).mpr rfl
end
abbrev FE:=Rho->Option Dv
abbrev FT:=Rho->Option Bool
abbrev FA:=Rho->Option (List Dv)
def upK(Y:Ky)(F:FE):TE:=λσ H Q=>∃ ρ f d,RepS Y H ρ σ/\F ρ=some (f,d)/\∀ v H',Same H H'->RpF Y H f d H' v->Q v H'
abbrev upF(X:Cx)(F:FE):TE:=upK X.ky F
def PF(X:Cx)(e:Expr)(F:FE):Prop:=PE X e (upF X F)
def upBK(Y:Ky)(F:FT):TT:=λσ H Q=>∃ ρ b,RepS Y H ρ σ/\F ρ=some b/\∀ H',Same H H'->Q b H'
abbrev upB(X:Cx)(F:FT):TT:=upBK X.ky F
def PFT(X:Cx)(e:Expr)(F:FT):Prop:=PT X e (upB X F)
def PFW(X:Cx)(e:Expr)(F:FT):Prop:=PW X e (upB X F)
theorem PFW.pt{X:Cx}{e:Expr}{F:FT}(h:PFW X e F):PFT X e F:=PW.pt h
section
variable {X:Cx}{a b c e:Expr}{Fa Fb Fc:FE}{pos:Pos}
def fN(i:Nat):FE:=λρ=>KC ρ i
theorem g6(i:Nat){x:Str}{pos:Pos}(hN:X.N[i]?=some x:=by rfl)(hv:Vis X.env.scope x:=by first|exact Or.inl rfl|exact Or.inr (Or.inl rfl)|exact Or.inr (Or.inr rfl))(hd:(x==("__debug__" : Str))=false:=by decide)
  (hcd:(x==("__classdict__" : Str))=false:=by decide):PF X (.Name x pos) (fN i) :=
 (Mu hN hv hd hcd).imp fun σ H Q ⟨ρ,f,d,rs,e,k⟩=>by
  obtain⟨v,e1,e2⟩:=rs.val e;exact⟨v,e1,k v H (Same.refl H) e2⟩
def fC(d:Dt):FE:=λ_=>some (.nw,d)
theorem j8{i:Int}{j:Nat}:PF X (.Constant (.int i) j pos) (fC (.int i)):=pe_int.imp (by rintro σ H Q ⟨ρ,f,d,rs,e,k⟩;cases e;exact k _ H (Same.refl H) RpF.i_)
theorem p_bl{v:Bool}{j:Nat}:PF X (.Constant (.bool v) j pos) (fC (.bl v)):=pe_bl.imp (by rintro σ H Q ⟨ρ,f,d,rs,e,k⟩;cases e;exact k _ H (Same.refl H) RpF.b_)
theorem NU{j:Nat}:PF X (.Constant .none j pos) (fC .non):=pe_non.imp (by rintro σ H Q ⟨ρ,f,d,rs,e,k⟩;cases e;exact k _ H (Same.refl H) RpF.n_)
theorem Zp{x:Str}{i:Int}{t:Tok}(hg:Gl X x)(hm:X.mg x=some (.int i t))(hd:(x==("__debug__" : Str))=false:=by decide):PF X (.Name x pos) (fC (.int i)) :=
 (VZ (v:=V.int i) hg hm ⟨t,rfl⟩ hd).imp (by rintro σ H Q ⟨ρ,f,d,rs,e,k⟩;cases e;exact k _ H (Same.refl H) RpF.i_)
abbrev FO:=Dt->Dt->Option Dv
def OpF(X:Cx)(f:Value->Value->Sem Value)(r:FO):Prop :=
 OpR X f (λx y H Q=>∃ dx dy f d,Rp X.K emp dx H x/\Rp X.K emp dy H y/\r dx dy=some (f,d)/\∀ v H',Same H H'->RpF X.ky H f d H' v->Q v H')
def fOp(r:FO)(Fa Fb:FE):FE:=λρ=>(Fa ρ).bind λx=>(Fb ρ).bind λy=>r x.2 y.2
theorem Qc{r:FO}{σ:St}{H:Hp}{Q:VK}(h:upF X (fOp r Fa Fb) σ H Q):
  upF X Fa σ H λx H1=>upF X Fb σ H1 λy H2=>∃ dx dy f d,Rp X.K emp dx H2 x/\Rp X.K emp dy H2 y/\r dx dy=some (f,d)/\∀ v H',Same H2 H'->RpF X.ky H2 f d H' v->Q v H':=by
 obtain⟨ρ,f,d,rs,e,k⟩:=h;obtain⟨⟨fa,da⟩,ea,e⟩:=i8 e;obtain⟨⟨fb,db⟩,eb,e⟩:=i8 e;exact⟨ρ,fa,da,rs,ea,λv H1 s1 r1=>⟨ρ,fb,db,rs.mono s1,eb,λu H2 s2 r2=>⟨da,db,f,d,Rp.mono _ s2 r1.sh,r2.sh,e,λw H' s' r'=>k w H' (s1.trans (s2.trans s')) (r'.early (s1.trans s2))⟩⟩⟩
theorem p_op{op:Operator}{r:FO}(ho:OpF X (binaryOp op) r)(ha:PF X a Fa)(hb:PF X b Fb):PF X (.BinOp a op b pos) (fOp r Fa Fb):=(pe_op ho ha hb).imp λσ H Q h=>Qc h
theorem p_cmp{op:CmpOp}{r:FO}(ho:OpF X (compareOp op) r)(ha:PF X a Fa)(hb:PF X b Fb)(hm:behindInMarks op b=false):PF X (.Compare a [op] [b] pos) (fOp r Fa Fb):=(z3s ho ha hb hm).imp λσ H Q h=>Qc h
def rII(C:Int->Int->Bool)(g:Int->Int->Dt):FO
 | .int i,.int j=>if C i j then some (.nw,g i j) else none
 | _,_=>none
theorem MG{f:Value->Value->Sem Value}{P:Int->Int->Prop}{C:Int->Int->Bool}{g:Int->Int->V}{g':Int->Int->Dt}(ho:OpR X f (rI P g))(hP:∀ i j,C i j=true->P i j)(hf:∀ i j,(g' i j).flat=true)(hg:∀ i j H,Rp X.K emp (g' i j) H (g i j)):OpF X f (rII C g') :=
 λπ s σ H x y v u Q I r1 r2 ⟨d1,d2,f,d,q1,q2,e,k⟩=>by
  unfold rII at e;split at e
  · rename_i i j;split at e
    · rename_i hc;cases e;rw[Rp.int_]at q1 q2;exact ho π s σ H x y v u Q I r1 r2 ⟨i,j,q1,q2,hP i j hc,k _ H (Same.refl H) (RpF.scal (hf i j) (hg i j H))⟩
    · cases e
  · cases e
theorem CZ{f:Value->Value->Sem Value}{g:Int->Int->V}{g':Int->Int->Dt}(ho:OpR X f (rI0 g))(hf:∀ i j,(g' i j).flat=true)(hg:∀ i j H,Rp X.K emp (g' i j) H (g i j)):OpF X f (rII (λ_ _=>true) g') :=
 λπ s σ H x y v u Q I r1 r2 ⟨d1,d2,f,d,q1,q2,e,k⟩=>by
  unfold rII at e;split at e
  · rename_i i j;rw[if_pos rfl]at e;cases e;rw[Rp.int_]at q1 q2;exact ho π s σ H x y v u Q I r1 r2 ⟨i,j,q1,q2,k _ H (Same.refl H) (RpF.scal (hf i j) (hg i j H))⟩
  · cases e
def OpF.or{f:Value->Value->Sem Value}{r r':FO}(h:OpF X f r)(h':OpF X f r'):OpF X f (λx y=>(r x y).orElse λ_=>r' x y) :=
 λπ s σ H x y v u Q I r1 r2⟨d1,d2,f,d,q1,q2,e,k⟩=>by
  replace e:((r d1 d2).orElse λ_=>r' d1 d2)=some (f,d):=e;cases q:r d1 d2 with
  | some z =>
   rw[q]at e;cases e;exact h π s σ H x y v u Q I r1 r2 ⟨d1,d2,_,_,q1,q2,q,k⟩
  | none =>
   rw[q]at e;exact h' π s σ H x y v u Q I r1 r2 ⟨d1,d2,_,_,q1,q2,e,k⟩
def D9(i j:Int):Bool:=decide (Builtin.Int.intBits i+Builtin.Int.intBits j<=134217728)||(decide (i.natAbs<2 ^ 64)||decide (j.natAbs<2 ^ 64))
def P8(_ j:Int):Bool:=decide (j≠0)&&decide (j.natAbs.log2<9000)
def Ca(_ j:Int):Bool:=decide (j≠0)
def Iq(i j:Int):Bool:=decide (0<=j)&&decide (j<=1000000)&&decide (i.natAbs<2 ^ 64)
theorem z3H:OpR X (binaryOp .Mult) (rI (λi j=>D9 i j=true) λi j => .int (i*j)):=opI λi j _ _ _ _ _ hc q=>by
 refine mul_int q ?_;unfold D9 at hc;rw[w03,w03]at hc;rcases hc with hc|hc|hc
 · exact IntMulOk.of_le (wB _) (wB _) (of_decide_eq_true hc)
 · have:=of_decide_eq_true hc;exact CMul.ok (.inl ⟨by rfl',by rfl'⟩)
 · have:=of_decide_eq_true hc;exact CMul.ok (.inr ⟨by rfl',by rfl'⟩)
def Zq:FO:=rII (λ_ _=>true) λi j => .int (i+j)
def DF:FO:=rII (λ_ _=>true) λi j => .int (i-j)
def D6:FO:=rII D9 λi j => .int (i*j)
def Ap:FO:=rII P8 λi j => .int (i.fdiv j)
def T5:FO:=rII Ca λi j => .int (i.fmod j)
def KD:FO:=rII Iq λi j => .int (i ^ j.toNat)
def opLt:FO:=rII (λ_ _=>true) λi j => .bl (decide (i<j))
def opLe:FO:=rII (λ_ _=>true) λi j => .bl (decide (i<=j))
def opGt:FO:=rII (λ_ _=>true) λi j => .bl (decide (j<i))
def opGe:FO:=rII (λ_ _=>true) λi j => .bl (decide (j<=i))
theorem o_addI:OpF X (binaryOp .Add) Zq:=CZ op_add (λ_ _=>rfl) λ_ _ _=>Rp.int_.mpr rfl
theorem NV:OpF X (binaryOp .Sub) DF:=CZ op_sub (λ_ _=>rfl) λ_ _ _=>Rp.int_.mpr rfl
theorem Aq:OpF X (binaryOp .Mult) D6:=MG z3H (λ_ _ h=>h) (λ_ _=>rfl) λ_ _ _=>Rp.int_.mpr rfl
theorem Bd:OpF X (binaryOp .FloorDiv) Ap:=MG Zm (λi j h=>by unfold P8 at h;rw[wN]at h;exact⟨of_decide_eq_true h.1,of_decide_eq_true h.2⟩) (λ_ _=>rfl) λ_ _ _=>Rp.int_.mpr rfl
theorem BR:OpF X (binaryOp .Mod) T5:=MG z3r (λi j h=>of_decide_eq_true h) (λ_ _=>rfl) λ_ _ _=>Rp.int_.mpr rfl
theorem Zr:OpF X (binaryOp .Pow) KD:=MG op_pow (λi j h=>by unfold Iq at h;rw[wN,wN]at h;exact⟨of_decide_eq_true h.1.1,of_decide_eq_true h.1.2,of_decide_eq_true h.2⟩) (λ_ _=>rfl) λ_ _ _=>Rp.int_.mpr rfl
theorem o_lt:OpF X (compareOp .Lt) opLt:=CZ op_lt (λ_ _=>rfl) λ_ _ _=>Rp.bl_.mpr rfl
theorem o_le:OpF X (compareOp .LtE) opLe:=CZ op_le (λ_ _=>rfl) λ_ _ _=>Rp.bl_.mpr rfl
theorem o_gt:OpF X (compareOp .Gt) opGt:=CZ op_gt (λ_ _=>rfl) λ_ _ _=>Rp.bl_.mpr rfl
theorem o_ge:OpF X (compareOp .GtE) opGe:=CZ op_ge (λ_ _=>rfl) λ_ _ _=>Rp.bl_.mpr rfl
def lfl(ds:List Dt):Fl:=if J8 ds then .nw else .tn
def newL(ds:List Dt):Dv:=(lfl ds,.lst ds)
theorem Ew{X:Ky}{H:Hp}{ds:List Dt}{vs:List V}{p:Addr}(hp:H p=none)(r:Rps X.K emp ds H vs):RpF X H (lfl ds) (.lst ds) (upd H p (.lst vs)) (.ref p):=by
 unfold lfl;by_cases q:J8 ds=true
 · rw[if_pos q];exact Rp.new hp hp (Rps.flat ds q r)
 · rw[if_neg q];exact⟨Rp.new hp rfl r,⟨ds,rfl⟩,λa e=>by cases e;exact hp⟩
def Cb:FO
 | .lst xs,.lst ys=>if xs.length+ys.length<=1000000 then some (newL (xs++ys)) else none
 | _,_=>none
theorem Rp.items{K:aD}{B H:Hp}{ds:List Dt}{v:V}(h:Rp K B (.lst ds) H v):∃ a vs,v = .ref a/\B a=none/\H a=some (.lst vs)/\Rps K B ds H vs:=by
 obtain⟨a,vs,e,h0,h1,h2⟩:=Rp.lst_.mp h;exact⟨a,vs,e,h0,h1,Rps.mono _ A8 h2⟩
theorem o_cat:OpF X (binaryOp .Add) Cb:=by
 rintro π s σ H x y v u Q I r1 r2 ⟨d1,d2,f,d,q1,q2,e,k⟩;unfold Cb at e;split at e
 · rename_i xs ys;split at e
   · rename_i hc;cases e;obtain⟨a,vs,rfl,_,ha,ra⟩:=q1.items;obtain⟨b,ws,rfl,_,hb,rb⟩:=q2.items;exact op_cat π s σ H _ _ v u Q I r1 r2 ⟨a,b,vs,ws,rfl,rfl,ha,hb,wK (by rw[ra.length,rb.length];exact hc) (by decide),λp hp=>k _ _ (F8 hp) (Ew hp (ra.append rb))⟩
   · cases e
 · cases e
def u6:FO:=λx y=>(Zq x y).orElse λ_=>Cb x y
theorem R1:OpF X (binaryOp .Add) u6:=o_addI.or o_cat
def truD:Dt->Option Bool
 | .non=>some false
 | .bl b=>some b
 | .int i=>some (i != 0)
 | .lst ds=>some (!ds.isEmpty)
 | .tup ds=>some (!ds.isEmpty)
 | _=>none
theorem Rps.isEmpty{K:aD}{B H:Hp}{ds:List Dt}{vs:List V}(h:Rps K B ds H vs):(!vs.isEmpty)=!ds.isEmpty:=by
 have:=h.length;cases ds<;>cases vs<;>first|rfl|(simp at this)
theorem z3I{H:Hp}{d:Dt}{v:V}{k:Bool}(r:Rp X.K emp d H v)(e:truD d=some k):TruV X.K v H k:=by
 cases d with
 | non=>rw[Rp.non_.mp r];cases e;rfl
 | bl b=>rw[Rp.bl_.mp r];cases e;rfl
 | int i=>rw[Rp.int_.mp r];cases e;rfl
 | str x=>cases e
 | dic=>cases e
 | scr x=>cases e
 | lst ds =>
  obtain⟨p,vs,rfl,_,h1,h2⟩:=r.items;cases e;exact .inl ⟨vs,SqL.of h1,h2.isEmpty.symm⟩
 | tup ds =>
  obtain⟨p,vs,rfl,h1,h2⟩:=Rp.tup_.mp r;cases e;exact .inr (.inl ⟨vs,h1,h2.isEmpty.symm⟩)
def blD:Dt->Option Bool
 | .bl b=>some b
 | _=>none
def u9(F:FE):FT:=λρ=>(F ρ).bind λx=>blD x.2
def fTru(F:FE):FT:=λρ=>(F ρ).bind λx=>truD x.2
theorem t_cmp{op:CmpOp}{r:FO}(ho:OpF X (compareOp op) r)(ha:PF X a Fa)(hb:PF X b Fb)(hm:behindInMarks op b=false):PFT X (.Compare a [op] [b] pos) (u9 (fOp r Fa Fb)) :=
 (z3t ho ha hb hm).imp fun σ H Q hZ=>hZ.elim fun ρ hZ=>hZ.elim fun k hZ=>hZ.elim fun rs hZ=>hZ.elim fun e q=>by
  obtain⟨⟨f,d⟩,e1,e2⟩:=i8 e;refine Qc ⟨ρ,f,d,rs,e1,λv H' s r=>?_⟩;cases d<;>first|cases e2|skip
  exact⟨k,Rp.bl_.mp r.sh,q H' s⟩
theorem Ar(ha:PF X a Fa)(he:∀ whole,isTrue a X.env whole=(do let v ←whole;standAt a.pos;holding [v] (truthy v))):PFT X a (fTru Fa) :=
 (Za ha he).imp fun σ H Q hZ=>hZ.elim fun ρ hZ=>hZ.elim fun k hZ=>hZ.elim fun rs hZ=>hZ.elim fun e q=>by
  obtain⟨⟨f,d⟩,e1,e2⟩:=i8 e;exact⟨ρ,f,d,rs,e1,λv H' s r=>⟨k,z3I r.sh e2,q H' s⟩⟩
def fNot(F:FT):FT:=λρ=>(F ρ).map not
theorem BS{F:FT}(ha:PFT X a F):PFT X (.UnaryOp .Not a pos) (fNot F):=(pt_not ha).imp λσ H Q⟨ρ,k,rs,e,q⟩=>by
 unfold fNot at e;cases h:F ρ with
 | none=>rw[h]at e;cases e
 | some b=>rw[h]at e;cases e;exact⟨ρ,b,rs,h,q⟩
def fAnd(F G:FT):FT:=λρ=>(F ρ).bind λb=>if b then G ρ else some false
def fOr(F G:FT):FT:=λρ=>(F ρ).bind λb=>if b then some true else G ρ
theorem KE{F:FT}(ha:PFT X a F):PFW X (.BoolOp .Or [a] pos) F:=pw_or1 ha
theorem w_or{rest:List Expr}{F G:FT}(ha:PFT X a F)(hb:PFW X (.BoolOp .Or (b::rest) pos) G):PFW X (.BoolOp .Or (a::b::rest) pos) (fOr F G) :=
 (pw_or ha hb).imp fun σ H Q hZ=>hZ.elim fun ρ hZ=>hZ.elim fun k hZ=>hZ.elim fun rs hZ=>hZ.elim fun e q=>by
  obtain⟨z,e1,e2⟩:=i8 e;refine⟨ρ,z,rs,e1,λH' s=>?_⟩;dsimp only;cases z with
  | true=>rw[if_pos rfl]at e2 ⊢;cases e2;exact q H' s
  | false=>rw[if_neg wL]at e2 ⊢;exact⟨ρ,k,rs.mono s,e2,λH'' s'=>q H'' (s.trans s')⟩
def vAnd(F G:FE):FE:=λρ=>(u9 F ρ).bind λb=>if b then G ρ else some (.nw,.bl false)
def vOr(F G:FE):FE:=λρ=>(u9 F ρ).bind λb=>if b then some (.nw,.bl true) else G ρ
def vNot(F:FE):FE:=λρ=>(u9 F ρ).map λb=>(.nw,.bl (!b))
theorem We{op}(h:PF X a Fa):PF X (.BoolOp op [a] pos) Fa:=pe_one h
theorem Wf{rest:List Expr}(ha:PF X a Fa)(hb:PF X (.BoolOp .And (b::rest) pos) Fb):PF X (.BoolOp .And (a::b::rest) pos) (vAnd Fa Fb) :=
 (pe_and ha hb).imp fun σ H Q hZ=>hZ.elim fun ρ hZ=>hZ.elim fun f hZ=>hZ.elim fun d hZ=>hZ.elim fun rs hZ=>hZ.elim fun e k=>by
  obtain⟨z,e1,e2⟩:=i8 e;obtain⟨⟨f1,d1⟩,e3,e4⟩:=i8 e1;refine⟨ρ,f1,d1,rs,e3,λv H' s r=>?_⟩;cases d1<;>first|cases e4|skip
  refine⟨z,Rp.bl_.mp r.sh,?_⟩;cases z with
  | true=>rw[if_pos rfl]at e2 ⊢;exact⟨ρ,f,d,rs.mono s,e2,λv H'' s' r=>k v H'' (s.trans s') (r.early s)⟩
  | false=>rw[if_neg wL]at e2 ⊢;cases e2;exact k _ H' s RpF.b_
theorem p_not(ha:PF X a Fa):PF X (.UnaryOp .Not a pos) (vNot Fa):=(pe_not ha).imp λσ H Q⟨ρ,f,d,rs,e,k⟩=>by
 unfold vNot at e;cases h:u9 Fa ρ with
 | none=>rw[h]at e;cases e
 | some z =>
  rw[h]at e;cases e;obtain⟨⟨f1,d1⟩,e3,e4⟩:=i8 h;refine⟨ρ,f1,d1,rs,e3,λv H' s r=>?_⟩;cases d1<;>first|cases e4|skip
  exact⟨z,Rp.bl_.mp r.sh,k _ H' s RpF.b_⟩
def fIf(F:FT)(Fa Fb:FE):FE:=λρ=>(F ρ).bind λb=>if b then Fa ρ else Fb ρ
theorem p_if{F:FT}(hc:PFT X c F)(ha:PF X a Fa)(hb:PF X b Fb):PF X (.IfExp c a b pos) (fIf F Fa Fb) :=
 (YS hc ha hb).imp fun σ H Q hZ=>hZ.elim fun ρ hZ=>hZ.elim fun f hZ=>hZ.elim fun d hZ=>hZ.elim fun rs hZ=>hZ.elim fun e k=>by
  obtain⟨z,e1,e2⟩:=i8 e;refine⟨ρ,z,rs,e1,λH' s=>?_⟩;dsimp only;cases z with
  | true=>rw[if_pos rfl]at e2 ⊢;exact⟨ρ,f,d,rs.mono s,e2,λv H'' s' r=>k v H'' (s.trans s') (r.early s)⟩
  | false=>rw[if_neg wL]at e2 ⊢;exact⟨ρ,f,d,rs.mono s,e2,λv H'' s' r=>k v H'' (s.trans s') (r.early s)⟩
def fNeg(F:FE):FE:=λρ=>(F ρ).bind λx=>match x.2 with|.int i=>some (.nw,.int (-i))|_=>none
theorem KG(ha:PF X a Fa):PF X (.UnaryOp .USub a pos) (fNeg Fa):=(pe_un un_neg ha).imp λσ H Q ⟨ρ,f,d,rs,e,k⟩=>by
 obtain⟨⟨f1,d1⟩,e1,e2⟩:=i8 e;refine⟨ρ,f1,d1,rs,e1,λv H' s r=>?_⟩;cases d1<;>first|cases e2|skip
 rename_i i;exact⟨i,Rp.int_.mp r.sh,k _ H' s RpF.i_⟩
def Ir(r r':FO)(Fa Fb Fc:FE):FE:=λρ=>(Fa ρ).bind λx=>(Fb ρ).bind λy=>(r x.2 y.2).bind λz=>(blD z.2).bind λk=>if k then(Fc ρ).bind λw=>r' y.2 w.2 else some (.nw,.bl false)
theorem XD{r r':FO}{σ:St}{H:Hp}{Q:VK}(h:upF X (Ir r r' Fa Fb Fc) σ H Q):
  YY (λx y H Q=>∃ dx dy f d,Rp X.K emp dx H x/\Rp X.K emp dy H y/\r dx dy=some (f,d)/\∀ v H',Same H H'->RpF X.ky H f d H' v->Q v H') (λx y H Q=>∃ dx dy f d,Rp X.K emp dx H x/\Rp X.K emp dy H y/\r' dx dy=some (f,d)/\∀ v H',Same H H'->RpF X.ky H f d H' v->Q v H')
   (upF X Fa) (upF X Fb) (upF X Fc) σ H Q:=by
 obtain⟨ρ,f,d,rs,e0,k⟩:=h;obtain⟨⟨fa,da⟩,ea,e1⟩:=i8 e0;obtain⟨⟨fb,db⟩,eb,e2⟩:=i8 e1;obtain⟨⟨fz,dz⟩,ez,e3⟩:=i8 e2;obtain⟨z,ek,e⟩:=i8 e3;clear e3 e2 e1 e0;refine⟨ρ,fa,da,rs,ea,λv H1 s1 r1=>⟨ρ,fb,db,rs.mono s1,eb,λu H2 s2 r2=>⟨da,db,fz,dz,Rp.mono _ s2 r1.sh,r2.sh,ez,λw H3 s3 r3=>?_⟩⟩⟩;cases dz<;>first|cases ek|skip
 refine⟨z,Rp.bl_.mp r3.sh,?_⟩;cases z with
 | true =>
  rw[if_pos rfl]at e ⊢;obtain⟨⟨fc,dc⟩,ec,e⟩:=i8 e;exact⟨ρ,fc,dc,rs.mono (s1.trans (s2.trans s3)),ec,λw' H4 s4 r4=>⟨db,dc,f,d,Rp.mono _ (s3.trans s4) r2.sh,r4.sh,e,λy H' s' r'=>k y H' (s1.trans (s2.trans (s3.trans (s4.trans s')))) (r'.early (s1.trans (s2.trans (s3.trans s4))))⟩⟩
 | false =>
  rw[if_neg wL]at e ⊢;cases e;exact k _ _ (s1.trans (s2.trans s3)) RpF.b_
theorem z3J{op op':CmpOp}{r r':FO}(ho:OpF X (compareOp op) r)(ho':OpF X (compareOp op') r')(ha:PF X a Fa)(hb:PF X b Fb)(hc:PF X c Fc)
 (hm:lastMarks [op,op'] [b,c]=false:=by with_unfolding_all rfl):PF X (.Compare a [op,op'] [b,c] pos) (Ir r r' Fa Fb Fc):=(YZ ho ho' ha hb hc hm).imp λσ H Q h=>XD h
def isN:Dt->Bool
 | .non=>true
 | _=>false
def Hf:FO:=λx y=>match y with|.non=>some (.nw,.bl (isN x))|_=>none
theorem isNon{H:Hp}{d:Dt}{v:V}(r:Rp X.K emp d H v):decide (v=V.non)=isN d:=by
 cases d with
 | non=>rw[Rp.non_.mp r];rfl
 | bl b=>rw[Rp.bl_.mp r];rfl
 | int i=>rw[Rp.int_.mp r];rfl
 | str x=>rw[Rp.str_.mp r];rfl
 | lst ds=>obtain⟨a,_,rfl,_⟩:=Rp.lst_.mp r;rfl
 | tup ds=>obtain⟨a,_,rfl,_⟩:=Rp.tup_.mp r;rfl
 | scr ds=>obtain⟨a,rfl,_⟩:=Rp.scr_.mp r;rfl
 | dic=>obtain⟨a,rfl,_⟩:=Rp.dic_.mp r;rfl
theorem o_isN:OpF X (compareOp .Is) Hf:=by
 rintro π s σ H x y v u Q I r1 r2 ⟨d1,d2,f,d,q1,q2,e,k⟩;unfold Hf at e;split at e
 · cases e;refine op_isN π s σ H x y v u Q I r1 r2 ⟨Rp.non_.mp q2,?_⟩;rw[isNon q1];exact k _ H (Same.refl H) RpF.b_
 · cases e
theorem Be{K:aD}{B H:Hp}{ds:List Dt}{vs:List V}{i:Int}{d:Dt}(h:Rps K B ds H vs)(e:atI ds i=some d):∃ v,atI vs i=some v/\Rp K B d H v:=by
 unfold atI at e ⊢;rw[h.length];cases q:ixN ds.length i with
 | none=>rw[q]at e;cases e
 | some j =>
  rw[q]at e;exact h.get e
def Fl.item:Fl->Fl
 | .tn => .sh
 | f=>f
def opAt(x:Dv)(y:Dv):Option Dv:=match x.2,y.2 with
 | .lst ds,.int i=>(atI ds i).map (nrm x.1.item)
 | .tup ds,.int i=>(atI ds i).map (nrm x.1.item)
 | .scr ns,.int i=>(atI ns i).map λn=>(.nw,.int n)
 | _,_=>none
def fAt(Fa Fb:FE):FE:=λρ=>(Fa ρ).bind λx=>(Fb ρ).bind λy=>opAt x y
theorem RpF.item{X:Ky}{H H':Hp}{f:Fl}{ds:List Dt}{v:V}{i:Int}{d:Dt}(h:RpF X H f (.lst ds) H' v)(e:atI ds i=some d):∃ a vs w,v = .ref a/\SqL X.K H' a vs/\atI vs i=some w/\RpF X H f.item d H' w:=by
 cases f with
 | sh=>obtain⟨a,vs,rfl,_,h1,h2⟩:=Rp.items h;obtain⟨w,e1,e2⟩:=Be h2 e;exact⟨a,vs,w,rfl,SqL.of h1,e1,e2⟩
 | tn=>obtain⟨a,vs,rfl,_,h1,h2⟩:=Rp.items h.1;obtain⟨w,e1,e2⟩:=Be h2 e;exact⟨a,vs,w,rfl,SqL.of h1,e1,e2⟩
 | fr=>obtain⟨a,vs,rfl,_,h1,h2⟩:=Rp.items h;obtain⟨w,e1,e2⟩:=Be h2 e;exact⟨a,vs,w,rfl,SqL.of h1,e1,e2⟩
 | nw=>obtain⟨a,vs,rfl,_,h1,h2⟩:=Rp.items h;obtain⟨w,e1,e2⟩:=Be h2 e;exact⟨a,vs,w,rfl,SqL.of h1,e1,e2⟩
theorem RpF.itemT{X:Ky}{H H':Hp}{f:Fl}{ds:List Dt}{v:V}{i:Int}{d:Dt}(h:RpF X H f (.tup ds) H' v)(e:atI ds i=some d):∃ a vs w,v = .ref a/\SqT X.K H' a vs/\atI vs i=some w/\RpF X H f.item d H' w:=by
 cases f with
 | sh=>obtain⟨a,vs,rfl,h1,h2⟩:=Rp.tup_.mp h;obtain⟨w,e1,e2⟩:=Be h2 e;exact⟨a,vs,w,rfl,h1,e1,e2⟩
 | tn=>obtain⟨⟨_,h2⟩,_⟩:=h.2;cases h2
 | fr=>obtain⟨a,vs,rfl,h1,h2⟩:=Rp.tup_.mp h;obtain⟨w,e1,e2⟩:=Be h2 e;exact⟨a,vs,w,rfl,h1,e1,e2⟩
 | nw=>obtain⟨a,vs,rfl,h1,h2⟩:=Rp.tup_.mp h;obtain⟨w,e1,e2⟩:=Be h2 e;exact⟨a,vs,w,rfl,h1,e1,e2⟩
theorem z3K{α β:Type}{g:α->β}{xs:List α}{i:Int}{x:α}(h:atI xs i=some x):atI (xs.map g) i=some (g x):=by
 unfold atI at h ⊢;rw[wn];cases q:ixN xs.length i with
 | none=>rw[q]at h;cases h
 | some j=>rw[q]at h;have h:xs[j]?=some x:=h;show(xs.map g)[j]?=_;rw[wv,h];rfl
theorem p_ix(ha:PF X a Fa)(hb:PF X b Fb)(hs:MA b):PF X (.Subscript a b pos) (fAt Fa Fb) :=
 (pe_ix ix_seq ha hb hs).imp fun σ H Q hZ=>hZ.elim fun ρ hZ=>hZ.elim fun f hZ=>hZ.elim fun d hZ=>hZ.elim fun rs hZ=>hZ.elim fun e0 k=>by
  obtain⟨⟨fa,da⟩,ea,e1⟩:=i8 e0;obtain⟨⟨fb,db⟩,eb,e⟩:=i8 e1;clear e1 e0;refine⟨ρ,fa,da,rs,ea,λv H1 s1 r1=>⟨ρ,fb,db,rs.mono s1,eb,λu H2 s2 r2=>?_⟩⟩;have r1:=r1.mono s2;unfold opAt at e;split at e
  · rename_i ds i ed ei;cases ed;cases ei;cases q:atI ds i with
    | none=>rw[q]at e;cases e
    | some d0 =>
     rw[q]at e;obtain⟨p,vs,w,rfl,h1,h2,h3⟩:=r1.item q;have e:nrm fa.item d0=(f,d):=Option.some.inj e;have h4:=h3.nrm;have e1:d0=d:=congrArg Prod.snd e;subst e1;rw[e]at h4;exact .inl ⟨p,vs,i,w,rfl,Rp.int_.mp r2.sh,h1,h2,k _ _ (s1.trans s2) h4⟩
  · rename_i ds i ed ei;cases ed;cases ei;cases q:atI ds i with
    | none=>rw[q]at e;cases e
    | some d0 =>
     rw[q]at e;obtain⟨p,vs,w,rfl,h1,h2,h3⟩:=r1.itemT q;have e:nrm fa.item d0=(f,d):=Option.some.inj e;have h4:=h3.nrm;have e1:d0=d:=congrArg Prod.snd e;subst e1;rw[e]at h4;exact .inr (.inl ⟨p,vs,i,w,rfl,Rp.int_.mp r2.sh,h1,h2,k _ _ (s1.trans s2) h4⟩)
  · rename_i ns i ed ei;cases ed;cases ei;cases q:atI ns i with
    | none=>rw[q]at e;cases e
    | some n =>
     rw[q]at e;cases e;obtain⟨p,rfl,_,h1⟩:=Rp.scr_.mp r1.sh;exact .inl ⟨p,_,i,_,rfl,Rp.int_.mp r2.sh,h1,z3K q,k _ _ (s1.trans s2) RpF.i_⟩
  · cases e
end
end L2

end
section
local macro_rules|`(tactic|rfl')=>`(tactic|first|lia|omega +splitDisjunctions)
namespace L2
open PySem PySem.Spec PyProof.Rows
mutual
def Dt.py:Dt->PyData
 | .non => .none
 | .bl b => .bool b
 | .int i => .int i
 | .str x => .str x
 | .lst ds => .list (pys ds)
 | .tup ds => .tuple (pys ds)
 | .scr ns => .list (ns.map .int)
 | .dic => .dict []
def pys:List Dt->List PyData
 | []=>[]
 | d::ds=>d.py::pys ds
end
mutual
def Dt.okN:Nat->Dt->Bool
 | _,.str x=>PyData.strOk x
 | 0,.lst _=>false
 | 0,.tup _=>false
 | n+1,.lst ds=>oksN n ds
 | n+1,.tup ds=>oksN n ds
 | 0,.scr _=>false
 | _,.dic=>false
 | _,_=>true
def oksN:Nat->List Dt->Bool
 | _,[]=>true
 | n,d::ds=>d.okN n&&oksN n ds
end
theorem MH:∀ ns:aH,PyData.canLayAll0 (ns.map PyData.int)=true/\PyData.depthAll (ns.map PyData.int)=0
 | []=>⟨rfl,rfl⟩
 | n::ns=>⟨by rw[wo,PyData.canLayAll0,(MH ns).1];rfl,by rw[wo,PyData.depthAll,(MH ns).2];rfl⟩
mutual
theorem Wg:∀(n:Nat) (d:Dt),d.okN n=true->d.py.canLay0=true/\d.py.depth<=n
 | n,.non,_=>⟨rfl,by rw[Dt.py,PyData.depth];exact wU _⟩
 | n,.bl b,_=>⟨rfl,by rw[Dt.py,PyData.depth];exact wU _⟩
 | n,.int i,_=>⟨rfl,by rw[Dt.py,PyData.depth];exact wU _⟩
 | n,.str x,h=>by
  have h:PyData.strOk x=true:=by cases n<;>simpa[Dt.okN]using h
  exact⟨by rw[Dt.py,PyData.canLay0];exact h,by rw[Dt.py,PyData.depth];exact wU _⟩
 | 0,.lst ds,h=>by rw[Dt.okN]at h;cases h
 | 0,.tup ds,h=>by rw[Dt.okN]at h;cases h
 | 0,.scr ds,h=>by rw[Dt.okN]at h;cases h
 | n,.dic,h=>by cases n<;>(unfold Dt.okN at h;cases h)
 | n+1,.lst ds,h=>by
  rw[Dt.okN]at h;obtain⟨h1,h2⟩:=Iu n ds h;exact⟨by rw[Dt.py,PyData.canLay0];exact h1,by rw[Dt.py,PyData.depth];rfl'⟩
 | n+1,.tup ds,h=>by
  rw[Dt.okN]at h;obtain⟨h1,h2⟩:=Iu n ds h;exact⟨by rw[Dt.py,PyData.canLay0];exact h1,by rw[Dt.py,PyData.depth];rfl'⟩
 | n+1,.scr ns,h=>by
  obtain⟨h1,h2⟩:=MH ns;exact⟨by rw[Dt.py,PyData.canLay0];exact h1,by rw[Dt.py,PyData.depth];rfl'⟩
theorem Iu:∀(n:Nat) (ds:List Dt),oksN n ds=true->PyData.canLayAll0 (pys ds)=true/\PyData.depthAll (pys ds)<=n
 | n,[],_=>⟨rfl,by rw[pys,PyData.depthAll];exact wU _⟩
 | n,d::ds,h=>by
  rw[oksN,wN]at h;obtain⟨h1,h2⟩:=Wg n d h.1;obtain⟨h3,h4⟩:=Iu n ds h.2;refine⟨by rw[pys,PyData.canLayAll0,h1,h3];rfl,?_⟩;rw[pys,PyData.depthAll];exact Nat.max_le.mpr ⟨h2,h4⟩
end
theorem Da{d:Dt}{n:Nat}(h:d.okN n=true)(hn:n<=64):SeqAt.shaped d.py=true:=by
 obtain⟨h1,h2⟩:=Wg n d h;unfold SeqAt.shaped;rw[h1,Bool.true_and];exact decide_eq_true (wK h2 hn)
section
variable {X:Cx}{π:aB}{σ:St}{H:Hp}{s:Shared}
theorem Iv{h:Heap}:∀{ns:aH} {us:aF},Vals (ns.map V.int) us->∃ as,ReadsAll h us (ns.map PyData.int) as
 | [],us,r=>by cases r;exact⟨_,.nil⟩
 | n::ns,us,r=>by
  rw[wo]at r;cases r with
  | cons r1 r2 =>
   obtain⟨t,rfl⟩:=r1;obtain⟨as,q⟩:=Iv r2;exact⟨_,.cons (.int n t) q⟩
mutual
theorem Cc(I:Inv X π σ H s):∀(d:Dt) {v:V} {u:Value},Rp X.K emp d H v->RelV v u->∃ as,Reads s.heap u d.py as
 | .non,v,u,h,r=>by rw[Rp.non_]at h;subst h;cases r;exact⟨_,.none⟩
 | .bl b,v,u,h,r=>by rw[Rp.bl_]at h;subst h;cases r;exact⟨_,.bool b⟩
 | .int i,v,u,h,r=>by rw[Rp.int_]at h;subst h;obtain⟨t,rfl⟩:=r;exact⟨_,.int i t⟩
 | .str x,v,u,h,r=>by rw[Rp.str_]at h;subst h;obtain⟨t,rfl⟩:=r;exact⟨_,.str x t⟩
 | .dic,v,u,h,r=>by
  obtain⟨a,rfl,h1⟩:=Rp.dic_.mp h;cases r;exact⟨_,by rw[Dt.py];exact .dict (I.hok a _ h1).1 rfl rfl .nil .nil⟩
 | .lst ds,v,u,h,r=>by
  obtain⟨a,vs,rfl,_,h1,h2⟩:=Rp.lst_.mp h;cases r;obtain⟨its,rv,⟨o,n,e,c,dd,dt⟩,_⟩:=I.list (SqL.of (K:=X.K) h1);obtain⟨as,q⟩:=Cd I ds (Rps.mono ds A8 h2) rv;exact⟨_,by rw[Dt.py];exact .list e c dt q⟩
 | .tup ds,v,u,h,r=>by
  obtain⟨a,vs,rfl,h1,h2⟩:=Rp.tup_.mp h;cases r;obtain⟨its,rv,⟨o,e,c,n,dt⟩,_⟩:=I.tuple h1;obtain⟨as,q⟩:=Cd I ds h2 rv;exact⟨_,by rw[Dt.py];exact .tuple e c dt q⟩
 | .scr ns,v,u,h,r=>by
  obtain⟨a,rfl,_,h1⟩:=Rp.scr_.mp h;cases r;obtain⟨its,rv,⟨o,n,e,c,dd,dt⟩,_⟩:=I.list h1;obtain⟨as,q⟩:=Iv (h:=s.heap) rv;exact⟨_,by rw[Dt.py];exact .list e c dt q⟩
theorem Cd(I:Inv X π σ H s):∀(ds:List Dt) {vs:List V} {us:aF},Rps X.K emp ds H vs->Vals vs us->∃ as,ReadsAll s.heap us (pys ds) as
 | [],vs,us,h,r=>by rw[Rps.nil_]at h;subst h;cases r;exact⟨_,by rw[pys];exact .nil⟩
 | d::ds,vs,us,h,r=>by
  obtain⟨v,ws,rfl,h1,h2⟩:=Rps.cons_.mp h;cases r with
  | cons r1 r2 =>
   obtain⟨as,q1⟩:=Cc I d h1 r1;obtain⟨bs,q2⟩:=Cd I ds h2 r2;exact⟨_,by rw[pys];exact .cons q1 q2⟩
end
end
def eqD(x y:Dt):Bool:=PyData.eqv x.py y.py
section
variable {X:Cx}{a b c e:Expr}{Fa Fb Fc:FE}{pos:Pos}
def opEq:FO:=λx y=>if x.okN 8&&y.okN 8 then some (.nw,.bl (eqD x y)) else none
def opNe:FO:=λx y=>if x.okN 8&&y.okN 8 then some (.nw,.bl (!eqD x y)) else none
theorem o_eq(hu:X.A.units+64<cLine):OpF X (compareOp .Eq) opEq:=by
 rintro π s σ H x y v u Q I r1 r2 ⟨d1,d2,f,d,q1,q2,e,k⟩;unfold opEq at e;split at e
 · rename_i h;rw[wN]at h;cases e;obtain⟨as,ra⟩:=Cc I d1 q1 r1;obtain⟨bs,rb⟩:=Cc I d2 q2 r2;exact eq_dataH ra rb (Da h.1 (by decide)) (Da h.2 (by decide)) hu ⟨.bl _,H,I,rfl,k _ H (Same.refl H) RpF.b_⟩
 · cases e
theorem o_ne(hu:X.A.units+64<cLine):OpF X (compareOp .NotEq) opNe:=by
 rintro π s σ H x y v u Q I r1 r2 ⟨d1,d2,f,d,q1,q2,e,k⟩;unfold opNe at e;split at e
 · rename_i h;rw[wN]at h;cases e;obtain⟨as,ra⟩:=Cc I d1 q1 r1;obtain⟨bs,rb⟩:=Cc I d2 q2 r2;exact ne_dataH ra rb (Da h.1 (by decide)) (Da h.2 (by decide)) hu ⟨.bl _,H,I,rfl,k _ H (Same.refl H) RpF.b_⟩
 · cases e
end
def RpFs(X:Ky)(H:Hp):List Dv->Hp->List V->Prop
 | [],_,vs=>vs=[]
 | x::xs,H',vs=>∃ v r,vs=v::r/\RpF X H x.1 x.2 H' v/\RpFs X H xs H' r
def upAs(X:Cx)(F:FA):TA:=λσ H Q=>∃ ρ xs,RepS X.ky H ρ σ/\F ρ=some xs/\∀ vs H',Same H H'->RpFs X.ky H xs H' vs->Q vs H'
def PFA(X:Cx)(es:List Expr)(F:FA):Prop:=PA X es (upAs X F)
def sndL:List Dv->List Dt
 | []=>[]
 | x::xs=>x.2::sndL xs
def Au:List Dv->Bool
 | []=>true
 | x::xs=>x.1.isNw&&Au xs
def V0:List Dv->Bool
 | []=>true
 | x::xs=>x.1.isFr&&V0 xs
section
variable {X:Ky}{H H' H1:Hp}
theorem RpFs.sh:∀{xs:List Dv} {vs:List V},RpFs X H xs H' vs->Rps X.K emp (sndL xs) H' vs
 | [],vs,h=>Rps.nil_.mpr h
 | x::xs,vs,⟨v,r,e,h1,h2⟩=>Rps.cons_.mpr ⟨v,r,e,h1.sh,RpFs.sh h2⟩
theorem RpFs.nw:∀{xs:List Dv} {vs:List V},Au xs=true->RpFs X H xs H' vs->Rps X.K H (sndL xs) H' vs
 | [],vs,_,h=>Rps.nil_.mpr h
 | ⟨f,d⟩::xs,vs,q,⟨v,r,e,h1,h2⟩=>by
  unfold Au at q;rw[wN]at q;cases f<;>first|(exact absurd q.1 wL)|exact Rps.cons_.mpr ⟨v,r,e,h1,RpFs.nw q.2 h2⟩
theorem RpFs.fr(h0:Same X.H₀ H):∀{xs:List Dv} {vs:List V},V0 xs=true->RpFs X H xs H' vs->Rps X.K X.H₀ (sndL xs) H' vs
 | [],vs,_,h=>Rps.nil_.mpr h
 | ⟨f,d⟩::xs,vs,q,⟨v,r,e,h1,h2⟩=>by
  unfold V0 at q;rw[wN]at q;exact Rps.cons_.mpr ⟨v,r,e,h1.fr h0 q.1,RpFs.fr h0 q.2 h2⟩
theorem RpFs.mono:∀{xs:List Dv} {vs:List V},RpFs X H xs H' vs->Same H' H1->RpFs X H xs H1 vs
 | [],vs,h,_=>h
 | x::xs,vs,⟨v,r,e,h1,h2⟩,s=>⟨v,r,e,h1.mono s,RpFs.mono h2 s⟩
theorem RpFs.early(s:Same H H1):∀{xs:List Dv} {vs:List V},RpFs X H1 xs H' vs->RpFs X H xs H' vs
 | [],vs,h=>h
 | x::xs,vs,⟨v,r,e,h1,h2⟩=>⟨v,r,e,h1.early s,RpFs.early s h2⟩
end
section
variable {X:Cx}{a b c e:Expr}{es:List Expr}{Fa Fb Fe:FE}{Fs:FA}{pos:Pos}
def fNil:FA:=λ_=>some []
def f9(Fa:FE)(Fs:FA):FA:=λρ=>(Fa ρ).bind λx=>(Fs ρ).bind λxs=>some (x::xs)
theorem i9:PFA X [] fNil:=Ik.imp (by rintro σ H Q ⟨ρ,xs,rs,e,k⟩;cases e;exact k [] H (Same.refl H) rfl)
theorem j3(ha:PF X e Fe)(hr:PFA X es Fs)(hs:starEach (e::es) X.env=(false,eval e X.env)::starEach es X.env:=by rfl):PFA X (e::es) (f9 Fe Fs) :=
 (AY ha hr hs).imp fun σ H Q hZ=>hZ.elim fun ρ hZ=>hZ.elim fun xs hZ=>hZ.elim fun rs hZ=>hZ.elim fun e0 k=>by
  obtain⟨⟨f,d⟩,e1,e2⟩:=i8 e0;obtain⟨ys,e3,e4⟩:=i8 e2;cases e4;exact⟨ρ,f,d,rs,e1,λv H1 s1 r1=>⟨ρ,ys,rs.mono s1,e3,λvs H2 s2 r2=>k _ _ (s1.trans s2) ⟨v,vs,rfl,r1.mono s2,r2.early s1⟩⟩⟩
theorem RpFs.length{X:Ky}{H H':Hp}:∀{xs:List Dv} {vs:List V},RpFs X H xs H' vs->vs.length=xs.length
 | [],vs,h=>by rw[show vs=[]from h];rfl
 | x::xs,vs,⟨v,r,e,_,h2⟩=>by rw[e,wu,wu,RpFs.length h2]
def fLst(Fs:FA):FE:=λρ=>(Fs ρ).bind λxs=>if xs.length<=1000 then some (if Au xs then .nw else .tn,.lst (sndL xs)) else none
def fTup(Fs:FA):FE:=λρ=>(Fs ρ).bind λxs=>if xs.length<=1000 then some (if Au xs then .nw else if V0 xs then .fr else .sh,.tup (sndL xs)) else none
theorem Av(h:PFA X es Fs):PF X (.List es pos) (fLst Fs):=(pe_lst h).imp λσ H Q⟨ρ,f,d,rs,e0,k⟩=>by
 obtain⟨xs,e1,e2⟩:=i8 e0;split at e2
 · rename_i hl;cases e2;refine⟨ρ,xs,rs,e1,λvs H1 s1 r1=>⟨wK (by rw[r1.length];exact hl) (by decide),λp hp=>k _ _ (s1.trans (F8 hp)) ?_⟩⟩;have hp0:H p=none:=s1.free hp;by_cases q:Au xs=true
   · rw[if_pos q];exact Rp.new (K:=X.K) (B:=H) hp hp0 (r1.nw q)
   · rw[if_neg q];exact⟨Rp.new hp rfl r1.sh,⟨_,rfl⟩,λa e=>by cases e;exact hp0⟩
 · cases e2
theorem DG{x1}(h:PFA X es Fs):PF X (.Tuple es x1 pos) (fTup Fs):=(pe_tup h).imp λσ H Q⟨ρ,f,d,rs,e0,k⟩=>by
 obtain⟨xs,e1,e2⟩:=i8 e0;split at e2
 · rename_i hl;cases e2;refine⟨ρ,xs,rs,e1,λvs H1 s1 r1=>⟨wK (by rw[r1.length];exact hl) (by decide),λp hp=>k _ _ (s1.trans (F8 hp)) ?_⟩⟩;have r2:=r1.mono (F8 (o := .tup vs) hp);by_cases q:Au xs=true
   · rw[if_pos q];exact(Rp.tup_ (K:=X.K) (B:=H)).mpr ⟨p,vs,rfl,SqT.of D8,r2.nw q⟩
   · rw[if_neg q];by_cases q2:V0 xs=true
     · rw[if_pos q2];exact(Rp.tup_ (K:=X.K) (B:=X.H₀)).mpr ⟨p,vs,rfl,SqT.of D8,r2.fr rs.base q2⟩
     · rw[if_neg q2];exact(Rp.tup_ (K:=X.K) (B:=emp)).mpr ⟨p,vs,rfl,SqT.of D8,r2.sh⟩
 · cases e2
abbrev FC:=List Dt->Option Dt
def spc(K:aD)(fr:Bool)(c:FC):Sp:=λvs H Q _=>∃ ds d,Rps K emp ds H vs/\c ds=some d/\∀ v H',Same H H'->Rp K (if fr then H else emp) d H' v->Q v H'
def i6(fr:Bool)(c:FC)(Fs:FA):FE:=λρ=>(Fs ρ).bind λxs=>(c (sndL xs)).map (nrm (if fr then .nw else .sh))
theorem Zt{X:Ky}{fr:Bool}{H H1 H':Hp}{d:Dt}{v:V}(s:Same H H1)(r:Rp X.K (if fr then H1 else emp) d H' v):RpF X H (nrm (if fr then .nw else .sh) d).1 d H' v:=by
 cases fr with
 | true=>exact RpF.nrm (f := .nw) (RpF.early s (show RpF X H1 .nw d H' v from r))
 | false=>exact RpF.nrm (f := .sh) r
theorem p_call{fr:Bool}{k:Nat}{f:Addr}{fd:FuncData}{ps:List Str}{ct:FC}{x:Str}{p:Pos}(F:FnOk X.prog X.w X.K X.mg X.base CX0 k f fd ps (spc X.K fr ct))(hr:Room k X.A)(hg:Gl X x)(hm:X.mg x=some (.ref f))(hk:PySem.W.keepIn X.K (.ref f)=true)(hb:Binds X.K fd ps [])
  (ha:PFA X (e::es) Fs) (hdb:(x==("__debug__" : Str))=false:=by decide) (hst:starEach (e::es) X.env=(false,eval e X.env)::starEach es X.env:=by rfl) (hpl:(backTo pos (starEach es X.env)).any (·.1)=false:=by rfl):PF X (.Call (.Name x p) (e::es) [] pos) (i6 fr ct Fs) :=
 (z3v (E:=E0) (dvs:=[]) F hr hg hm hk hb .nil pass0 ha hdb hst hpl).imp fun σ H Q hZ=>hZ.elim fun ρ hZ=>hZ.elim fun f hZ=>hZ.elim fun d hZ=>hZ.elim fun rs hZ=>hZ.elim fun e0 k=>by
  obtain⟨xs,e1,e2⟩:=i8 e0;cases q:ct (sndL xs) with
  | none=>rw[q]at e2;cases e2
  | some d0 =>
   rw[q]at e2;have e2:nrm (if fr then .nw else .sh) d0=(f,d):=Option.some.inj e2;have e3:d0=d:=congrArg Prod.snd e2;subst e3;refine⟨ρ,xs,rs,e1,λvs H1 s1 r1=>?_⟩;dsimp only;rw[uL];refine⟨_,d0,r1.sh,q,λv H' s' r'=>k v H' (s1.trans s') ?_⟩;have:=Zt (X:=X.ky) s1 r';rw[e2]at this;exact this
abbrev FB:=List Dt->Option Dv
def BU(X:Cx)(f:Value)(r:FB):Prop:=Et X f (λxs H Q=>∃ ds f d,Rps X.K emp ds H xs/\r ds=some (f,d)/\∀ v H',Same H H'->RpF X.ky H f d H' v->Q v H')
def fBlt(r:FB)(Fs:FA):FE:=λρ=>(Fs ρ).bind λxs=>r (sndL xs)
theorem Wh{r:FB}{σ:St}{H:Hp}{Q:VK}(h:upF X (fBlt r Fs) σ H Q):upAs X Fs σ H λvs H1=>∃ ds f d,Rps X.K emp ds H1 vs/\r ds=some (f,d)/\∀ v H',Same H1 H'->RpF X.ky H1 f d H' v->Q v H':=by
 obtain⟨ρ,f,d,rs,e0,k⟩:=h;obtain⟨xs,e1,e2⟩:=i8 e0;exact⟨ρ,xs,rs,e1,λvs H1 s1 r1=>⟨_,f,d,r1.sh,e2,λv H' s' r'=>k v H' (s1.trans s') (r'.early s1)⟩⟩
theorem z3L{id:String}{r:FB}{x:Str}{p:Pos}(hc:BU X (.builtin id) r)(hg:Gl X x)(hm:X.mg x=none)(hv:bootBuiltins x=some (.builtin id))(ha:PFA X (e::es) Fs)(hn:x ≠ "__name__" := by decide)(hdb:(x==("__debug__" : Str))=false:=by decide)(hst:starEach (e::es) X.env=(false,eval e X.env)::starEach es X.env:=by rfl)(hpl:(backTo pos (starEach es X.env)).any (·.1)=false:=by rfl):
 PF X (.Call (.Name x p) (e::es) [] pos) (fBlt r Fs):=(NO hc hg hm hv ha hn hdb hst hpl).imp λσ H Q h=>Wh h
theorem Zu{T:String}{r:FB}{x:Str}{p:Pos}(hc:BU X (.type T) r)(hg:Gl X x)(hm:X.mg x=none)(hv:bootBuiltins x=some (.type T))(ha:PFA X (e::es) Fs)(hn:x ≠ "__name__" := by decide)(hdb:(x==("__debug__" : Str))=false:=by decide)(hst:starEach (e::es) X.env=(false,eval e X.env)::starEach es X.env:=by rfl)(hpl:(backTo pos (starEach es X.env)).any (·.1)=false:=by rfl):
 PF X (.Call (.Name x p) (e::es) [] pos) (fBlt r Fs):=(Xz hc hg hm hv ha hn hdb hst hpl).imp λσ H Q h=>Wh h
end
section
variable {X:Cx}
theorem Rps.one'{K:aD}{B H:Hp}{d:Dt}{vs:List V}(h:Rps K B [d] H vs):∃ v,vs=[v]/\Rp K B d H v:=by
 obtain⟨v,r,rfl,h1,h2⟩:=Rps.cons_.mp h;rw[Rps.nil_.mp h2];exact⟨v,rfl,h1⟩
def bLen:FB
 | [.lst xs]=>some (.nw,.int xs.length)
 | [.tup xs]=>some (.nw,.int xs.length)
 | [.scr xs]=>some (.nw,.int xs.length)
 | _=>none
theorem N7:BU X (.builtin "len") bLen:=by
 rintro π s σ H xs us Q I r ⟨ds,f,d,rs,e,k⟩;unfold bLen at e;split at e
 · cases e;obtain⟨v,rfl,h⟩:=rs.one';obtain⟨p,vs,rfl,_,q1,q2⟩:=h.items;exact AZ π s σ H _ us Q I r ⟨p,vs,rfl,.inl (SqL.of q1),by rw[q2.length];exact k _ H (Same.refl H) RpF.i_⟩
 · cases e;obtain⟨v,rfl,h⟩:=rs.one';obtain⟨p,vs,rfl,q1,q2⟩:=Rp.tup_.mp h;exact AZ π s σ H _ us Q I r ⟨p,vs,rfl,.inr q1,by rw[q2.length];exact k _ H (Same.refl H) RpF.i_⟩
 · cases e;obtain⟨v,rfl,h⟩:=rs.one';obtain⟨p,rfl,_,q1⟩:=Rp.scr_.mp h;exact AZ π s σ H _ us Q I r ⟨p,_,rfl,.inl q1,by rw[wn];exact k _ H (Same.refl H) RpF.i_⟩
 · cases e
def bTup:FB
 | [.lst xs]=>some (if J8 xs then .nw else .sh,.tup xs)
 | [.tup xs]=>some (if J8 xs then .nw else .sh,.tup xs)
 | _=>none
theorem Wj{X:Ky}{H H':Hp}{xs:List Dt}{v:V}(h:Rp X.K emp (.tup xs) H' v):RpF X H (if J8 xs then .nw else .sh) (.tup xs) H' v:=by
 by_cases q:J8 xs=true
 · rw[if_pos q];exact RpF.scal (by rw[Dt.flat];exact q) h
 · rw[if_neg q];exact h
theorem Zv:BU X (.type "tuple") bTup:=by
 rintro π s σ H xs us Q I r ⟨ds,f,d,rs,e,k⟩;unfold bTup at e;split at e
 · cases e;obtain⟨v,rfl,h⟩:=rs.one';obtain⟨p,vs,rfl,_,q1,q2⟩:=h.items;exact DE π s σ H _ us Q I r ⟨p,vs,rfl,.inl ⟨SqL.of q1,λl hl=>k _ _ (F8 hl) (Wj (Rp.tup_.mpr ⟨l,vs,rfl,SqT.of D8,Rps.mono _ (F8 hl) q2⟩))⟩⟩
 · cases e;obtain⟨v,rfl,h⟩:=rs.one';obtain⟨p,vs,rfl,q1,q2⟩:=Rp.tup_.mp h;exact DE π s σ H _ us Q I r ⟨p,vs,rfl,.inr ⟨q1,k _ H (Same.refl H) (Wj h)⟩⟩
 · cases e
def bLst:FB
 | [.lst xs]=>some (newL xs)
 | [.tup xs]=>some (newL xs)
 | _=>none
theorem DH:BU X (.type "list") bLst:=by
 rintro π s σ H xs us Q I r ⟨ds,f,d,rs,e,k⟩;unfold bLst at e;split at e
 · cases e;obtain⟨v,rfl,h⟩:=rs.one';obtain⟨p,vs,rfl,_,q1,q2⟩:=h.items;exact Ev π s σ H _ us Q I r ⟨p,vs,rfl,.inl (SqL.of q1),λl hl=>k _ _ (F8 hl) (Ew hl q2)⟩
 · cases e;obtain⟨v,rfl,h⟩:=rs.one';obtain⟨p,vs,rfl,q1,q2⟩:=Rp.tup_.mp h;exact Ev π s σ H _ us Q I r ⟨p,vs,rfl,.inr q1,λl hl=>k _ _ (F8 hl) (Ew hl q2)⟩
 · cases e
def bAbs:FB
 | [.int i]=>some (.nw,.int (if i<0 then -i else i))
 | _=>none
theorem c_abs:BU X (.builtin "abs") bAbs:=by
 rintro π s σ H xs us Q I r ⟨ds,f,d,rs,e,k⟩;unfold bAbs at e;split at e
 · rename_i i;cases e;obtain⟨v,rfl,h⟩:=rs.one';rw[Rp.int_]at h;subst h;exact Zb π s σ H _ us Q I r ⟨i,rfl,k _ H (Same.refl H) RpF.i_⟩
 · cases e
def bInt:FB
 | [.int i]=>some (.nw,.int i)
 | [.bl b]=>some (.nw,.int (if b then 1 else 0))
 | _=>none
theorem c_int:BU X (.type "int") bInt:=by
 rintro π s σ H xs us Q I r ⟨ds,f,d,rs,e,k⟩;unfold bInt at e;split at e
 · rename_i i;cases e;obtain⟨v,rfl,h⟩:=rs.one';rw[Rp.int_]at h;subst h;exact Kt π s σ H _ us Q I r (.inl ⟨i,rfl,k _ H (Same.refl H) RpF.i_⟩)
 · rename_i b;cases e;obtain⟨v,rfl,h⟩:=rs.one';rw[Rp.bl_]at h;subst h;exact Kt π s σ H _ us Q I r (.inr ⟨b,rfl,k _ H (Same.refl H) RpF.i_⟩)
 · cases e
def DI:List Dt->Option (List Bool)
 | []=>some []
 | .bl b::ds=>(DI ds).map (b::·)
 | _=>none
def Bf:List Dt->Option (aH)
 | []=>some []
 | .int i::ds=>(Bf ds).map (i::·)
 | _=>none
theorem FQ{K:aD}{B H:Hp}:∀{ds:List Dt} {bs:List Bool} {vs:List V},DI ds=some bs->Rps K B ds H vs->vs=bs.map V.bl
 | [],bs,vs,e,r=>by cases e;exact Rps.nil_.mp r
 | .bl b::ds,bs,vs,e,r=>by
  obtain⟨v,ws,rfl,h1,h2⟩:=Rps.cons_.mp r;unfold DI at e;cases q:DI ds with
  | none=>rw[q]at e;cases e
  | some cs=>rw[q]at e;cases e;rw[Rp.bl_.mp h1,FQ q h2];rfl
 | .non::ds,bs,vs,e,r=>by cases e
 | .int _::ds,bs,vs,e,r=>by cases e
 | .str _::ds,bs,vs,e,r=>by cases e
 | .lst _::ds,bs,vs,e,r=>by cases e
 | .tup _::ds,bs,vs,e,r=>by cases e
 | .scr _::ds,bs,vs,e,r=>by cases e
 | .dic::ds,bs,vs,e,r=>by cases e
theorem Iw{K:aD}{B H:Hp}:∀{ds:List Dt} {bs:aH} {vs:List V},Bf ds=some bs->Rps K B ds H vs->vs=bs.map V.int
 | [],bs,vs,e,r=>by cases e;exact Rps.nil_.mp r
 | .int b::ds,bs,vs,e,r=>by
  obtain⟨v,ws,rfl,h1,h2⟩:=Rps.cons_.mp r;unfold Bf at e;cases q:Bf ds with
  | none=>rw[q]at e;cases e
  | some cs=>rw[q]at e;cases e;rw[Rp.int_.mp h1,Iw q h2];rfl
 | .non::ds,bs,vs,e,r=>by cases e
 | .bl _::ds,bs,vs,e,r=>by cases e
 | .str _::ds,bs,vs,e,r=>by cases e
 | .lst _::ds,bs,vs,e,r=>by cases e
 | .tup _::ds,bs,vs,e,r=>by cases e
 | .scr _::ds,bs,vs,e,r=>by cases e
 | .dic::ds,bs,vs,e,r=>by cases e
def bAll:FB
 | [.lst xs]=>(DI xs).map λbs=>(.nw,.bl (bs.all id))
 | _=>none
def bAny:FB
 | [.lst xs]=>(DI xs).map λbs=>(.nw,.bl (bs.any id))
 | _=>none
def bSum:FB
 | [.lst xs]=>(Bf xs).map λns=>(.nw,.int ns.sum)
 | _=>none
theorem XE(bs:List Bool):(List.range bs.length).all (λi=>bs.getD i false)=bs.all id:=by
 rw[w0B,uD,uD];constructor
 · intro h b hb;obtain⟨i,hi,e⟩:=wH hb;have:=h i (wM.mpr hi);simp[List.getD,wa hi,e]at this;exact this
 · intro h i hi;have hi:=wM.mp hi;have:=h _ (ve hi);simpa[List.getD,wa hi]using this
theorem XF(bs:List Bool):(List.range bs.length).any (λi=>bs.getD i false)=bs.any id:=by
 rw[w0B,w0q,w0q];constructor
 · rintro⟨i,hi,h⟩;have hi:=wM.mp hi;exact⟨_,ve hi,by simpa[List.getD,wa hi]using h⟩
 · rintro⟨b,hb,h⟩;obtain⟨i,hi,e⟩:=wH hb;exact⟨i,wM.mpr hi,by simp[List.getD,wa hi,e];exact h⟩
theorem Hg(ns:aH):∀ k,k<=ns.length->preSum (λi=>ns.getD i 0) k=(ns.take k).sum
 | 0,_=>by simp[preSum]
 | k+1,h=>by
  have hk:k<ns.length:=h;rw[preSum,Hg ns k (by rfl'),List.take_succ,wa hk,List.sum_append];simp[List.getD,wa hk]
theorem Wk{bs:List Bool}{us:aF}(r:Vals (bs.map V.bl) us){prog:Program}{w:World}{A:Around}:TruthOf prog w A (λi v=>us.toArray[i]?=some v) (λi=>bs.getD i false):=by
 intro i v s Q E hP hQ;have e:us[i]?=some v:=by simpa using hP
 cases q:bs[i]? with
 | none =>
  have:=r.none_of (i:=i) (by rw[wv,q];rfl);rw[this]at e;cases e
 | some b =>
  obtain⟨u,h1,h2⟩:=r.get (i:=i) (x:=V.bl b) (by rw[wv,q];rfl);rw[e]at h1;cases h1;cases h2;have hQ':Q b s:=by simpa[List.getD,q]using hQ
  exact wpAny_truthy_bool hQ'
theorem c_all(hc:X.calm=true):BU X (.builtin "all") bAll:=by
 rintro π s σ H xs us Q I r ⟨ds,f,d,rs,e,k⟩;unfold bAll at e;split at e
 · rename_i ys;cases q:DI ys with
   | none=>rw[q]at e;cases e
   | some bs =>
    rw[q]at e;cases e;obtain⟨v,rfl,h⟩:=rs.one';obtain⟨p,vs,rfl,_,q1,q2⟩:=h.items;obtain⟨u,rfl,ru⟩:=r.one;cases ru;have ev:=FQ q q2;subst ev;obtain⟨its,rv,pl,hz⟩:=I.list (SqL.of (K:=X.K) q1);have hlen:its.toArray.size=bs.length:=by rw[wG,←rv.length,wn]
    refine call_all_walk (wpAny_pyIter_list pl.isList ?_);have hne:p≠s.heap.objs.size:=wY (by obtain⟨o,e,_⟩:=pl.isList;exact wy e);refine⟨_,_,_,_,_,_,λi=>bs.getD i false,rfl,Walks.list (A:=X.A.in1) (I.ok.hd hc) s.heap.objs.size p hne its.toArray,⟨⟨_,wF _ rfl,rfl,rfl⟩,pl.isList.at λo e=>wm _ e⟩,Wk rv,λh' tk hk=>?_⟩;rw[hlen,XE];exact⟨.bl _,H,I.kept λb o e=>hk b o (by simp;exact wY (wy e)) (wm _ e),rfl,k _ H (Same.refl H) RpF.b_⟩
 · cases e
theorem c_any(hc:X.calm=true):BU X (.builtin "any") bAny:=by
 rintro π s σ H xs us Q I r ⟨ds,f,d,rs,e,k⟩;unfold bAny at e;split at e
 · rename_i ys;cases q:DI ys with
   | none=>rw[q]at e;cases e
   | some bs =>
    rw[q]at e;cases e;obtain⟨v,rfl,h⟩:=rs.one';obtain⟨p,vs,rfl,_,q1,q2⟩:=h.items;obtain⟨u,rfl,ru⟩:=r.one;cases ru;have ev:=FQ q q2;subst ev;obtain⟨its,rv,pl,hz⟩:=I.list (SqL.of (K:=X.K) q1);have hlen:its.toArray.size=bs.length:=by rw[wG,←rv.length,wn]
    refine call_any_walk (wpAny_pyIter_list pl.isList ?_);have hne:p≠s.heap.objs.size:=wY (by obtain⟨o,e,_⟩:=pl.isList;exact wy e);refine⟨_,_,_,_,_,_,λi=>bs.getD i false,rfl,Walks.list (A:=X.A.in1) (I.ok.hd hc) s.heap.objs.size p hne its.toArray,⟨⟨_,wF _ rfl,rfl,rfl⟩,pl.isList.at λo e=>wm _ e⟩,Wk rv,λh' tk hk=>?_⟩;rw[hlen,XF];exact⟨.bl _,H,I.kept λb o e=>hk b o (by simp;exact wY (wy e)) (wm _ e),rfl,k _ H (Same.refl H) RpF.b_⟩
 · cases e
theorem c_sum(hc:X.calm=true):BU X (.builtin "sum") bSum:=by
 rintro π s σ H xs us Q I r ⟨ds,f,d,rs,e,k⟩;unfold bSum at e;split at e
 · rename_i ys;cases q:Bf ys with
   | none=>rw[q]at e;cases e
   | some ns =>
    rw[q]at e;cases e;obtain⟨v,rfl,h⟩:=rs.one';obtain⟨p,vs,rfl,_,q1,q2⟩:=h.items;obtain⟨u,rfl,ru⟩:=r.one;cases ru;have ev:=Iw q q2;subst ev;obtain⟨its,rv,pl,hz⟩:=I.list (SqL.of (K:=X.K) q1);have hlen:its.toArray.size=ns.length:=by rw[wG,←rv.length,wn]
    refine call_sum_walkG (wpAny_pyIter_list pl.isList ?_);have hlt:p<s.heap.objs.size:=by obtain⟨o,e,_⟩:=pl.isList;exact wy e
    have hne:p≠s.heap.objs.size:=wY hlt;refine⟨_,_,_,_,_,_,λi=>ns.getD i 0,rfl,Walks.list (A:=X.A.in1) (I.ok.hd hc) s.heap.objs.size p hne its.toArray,⟨⟨_,wF _ rfl,rfl,rfl⟩,pl.isList.at λo e=>wm _ e⟩,λb hb=>?_,λi v hP=>?_,λh' tk t' hk=>?_⟩
    · show b<(s.heap.push _).objs.size;rw[vH];rcases ww.mp hb with e|hb
      · rw[e];exact vB _
      · rw[wV.mp hb];exact w0V hlt
    · have e:its[i]?=some v:=by simpa using hP
      cases q:ns[i]? with
      | none =>
        have:=rv.none_of (i:=i) (by rw[wv,q];rfl);rw[this]at e;cases e
      | some n =>
        obtain⟨u,h1,h2⟩:=rv.get (i:=i) (x:=V.int n) (by rw[wv,q];rfl);rw[e]at h1;cases h1;obtain⟨t,rfl⟩:=h2;exact⟨t,by simp[List.getD,q]⟩
    · rw[hlen,Hg ns ns.length (wB _),w14];exact⟨.int _,H,I.kept λb o e=>hk b o (by simp;exact wY (wy e)) (wm _ e),⟨t',rfl⟩,k _ H (Same.refl H) RpF.i_⟩
 · cases e
def tyN:Dt->String
 | .non => "NoneType"
 | .bl _ => "bool"
 | .int _ => "int"
 | .str _ => "str"
 | .lst _ => "list"
 | .scr _ => "list"
 | .tup _ => "tuple"
 | .dic => "dict"
def NW(t T:String):Bool:=t==T||(t == "bool" && T == "int")
def okT(T:String):Bool:=T == "int" || T == "bool" || T == "str" || T == "list" || T == "tuple" || T == "dict"
theorem XG{T:String}(h:okT T=true):T = "int" \/ T = "bool" \/ T = "str" \/ T = "list" \/ T = "tuple" \/ T = "dict" := by
 unfold okT at h;simp only[w03,beq_iff_eq]at h;rcases h with((((h|h)|h)|h)|h)|h
 · exact .inl h
 · exact .inr (.inl h)
 · exact .inr (.inr (.inl h))
 · exact .inr (.inr (.inr (.inl h)))
 · exact .inr (.inr (.inr (.inr (.inl h))))
 · exact .inr (.inr (.inr (.inr (.inr h))))
theorem kit_D{K:aD}{d:Dt}{T:String}(h:okT T=true):PySem.W.kitOne K (.type (tyN d)) (.type T)=some (NW (tyN d) T):=by
 rcases XG h with rfl|rfl|rfl|rfl|rfl|rfl<;>cases d<;>rfl
def fIsi(T:String)(F:FE):FE:=λρ=>(F ρ).map λx=>(.nw,.bl (NW (tyN x.2) T))
theorem z3M{T:String}(hT:okT T=true):Et X (.builtin "isinstance") (λxs H Q=>∃ d v,xs=[v,.ty T]/\Rp X.K emp d H v/\Q (.bl (NW (tyN d) T)) H):=by
 intro π s σ H xs us Q I r ⟨d,v,ex,h1,fin⟩;subst ex;have e:=kit_D (K:=X.K) (d:=d) hT;obtain⟨u,u',rfl,r1,r2⟩:=vals2 r;cases r2;cases d with
 | non=>rw[Rp.non_.mp h1]at r1;exact CW I r1 .non e λtk=>⟨.bl _,H,I.tok tk,rfl,fin⟩
 | bl b=>rw[Rp.bl_.mp h1]at r1;exact CW I r1 (.bl b) e λtk=>⟨.bl _,H,I.tok tk,rfl,fin⟩
 | int i=>rw[Rp.int_.mp h1]at r1;exact CW I r1 (.int i) e λtk=>⟨.bl _,H,I.tok tk,rfl,fin⟩
 | str x=>rw[Rp.str_.mp h1]at r1;exact CW I r1 (.str x) e λtk=>⟨.bl _,H,I.tok tk,rfl,fin⟩
 | dic =>
  obtain⟨a,rfl,q⟩:=Rp.dic_.mp h1;cases r1;exact PySem.W.kia_one PySem.W.kitx_dict I.kIn ⟨_,(I.hok a _ q).1,rfl⟩ e (λz=>nomatch z) λtk=>⟨.bl _,H,I.tok tk,rfl,fin⟩
 | lst ys =>
  obtain⟨p,vs,rfl,_,q1,q2⟩:=h1.items;cases r1;obtain⟨its,_,pl,_⟩:=I.list (SqL.of (K:=X.K) q1);obtain⟨o,ho,hc,_⟩:=pl.isList;exact PySem.W.kia_one PySem.W.kitx_list I.kIn ⟨o,ho,hc⟩ e (λz=>nomatch z) λtk=>⟨.bl _,H,I.tok tk,rfl,fin⟩
 | scr ys =>
  obtain⟨p,rfl,_,q1⟩:=Rp.scr_.mp h1;cases r1;obtain⟨its,_,pl,_⟩:=I.list q1;obtain⟨o,ho,hc,_⟩:=pl.isList;exact PySem.W.kia_one PySem.W.kitx_list I.kIn ⟨o,ho,hc⟩ e (λz=>nomatch z) λtk=>⟨.bl _,H,I.tok tk,rfl,fin⟩
 | tup ys =>
  obtain⟨p,vs,rfl,q1,q2⟩:=Rp.tup_.mp h1;cases r1;obtain⟨its,_,pl,_⟩:=I.tuple q1;obtain⟨o,ho,hc,_⟩:=pl;exact PySem.W.kia_one PySem.W.kitx_tuple I.kIn ⟨o,ho,hc⟩ e (λz=>nomatch z) λtk=>⟨.bl _,H,I.tok tk,rfl,fin⟩
theorem Ix{a:Expr}{Fa:FE}{x:Str}{T:String}{p q pos:Pos}(hT:okT T=true)(hg:Gl X "isinstance")(hm:X.mg "isinstance" = none)(hgT:Gl X x)(hmT:X.mg x=none)(hvT:bootBuiltins x=some (.type T))(ha:PF X a Fa)
  (hn:x ≠ "__name__" := by decide) (hd:(x==("__debug__" : Str))=false:=by decide) (hs1:starEach [.Name x q] X.env=[(false,eval (.Name x q) X.env)]:=by rfl)
  (hs:starEach [a,.Name x q] X.env=(false,eval a X.env)::starEach [.Name x q] X.env:=by rfl):PF X (.Call (.Name "isinstance" p) [a,.Name x q] [] pos) (fIsi T Fa) :=
 (NO (z3M hT) hg hm boot_isinstance (AY ha (AY (pe_ty hgT hmT hvT hn hd) Ik hs1) hs) (by decide) (by decide) hs (by rw[hs1];rfl)).imp fun σ H Q hZ=>hZ.elim fun ρ hZ=>hZ.elim fun f hZ=>hZ.elim fun d hZ=>hZ.elim fun rs hZ=>hZ.elim fun e0 k=>by
  unfold fIsi at e0;cases h:Fa ρ with
  | none=>rw[h]at e0;cases e0
  | some z =>
   rw[h]at e0;cases e0;exact⟨ρ,z.1,z.2,rs,h,λv H1 s1 r1=>⟨z.2,v,rfl,r1.sh,k _ H1 s1 RpF.b_⟩⟩
abbrev FP:=Rho->Option (Option Int)
def upP(X:Cx)(F:FP):TO:=λσ H Q=>∃ ρ o,RepS X.ky H ρ σ/\F ρ=some o/\∀ H',Same H H'->Q o H'
def PFP(X:Cx)(e:Option Expr)(F:FP):Prop:=PO X e (upP X F)
def A6:FP:=λ_=>some none
def intD:Dt->Option Int
 | .int i=>some i
 | _=>none
def J9(F:FE):FP:=λρ=>(F ρ).bind λx=>(intD x.2).map some
theorem PO.imp{e:Option Expr}{t t':TO}(h:PO X e t)(q:∀ σ H Q,t' σ H Q->t σ H Q):PO X e t':=λπ s σ H Q I z=>h π s σ H Q I (q σ H Q z)
theorem X1:PFP X none A6:=z3x.imp (by rintro σ H Q ⟨ρ,o,rs,e,k⟩;cases e;exact k H (Same.refl H))
theorem X2{e:Expr}{F:FE}(h:PF X e F):PFP X (some e) (J9 F):=(z3y h).imp λσ H Q ⟨ρ,o,rs,e,k⟩=>by
 obtain⟨⟨f,d⟩,e1,e2⟩:=i8 e;refine⟨ρ,f,d,rs,e1,λv H1 s1 r1=>?_⟩;cases d<;>first|cases e2|skip
 rename_i i;exact⟨i,Rp.int_.mp r1.sh,k H1 s1⟩
def cutD{α:Type}(xs:List α)(lo hi:Option Int):List α:=(xs.drop (HT.sIx xs.length 0 lo)).take (HT.sIx xs.length xs.length hi-HT.sIx xs.length 0 lo)
def fSl(F:FE)(L U:FP):FE:=λρ=>(F ρ).bind λx=>(L ρ).bind λlo=>(U ρ).bind λhi=>match x.2 with|.lst ds=>some (newL (cutD ds lo hi))|_=>none
theorem P9{e:Expr}{F:FE}{lo hi:Option Expr}{L U:FP}{pos p2:Pos}(he:PF X e F)(hl:PFP X lo L)(hu:PFP X hi U):PF X (.Subscript e (.Slice lo hi none p2) pos) (fSl F L U) :=
 (Zd z3A he hl hu).imp fun σ H Q hZ=>hZ.elim fun ρ hZ=>hZ.elim fun f hZ=>hZ.elim fun d hZ=>hZ.elim fun rs hZ=>hZ.elim fun e0 k=>by
  obtain⟨⟨fx,dx⟩,e1,e2⟩:=i8 e0;obtain⟨l,e3,e4⟩:=i8 e2;obtain⟨u,e5,e6⟩:=i8 e4;clear e0 e2 e4;refine⟨ρ,fx,dx,rs,e1,λv H1 s1 r1=>⟨ρ,l,rs.mono s1,e3,λH2 s2=>⟨ρ,u,rs.mono (s1.trans s2),e5,λH3 s3=>?_⟩⟩⟩;have ex:∃ ds,dx = .lst ds/\newL (cutD ds l u)=(f,d):=by
   cases dx<;>first|(rename_i ds;exact⟨ds,rfl,Option.some.inj e6⟩)|cases e6
  obtain⟨ds,rfl,e7⟩:=ex;cases e7;obtain⟨p,vs,rfl,_,q1,q2⟩:=(Rp.mono _ (s2.trans s3) r1.sh).items;refine⟨p,vs,rfl,SqL.of q1,λa ha=>k _ _ ((s1.trans (s2.trans s3)).trans (F8 ha)) ?_⟩;have h1:Rps X.K emp (cutD ds l u) H3 (cutV vs l u):=by
   unfold cutD cutV;rw[q2.length];exact Rps.take _ (Rps.drop _ q2)
  exact(Ew ha h1).early (s1.trans (s2.trans s3))
end
end L2

end
section
local macro_rules|`(tactic|rfl')=>`(tactic|first|lia|omega +splitDisjunctions)
namespace L2
open PySem PySem.Spec PyProof.Rows
def Walk(K:aD)(J:It)(items:List Dt)(H1:Hp):Prop:=∀(A:List Addr) (H:Hp),Same H1 (hidL A H)->(∀ a∈A,∃ o,H a=some o) ->
 (∀(i:Nat) (d:Dt),items[i]?=some d->J.go i H/\∀ x H',J.yld i H x H'->Same (hidL A H) (hidL A H')/\(∀ a∈A,H' a=H a)/\Rp K emp d (hidL A H') x)/\∀ i,items.length<=i->J.stop i H
abbrev FI:=Rho->Option (List Dt)
def upIK(Y:Ky)(F:FI):TI:=λσ H R=>∃ ρ items,RepS Y H ρ σ/\F ρ=some items/\∀ J H',Same H H'->items.length<=sizeLine->Walk Y.K J items H'->R J H'
abbrev upI(X:Cx)(F:FI):TI:=upIK X.ky F
def PFI(X:Cx)(tg e:Expr)(F:FI):Prop:=PI X tg e (upI X F)
theorem PI.imp{X:Cx}{tg e:Expr}{t t':TI}(h:PI X tg e t)(q:∀ σ H Q,t' σ H Q->t σ H Q):PI X tg e t':=λπ s σ H Q I z=>h π s σ H Q I (q σ H Q z)
section
variable {X:Cx}{tg a b e:Expr}{Fa Fb Fe:FE}{pos:Pos}
theorem XH{K:aD}{p:Addr}{ds:List Dt}{vs:List V}{H1:Hp}(h1:SqL K H1 p vs)(h2:Rps K emp ds H1 vs):Walk K (Itl K p) ds H1:=by
 intro A H sm hA;have s2:Same H1 H:=sm.trans A8;refine⟨λi d e=>?_,λi hi=>⟨vs,s2.seq h1,by rw[h2.length];exact hi⟩⟩;obtain⟨v,e1,e2⟩:=h2.get e;refine⟨⟨vs,v,s2.seq h1,e1⟩,?_⟩;rintro x H' ⟨z,y⟩;subst z;have hx:=y vs (s2.seq h1);rw[e1]at hx;cases hx;exact⟨Same.refl _,λ_ _=>rfl,Rp.mono _ sm e2⟩
theorem Zw{K:aD}{p:Addr}{ds:List Dt}{vs:List V}{H1:Hp}(h1:SqT K H1 p vs)(h2:Rps K emp ds H1 vs):Walk K (Itt K p) ds H1:=by
 intro A H sm hA;have s2:Same H1 H:=sm.trans A8;refine⟨λi d e=>?_,λi hi=>⟨vs,s2.seqT h1,by rw[h2.length];exact hi⟩⟩;obtain⟨v,e1,e2⟩:=h2.get e;refine⟨⟨vs,v,s2.seqT h1,e1⟩,?_⟩;rintro x H' ⟨z,y⟩;subst z;have hx:=y vs (s2.seqT h1);rw[e1]at hx;cases hx;exact⟨Same.refl _,λ_ _=>rfl,Rp.mono _ sm e2⟩
def Q0(lo:Int)(n:Nat):List Dt:=(List.range n).map λ(k:Nat) => .int (lo+(k:Int))
theorem DQ{K:aD}{lo:Int}{n:Nat}{H1:Hp}:Walk K (Itr lo n) (Q0 lo n) H1:=by
 intro A H sm hA;refine⟨λi d e=>?_,λi hi=>by unfold Q0 at hi;rw[wn,vv]at hi;exact hi⟩;unfold Q0 at e;rw[wv]at e;have hi:i<n:=by
  by_cases hi:i<n
  · exact hi
  · rw[wR (by simp;rfl')]at e;cases e
 rw[vU hi]at e;cases e;refine⟨hi,λx H'⟨z,y⟩=>?_⟩;subst z;subst y;exact⟨Same.refl _,λ_ _=>rfl,Rp.int_.mpr rfl⟩
def seqD:Dt->Option (List Dt)
 | .lst ds=>some ds
 | .tup ds=>some ds
 | _=>none
def iSeq(F:FE):FI:=λρ=>(F ρ).bind λx=>seqD x.2
theorem F5(ha:PF X a Fa):PFI X tg a (iSeq Fa):=by
 intro π s σ H R I ⟨ρ,items,rs,e0,k⟩;obtain⟨⟨f,d⟩,e1,e2⟩:=i8 e0;refine thn (ha π s σ H (λx H1=>Same H H1/\Rp X.K emp d H1 x) I ⟨ρ,f,d,rs,e1,λv H1 s1 r1=>⟨s1,r1.sh⟩⟩) λv s1⟨x,H1,I1,r1,sm,rd⟩=>?_;cases d<;>first|cases e2|skip
 · rename_i ds;obtain⟨p,vs,rfl,_,h1,h2⟩:=rd.items;cases r1;obtain⟨its,rv,pl,hz⟩:=I1.list (SqL.of (K:=X.K) h1);refine wpAny_pyIter_list pl.isList ?_;refine⟨s1.heap.objs.size,[s1.heap.objs.size],_,_,H1,rfl,I1.kept (t':=s1.toks) λb o e=>wm _ e,Xu p _,⟨_,wF _ rfl,rfl,rfl⟩,λb hb=>?_,k _ H1 sm (by rw[←h2.length];exact hz) (XH (SqL.of h1) h2)⟩;have e:b=s1.heap.objs.size:=by simpa using hb
   subst e;exact I1.fpOk (wB _) (I1.hok.fresh (wB _))
 · rename_i ds;obtain⟨p,vs,rfl,h1,h2⟩:=Rp.tup_.mp rd;cases r1;obtain⟨its,rv,pl,hz⟩:=I1.tuple h1;refine wpAny_pyIter_tuple (show s1.heap.IsTuple p its.toArray from pl) ?_;refine⟨s1.heap.objs.size,[s1.heap.objs.size],_,_,H1,rfl,I1.kept (t':=s1.toks) λb o e=>wm _ e,PQ p _,⟨_,wF _ rfl,rfl,rfl⟩,λb hb=>?_,k _ H1 sm (by rw[←h2.length];exact hz) (Zw h1 h2)⟩;have e:b=s1.heap.objs.size:=by simpa using hb
   subst e;exact I1.fpOk (wB _) (I1.hok.fresh (wB _))
def V1(i:Int):Bool:=decide (-1000000<=i)&&decide (i<=1000000)
theorem MI{i:Int}(h:V1 i=true): -1000000<=i/\i<=1000000:=by
 unfold V1 at h;rw[wN]at h;exact⟨of_decide_eq_true h.1,of_decide_eq_true h.2⟩
def m9(F:FE):FI:=λρ=>(F ρ).bind λx=>(intD x.2).bind λj=>if V1 j then some (Q0 0 j.toNat) else none
theorem DR{lo:Int}{n:Nat}:(Q0 lo n).length=n:=by unfold Q0;simp
theorem Db{d:Dt}{i:Int}(h:intD d=some i):d = .int i:=by
 cases d<;>first|cases h|skip
 rfl
theorem B6{p:Pos}(hg:Gl X "range")(hm:X.mg "range" = none)(ha:PF X a Fa)(hs:starEach [a] X.env=[(false,eval a X.env)]:=by rfl):PFI X tg (.Call (.Name "range" p) [a] [] pos) (m9 Fa) :=
 (Kr hg hm (AY ha Ik hs) hs).imp fun σ H R hZ=>hZ.elim fun ρ hZ=>hZ.elim fun items hZ=>hZ.elim fun rs hZ=>hZ.elim fun e0 k=>by
  obtain⟨⟨f,d⟩,e1,e2⟩:=i8 e0;obtain⟨j,e3,e4⟩:=i8 e2;clear e0 e2;have ed:=Db e3;cases (show d = .int j from ed);split at e4
  · rename_i hr;cases e4;obtain⟨h1,h2⟩:=MI hr;refine⟨ρ,f,_,rs,e1,λv H1 s1 r1=>⟨j,by rw[Rp.int_.mp r1.sh],by rfl',by rfl',k _ H1 s1 ?_ DQ⟩⟩;rw[DR];have:sizeLine=16777216:=rfl;rfl'
  · cases e4
def HN(F G:FE):FI:=λρ=>(F ρ).bind λx=>(G ρ).bind λy=>(intD x.2).bind λi=>(intD y.2).bind λj=>if V1 i&&V1 j then some (Q0 i (j-i).toNat) else none
end
inductive Tg where
 | one (i:Nat)|many (is:List Nat)
def Q1:List Nat->TGs
 | []=>gNil
 | i::is=>gCons (Ih i) (Q1 is)
def Tg.low(K:aD):Tg->TG
 | .one i=>Ih i
 | .many is=>gTup K is.length (Q1 is)
def Q2:Rho->List Nat->List Dt->Rho
 | ρ,i::is,d::ds=>Q2 (ρ.set i (.sh false d)) is ds
 | ρ,_,_=>ρ
def Tg.put:Tg->Dt->Rho->Option Rho
 | .one i,d,ρ=>some (ρ.set i (.sh false d))
 | .many is,.tup ds,ρ=>if ds.length=is.length then some (Q2 ρ is ds) else none
 | .many _,_,_=>none
def Tg.below(nt:Nat):Tg->Prop
 | .one i=>i<nt
 | .many is=>∀ i∈is,i<nt
def KeepS(nt:Nat)(σ σ':St):Prop:=σ'.length=σ.length/\∀ i,nt<=i->σ'[i]?=σ[i]?
theorem KeepS.refl{nt:Nat}{σ:St}:KeepS nt σ σ:=⟨rfl,λ_ _=>rfl⟩
theorem KeepS.set{nt i:Nat}{σ:St}{v:V}(h:i<nt):KeepS nt σ (σ.set i (some v)):=⟨vq,λj hj=>vo (by rfl')⟩
theorem KeepS.trans{nt:Nat}{a b c:St}(h:KeepS nt a b)(k:KeepS nt b c):KeepS nt a c:=⟨k.1.trans h.1,λi hi=>(k.2 i hi).trans (h.2 i hi)⟩
theorem Hi:∀{is:List Nat} {vs:List V} {σ:St} {H:Hp} {Q Q':St->Hp->Prop},Q1 is vs σ H Q->(∀ σ H,Q σ H->Q' σ H)->Q1 is vs σ H Q':=by
 intro is
 induction is with
 | nil=>intro vs σ H Q Q' ⟨e,q⟩ k;exact⟨e,k _ _ q⟩
 | cons j js ih=>intro vs σ H Q Q' ⟨v,r,e,q⟩ k;exact⟨v,r,e,ih q k⟩
theorem KH{nt:Nat}:∀{is:List Nat} {vs:List V} {σ:St} {H:Hp} {Q:St->Hp->Prop},(∀ i∈is,i<nt)->Q1 is vs σ H Q->Q1 is vs σ H λσ2 H2=>KeepS nt σ σ2/\Q σ2 H2
 | [],vs,σ,H,Q,_,⟨e,q⟩=>⟨e,KeepS.refl,q⟩
 | i::is,vs,σ,H,Q,hi,⟨v,r,e,q⟩=>by
  refine⟨v,r,e,?_⟩;have q:Q1 is r (σ.set i (some v)) H Q:=q;have z:=KH (nt:=nt) (λj hj=>hi j (wc _ hj)) q;show Q1 is r (σ.set i (some v)) H _;exact Hi z λσ2 H2⟨k1,k2⟩=>⟨(KeepS.set (hi i wf)).trans k1,k2⟩
theorem Tg.ok{K:aD}{nt:Nat}{g:Tg}(h:g.below nt):TgOk nt (g.low K):=by
 intro x σ H Q q;cases g with
 | one i=>exact⟨KeepS.set h,q⟩
 | many is =>
  obtain⟨a,xs,e,hq,hl,q⟩:=q;exact⟨a,xs,e,hq,hl,KH h q⟩
theorem Tg.low_mono{K:aD}{g:Tg}{v:V}{σ:St}{H:Hp}{Q Q':St->Hp->Prop}(h:g.low K v σ H Q)(k:∀ σ H,Q σ H->Q' σ H):g.low K v σ H Q':=by
 cases g with
 | one i=>exact k _ _ h
 | many is =>
  obtain⟨a,xs,e,hq,hl,q⟩:=h;exact⟨a,xs,e,hq,hl,Hi q k⟩
section
variable {Y:Ky}{H H':Hp}{ρ:Rho}{σ:St}
theorem RepS.set(h:RepS Y H ρ σ){i:Nat}{f:Bool}{d:Dt}{v:V}(r:Rp Y.K (bsOf Y f) d H v):RepS Y H (ρ.set i (.sh f d)) (σ.set i (some v)):=by
 refine⟨by rw[vq,vq];exact h.len,h.base,λj c q=>?_⟩;by_cases e:i=j
 · subst e;rw[vw]at q ⊢;rw[if_pos rfl]at q ⊢;split at q
   · rename_i hl;cases q;rw[if_pos (by rw[←h.len];exact hl)];exact⟨_,rfl,v,rfl,r⟩
   · cases q
 · rw[vo e]at q ⊢;exact h.at_ j c q
theorem Iy{Hh:Hp}{ρ':Rho}:∀{is:List Nat} {ds:List Dt} {vs:List V} {ρ:Rho} {σ:St},RepS Y Hh ρ σ->Rps Y.K emp ds Hh vs->ds.length=is.length->Q2 ρ is ds=ρ' ->
  Q1 is vs σ H λσ' H'=>H'=H/\RepS Y Hh ρ' σ'
 | [],[],vs,ρ,σ,rs,r,hl,q=>⟨Rps.nil_.mp r,rfl,by rw[←q];exact rs⟩
 | [],d::ds,vs,ρ,σ,rs,r,hl,q=>by cases hl
 | i::is,[],vs,ρ,σ,rs,r,hl,q=>by cases hl
 | i::is,d::ds,vs,ρ,σ,rs,r,hl,q=>by
  obtain⟨v,r',rfl,h1,h2⟩:=Rps.cons_.mp r;exact⟨v,r',rfl,Iy (rs.set (f:=false) h1) h2 (by simpa using hl) q⟩
theorem Tg.sim{Hh:Hp}{g:Tg}{d:Dt}{v:V}{ρ':Rho}(sm:Same Hh H)(rs:RepS Y Hh ρ σ)(r:Rp Y.K emp d Hh v)(h:g.put d ρ=some ρ'):
  g.low Y.K v σ H λσ' H'=>H'=H/\RepS Y Hh ρ' σ':=by
 cases g with
 | one i=>cases h;exact⟨rfl,rs.set (f:=false) r⟩
 | many is =>
  cases d<;>first|cases h|skip
  rename_i ds;replace h:(if ds.length=is.length then some (Q2 ρ is ds) else none)=some ρ':=h;split at h
  · rename_i hl;obtain⟨a,vs,rfl,h1,h2⟩:=Rp.tup_.mp r;exact⟨a,vs,rfl,sm.seqT h1,by rw[h2.length];exact hl,Iy rs h2 hl (Option.some.inj h)⟩
  · cases h
end
section
variable {X:Cx}{pos:Pos}
theorem R3{i:Nat}{x:Str}(hN:X.N.Nodup)(hi:X.N[i]?=some x)(hx:Loc X.env.scope x)(hf:X.fn x=true\/X.env.scope.names.lookup x=some .local):PG X (.Name x pos) ((Tg.one i).low X.K):=A0 hN hi hx hf
theorem Q3:PGs X [] (Q1 []):=z3q
theorem A1{e:Expr}{es:List Expr}{i:Nat}{is:List Nat}(h1:PG X e (Ih i))(h2:PGs X es (Q1 is))(hs:(assignEach (e::es) X.env).map (·.2)=assign e X.env::(assignEach es X.env).map (·.2):=by rfl):PGs X (e::es) (Q1 (i::is)):=YU h1 h2 hs
theorem Q4{es:List Expr}{k:Nat}{is:List Nat}(hc:X.calm=true)(h:PGs X es (Q1 is))(hn:(assignEach es X.env).length=is.length:=by rfl)(hst:(assignEach es X.env).findIdx? (·.1)=none:=by rfl):PG X (.Tuple es k pos) ((Tg.many is).low X.K):=pg_tup hc h hn hst
end
def Ce(g:Tg)(Fc:FT)(Fe:FE)(ρ0:Rho):List Dt->Option (List Dv)
 | []=>some []
 | x::xs=>(g.put x ρ0).bind λρ1=>(Fc ρ1).bind λb=>if b then(Fe ρ1).bind λv=>(Ce g Fc Fe ρ0 xs).bind λr=>some (v::r) else Ce g Fc Fe ρ0 xs
def Cf:Cell->Cell
 | .no => .no
 | .ex => .no
 | .sh _ d => .sh false d
 | .ow _ ds => .sh false (.lst ds)
def sigD(nt:Nat)(js:List Nat)(ρ:Rho):Rho:=List.replicate nt Cell.no++js.map λj=>match ρ[j]? with|some c=>Cf c|none => .no
def j9(nt:Nat)(js:List Nat)(Fi:FI)(g:Tg)(Fc:FT)(Fe:FE):FE:=λρ=>(Fi ρ).bind λitems=>(Ce g Fc Fe (sigD nt js ρ) items).bind λvs=>some (if V0 vs then .nw else .tn,.lst (sndL vs))
theorem FU{g:Tg}{Fc:FT}{Fe:FE}{ρ0:Rho}:∀{xs:List Dt} {vs:List Dv},Ce g Fc Fe ρ0 xs=some vs->vs.length<=xs.length
 | [],vs,h=>by cases h;exact wB _
 | x::xs,vs,h=>by
  unfold Ce at h;obtain⟨ρ1,_,h⟩:=i8 h;obtain⟨b,_,h⟩:=i8 h;split at h
  · obtain⟨v,_,h⟩:=i8 h;obtain⟨r,h1,h⟩:=i8 h;cases h;have:=FU h1;rw[wu,wu];rfl'
  · have:=FU h;rw[wu];rfl'
def PFTs(X:Cx)(ifs:List Expr)(F:FT):Prop:=PTs X ifs (upB X F)
def fYes:FT:=λ_=>some true
theorem O6{X:Cx}:PFTs X [] fYes:=λπ s σ H Q I⟨ρ,b,rs,e,k⟩=>by cases e;exact z3D π s σ H Q I (k H (Same.refl H))
theorem Qd{X:Cx}{c:Expr}{F:FT}(h:PFT X c F):PFTs X [c] F:=z3E h
theorem RpC.shS{Y:Ky}{H H1:Hp}{c:Cell}{o:Option V}(h:RpC Y H c o):RpC ⟨Y.K,H1⟩ H (Cf c) o:=by
 cases c with
 | no=>trivial
 | ex=>trivial
 | sh f d=>obtain⟨v,q,r⟩:=h;exact⟨v,q,Rp.anti Same.emp d r⟩
 | ow f ds=>obtain⟨v,q,r⟩:=h;exact⟨v,q,Rp.anti Same.emp _ r⟩
theorem RepS.sigs{Y:Ky}{H H1:Hp}{ρ:Rho}{σ:St}{nt:Nat}{js:List Nat}(h:RepS Y H ρ σ)(hj:∀ j∈js,j<σ.length)(h1:Same H1 H):RepS ⟨Y.K,H1⟩ H (sigD nt js ρ) (sig nt js σ):=by
 unfold sigD sig;refine⟨by simp,h1,λi c q=>?_⟩;by_cases hi:i<nt
 · rw[wW (by simpa using hi),vn,if_pos hi]at q;cases q;exact⟨none,by rw[wW (by simpa using hi),vn,if_pos hi],trivial⟩
 · rw[vg (by simp;rfl'),vD,wv]at q;rw[vg (by simp;rfl'),vD,wv];cases ej:js[i-nt]? with
   | none=>rw[ej]at q;cases q
   | some j =>
    rw[ej]at q;have hlt:=hj j (ud ej);have hlt':j<ρ.length:=by rw[h.len];exact hlt
    rw[w1k,wa hlt']at q;cases q;obtain⟨o,e1,e2⟩:=h.at_ j _ (wa hlt');refine⟨o,?_,e2.shS⟩;rw[w1k,e1];rfl
def frE(t:Hp->TE)(H1:Hp):TE:=λσ H Q=>∃ A:List Addr,(∀ a∈A,(∃ vs,H a=some (.lst vs))/\H1 a=none)/\t H1 σ (hidL A H) λv H'=>(∀ a∈A,H' a=none)->Q v (F7 A H H')
def frT(t:Hp->TT)(H1:Hp):TT:=λσ H Q=>∃ A:List Addr,(∀ a∈A,(∃ vs,H a=some (.lst vs))/\H1 a=none)/\t H1 σ (hidL A H) λv H'=>(∀ a∈A,H' a=none)->Q v (F7 A H H')
theorem PTs.frame{Y:Cx}{ifs:List Expr}{t:Hp->TT}(h:PTs Y ifs (t Y.H₀)):PTs Y ifs (frT t Y.H₀):=by
 intro π s σ H Q I ⟨A,hA,z⟩;refine thn (h _ s σ _ _ (I.hide hA) z) ?_;rintro u s' ⟨H',J,q⟩;obtain⟨hn,J'⟩:=I.unhide hA J;exact⟨_,J',q hn⟩
theorem MJ{D:Addr}{H:Hp}{o:HO}:hidL [D] (upd H D o)=hidL [D] H:=funext λb=>by
 by_cases q:b=D
 · subst q;rw[T1 (by simp),T1 (by simp)]
 · rw[u8 (by simpa using q),u8 (by simpa using q),z9 q]
theorem Zx{D:Addr}{H:Hp}(h:H D=none):hidL [D] H=H:=funext λb=>by
 by_cases q:b=D
 · subst q;rw[T1 (by simp),h]
 · rw[u8 (by simpa using q)]
section
variable {X:Cx}{N:List Str}{scope:Scope}{nt:Nat}{js:List Nat}{tg elt iter:Expr}{ifs:List Expr}{Fi:FI}{g:Tg}{Fc:FT}{Fe:FE}{pos:Pos}
def RpE(Y:Ky)(x:Dv)(H':Hp)(v:V):Prop:=if x.1.isFr then Rp Y.K Y.H₀ x.2 H' v else Rp Y.K emp x.2 H' v
def RpEs(Y:Ky):List Dv->Hp->List V->Prop
 | [],_,vs=>vs=[]
 | x::xs,H',vs=>∃ v r,vs=v::r/\RpE Y x H' v/\RpEs Y xs H' r
theorem RpE.of{Y:Ky}{H H':Hp}{x:Dv}{v:V}(h0:Same Y.H₀ H)(h:RpF Y H x.1 x.2 H' v):RpE Y x H' v:=by
 unfold RpE;by_cases q:x.1.isFr=true
 · rw[if_pos q];exact h.fr h0 q
 · rw[if_neg q];exact h.sh
theorem RpE.mono{Y:Ky}{H H':Hp}{x:Dv}{v:V}(h:RpE Y x H v)(s:Same H H'):RpE Y x H' v:=by
 unfold RpE at h ⊢;by_cases q:x.1.isFr=true
 · rw[if_pos q]at h ⊢;exact Rp.mono _ s h
 · rw[if_neg q]at h ⊢;exact Rp.mono _ s h
theorem RpEs.mono{Y:Ky}{H H':Hp}(s:Same H H'):∀{xs:List Dv} {vs:List V},RpEs Y xs H vs->RpEs Y xs H' vs
 | [],vs,h=>h
 | x::xs,vs,⟨v,r,e,h1,h2⟩=>⟨v,r,e,h1.mono s,RpEs.mono s h2⟩
theorem RpEs.append{Y:Ky}{H':Hp}:∀{xs ys:List Dv} {vs ws:List V},RpEs Y xs H' vs->RpEs Y ys H' ws->RpEs Y (xs++ys) H' (vs++ws)
 | [],ys,vs,ws,h,h'=>by rw[show vs=[]from h];exact h'
 | x::xs,ys,vs,ws,⟨v,r,e,h1,h2⟩,h'=>⟨v,r++ws,by rw[e];rfl,h1,RpEs.append h2 h'⟩
theorem RpEs.length{Y:Ky}{H':Hp}:∀{xs:List Dv} {vs:List V},RpEs Y xs H' vs->vs.length=xs.length
 | [],vs,h=>by rw[show vs=[]from h];rfl
 | x::xs,vs,⟨v,r,e,_,h2⟩=>by rw[e,wu,wu,RpEs.length h2]
theorem RpEs.sh{Y:Ky}{H':Hp}:∀{xs:List Dv} {vs:List V},RpEs Y xs H' vs->Rps Y.K emp (sndL xs) H' vs
 | [],vs,h=>Rps.nil_.mpr h
 | x::xs,vs,⟨v,r,e,h1,h2⟩=>by
  refine Rps.cons_.mpr ⟨v,r,e,?_,RpEs.sh h2⟩;unfold RpE at h1;split at h1
  · exact Rp.anti Same.emp _ h1
  · exact h1
theorem RpEs.fr{Y:Ky}{H':Hp}:∀{xs:List Dv} {vs:List V},V0 xs=true->RpEs Y xs H' vs->Rps Y.K Y.H₀ (sndL xs) H' vs
 | [],vs,_,h=>Rps.nil_.mpr h
 | x::xs,vs,q,⟨v,r,e,h1,h2⟩=>by
  unfold V0 at q;rw[wN]at q;refine Rps.cons_.mpr ⟨v,r,e,?_,RpEs.fr q.2 h2⟩;unfold RpE at h1;rw[if_pos q.1]at h1;exact h1
theorem Wl{σ:St}{H:Hp}{Q:VK}(hj:∀ j∈js,j<σ.length)(h:upF X (j9 nt js Fi g Fc Fe) σ H Q):
   Wd nt js (upI X Fi) (g.low X.K) (frT λH1=>upBK ⟨X.K,H1⟩ Fc) (frE λH1=>upK ⟨X.K,H1⟩ Fe) σ H Q:=by
 obtain⟨ρ,f,d,rs,e0,k⟩:=h;obtain⟨items,ei,e1⟩:=i8 e0;obtain⟨vs0,ec,e2⟩:=i8 e1;cases e2;clear e0 e1;refine⟨ρ,items,rs,ei,λJ H1 sm hsz wk D hD=>?_⟩;have nD:H D=none:=sm.free hD;refine⟨λi m ys H2=>m=items.length-i/\H2 D=some (.lst ys)/\Same H1 (hidL [D] H2)/\∃ ds rest,RpEs ⟨X.K,H1⟩ ds (hidL [D] H2) ys/\Ce g Fc Fe (sigD nt js ρ) (items.drop i)=some rest/\ds++rest=vs0,⟨_,rfl,D8,?_,[],vs0,rfl,ec,rfl⟩,?_⟩
 · rw[MJ,Zx hD];exact Same.refl _
 rintro i m ys H2 ⟨rfl,e2,s2,ds,rest,r2,c2,es⟩;obtain⟨w1,w2⟩:=wk [D] H2 s2 (λa ha=>by rw[wV.mp ha];exact⟨_,e2⟩);by_cases hlt:i<items.length
 · obtain⟨x,hx⟩:∃ x,items[i]?=some x:=⟨_,wa hlt⟩;have hdrop:items.drop i=x::items.drop (i+1):=by
     rw[uH hlt];rw[wa hlt]at hx;cases hx;rfl
   rw[hdrop]at c2;unfold Ce at c2;obtain⟨ρ1,p1,c3⟩:=i8 c2;obtain⟨b,p2,c4⟩:=i8 c3;obtain⟨go,yl⟩:=w1 i x hx;refine .inr ⟨go,λxv H3 y3=>?_⟩;obtain⟨s3,k3,r3⟩:=yl xv H3 y3;have e3:H3 D=some (.lst ys):=by rw[k3 D (by simp)];exact e2
   have s13:Same H1 (hidL [D] H3):=s2.trans s3;refine Tg.low_mono (Tg.sim (Y:=⟨X.K,H1⟩) (Hh:=hidL [D] H3) A8 ((rs.mono (sm.trans s13)).sigs hj s13) r3 p1) ?_;rintro σ4 H4 ⟨eH,rs4⟩;subst eH;have own:∀{H':Hp},H' D=some (.lst ys)->∀ a∈[D],(∃ vs,H' a=some (.lst vs))/\H1 a=none:=λ{H'} z a ha=>by
     rw[wV.mp ha];exact⟨⟨ys,z⟩,hD⟩
   refine⟨[D],own e3,ρ1,b,rs4,p2,λH5 s5 n5=>?_⟩;have h5:hidL [D] (F7 [D] H4 H5)=H5:=X0 n5;have e5:F7 [D] H4 H5 D=some (.lst ys):=by rw[CY (by simp)];exact e3
   have m5:items.length-(i+1)<items.length-i:=by rfl'
   dsimp only;cases b with
   | true =>
     rw[if_pos rfl]at c4 ⊢;obtain⟨⟨fv,dv⟩,p3,c5⟩:=i8 c4;obtain⟨rest',p4,c6⟩:=i8 c5;cases c6;have rs5:RepS ⟨X.K,H1⟩ H5 ρ1 σ4:=rs4.mono s5;refine⟨[D],own e5,ρ1,fv,dv,by rw[h5];exact rs5,p3,λv H6 s6 r6 n6=>?_⟩;rw[h5]at s6 r6;have h6:hidL [D] (F7 [D] (F7 [D] H4 H5) H6)=H6:=X0 n6;have r2':RpEs ⟨X.K,H1⟩ ds H6 ys:=r2.mono (s3.trans (s5.trans s6));have hlen:ys.length<sizeLine:=by
       have a1:=FU ec;have a2:=r2.length;rw[←es,wD,wu]at a1;rfl'
     refine⟨by rw[CY (by simp)];exact e5,hlen,_,m5,rfl,D8,?_,ds++[(fv,dv)],rest',?_,p4,by rw[ue];exact es⟩
     · rw[MJ,h6];exact s13.trans (s5.trans s6)
     · rw[MJ,h6];exact r2'.append ⟨v,[],rfl,RpE.of rs5.base r6,rfl⟩
   | false =>
     rw[if_neg wL]at c4 ⊢;refine⟨_,m5,rfl,e5,?_,ds,rest,?_,c4,es⟩
     · rw[h5];exact s13.trans s5
     · rw[h5];exact r2.mono (s3.trans s5)
 · have hd:items.drop i=[]:=vC (by rfl');rw[hd]at c2;cases c2;rw[uL]at es;subst es;refine .inl ⟨w2 i (by rfl'),k _ H2 (sm.trans (s2.trans A8)) ?_⟩;by_cases q:V0 ds=true
   · rw[if_pos q];exact(Rp.lst_ (K:=X.K) (B:=H)).mpr ⟨D,ys,rfl,nD,e2,Rps.anti (show Same H H1 from sm) _ (r2.fr q)⟩
   · rw[if_neg q];exact⟨Rp.lst_.mpr ⟨D,ys,rfl,rfl,e2,r2.sh⟩,⟨_,rfl⟩,λa e=>by cases e;exact nD⟩
theorem O7(S:CompScope X N scope nt js)(hc:X.calm=true)(hi:PFI X tg iter Fi)(hg:∀ cl C fp s H,PG (C2 X N scope cl C fp s H) tg (g.low X.K))(hb:g.below nt)
  (hcs:∀ cl C fp s H,PFTs (C2 X N scope cl C fp s H) ifs Fc) (he:∀ cl C fp s H,PF (C2 X N scope cl C fp s H) elt Fe) (hj:∀ j∈js,j<X.N.length)
  (hs:∀ x,foldedSetIterable iter X.env x=pure x:=by intro _;rfl):PF X (.ListComp elt [⟨tg,iter,ifs,0⟩] scope pos) (j9 nt js Fi g Fc Fe):=by
 intro π s σ H Q I h;exact z3F S hc hi hg (Tg.ok hb) (λcl C fp s H=>PTs.frame (t:=λH1=>upBK ⟨X.K,H1⟩ Fc) (hcs cl C fp s H)) (λcl C fp s H=>PE.frame (he cl C fp s H)) hs π s σ H Q I (Wl (λj z=>by rw[I.len];exact hj j z) h)
end
end L2

end
section
namespace L2
open PySem PySem.Spec PySem.W PyProof.Rows
def Fly(h0:Heap)(H:Hp)(e C:Addr)(h:Heap):Prop :=
 h0.get? e=none/\H e=none/\∃ oe vs T oT ts a0,h.get? e=some oe/\oe.cls = .ref C/\vs[0]?=some a0/\oe.data = .fields vs/\vs[1]?=some (.ref T)/\h0.get? T=none/\H T=none/\T≠e/\h.get? T=some oT/\oT.data = .fields ts/\ts[3]?=some .none
section
variable {P:Program}{w:World}{fs ex:List Addr}{H0 H:Hp}{h0 h h':Heap}{l:List Env}{bas:Heap}{e C:Addr}
end
def CX1(P:Program)(w:World):CXT:=λouter H s E e s' =>
 ∃ ea C H',e = .ref ea/\s'.os=s.os/\AllBare s'.gens/\Un (frs outer) [] H H' s.heap s'.heap/\HOk P w H' s'.heap/\Fly s.heap H' ea C s'.heap/\E (.ref C) none H'
section
variable {P:Program}{w:World}{K:aD}{mg:aE}{base:Heap}{N:List Str}{qual:Str}{scope:Scope}{f:Addr}{cd:Value}{A:Around}{outer:List Env}{s₀:Shared}{H₀:Hp}{E:XK}
end
def exN:Nat->Str
 | 0 => "HallError"
 | 1 => "NoHall"
 | 2 => "NoBasket"
 | 3 => "NoPlace"
 | 4 => "NoText"
 | 5 => "Unlike"
 | 6 => "TooMany"
 | _ => "NotWithin"
def HFly(h0:Heap)(H:Hp)(e C L:Addr)(h:Heap):Prop :=
 h0.get? e=none/\H e=none/\∃ oe vs T oT ts a0,h.get? e=some oe/\oe.cls = .ref C/\vs[0]?=some a0/\oe.data = .fields vs/\vs[1]?=some (.ref T)/\h0.get? T=none/\H T=none/\T≠e/\h.get? T=some oT/\oT.data = .fields ts/\ts[3]?=some (rawInt L)
def LandsH(X:Cx)(E:XK):Prop:=∀(π:aB) (σ:St) (H:Hp) (s:Shared) (ea C L:Addr),X.env.frame=some L->Inv X π σ H s->HFly X.s₀.heap H ea C L s.heap->E (.ref C) none H->X.xe (.ref ea) s
def XOk(X:Cx)(H₀:Hp)(C:Addr):Prop:=∃ E:XK,(∀ H,Same H₀ H->E (.ref C) none H)/\Mx (CX1 X.prog X.w) X E /\
 (∀(π:aB) (σ:St) (H:Hp) (s s':Shared) (ea:Addr) (args:aF),Inv X π σ H s->s.heap.MadeExcOf s'.heap ea (.ref C) args->s'.os=s.os->s'.gens=s.gens->E (.ref C) none H->X.xe (.ref ea) s')/\LandsH X E
theorem XOk.base{X:Cx}{H₀ H1:Hp}{C:Addr}(h:XOk X H₀ C)(s:Same H₀ H1):XOk X H1 C:=by
 obtain⟨E,a,b,c⟩:=h;exact⟨E,λH z=>a H (s.trans z),b,c⟩
end L2

end
section
local macro_rules|`(tactic|rfl')=>`(tactic|first|lia|omega +splitDisjunctions)
namespace L2
open PySem PySem.Spec PyProof.Rows
abbrev Own:=List (Nat×Addr)
abbrev Own.adr(O:Own):List Addr:=O.map (·.2)
def CellB(X:Cx)(H:Hp)(O:Own)(i:Nat):Cell->Option V->Prop
 | .no,_=>True
 | .ex,o=>∃ a φ,o=some (.ref a)/\hidL O.adr H a=some (.ext φ)/\∀ h,φ h->ExcAt X.K a h
 | .sh f d,o=>∃ v,o=some v/\Rp X.K (bsOf X.ky f) d (hidL O.adr H) v
 | .ow f ds,o=>∃ a vs,(i,a)∈O/\o=some (.ref a)/\H a=some (.lst vs)/\Rps X.K (bsOf X.ky f) ds (hidL O.adr H) vs
structure RepO(X:Cx)(H₀ H:Hp)(O:Own)(ρ:Rho)(σ:St):Prop where
 ndA:O.adr.Nodup
 ndI:(O.map (·.1)).Nodup
 own:OwnL X O.adr H
 len:ρ.length=σ.length
 b0:Same X.H₀ H₀
 same:Same H₀ (hidL O.adr H)
 at_:∀(i:Nat) (c:Cell),ρ[i]?=some c->∃ o,σ[i]?=some o/\CellB X H O i c o
def RepB(X:Cx)(H₀ H:Hp)(ρ:Rho)(σ:St):Prop:=∃ O,RepO X H₀ H O ρ σ
def Aw:Cell->Cell
 | .ow _ _ => .no
 | c=>c
def L0:Rho->Rho
 | []=>[]
 | c::ρ=>Aw c::L0 ρ
theorem KI:∀ ρ:Rho,L0 ρ=ρ.map Aw
 | []=>rfl
 | c::ρ=>by rw[L0,KI ρ,wo]
section
variable {X:Cx}{H₀ H H':Hp}{O:Own}{ρ:Rho}{σ:St}
theorem RepO.mono(h:RepO X H₀ H O ρ σ)(sm:Same H H'):RepO X H₀ H' O ρ σ:=by
 refine⟨h.ndA,h.ndI,λa ha=>?_,h.len,h.b0,h.same.trans (M3 sm),λi c e=>?_⟩
 · obtain⟨⟨vs,q⟩,z⟩:=h.own a ha;exact⟨⟨vs,sm _ _ q⟩,z⟩
 · obtain⟨o,e1,e2⟩:=h.at_ i c e;refine⟨o,e1,?_⟩;cases c with
   | no=>trivial
   | ex=>obtain⟨a,φ,q,r,z⟩:=e2;exact⟨a,φ,q,M3 sm _ _ r,z⟩
   | sh f d=>obtain⟨v,q,r⟩:=e2;exact⟨v,q,Rp.mono _ (M3 sm) r⟩
   | ow f ds=>obtain⟨a,vs,q1,q2,q3,r⟩:=e2;exact⟨a,vs,q1,q2,sm _ _ q3,Rps.mono _ (M3 sm) r⟩
theorem RepO.base(h:RepO X H₀ H O ρ σ){H1:Hp}(sm:Same H1 H₀)(b:Same X.H₀ H1):RepO X H1 H O ρ σ:=⟨h.ndA,h.ndI,h.own,h.len,b,sm.trans h.same,h.at_⟩
theorem RepO.below(h:RepO X H₀ H O ρ σ):Same X.H₀ H:=h.b0.trans (h.same.trans A8)
theorem RepO.bsFree(h:RepO X H₀ H O ρ σ){a:Addr}(ha:a∈O.adr)(f:Bool):bsOf X.ky f a=none:=by
 cases f with
 | false=>rfl
 | true=>exact(h.own a ha).2
theorem Bg{i:Nat}{a:Addr}(h:(i,a)∈O):a∈O.adr:=wj.mpr ⟨_,h,rfl⟩
theorem RepO.all(h:RepO X H₀ H O ρ σ):RepS X.ky H ρ σ:=by
 refine⟨h.len,h.below,λi c e=>?_⟩;obtain⟨o,e1,e2⟩:=h.at_ i c e;refine⟨o,e1,?_⟩;cases c with
 | no=>trivial
 | ex=>obtain⟨a,φ,q,r,z⟩:=e2;exact⟨a,φ,q,A8 _ _ r,z⟩
 | sh f d=>obtain⟨v,q,r⟩:=e2;exact⟨v,q,Rp.mono _ A8 r⟩
 | ow f ds =>
  obtain⟨a,vs,q1,q2,q3,r⟩:=e2;exact⟨_,q2,Rp.lst_.mpr ⟨a,vs,rfl,h.bsFree (Bg q1) f,q3,Rps.mono _ (Ao λb hb=>by rw[wV.mp hb];exact Bg q1) r⟩⟩
theorem RepO.rest(h:RepO X H₀ H O ρ σ):RepS X.ky (hidL O.adr H) (L0 ρ) σ:=by
 rw[KI];refine⟨by rw[wn];exact h.len,h.b0.trans h.same,λi c e=>?_⟩;rw[wv]at e;cases q:ρ[i]? with
 | none=>rw[q]at e;cases e
 | some c' =>
  rw[q]at e;obtain⟨o,e1,e2⟩:=h.at_ i c' q;refine⟨o,e1,?_⟩;cases c' with
  | no=>cases e;trivial
  | ex=>cases e;exact e2
  | sh f d=>cases e;obtain⟨v,q,r⟩:=e2;exact⟨v,q,r⟩
  | ow f ds=>cases e;trivial
def Ax(O:Own)(i:Nat):Own:=O.filter λp=>p.1 != i
theorem R5{p:Nat×Addr}{i:Nat}:p∈Ax O i↔p∈O/\p.1≠i:=by
 unfold Ax;rw[wP];simp
theorem M4{i:Nat}:∀ a∈(Ax O i).adr,a∈O.adr:=λa ha=>by
 obtain⟨p,hp,e⟩:=wj.mp ha;exact wj.mpr ⟨p,(R5.mp hp).1,e⟩
theorem RepO.set(h:RepO X H₀ H O ρ σ){i:Nat}{f:Bool}{d:Dt}{v:V}(r:Rp X.K (bsOf X.ky f) d (hidL O.adr H) v):RepO X H₀ H (Ax O i) (ρ.set i (.sh f d)) (σ.set i (some v)):=by
 have sm:Same (hidL O.adr H) (hidL (Ax O i).adr H):=Ao M4;refine⟨h.ndA.sublist (List.Sublist.map _ (vk)),h.ndI.sublist (List.Sublist.map _ (vk)),λa ha=>h.own a (M4 a ha),by rw[vq,vq];exact h.len,h.b0,h.same.trans sm,λj c q=>?_⟩;by_cases e:i=j
 · subst e;rw[vw,if_pos rfl]at q;rw[vw,if_pos rfl];split at q
   · rename_i hl;cases q;rw[if_pos (by rw[←h.len];exact hl)];exact⟨_,rfl,v,rfl,Rp.mono _ sm r⟩
   · cases q
 · rw[vo e]at q ⊢;obtain⟨o,e1,e2⟩:=h.at_ j c q;refine⟨o,e1,?_⟩;cases c with
   | no=>trivial
   | ex=>obtain⟨a,φ,q,r,z⟩:=e2;exact⟨a,φ,q,sm _ _ r,z⟩
   | sh f d=>obtain⟨v,q,r⟩:=e2;exact⟨v,q,Rp.mono _ sm r⟩
   | ow f ds=>obtain⟨a,vs,q1,q2,q3,r⟩:=e2;exact⟨a,vs,R5.mpr ⟨q1,λz=>e z.symm⟩,q2,q3,Rps.mono _ sm r⟩
theorem Iz{D:Addr}{A:List Addr}{H:Hp}:hidL A (hidL [D] H)=hidL (D::A) H:=funext λb=>by
 unfold hidL;by_cases q1:b=D
 · subst q1;simp
 · by_cases q2:b∈A
   · simp[q1,q2]
   · simp[q1,q2]
theorem RepO.setNew(h:RepO X H₀ H' O ρ σ){i:Nat}{D:Addr}{f:Bool}{ds:List Dt}{vs:List V}(hi:i<ρ.length)(sm0:Same H' H)(hN:H' D=none)(hD:H D=some (.lst vs))(hn:D ∉ O.adr)(hX:X.H₀ D=none)
   (r:Rps X.K (bsOf X.ky f) ds (hidL (D::O.adr) H) vs):RepO X H₀ H ((i,D)::Ax O i) (ρ.set i (.ow f ds)) (σ.set i (some (.ref D))):=by
 have sub:∀ a∈(Own.adr ((i,D)::Ax O i)),a∈D::O.adr:=λa ha=>by
   rcases ww.mp ha with z|z
   · rw[z];exact wf
   · exact wc _ (M4 a z)
 have sm:Same (hidL (D::O.adr) H) (hidL (Own.adr ((i,D)::Ax O i)) H):=Ao sub;have sm1:Same H' (hidL [D] H):=λb o e=>by
   rw[u8 (by rw[wV];rintro rfl;rw[hN]at e;cases e)];exact sm0 _ _ e
 have sm2:Same (hidL O.adr H') (hidL (D::O.adr) H):=by rw[←Iz];exact M3 sm1
 have nD:D ∉ (Ax O i).adr:=λz=>hn (M4 D z);refine⟨vy.mpr ⟨nD,h.ndA.sublist (List.Sublist.map _ (vk))⟩,vy.mpr ⟨λz=>?_,h.ndI.sublist (List.Sublist.map _ (vk))⟩,λa ha=>?_,by rw[vq,vq];exact h.len,h.b0,h.same.trans (sm2.trans sm),λj c q=>?_⟩
 · obtain⟨p,hp,e⟩:=wj.mp z;exact(R5.mp hp).2 e
 · rcases ww.mp ha with z|z
   · rw[z];exact⟨⟨vs,hD⟩,hX⟩
   · obtain⟨⟨ws,q⟩,z2⟩:=h.own a (M4 a z);exact⟨⟨ws,sm0 _ _ q⟩,z2⟩
 · by_cases e:i=j
   · subst e;rw[vw,if_pos rfl,if_pos hi]at q;rw[vw,if_pos rfl,if_pos (by rw[←h.len];exact hi)];cases q;exact⟨_,rfl,D,vs,wf,rfl,hD,Rps.mono _ sm r⟩
   · rw[vo e]at q ⊢;obtain⟨o,e1,e2⟩:=h.at_ j c q;refine⟨o,e1,?_⟩;cases c with
     | no=>trivial
     | ex=>obtain⟨a,φ,q,r,z⟩:=e2;exact⟨a,φ,q,(sm2.trans sm) _ _ r,z⟩
     | sh f d=>obtain⟨v,q,r⟩:=e2;exact⟨v,q,Rp.mono _ (sm2.trans sm) r⟩
     | ow f ds' =>
      obtain⟨a,vs',q1,q2,q3,r⟩:=e2;exact⟨a,vs',wc _ (R5.mpr ⟨q1,λz=>e z.symm⟩),q2,sm0 _ _ q3,Rps.mono _ (sm2.trans sm) r⟩
theorem Wm{O:Own}(nd:O.adr.Nodup):∀{p q:Nat×Addr},p∈O->q∈O->p.2=q.2->p=q:=by
 induction O with
 | nil=>intro p q hp;cases hp
 | cons o O ih =>
  intro p q hp hq e;have nd:(o.2::O.map (·.2)).Nodup:=nd;obtain⟨n1,n2⟩:=vy.mp nd;rcases ww.mp hp with hp|hp<;>rcases ww.mp hq with hq|hq
  · rw[hp,hq]
  · exact absurd (wj.mpr ⟨q,hq,by rw[←e,hp]⟩) n1
  · exact absurd (wj.mpr ⟨p,hp,by rw[e,hq]⟩) n1
  · exact ih n2 hp hq e
theorem z3N{O:Own}(nd:(O.map (·.1)).Nodup):∀{p q:Nat×Addr},p∈O->q∈O->p.1=q.1->p=q:=by
 induction O with
 | nil=>intro p q hp;cases hp
 | cons o O ih =>
  intro p q hp hq e;have nd:(o.1::O.map (·.1)).Nodup:=nd;obtain⟨n1,n2⟩:=vy.mp nd;rcases ww.mp hp with hp|hp<;>rcases ww.mp hq with hq|hq
  · rw[hp,hq]
  · exact absurd (wj.mpr ⟨q,hq,by rw[←e,hp]⟩) n1
  · exact absurd (wj.mpr ⟨p,hp,by rw[e,hq]⟩) n1
  · exact ih n2 hp hq e
theorem Qe{A:List Addr}{a:Addr}{o:HO}{H:Hp}(h:a∈A):hidL A (upd H a o)=hidL A H:=funext λb=>by
 by_cases q:b∈A
 · rw[T1 q,T1 q]
 · rw[u8 q,u8 q,z9 λz=>q (by rw[z];exact h)]
theorem RepO.upd(h:RepO X H₀ H O ρ σ){i:Nat}{a:Addr}{f g:Bool}{ds ds0:List Dt}{vs:List V}(hc:ρ[i]?=some (.ow g ds0))(hi:(i,a)∈O)(r:Rps X.K (bsOf X.ky f) ds (hidL O.adr H) vs):
   RepO X H₀ (upd H a (.lst vs)) O (ρ.set i (.ow f ds)) σ:=by
 have ha:a∈O.adr:=Bg hi;have hh:hidL O.adr (L2.upd H a (.lst vs))=hidL O.adr H:=Qe ha;have hlt:i<ρ.length:=by
   by_cases hlt:i<ρ.length
   · exact hlt
   · rw[wR (by rfl')]at hc;cases hc
 refine⟨h.ndA,h.ndI,λb hb=>?_,by rw[vq];exact h.len,h.b0,by rw[hh];exact h.same,λj c q=>?_⟩
 · by_cases e:b=a
   · subst e;exact⟨⟨vs,D8⟩,(h.own b hb).2⟩
   · rw[z9 e];exact h.own b hb
 · by_cases e:i=j
   · subst e;rw[vw,if_pos rfl,if_pos hlt]at q;cases q;obtain⟨o,e1,a',vs',q1,q2,q3,r'⟩:=h.at_ i _ hc;have e2:(i,a')=(i,a):=z3N h.ndI q1 hi rfl;cases e2;exact⟨o,e1,a,vs,hi,q2,D8,by rw[hh];exact r⟩
   · rw[vo e]at q;obtain⟨o,e1,e2⟩:=h.at_ j c q;refine⟨o,e1,?_⟩;cases c with
     | no=>trivial
     | ex=>obtain⟨b,φ,q,r,z⟩:=e2;exact⟨b,φ,q,by rw[hh];exact r,z⟩
     | sh f d=>obtain⟨v,q,r⟩:=e2;exact⟨v,q,by rw[hh];exact r⟩
     | ow f ds' =>
      obtain⟨b,vs',q1,q2,q3,r'⟩:=e2;have hne:b≠a:=λz=>by
       have:=Wm h.ndA q1 hi z;exact e (congrArg Prod.fst this).symm
      exact⟨b,vs',q1,q2,by rw[z9 hne];exact q3,by rw[hh];exact r'⟩
def relC:Cell->Cell
 | .ow f ds => .sh f (.lst ds)
 | c=>c
def KJ(ρ:Rho)(i:Nat):Rho:=match ρ[i]? with|some c=>ρ.set i (relC c)|none=>ρ
def relS:List Nat->Rho->Rho
 | [],ρ=>ρ
 | i::is,ρ=>relS is (KJ ρ i)
theorem RepO.rel(h:RepO X H₀ H O ρ σ)(i:Nat):RepO X H₀ H (Ax O i) (KJ ρ i) σ:=by
 have sm:Same (hidL O.adr H) (hidL (Ax O i).adr H):=Ao M4;have hl:(KJ ρ i).length=ρ.length:=by
  unfold KJ;split
  · exact vq
  · rfl
 refine⟨h.ndA.sublist (List.Sublist.map _ (vk)),h.ndI.sublist (List.Sublist.map _ (vk)),λa ha=>h.own a (M4 a ha),hl.trans h.len,h.b0,h.same.trans sm,λj c q=>?_⟩;have other:∀{c:Cell},ρ[j]?=some c->(∀ f ds,c = .ow f ds->j≠i)->∃ o,σ[j]?=some o/\CellB X H (Ax O i) j c o:=λ{c} q hne=>by
  obtain⟨o,e1,e2⟩:=h.at_ j c q;refine⟨o,e1,?_⟩;cases c with
  | no=>trivial
  | ex=>obtain⟨a,φ,q,r,z⟩:=e2;exact⟨a,φ,q,sm _ _ r,z⟩
  | sh f d=>obtain⟨v,q,r⟩:=e2;exact⟨v,q,Rp.mono _ sm r⟩
  | ow f ds=>obtain⟨a,vs,q1,q2,q3,r⟩:=e2;exact⟨a,vs,R5.mpr ⟨q1,hne f ds rfl⟩,q2,q3,Rps.mono _ sm r⟩
 unfold KJ at q;cases e:ρ[i]? with
 | none =>
  rw[e]at q;exact other q λf ds _ z=>by rw[z,e]at q;cases q
 | some c' =>
  rw[e]at q;dsimp only at q;by_cases hij:i=j
  · subst hij;have hlt:i<ρ.length:=by
     by_cases hlt:i<ρ.length
     · exact hlt
     · rw[wR (by rfl')]at e;cases e
    rw[vw,if_pos rfl,if_pos hlt]at q;cases q;cases c' with
    | no=>obtain⟨o,e1,e2⟩:=h.at_ i _ e;exact⟨o,e1,trivial⟩
    | ex=>exact other e λf ds z=>by cases z
    | sh f d=>exact other e λf ds z=>by cases z
    | ow f ds =>
     obtain⟨o,e1,a,vs,q1,q2,q3,r⟩:=h.at_ i _ e;have hna:a ∉ (Ax O i).adr:=λz=>by
       obtain⟨p,hp,ep⟩:=wj.mp z;have:=Wm h.ndA (R5.mp hp).1 q1 ep;exact(R5.mp hp).2 (by rw[this])
     refine⟨o,e1,.ref a,q2,Rp.lst_.mpr ⟨a,vs,rfl,h.bsFree (Bg q1) f,by rw[u8 hna];exact q3,Rps.mono _ ?_ r⟩⟩;rw[Ip,Iz];refine Ao λb hb=>?_;rcases ww.mp hb with z|z
     · rw[z];exact Bg q1
     · exact M4 b z
  · rw[vo hij]at q;exact other q λf ds _ z=>hij z.symm
theorem RepO.rels(h:RepO X H₀ H O ρ σ):∀ is:List Nat,∃ O',RepO X H₀ H O' (relS is ρ) σ:=λis=>by
 induction is generalizing O ρ with
 | nil=>exact⟨O,h⟩
 | cons i is ih=>exact ih (h.rel i)
end
inductive Oc where
 | nx (ρ:Rho)|rt (f:Fl) (d:Dt)|bk (ρ:Rho)|ct (ρ:Rho)|ex (n:Nat)
def OcOk(X:Cx)(H₀:Hp)(D:Ends):Oc->Prop
 | .nx ρ=>∀ σ H,RepB X H₀ H ρ σ->D.nx σ H
 | .rt f d=>∀ v H,Same H₀ H->Rp X.K (bsOf X.ky f.isFr) d H v->D.rt v H
 | .bk ρ=>∀ σ H,RepB X H₀ H ρ σ->D.bk σ H
 | .ct ρ=>∀ σ H,RepB X H₀ H ρ σ->D.ct σ H
 | .ex n=>∀ C,X.mg (exN n)=some (.ref C)->XOk X H₀ C
abbrev FS:=Rho->Option Oc
def upS(X:Cx)(F:FS):TS:=λD σ H=>∃ H₀ ρ oc,RepB X H₀ H ρ σ/\F ρ=some oc/\OcOk X H₀ D oc
def PFS(X:Cx)(st:Stmt)(F:FS):Prop:=PS X st (upS X F)
def PFSs(X:Cx)(sts:List Stmt)(F:FS):Prop:=PSs X sts (upS X F)
theorem PS.imp{X:Cx}{st:Stmt}{t t':TS}(h:PS X st t)(q:∀ D σ H,t' D σ H->t D σ H):PS X st t':=λπ s σ H D I z=>h π s σ H D I (q D σ H z)
theorem PSs.imp{X:Cx}{st:List Stmt}{t t':TS}(h:PSs X st t)(q:∀ D σ H,t' D σ H->t D σ H):PSs X st t':=λπ s σ H D I z=>h π s σ H D I (q D σ H z)
section
variable {X:Cx}{st:Stmt}{rest:List Stmt}{F G:FS}{e:Expr}{Fe:FE}{pos:Pos}
def A9:FS:=λρ=>some (.nx ρ)
def seqO(G:FS):Oc->Option Oc
 | .nx ρ=>G ρ
 | o=>some o
def sSeq(F G:FS):FS:=λρ=>(F ρ).bind (seqO G)
theorem C3:PFSs X [] A9:=z3o.imp (by rintro D σ H ⟨H₀,ρ,oc,rb,e,k⟩;cases e;exact k σ H rb)
theorem j7(h:PFS X st F):PFSs X [st] F:=z3p h
theorem i7(h1:PFS X st F)(h2:PFSs X rest G):PFSs X (st::rest) (sSeq F G):=(YT h1 h2).imp λD σ H⟨H₀,ρ,oc,rb,e,k⟩=>by
 obtain⟨o1,e1,e2⟩:=i8 e;refine⟨H₀,ρ,o1,rb,e1,?_⟩;cases o1 with
 | nx ρ'=>exact λσ' H' rb'=>⟨H₀,ρ',oc,rb',e2,k⟩
 | rt f d=>cases e2;exact k
 | ex C=>cases e2;exact k
 | bk ρ'=>cases e2;exact k
 | ct ρ'=>cases e2;exact k
def Cg:FS:=λ_=>none
theorem Dc:PFS X st Cg:=λπ s σ H D I⟨H₀,ρ,oc,rb,e,k⟩=>by cases e
def sRet(F:FE):FS:=λρ=>(F ρ).map λx => .rt x.1 x.2
theorem o6(he:PF X e Fe):PFS X (.Return (some e) pos) (sRet Fe):=(ps_ret he).imp λD σ H ⟨H₀,ρ,oc,⟨O,rb⟩,e0,k⟩=>by
 unfold sRet at e0;cases h:Fe ρ with
 | none=>rw[h]at e0;cases e0
 | some x =>
  rw[h]at e0;cases e0;refine⟨ρ,x.1,x.2,rb.all,h,λv H' sm r=>k v H' (rb.same.trans (A8.trans sm)) ?_⟩;by_cases q:x.1.isFr=true
  · rw[q];exact r.fr rb.below q
  · rw[show x.1.isFr=false by simpa using q];exact r.sh
def sIf(c:FT)(F G:FS):FS:=λρ=>(c ρ).bind λb=>if b then F ρ else G ρ
theorem s_if{c:Expr}{a b:List Stmt}{Fc:FT}(hc:PFT X c Fc)(ha:PFSs X a F)(hb:PFSs X b G):PFS X (.If c a b pos) (sIf Fc F G):=(ps_if hc ha hb).imp λD σ H ⟨H₀,ρ,oc,⟨O,rb⟩,e0,k⟩=>by
 obtain⟨z,e1,e2⟩:=i8 e0;refine⟨ρ,z,rb.all,e1,λH' sm=>?_⟩;dsimp only;cases z with
 | true=>rw[if_pos rfl]at e2 ⊢;exact⟨H₀,ρ,oc,⟨O,rb.mono sm⟩,e2,k⟩
 | false=>rw[if_neg wL]at e2 ⊢;exact⟨H₀,ρ,oc,⟨O,rb.mono sm⟩,e2,k⟩
def Ay(F:FE):FS:=λρ=>(F ρ).map λ_ => .nx ρ
theorem DS(he:PF X e Fe)(hs:swapsWith e none pos.line X.env=pure false:=by rfl):PFS X (.Expr e pos) (Ay Fe):=(Mv he hs).imp λD σ H ⟨H₀,ρ,oc,⟨O,rb⟩,e0,k⟩=>by
 unfold Ay at e0;cases h:Fe ρ with
 | none=>rw[h]at e0;cases e0
 | some x =>
  rw[h]at e0;cases e0;exact⟨ρ,x.1,x.2,rb.all,h,λv H' sm r=>k σ H' ⟨O,rb.mono sm⟩⟩
def AsgF(X:Cx)(st:Stmt)(i:Nat)(F:FE):Prop:=PS X st (tAsg (upF X F) (Ih i))
theorem r8{i:Nat}{x:Str}{pos':Pos}(he:PF X e Fe)(hN:X.N.Nodup)(hi:X.N[i]?=some x)(hx:Loc X.env.scope x)(hs:swapsWith e (some (.Name x pos')) pos.line X.env=pure false)(hf:X.fn x=true\/X.env.scope.names.lookup x=some .local):
 AsgF X (.Assign [.Name x pos'] e pos) i Fe:=ps_set hN hi hx he hs hf
theorem IA{N:List Str}{scope:Scope}{nt:Nat}{js:List Nat}{tg elt iter:Expr}{ifs:List Expr}{Fi:FI}{g:Tg}{Fc:FT}{i:Nat}{x:Str}{pos' spos:Pos}(hN:X.N.Nodup)(hix:X.N[i]?=some x)(hx:X.env.scope.names.lookup x=some .local)
  (hsw:swapsWith (.ListComp elt [⟨tg,iter,ifs,0⟩] scope pos) (some (.Name x pos')) spos.line X.env=pure true)
  (S:CompScope X N scope nt js) (hc:X.calm=true) (hi:PFI X tg iter Fi) (hg:∀ cl C fp s H,PG (C2 X N scope cl C fp s H) tg (g.low X.K)) (hb:g.below nt)
  (hcs:∀ cl C fp s H,PFTs (C2 X N scope cl C fp s H) ifs Fc) (he:∀ cl C fp s H,PF (C2 X N scope cl C fp s H) elt Fe) (hj:∀ j∈js,j<X.N.length)
  (hs:∀ x,foldedSetIterable iter X.env x=pure x:=by intro _;rfl):AsgF X (.Assign [.Name x pos'] (.ListComp elt [⟨tg,iter,ifs,0⟩] scope pos) spos) i (j9 nt js Fi g Fc Fe):=by
 intro π s σ H D I h;exact z3G hN hix hx S hc hi hg (Tg.ok hb) (λcl C fp s H=>PTs.frame (t:=λH1=>upBK ⟨X.K,H1⟩ Fc) (hcs cl C fp s H)) (λcl C fp s H=>PE.frame (he cl C fp s H)) hsw hs π s σ H D I
  (Wl (λj z=>by rw[I.len];exact hj j z) h)
def sSet(rels:List Nat)(i:Nat)(F:FE):FS:=λρ=>(F (L0 (relS rels ρ))).map λx => .nx ((relS rels ρ).set i (.sh x.1.isFr x.2))
theorem E3{rels:List Nat}{i:Nat}(ha:AsgF X st i Fe):PFS X st (sSet rels i Fe):=(PS.frame ha).imp λD σ H ⟨H₀,ρ,oc,⟨O,rb⟩,e0,k⟩=>by
 unfold sSet at e0;cases h:Fe (L0 (relS rels ρ)) with
 | none=>rw[h]at e0;cases e0
 | some x =>
  rw[h]at e0;cases e0;obtain⟨O',rb'⟩:=rb.rels rels;refine⟨O'.adr,rb'.own,L0 (relS rels ρ),x.1,x.2,rb'.rest,h,λv H' sm r hn=>?_⟩;have hg:hidL O'.adr (F7 O'.adr H H')=H':=X0 hn;have rb2:RepO X H₀ (F7 O'.adr H H') O' (relS rels ρ) σ:=rb'.mono (Same.glue sm hn);refine k _ _ ⟨_,rb2.set (f:=x.1.isFr) ?_⟩;rw[hg];by_cases q:x.1.isFr=true
  · rw[q];exact r.fr (rb'.b0.trans rb'.same) q
  · rw[show x.1.isFr=false by simpa using q];exact r.sh
def T6(i:Nat)(F:FE):FS:=λρ=>(F ρ).bind λx=>if x.1.isNw then some (.nx (ρ.set i (.sh true x.2))) else none
theorem Zy{H H':Hp}{O:Own}{f:Fl}{d:Dt}{v:V}(ho:OwnL X O.adr H)(sm:Same H H')(q:f.isNw=true)(r:RpF X.ky H f d H' v):Rp X.K H d (hidL O.adr H') v:=by
 cases f<;>first|cases q|skip
 refine Rp.hid (λb hb=>?_) d (λb hb o e=>?_) r
 · obtain⟨⟨vs,z⟩,_⟩:=ho b hb;rw[z];exact λw=>nomatch w
 · obtain⟨⟨vs,z⟩,_⟩:=ho b hb;rw[sm _ _ z]at e;cases e;exact⟨vs,rfl⟩
theorem IB{i:Nat}(ha:AsgF X st i Fe):PFS X st (T6 i Fe):=PS.imp ha λD σ H ⟨H₀,ρ,oc,⟨O,rb⟩,e0,k⟩=>by
 obtain⟨x,e1,e2⟩:=i8 e0;split at e2
 · rename_i q;cases e2;refine⟨ρ,x.1,x.2,rb.all,e1,λv H' sm r=>k _ _ ⟨_,(rb.mono sm).set (f:=true) ?_⟩⟩;exact Rp.anti rb.below _ (Zy rb.own sm q r)
 · cases e2
def sOwn(i:Nat)(F:FE):FS:=λρ=>(F (L0 ρ)).bind λx=>match x with
 | (.nw,.lst ds)=>if i<ρ.length then some (.nx (ρ.set i (.ow true ds))) else none
 | (.tn,.lst ds)=>if i<ρ.length then some (.nx (ρ.set i (.ow false ds))) else none
 | _=>none
theorem KK{i:Nat}(ha:AsgF X st i Fe):PFS X st (sOwn i Fe):=(PS.frame ha).imp λD σ H ⟨H₀,ρ,oc,⟨O,rb⟩,e0,k⟩=>by
 obtain⟨x,e1,e2⟩:=i8 e0;refine⟨O.adr,rb.own,L0 ρ,x.1,x.2,rb.rest,e1,λv H' sm r hn=>?_⟩;have hg:hidL O.adr (F7 O.adr H H')=H':=X0 hn;have sg:Same H (F7 O.adr H H'):=Same.glue sm hn;have new:∀{f:Bool} {ds:List Dt} {D:Addr} {vs:List V},hidL O.adr H D=none->H' D=some (.lst vs)->Rps X.K (bsOf X.ky f) ds (hidL [D] H') vs->i<ρ.length->RepB X H₀ (F7 O.adr H H') (ρ.set i (.ow f ds)) (σ.set i (some (.ref D))):=by
   intro f ds D vs hD hv hr hi;have nO:D ∉ O.adr:=λz=>by rw[hn D z]at hv;cases hv
   have hH:H D=none:=by rw[u8 nO]at hD;exact hD
   refine⟨_,rb.setNew hi sg hH (by rw[E7 nO];exact hv) nO (rb.below.free hH) ?_⟩;rw[←Iz,Ip,hg];exact hr
 split at e2
 · rename_i ds;split at e2
   · rename_i hi;cases e2;obtain⟨D,vs,rfl,h0,h1,h2⟩:=(Rp.lst_ (K:=X.K)).mp (show Rp X.K (hidL O.adr H) (.lst ds) H' v from r);exact k _ _ (new (f:=true) h0 h1 (Rps.anti (rb.b0.trans rb.same) _ h2) hi)
   · cases e2
 · rename_i ds;split at e2
   · rename_i hi;cases e2;obtain⟨D,vs,rfl,h0,h1,h2⟩:=Rp.lst_.mp r.1;exact k _ _ (new (f:=false) (r.2.2 D rfl) h1 h2 hi)
   · cases e2
 · cases e2
def sOwnA(i:Nat)(F:FE):FS:=λρ=>(F ρ).bind λx=>match x with
 | (.nw,.lst ds)=>if i<ρ.length then some (.nx (ρ.set i (.ow true ds))) else none
 | _=>none
def E4(c:FT)(F:FS):Nat->FS
 | 0,_=>none
 | n+1,ρ=>(c ρ).bind λb=>if b then(F ρ).bind λoc=>match oc with|.nx ρ'=>E4 c F n ρ'|.ct ρ'=>E4 c F n ρ'|.bk ρ'=>some (.nx ρ')|.rt f d=>some (.rt f d)|.ex C=>some (.ex C) else some (.nx ρ)
open Classical in
noncomputable def Ah(c:FT)(F:FS):FS:=λρ=>if h:∃ n o,E4 c F n ρ=some o then some (choose (choose_spec h)) else none
theorem Z1{c:FT}{F:FS}:∀{n m:Nat} {ρ:Rho} {o:Oc},n<=m->E4 c F n ρ=some o->E4 c F m ρ=some o
 | 0,m,ρ,o,_,h=>by cases h
 | n+1,0,ρ,o,hl,h=>by rfl'
 | n+1,m+1,ρ,o,hl,h=>by
  unfold E4 at h ⊢;obtain⟨b,e1,e2⟩:=i8 h;rw[e1];show(if b=true then _ else _)=_;cases b with
  | false=>exact e2
  | true =>
   rw[if_pos rfl]at e2 ⊢;obtain⟨oc,e3,e4⟩:=i8 e2;rw[e3];cases oc with
   | nx ρ'=>exact Z1 (by rfl') e4
   | ct ρ'=>exact Z1 (by rfl') e4
   | bk ρ'=>exact e4
   | rt f d=>exact e4
   | ex C=>exact e4
theorem Dd{c:FT}{F:FS}{n:Nat}{ρ:Rho}{o:Oc}(h:E4 c F n ρ=some o):Ah c F ρ=some o:=by
 have hx:∃ n o,E4 c F n ρ=some o:=⟨n,o,h⟩;unfold Ah;rw[dif_pos hx];have z:=vh (vh hx);have a:=Z1 (Nat.le_max_left n (vL hx)) h;have b:=Z1 (Nat.le_max_right n (vL hx)) z;rw[a]at b;exact b.symm
theorem XI{c:FT}{F:FS}{ρ:Rho}{o:Oc}(h:Ah c F ρ=some o):∃ n,E4 c F n ρ=some o:=by
 unfold Ah at h;split at h
 · rename_i hx;cases h;exact⟨_,vh (vh hx)⟩
 · cases h
theorem MK{c:Expr}{body:List Stmt}{Fc:FT}(hp:PassesOwn (model X.prog X.w) X.A X.env X.xe)(hc:PFT X c Fc)(hb:PFSs X body F):PFS X (.While c body [] pos) (Ah Fc F):=(YV hp hc hb).imp λD σ H⟨H₀,ρ,oc,rb,e0,k⟩=>by
 obtain⟨n0,e1⟩:=XI e0;refine⟨λm σ' H'=>∃ ρ',RepB X H₀ H' ρ' σ'/\E4 Fc F m ρ'=some oc,⟨n0,ρ,rb,e1⟩,?_⟩;rintro m σ' H' ⟨ρ',⟨O,rb'⟩,w'⟩;cases m with
 | zero=>cases w'
 | succ n =>
  unfold E4 at w';obtain⟨z,p1,p2⟩:=i8 w';refine⟨ρ',z,rb'.all,p1,λH2 sm=>?_⟩;dsimp only;cases z with
  | false =>
   rw[if_neg wL]at p2 ⊢;cases p2;exact k _ _ ⟨O,rb'.mono sm⟩
  | true =>
   rw[if_pos rfl]at p2 ⊢;obtain⟨oc',p3,p4⟩:=i8 p2;refine⟨λσ' H'=>∃ ρ'',RepB X H₀ H' ρ'' σ'/\E4 Fc F n ρ''=some oc,λσ3 H3⟨ρ3,rb3,w3⟩=>⟨n,vB n,ρ3,rb3,w3⟩,H₀,ρ',oc',⟨O,rb'.mono sm⟩,p3,?_⟩;cases oc' with
   | nx ρ3=>exact λσ3 H3 rb3=>⟨ρ3,rb3,p4⟩
   | ct ρ3=>exact λσ3 H3 rb3=>⟨ρ3,rb3,p4⟩
   | bk ρ3=>cases p4;exact k
   | rt f d=>cases p4;exact k
   | ex C=>cases p4;exact k
def forF(g:Tg)(F:FS):List Dt->FS
 | [],ρ=>some (.nx ρ)
 | x::xs,ρ=>(g.put x ρ).bind λρ2=>(F ρ2).bind λoc=>match oc with|.nx ρ'=>forF g F xs ρ'|.ct ρ'=>forF g F xs ρ'|.bk ρ'=>some (.nx ρ')|.rt f d=>some (.rt f d)|.ex C=>some (.ex C)
def sFor(rels:List Nat)(Fi:FI)(g:Tg)(F:FS):FS:=λρ=>(Fi (L0 (relS rels ρ))).bind λitems=>forF g F items (relS rels ρ)
end
section
variable {X:Cx}{H₀ H H':Hp}{O:Own}{ρ ρ':Rho}{σ:St}
theorem Hj:∀{is:List Nat} {ds:List Dt} {vs:List V} {O:Own} {ρ:Rho} {σ:St},RepO X H₀ H O ρ σ->Rps X.K emp ds (hidL O.adr H) vs->ds.length=is.length->Q2 ρ is ds=ρ' ->
  Q1 is vs σ H λσ' H'=>H'=H/\∃ O',RepO X H₀ H O' ρ' σ'
 | [],[],vs,O,ρ,σ,rs,r,hl,q=>⟨Rps.nil_.mp r,rfl,O,by rw[←q];exact rs⟩
 | [],d::ds,vs,O,ρ,σ,rs,r,hl,q=>by cases hl
 | i::is,[],vs,O,ρ,σ,rs,r,hl,q=>by cases hl
 | i::is,d::ds,vs,O,ρ,σ,rs,r,hl,q=>by
  obtain⟨v,r',rfl,h1,h2⟩:=Rps.cons_.mp r;exact⟨v,r',rfl,Hj (rs.set (f:=false) h1) (Rps.mono _ (Ao M4) h2) (by simpa using hl) q⟩
theorem Tg.simO{g:Tg}{d:Dt}{v:V}(rs:RepO X H₀ H O ρ σ)(r:Rp X.K emp d (hidL O.adr H) v)(h:g.put d ρ=some ρ'):
  g.low X.K v σ H λσ' H'=>H'=H/\∃ O',RepO X H₀ H O' ρ' σ':=by
 cases g with
 | one i=>cases h;exact⟨rfl,_,rs.set (f:=false) r⟩
 | many is =>
  cases d<;>first|cases h|skip
  rename_i ds;replace h:(if ds.length=is.length then some (Q2 ρ is ds) else none)=some ρ':=h;split at h
  · rename_i hl;obtain⟨a,vs,rfl,h1,h2⟩:=Rp.tup_.mp r;exact⟨a,vs,rfl,A8.seqT h1,by rw[h2.length];exact hl,Hj rs h2 hl (Option.some.inj h)⟩
  · cases h
end
section
variable {X:Cx}{tg iter:Expr}{body:List Stmt}{Fi:FI}{g:Tg}{F:FS}{pos:Pos}
theorem BV{rels:List Nat}(hp:PassesOwn (model X.prog X.w) X.A X.env X.xe)(hc:X.calm=true)(hi:PFI X tg iter Fi)(hg:PG X tg (g.low X.K))(hb:PFSs X body F)
   (hs:∀ x,foldedSetIterable iter X.env x=pure x:=by intro _;rfl):PFS X (.For tg iter body [] pos) (sFor rels Fi g F):=(YW hp hc (PI.frame hi) hg hb hs).imp λD σ H ⟨H₀,ρ,oc,⟨O,rb⟩,e0,k⟩=>by
 obtain⟨items,e1,e2⟩:=i8 e0;obtain⟨O',rb'⟩:=rb.rels rels;refine⟨O'.adr,rb'.own,L0 (relS rels ρ),items,rb'.rest,e1,λJ H1 sm hsz wk hn=>?_⟩;have hg1:hidL O'.adr (F7 O'.adr H H1)=H1:=X0 hn;have s01:Same H₀ H1:=rb'.same.trans sm;have start:RepO X H1 (F7 O'.adr H H1) O' (relS rels ρ) σ:=by
   have z:=rb'.mono (Same.glue sm hn);exact⟨z.ndA,z.ndI,z.own,z.len,rb'.b0.trans s01,by rw[hg1];exact Same.refl _,z.at_⟩
 have back:∀{oc:Oc},OcOk X H₀ D oc->OcOk X H1 D oc:=λ{oc} z=>by
   cases oc with
   | nx ρ5=>exact λσ5 H5⟨O5,r5⟩=>z σ5 H5 ⟨O5,r5.base s01 rb'.b0⟩
   | bk ρ5=>exact λσ5 H5⟨O5,r5⟩=>z σ5 H5 ⟨O5,r5.base s01 rb'.b0⟩
   | ct ρ5=>exact λσ5 H5⟨O5,r5⟩=>z σ5 H5 ⟨O5,r5.base s01 rb'.b0⟩
   | rt f d=>exact λv H5 s5 r5=>z v H5 (s01.trans s5) r5
   | ex n=>exact λC q=>(z C q).base s01
 refine⟨λi m σ' H'=>m=items.length-i/\∃ ρ',RepB X H1 H' ρ' σ'/\forF g F (items.drop i) ρ'=some oc,⟨_,rfl,_,⟨O',start⟩,e2⟩,?_⟩;rintro i m σ' H' ⟨rfl,ρ',⟨O2,r2⟩,f2⟩;obtain⟨w1,w2⟩:=wk O2.adr H' r2.same λa ha=>by obtain⟨⟨vs,q⟩,_⟩:=r2.own a ha;exact⟨_,q⟩
 by_cases hlt:i<items.length
 · obtain⟨x,hx⟩:∃ x,items[i]?=some x:=⟨_,wa hlt⟩;have hdrop:items.drop i=x::items.drop (i+1):=by
    rw[uH hlt];rw[wa hlt]at hx;cases hx;rfl
   rw[hdrop]at f2;unfold forF at f2;obtain⟨ρ2,p1,f3⟩:=i8 f2;obtain⟨oc',p2,f4⟩:=i8 f3;obtain⟨go,yl⟩:=w1 i x hx;refine .inr ⟨go,λσ3 H3=>∃ ρ3,RepB X H1 H3 ρ3 σ3/\forF g F (items.drop (i+1)) ρ3=some oc,λσ3 H3⟨ρ3,r3,f3⟩=>⟨items.length-(i+1),by rfl',rfl,ρ3,r3,f3⟩,λxv H3 y3=>?_⟩;obtain⟨s3,k3,r3⟩:=yl xv H3 y3;have sm3:Same H' H3:=λb o e=>by
    by_cases hb:b∈O2.adr
    · rw[k3 b hb];exact e
    · exact(Bc (s3 b o (by rw[u8 hb];exact e))).2
   refine Tg.low_mono (Tg.simO (r2.mono sm3) r3 p1) ?_;rintro σ4 H4 ⟨eH,O4,r4⟩;subst eH;refine⟨H1,ρ2,oc',⟨O4,r4⟩,p2,?_⟩;cases oc' with
   | nx ρ5=>exact λσ5 H5 r5=>⟨ρ5,r5,f4⟩
   | ct ρ5=>exact λσ5 H5 r5=>⟨ρ5,r5,f4⟩
   | bk ρ5=>cases f4;exact back k
   | rt f d=>cases f4;exact back k
   | ex C=>cases f4;exact back k
 · have hd:items.drop i=[]:=vC (by rfl');rw[hd]at f2;cases f2;exact .inl ⟨w2 i (by rfl'),back k σ' H' ⟨O2,r2⟩⟩
end
section
variable {P:Program}{w:World}{K:aD}{mg:aE}{base:Heap}
def rho0(n:Nat)(ds:List Dt):Rho:=ds.map (Cell.sh false)++List.replicate (n-ds.length) Cell.no
theorem Qf{X:Cx}{H:Hp}{ds:List Dt}{vs:List V}{N:List Str}(h0:X.H₀=H)(h:Rps X.K emp ds H vs):RepO X H H [] (rho0 N.length ds) (start N vs):=by
 have hl:=h.length;refine⟨w1r,w1r,λa ha=>(nomatch ha),by unfold rho0 start;simp[hl],by rw[h0];exact Same.refl H,by show Same H (hidL [] H);rw[NR];exact Same.refl H,λi c e=>?_⟩;unfold rho0 at e;unfold start;by_cases hi:i<ds.length
 · rw[wW (by simpa using hi),wv]at e;cases q:ds[i]? with
   | none=>rw[q]at e;cases e
   | some d =>
     rw[q]at e;cases e;obtain⟨v,e1,e2⟩:=h.get q;refine⟨some v,?_,v,rfl,by show Rp X.K emp d (hidL [] H) v;rw[NR];exact e2⟩;rw[wW (by simp;rfl'),wv,e1];rfl
 · rw[vg (by simp;rfl'),vn]at e;split at e
   · cases e;rename_i hlt;simp at hlt;refine⟨none,?_,trivial⟩;rw[vg (by simp;rfl'),vn,if_pos (by simp;rfl')]
   · cases e
def cOf(np n:Nat)(fr:Bool)(F:FS):FC:=λds=>if ds.length=np then
 (F (rho0 n ds)).bind λoc=>match oc with|.rt f d=>if fr&&!(f.isFr||d.flat) then none else some d|.nx _=>some .non|_=>none
 else none
theorem Fun.data{x qual:Str}{st:Stmt}{f:Addr}{fd:FuncData}{N ps:List Str}{k:Nat}{fr:Bool}{F:FS}(Fu:Fun K x qual st f fd)(S:FnScope N ps (i0 st))
    (body:∀(cdv:Value) (A:Around) (outer:List Env) (s:Shared) (H:Hp) (E:XK),Room k (A.deeper (envOfC qual (i0 st) s.heap.objs.size f cdv)) ->
      PFSs (cxOf CX0 P w K mg base N qual (i0 st) f cdv A outer s H E).nox (K8 st) F):FnOk P w K mg base CX0 (k+1) f fd ps (spc K fr (cOf ps.length N.length fr F)):=by
  refine Fu.ok S (λvs H Q E h=>?_) (λcdv A outer s H vs Q E hr h=>?_)
  · obtain⟨ds,d,r,e,q⟩:=h;unfold cOf at e;split at e
    · rename_i hl;rw[r.length];exact hl
    · cases e
  · obtain⟨ ds,d,r,e,q⟩:=h
    unfold cOf at e;split at e
    · rename_i hl;obtain⟨oc,e1,e2⟩:=i8 e;refine⟨_,body cdv A outer s H E hr,H,rho0 N.length ds,oc,⟨[],Qf rfl r⟩,e1,?_⟩;cases oc with
      | nx ρ=>cases e2;exact λσ H'⟨O,rb⟩=>q _ H' (rb.same.trans A8) (Rp.non_.mpr rfl)
      | bk ρ=>cases e2
      | ct ρ=>cases e2
      | ex C=>cases e2
      | rt f d' =>
        have e2:(if(fr&&!(f.isFr||d'.flat))=true then none else some d')=some d:=e2;split at e2
        · cases e2
        · rename_i hf;cases e2;refine λv H' sm r'=>q v H' sm ?_;cases fr with
          | false=>exact Rp.anti Same.emp _ r'
          | true =>
            have hf:f.isFr=true\/d.flat=true:=by
              cases h1:f.isFr<;>cases h2:d.flat<;>simp[h1,h2]at hf ⊢
            rcases hf with hf|hf
            · rw[hf]at r';exact r'
            · exact Rp.flat d hf r'
    · cases e
theorem XJ{l:PySem.W.OpenLaw}{q:Program}{loose:List Str}{XP:(aE)->Heap->Prop}{YP:World->Heap->Prop}{d:DefRec}{K:Params->aD}{x:Str}{k:Nat}{fr:Bool}{c:FC}(hn:l.most=some 63)(hdf:d.params.defaults=[])
  (hY:∀(w:World) (h:Heap),YP w h->(K w.params).In h)
  (F:∀(w:World) (mg:Str→Option Value) (fa:Addr) (h:Heap),(K w.params).In h→h.Ns mainGlobals mg→mg d.name=some (.ref fa) →
   ∃ fd:FuncData,(∀(s:Shared) (u:Value),BindsTo s fd ⟨[u],[]⟩ [(x,u)])/\∀ base:Heap,(K w.params).In base->base.Ns mainGlobals mg->FnOk l.prog w (K w.params) mg base CX0 k fa fd [x] (spc (K w.params) fr c))
  (hc:∀ ns:aH,ns.length<=63->c [.scr ns]=some (.bl true))
  (hr:Room k callerA):PySem.W.WalkO q loose XP YP l.row.toRowW d [] (λf vs=>PySem.call f vs) :=
 L2.z3C (n:=63) (k:=k) (x:=x) (CX:=λ_=>CX0) (sp:=λw=>spc (K w.params) fr c) hn (by decide) hdf hr hY F
  (λw H a ns hl _ hS=>⟨[.scr ns],_,Rps.one (Rp.scr_.mpr ⟨a,rfl,rfl,hS⟩),hc ns hl,λv H' _ r=>by cases fr<;>exact Rp.bl_.mp r⟩) λ_ _ _ _ _ z=>z
end
def ML(XN:List Str)(xs:List (Str×NameKind))(scope:Scope)(N:List Str)(nt:Nat)(js:List Nat):Bool :=
 decide ((scope.names.map (·.1)).Nodup)&&(N.length==nt+js.length)&&((List.range js.length).all λk=>match js[k]? with
  | some j=>(match N[nt+k]?,XN[j]? with|some x,some y=>x==y&&scope.names.lookup x==some .free|_,_=>false)
  | none=>false)&&scope.names.all λp=>p.2 != .free||xs.lookup p.1==some .cell||xs.lookup p.1==some .free
theorem i4{X:Cx}{N:List Str}{scope:Scope}{nt:Nat}{js:List Nat}(XN:List Str)(xs:List (Str×NameKind))(h1:X.N=XN)(h2:X.env.scope.names=xs)(hk:scope.kind = .function)(c:ML XN xs scope N nt js=true):CompScope X N scope nt js:=by
 unfold ML at c;rw[wN,wN,wN]at c;obtain⟨⟨⟨c1,c2⟩,c3⟩,c4⟩:=c;have nd:=of_decide_eq_true c1;refine⟨hk,nd,λx hx e=>by rw[U4 nd hx,e],beq_iff_eq.mp c2,λk j e=>?_,λx hx e=>?_⟩
 · have hk:k<js.length:=by
     by_cases hk:k<js.length
     · exact hk
     · rw[wR (by rfl')]at e;cases e
   have z:=uD.mp c3 k (wM.mpr hk);rw[e]at z;dsimp only at z;rw[h1];cases q1:N[nt+k]? with
   | none=>rw[q1]at z;cases z
   | some x =>
     cases q2:XN[j]? with
     | none=>rw[q1,q2]at z;cases z
     | some y =>
       rw[q1,q2]at z;dsimp only at z;rw[wN]at z;have exy:x=y:=beq_iff_eq.mp z.1;subst exy;exact⟨x,rfl,rfl,beq_iff_eq.mp z.2⟩
 · have z:=uD.mp c4 x hx;rw[e]at z;have z:(xs.lookup x.1==some .cell||xs.lookup x.1==some .free)=true:=by simpa using z
   show X.env.scope.names.lookup x.1=_\/X.env.scope.names.lookup x.1=_;rw[h2];rcases w03 _ _ |>.mp z with z|z
   · exact .inl (beq_iff_eq.mp z)
   · exact .inr (beq_iff_eq.mp z)
structure Df(K:aD)(mg:aE)(name:Str)(st:Stmt)(ps:List Str)(f:Addr)(fd:FuncData):Prop where
 fn:Fun K name name st f fd
 mg:mg name=some (.ref f)
 bd:Binds K fd ps []
theorem df_mk{K:aD}{h:Heap}{mg:aE}(X:K.In h)(G:h.Ns mainGlobals mg){x:Str}{st:Stmt}{f:Addr}{oc:Value}{od an:Option Addr}{osl:Array (Option Value)}{kV doc pm cdv ct:Value}{ps:List Str}
  (e:PySem.W.nsIn K mainGlobals x=some (some (.ref f))) (l:K.lookup f=some ⟨oc,od,.func (PySem.W.fnOf x x (T0 st) (K8 st) (i0 st) .none kV doc pm an cdv ct),osl⟩) (c:PySem.W.codeIn K cdv x=true) (k:PySem.W.keepIn K (.ref f)=true)
  (hb:∀(kV doc pm:Value) (an:Option Addr) (cdv ct:Value) (us:aF),us.length=ps.length->bindArgs (PySem.W.fnOf x x (T0 st) (K8 st) (i0 st) .none kV doc pm an cdv ct) ⟨us,[]⟩=pure (ps.zip us)) :
  Df K mg x st ps f (PySem.W.fnOf x x (T0 st) (K8 st) (i0 st) .none kV doc pm an cdv ct) :=
 ⟨Zh l c k,PySem.W.mg_of X G e,(Zh (st:=st) l c k).binds hb⟩
end L2

end
section
namespace ZL
open PySem PyProof.Rows
def ItAt(h:Heap)(tu:Bool)(it l:Addr)(k:Nat):Prop:=if tu then h.IsTupleIter it l k else h.IsListIter it l k
def SqAt(h:Heap)(tu:Bool)(l:Addr)(xs:Array Value):Prop:=if tu then h.IsTuple l xs else h.IsList l xs
section
variable {h h':Heap}{tu:Bool}{it l c:Addr}{k:Nat}{xs:Array Value}
theorem ItAt.at(x:ItAt h tu it l k)(q:∀ o,h.get? it=some o->h'.get? it=some o):ItAt h' tu it l k:=by
 unfold ItAt at x ⊢;cases tu with
 | true=>obtain⟨o,e,r⟩:=x;exact⟨o,q o e,r⟩
 | false=>obtain⟨o,e,r⟩:=x;exact⟨o,q o e,r⟩
theorem SqAt.at(x:SqAt h tu l xs)(q:∀ o,h.get? l=some o->h'.get? l=some o):SqAt h' tu l xs:=by
 unfold SqAt at x ⊢;cases tu with
 | true=>obtain⟨o,e,r⟩:=x;exact⟨o,q o e,r⟩
 | false=>obtain⟨o,e,r⟩:=x;exact⟨o,q o e,r⟩
theorem ItAt.lt(x:ItAt h tu it l k):it<h.objs.size:=by
 unfold ItAt at x;cases tu with
 | true=>obtain⟨o,e,_⟩:=x;exact wy e
 | false=>obtain⟨o,e,_⟩:=x;exact wy e
theorem SqAt.lt(x:SqAt h tu l xs):l<h.objs.size:=by
 unfold SqAt at x;cases tu with
 | true=>obtain⟨o,e,_⟩:=x;exact wy e
 | false=>obtain⟨o,e,_⟩:=x;exact wy e
end
section
variable {prog:Program}{w:World}{A:Around}{E:aC}{s:Shared}
theorem Qg{it t:Addr}{i:Nat}{items:Array Value}{x:Value}{Q:aC}(a:s.heap.IsTupleIter it t i)(b:s.heap.IsTuple t items)(c:items[i]?=some x)
  (q:∀ h',h'.IsTupleIter it t (i+1)->Heap.SameBut it s.heap h'->Q x { s with heap:=h' }):wpAny (model prog w) A (Builtin.SmallTypes.nextOf (.ref it)) Q E s:=by
 obtain⟨o,e1,e2,e3⟩:=id a;obtain⟨p,f1,_,n,f2⟩:=b;unfold Builtin.SmallTypes.nextOf;refine wpAny_bind (wpAny_callSpecial?_slot (name:=Str.ofString "__next__") a.typeIs F.slot_tuple_iterator_next (wpAny_call_entry F.slot_tuple_iterator_next a.typeIs F.entry_tuple_iterator_next ?_ (F.args_tuple_iterator_next_1 _)));show wpAny _ _ (field (.ref it) 0 >>= λz=>_) _ _ s;refine wpAny_bind (wpAny_field e1 e3 (x:=Value.ref t) rfl ?_);show wpAny _ _ (if(Value.ref t==Value.none)=true then _ else _) _ _ s;rw[if_neg (by exact wL)];show wpAny _ _ (field (.ref it) 1 >>= λz=>_) _ _ s;refine wpAny_bind (wpAny_field e1 e3 (x:=Value.int i 0) rfl ?_);show wpAny _ _ (seqItems? (.ref t) >>= λz=>_) _ _ s;refine wpAny_bind (wpAny_seqItems f1 f2 ?_);simp only[w0g,c];refine wpAny_bind (wpAny_setField e1 e3 (by simp) (wpAny_pure ⟨x,rfl,wpAny_pure (q _ ⟨_,w0F _ e1 (Obj.isFreed_of_fields (Obj.data_mapFields e3 _)),(Obj.cls_mapFields ..).trans e2,?_⟩ (Heap.SameBut.update ..))⟩));rw[Obj.data_mapFields e3];simp[rawInt]
theorem XM{it t:Addr}{i:Nat}{items:Array Value}{Q:aC}(hn:A.handled=none)(a:s.heap.IsTupleIter it t i)(b:s.heap.IsTuple t items)(c:items[i]?=none)
  (q:∀ h' e,Heap.ExtBut it s.heap h'->(∃ o,h'.get? e=some o/\o.cls = .type "StopIteration")->E (.ref e) { s with heap:=h' }):wpAny (model prog w) A (Builtin.SmallTypes.nextOf (.ref it)) Q E s:=by
 obtain⟨o,e1,e2,e3⟩:=id a;obtain⟨p,f1,_,n,f2⟩:=b;unfold Builtin.SmallTypes.nextOf;refine wpAny_bind (wpAny_callSpecial?_slot (name:=Str.ofString "__next__") a.typeIs F.slot_tuple_iterator_next (wpAny_call_entry F.slot_tuple_iterator_next a.typeIs F.entry_tuple_iterator_next ?_ (F.args_tuple_iterator_next_1 _)));show wpAny _ _ (field (.ref it) 0 >>= λz=>_) _ _ s;refine wpAny_bind (wpAny_field e1 e3 (x:=Value.ref t) rfl ?_);show wpAny _ _ (if(Value.ref t==Value.none)=true then _ else _) _ _ s;rw[if_neg (by exact wL)];show wpAny _ _ (field (.ref it) 1 >>= λz=>_) _ _ s;refine wpAny_bind (wpAny_field e1 e3 (x:=Value.int i 0) rfl ?_);show wpAny _ _ (seqItems? (.ref t) >>= λz=>_) _ _ s;refine wpAny_bind (wpAny_seqItems f1 f2 ?_);simp only[w0g,c];refine wpAny_bind (wpAny_rule (wpAny_bind (wpAny_setField e1 e3 (by simp) ?_)));show wpAny _ _ (newExc (.type "StopIteration") [] >>= λz=>_) _ _ _;refine wpAny_bind ?_;simp only[newExc,newTuple];refine wpAny_bind (wpAny_newObj_type ?_ (by size_fits));refine wpAny_bind (m:=firstArgMember _ _) (wpAny_of_eq (a:=Value.none) (by first|(simp only[firstArgMember];rfl)|rfl) ?_);refine wpAny_newObj_type ?_ (by size_fits);simp only[raiseNew];refine wpAny_bind (wpAny_handled ?_)
 first|rw[hn]|rw[show A.in1.handled=none from hn]
 refine wpAny_bind (wpAny_pure (wpAny_throw ?_));exact q _ _ (((Heap.SameBut.update ..).extBut.push _).push _) ⟨_,wF _ rfl,rfl⟩
theorem KL{tu:Bool}{it l:Addr}{i:Nat}{items:Array Value}{x:Value}{Q:Option Value->Shared->Prop}(a:ItAt s.heap tu it l i)(b:SqAt s.heap tu l items)(c:items[i]?=some x)
  (q:∀ h',ItAt h' tu it l (i+1)->Heap.SameBut it s.heap h'->Q (some x) { s with heap:=h' }):wpAny (model prog w) A (Builtin.SmallTypes.nextOrEnd (.ref it)) Q E s:=by
 unfold Builtin.SmallTypes.nextOrEnd;cases tu with
 | true=>exact wpAny_bind (wpAny_attempt (Qg a b c λh' p1 p2=>wpAny_pure (q h' p1 p2)))
 | false=>exact wpAny_bind (wpAny_attempt (wpAny_nextOf_list_item a b c λh' p1 p2=>wpAny_pure (q h' p1 p2)))
theorem NX{tu:Bool}{it l:Addr}{i:Nat}{items:Array Value}{Q:Option Value->Shared->Prop}(hn:A.handled=none)(a:ItAt s.heap tu it l i)(b:SqAt s.heap tu l items)(c:items[i]?=none)
  (q:∀ h',Heap.ExtBut it s.heap h'->Q none { s with heap:=h' }):wpAny (model prog w) A (Builtin.SmallTypes.nextOrEnd (.ref it)) Q E s:=by
 unfold Builtin.SmallTypes.nextOrEnd;cases tu with
 | true=>exact wpAny_bind (wpAny_attempt (XM hn a b c λh' e p1⟨o,p2,p3⟩=>wpAny_bind (wpAny_isInstance (T := "StopIteration") (b:=true) ⟨o,p2,p3⟩ isSubtype_stop (wpAny_pure (q h' p1)))))
 | false=>exact wpAny_bind (wpAny_attempt (wpAny_nextOf_list_end hn a b c λh' e p1⟨o,p2,p3⟩=>wpAny_bind (wpAny_isInstance (T := "StopIteration") (b:=true) ⟨o,p2,p3⟩ isSubtype_stop (wpAny_pure (q h' p1)))))
def T7(h:Heap)(z ti to:Addr)(f:Value):Prop:=h.get? z=some { cls := .type "zip",dict:=none,data := .fields #[f,.bool false,.bool true,.ref ti,.ref to],slots:=#[] }
structure Apart(z ti to i j a b:Addr):Prop where
 p1:ti≠z
 p2:to≠z
 p3:i≠z
 p4:j≠z
 p5:ti≠to
 p6:ti≠i
 p7:ti≠j
 p8:to≠i
 p9:to≠j
 p10:i≠j
 a1:a≠z
 a2:a≠to
 a3:a≠i
 a4:a≠j
 b1:b≠z
 b2:b≠to
 b3:b≠i
 b4:b≠j
def zEnd(l:aF)(n:Nat):Sem PySem.Fin:=do
 if n > 0 then
  rule "zip.__next__.shorter";raiseError "ValueError" s!"zip() argument {n + 1} is shorter than {if n == 1 then "argument 1" else s!"arguments 1-{n}"}"
 for (e,m) in (l.drop 1).zipIdx 1 do
  if(←Builtin.SmallTypes.nextOrEnd e).isSome then
   rule "zip.__next__.longer";raiseError "ValueError" s!"zip() argument {m + 1} is longer than {if m == 1 then "argument 1" else s!"arguments 1-{m}"}"
 rule "zip.__next__.all-ended";Builtin.SmallTypes.stopIteration
theorem Zz{z ti to i j a b:Addr}{ta tb:Bool}{k:Nat}{xs ys:Array Value}{x y u v:Value}{Q:aC}(D:Apart z ti to i j a b)
  (hz:T7 s.heap z ti to .none) (hI:IsPair s.heap ti (.ref i) (.ref j)) (hO:IsPair s.heap to u v) (hi:ItAt s.heap ta i a k) (hj:ItAt s.heap tb j b k) (ha:SqAt s.heap ta a xs) (hb:SqAt s.heap tb b ys) (hx:xs[k]?=some x) (hy:ys[k]?=some y)
  (hQ:∀ h',T7 h' z ti to (rawInt s.heap.objs.size)→IsPair h' to x y→ItAt h' ta i a (k+1)→ItAt h' tb j b (k+1)→IsPair h' s.heap.objs.size x y→h'.objs.size=s.heap.objs.size+1 →
   (∀ c o,c≠z->c≠to->c≠i->c≠j->s.heap.get? c=some o->h'.get? c=some o)->Q (.ref s.heap.objs.size) { s with heap:=h' }) :
  wpAny (model prog w) A (Builtin.«zip.__next__» ⟨[.ref z],[]⟩) (λfin s'=>∃ v,fin = .done (.ret v)/\Q v s') E s:=by
 show wpAny _ _ (field (.ref z) 2 >>= λt=>_) _ _ _;refine wpAny_bind (wpAny_field hz rfl (x:=Value.bool true) rfl ?_);show wpAny _ _ (field (.ref z) 3 >>= λt=>_) _ _ _;refine wpAny_bind (wpAny_field hz rfl (x:=Value.ref ti) rfl ?_);refine wpAny_bind (wpAny_seqItems hI rfl ?_);show wpAny _ _ (Builtin.SmallTypes.ownedTupleIsFree (.ref z) >>= λt=>_) _ _ _;refine wpAny_bind ?_;unfold Builtin.SmallTypes.ownedTupleIsFree;refine wpAny_bind (wpAny_field hz rfl (x:=Value.none) rfl (wpAny_pure ?_));simp only[if_true];refine wpAny_bind (wpAny_rule ?_);refine wpAny_bind (wpAny_field hz rfl (x:=Value.ref to) rfl ?_);refine wpAny_bind (wpAny_setField_rec hz (by simp) λg1 z1 m1=>?_);replace z1:T7 g1 z ti to .ellipsis:=z1;refine wpAny_bind ?_;simp only[w15,w02,w1l,uR];refine wpAny_bind (wpAny_bind (wpAny_onRaise ?_));show wpAny _ _ (Builtin.SmallTypes.nextOrEnd (.ref i)) _ _ _;refine KL (hi.at λo e=>m1.extBut _ _ D.p3 e) (ha.at λo e=>m1.extBut _ _ D.a1 e) hx λg2 i2 m2=>?_;have o2:IsPair g2 to u v:=m2.extBut _ _ D.p8 (m1.extBut _ _ D.p2 hO);refine wpAny_bind (wpAny_seqItems o2 rfl ?_);refine wpAny_bind (wpAny_updateSeq_pair o2 λg3 o3 m3=>?_);replace o3:IsPair g3 to x v:=o3;refine wpAny_bind (wpAny_letGo (wpAny_pure ?_));refine wpAny_bind (wpAny_bind (wpAny_onRaise ?_));show wpAny _ _ (Builtin.SmallTypes.nextOrEnd (.ref j)) _ _ _;refine KL (hj.at λo e=>m3.extBut _ _ D.p9.symm (m2.extBut _ _ D.p10.symm (m1.extBut _ _ D.p4 e))) (hb.at λo e=>m3.extBut _ _ D.b2 (m2.extBut _ _ D.b3 (m1.extBut _ _ D.b1 e))) hy λg4 j4 m4=>?_;have o4:IsPair g4 to x v:=m4.extBut _ _ D.p9 o3;refine wpAny_bind (wpAny_seqItems o4 rfl ?_);refine wpAny_bind (wpAny_updateSeq_pair o4 λg5 o5 m5=>?_);replace o5:IsPair g5 to x y:=o5;refine wpAny_bind (wpAny_letGo (wpAny_pure (wpAny_pure ?_)));refine wpAny_bind (wpAny_seqItems o5 rfl ?_);refine wpAny_bind (wpAny_newTuple ?_);have sz:g5.objs.size=s.heap.objs.size:=by rw[m5.1,m4.1,m3.1,m2.1,m1.1]
 have z5:T7 g5 z ti to .ellipsis:=m5.extBut _ _ D.p2.symm (m4.extBut _ _ D.p4.symm (m3.extBut _ _ D.p2.symm (m2.extBut _ _ D.p3.symm z1)));have k5:∀ c o,c≠z->c≠to->c≠i->c≠j->s.heap.get? c=some o->g5.get? c=some o:=λc o c1 c2 c3 c4 e=>m5.extBut _ _ c2 (m4.extBut _ _ c4 (m3.extBut _ _ c2 (m2.extBut _ _ c3 (m1.extBut _ _ c1 e))));have i5:ItAt g5 ta i a (k+1):=i2.at λo e=>m5.extBut _ _ D.p8.symm (m4.extBut _ _ D.p10 (m3.extBut _ _ D.p8.symm e));have j5:ItAt g5 tb j b (k+1):=j4.at λo e=>m5.extBut _ _ D.p9.symm e;have zl:z<g5.objs.size:=wy z5;show wpAny _ _ (Builtin.SmallTypes.ownedTupleHandOut (.ref z) (.ref g5.objs.size) >>= λt=>_) _ _ _;refine wpAny_bind ?_;unfold Builtin.SmallTypes.ownedTupleHandOut;have z6:T7 (g5.push { cls := .type "tuple",data := .seq #[x,y] }) z ti to .ellipsis:=wm _ z5;refine wpAny_bind (wpAny_setField_rec z6 (by simp) λg7 z7 m7=>?_);replace z7:T7 g7 z ti to (rawInt g5.objs.size):=z7;refine wpAny_setField_rec z7 (by simp) λg8 z8 m8=>?_;replace z8:T7 g8 z ti to (rawInt g5.objs.size):=z8;have up:∀ c o,c≠z->g5.get? c=some o->g8.get? c=some o:=λc o c1 e=>m8.extBut _ _ c1 (m7.extBut _ _ c1 (wm _ e));have t8:IsPair g8 g5.objs.size x y:=m8.extBut _ _ (uP zl) (m7.extBut _ _ (uP zl) (wF _ rfl));have s8:g8.objs.size=g5.objs.size+1:=by rw[m8.1,m7.1,vH]
 rw[sz]at z8 t8 s8;refine wpAny_pure ⟨_,rfl,?_⟩;show Q (.ref g5.objs.size) _;rw[sz];exact hQ g8 z8 (up _ _ D.p2 o5) (i5.at λo e=>up _ o D.p3 e) (j5.at λo e=>up _ o D.p4 e) t8 s8 λc o c1 c2 c3 c4 e=>up c o c1 (k5 c o c1 c2 c3 c4 e)
theorem z3O{z ti to i j a b:Addr}{ta tb:Bool}{k:Nat}{xs ys:Array Value}{u v:Value}{Q:Fin->Shared->Prop}(hn:A.handled=none)(D:Apart z ti to i j a b)
  (hz:T7 s.heap z ti to .none) (hI:IsPair s.heap ti (.ref i) (.ref j)) (hO:IsPair s.heap to u v) (hi:ItAt s.heap ta i a k) (hj:ItAt s.heap tb j b k) (ha:SqAt s.heap ta a xs) (hb:SqAt s.heap tb b ys) (hx:xs[k]?=none) (hy:ys[k]?=none)
  (hE:∀ h' e,(∀ c o,c≠z->c≠to->c≠i->c≠j->s.heap.get? c=some o->h'.get? c=some o)->(∃ o,h'.get? e=some o/\o.cls = .type "StopIteration")->E (.ref e) { s with heap:=h' }) :
  wpAny (model prog w) A (Builtin.«zip.__next__» ⟨[.ref z],[]⟩) Q E s:=by
 show wpAny _ _ (field (.ref z) 2 >>= λt=>_) _ _ _;refine wpAny_bind (wpAny_field hz rfl (x:=Value.bool true) rfl ?_);show wpAny _ _ (field (.ref z) 3 >>= λt=>_) _ _ _;refine wpAny_bind (wpAny_field hz rfl (x:=Value.ref ti) rfl ?_);refine wpAny_bind (wpAny_seqItems hI rfl ?_);show wpAny _ _ (Builtin.SmallTypes.ownedTupleIsFree (.ref z) >>= λt=>_) _ _ _;refine wpAny_bind ?_;unfold Builtin.SmallTypes.ownedTupleIsFree;refine wpAny_bind (wpAny_field hz rfl (x:=Value.none) rfl (wpAny_pure ?_));simp only[if_true];refine wpAny_bind (wpAny_rule ?_);refine wpAny_bind (wpAny_field hz rfl (x:=Value.ref to) rfl ?_);refine wpAny_bind (wpAny_setField_rec hz (by simp) λg1 z1 m1=>?_);replace z1:T7 g1 z ti to .ellipsis:=z1;refine wpAny_bind ?_;simp only[w15,w02,w1l,uR];refine wpAny_bind (wpAny_bind (wpAny_onRaise ?_));show wpAny _ _ (Builtin.SmallTypes.nextOrEnd (.ref i)) _ _ _;refine NX hn (hi.at λo e=>m1.extBut _ _ D.p3 e) (ha.at λo e=>m1.extBut _ _ D.a1 e) hx λg2 m2=>?_;have z2:T7 g2 z ti to .ellipsis:=m2 _ _ D.p3.symm z1;refine wpAny_bind (wpAny_setField_rec z2 (by simp) λg3 z3 m3=>?_);refine wpAny_bind ?_;show wpAny _ _ (zEnd [.ref i,.ref j] 0) _ _ _;unfold zEnd;rw[if_neg (vx 0)];show wpAny _ _ (forIn [(Value.ref j,1)] PUnit.unit _ >>= λt=>_) _ _ _;simp only[w02,uR];refine wpAny_bind (wpAny_bind (wpAny_bind (NX hn (hj.at λo e=>m3.extBut _ _ D.p4 (m2 _ _ D.p10.symm (m1.extBut _ _ D.p4 e))) (hb.at λo e=>m3.extBut _ _ D.b1 (m2 _ _ D.b3 (m1.extBut _ _ D.b1 e))) hy λg4 m4=>?_)));simp only[Option.isSome_none,w09,if_false];refine wpAny_pure (wpAny_pure (wpAny_bind (wpAny_rule ?_)));unfold Builtin.SmallTypes.stopIteration;refine wpAny_bind ?_;simp only[newExc,newTuple];refine wpAny_bind (wpAny_newObj_type ?_ (by size_fits));refine wpAny_bind (m:=firstArgMember _ _) (wpAny_of_eq (a:=Value.none) (by first|(simp only[firstArgMember];rfl)|rfl) ?_);refine wpAny_newObj_type ?_ (by size_fits);simp only[raiseNew];refine wpAny_bind (wpAny_handled ?_)
 first|rw[hn]|rw[show A.in1.handled=none from hn]
 refine wpAny_bind (wpAny_pure (wpAny_throw ?_));refine hE _ _ (λc o c1 c2 c3 c4 e=>?_) ⟨_,wF _ rfl,rfl⟩;exact wm _ (wm _ (m4 _ _ c4 (m3.extBut _ _ c1 (m2 _ _ c3 (m1.extBut _ _ c1 e)))))
theorem XO{z ti to i j a b:Addr}{ta tb:Bool}{k:Nat}{xs ys:Array Value}{x y u v:Value}{Q:Option Value->Shared->Prop}(D:Apart z ti to i j a b)
  (hz:T7 s.heap z ti to .none) (hI:IsPair s.heap ti (.ref i) (.ref j)) (hO:IsPair s.heap to u v) (hi:ItAt s.heap ta i a k) (hj:ItAt s.heap tb j b k) (ha:SqAt s.heap ta a xs) (hb:SqAt s.heap tb b ys) (hx:xs[k]?=some x) (hy:ys[k]?=some y)
  (hQ:∀ h',T7 h' z ti to (rawInt s.heap.objs.size)→IsPair h' to x y→ItAt h' ta i a (k+1)→ItAt h' tb j b (k+1)→IsPair h' s.heap.objs.size x y→h'.objs.size=s.heap.objs.size+1 →
   (∀ c o,c≠z->c≠to->c≠i->c≠j->s.heap.get? c=some o->h'.get? c=some o)->Q (some (.ref s.heap.objs.size)) { s with heap:=h' }):wpAny (model prog w) A (pyNext (.ref z)) Q E s:=by
 have t:s.TypeIs (.ref z) "zip" := ⟨_,hz,rfl⟩;unfold pyNext;exact wpAny_bind (wpAny_attempt (wpAny_callSpecial?_slot (name:=Str.ofString "__next__") t F.slot_zip_next (wpAny_call_entry F.slot_zip_next t F.entry_zip_next
  (Zz D hz hI hO hi hj ha hb hx hy λh' q1 q2 q3 q4 q5 q6 q7=>wpAny_pure (hQ h' q1 q2 q3 q4 q5 q6 q7)) (F.args_zip_next_1 _))))
theorem ZA{z ti to i j a b:Addr}{ta tb:Bool}{k:Nat}{xs ys:Array Value}{u v:Value}{Q:Option Value->Shared->Prop}(hn:A.handled=none)(D:Apart z ti to i j a b)
  (hz:T7 s.heap z ti to .none) (hI:IsPair s.heap ti (.ref i) (.ref j)) (hO:IsPair s.heap to u v) (hi:ItAt s.heap ta i a k) (hj:ItAt s.heap tb j b k) (ha:SqAt s.heap ta a xs) (hb:SqAt s.heap tb b ys) (hx:xs[k]?=none) (hy:ys[k]?=none)
  (hQ:∀ h',(∀ c o,c≠z->c≠to->c≠i->c≠j->s.heap.get? c=some o->h'.get? c=some o)->Q none { s with heap:=h' }):wpAny (model prog w) A (pyNext (.ref z)) Q E s:=by
 have t:s.TypeIs (.ref z) "zip" := ⟨_,hz,rfl⟩;unfold pyNext;refine wpAny_bind (wpAny_attempt (wpAny_callSpecial?_slot (name:=Str.ofString "__next__") t F.slot_zip_next (wpAny_call_entry F.slot_zip_next t F.entry_zip_next
  (z3O hn D hz hI hO hi hj ha hb hx hy λh' e q1⟨o,q2,q3⟩=>?_) (F.args_zip_next_1 _))))
 exact wpAny_bind (wpAny_isInstance (T := "StopIteration") (b:=true) ⟨o,q2,q3⟩ isSubtype_stop (wpAny_pure (hQ _ q1)))
theorem let_go{elts:List Expr}{n:Nat}{pos:Pos}{z ti to t:Addr}{Q:Unit->Shared->Prop}(hz:T7 s.heap z ti to (rawInt t))
  (hQ:∀ h',T7 h' z ti to .none->Heap.SameBut z s.heap h'->Q () { s with heap:=h' }):wpAny (model prog w) A (letOwnedTupleGo (.Tuple elts n pos) (.ref z) (.ref t)) Q E s:=by
 unfold letOwnedTupleGo;refine wpAny_bind (wpAny_load hz ?_);show wpAny _ _ (if(["enumerate", "zip", "dict_itemiterator", "dict_reverseitemiterator", "odict_iterator", "itertools.zip_longest", "itertools.pairwise"].contains "zip" && (#[rawInt t,.bool false,.bool true,.ref ti,.ref to]:Array Value)[0]?==some (rawInt t))=true then _ else _) Q E s;rw[if_pos (by simp)];refine wpAny_bind (wpAny_rule ?_);show wpAny _ _ (setField (.ref z) 0 .none) Q E s;exact wpAny_setField_rec hz (by simp) λh' q1 q2=>hQ h' q1 q2
theorem NY{z ti to:Addr}{f:Value}{Q:aC}(hz:T7 s.heap z ti to f)(h:Q (.ref z) s):wpAny (model prog w) A (pyIter (.ref z)) Q E s:=by
 have t:s.TypeIs (.ref z) "zip" := ⟨_,hz,rfl⟩;refine wpAny_pyIter_slot t F.slot_zip_iter (wpAny_call_entry F.slot_zip_iter t F.entry_zip_iter ?_ (F.args_zip_iter_1 _));show wpAny _ _ (ret (.ref z)) _ _ s;exact wpAny_pure ⟨_,rfl, "zip",_,t,F.slot_zip_next.lookup,h⟩
def NZ(tu:Bool)(l:Addr):Obj:={ cls := .type (if tu then "tuple_iterator" else "list_iterator"),data := .fields #[.ref l,.int 0 0] }
theorem Oa{tu:Bool}{l:Addr}{xs:Array Value}{Q:aC}(h:SqAt s.heap tu l xs)(q:Q (.ref s.heap.objs.size) { s with heap:=s.heap.push (NZ tu l) }):wpAny (model prog w) A (pyIter (.ref l)) Q E s:=by
 cases tu with
 | true=>exact wpAny_pyIter_tuple h q
 | false=>exact wpAny_pyIter_list h q
theorem Ob{h:Heap}{tu:Bool}{l p:Addr}(e:h.get? p=some (NZ tu l)):ItAt h tu p l 0:=by
 unfold ItAt;cases tu with
 | true=>exact⟨_,e,rfl,rfl⟩
 | false=>exact⟨_,e,rfl,rfl⟩
abbrev h1(h:Heap)(ta:Bool)(a:Addr):Heap:=h.push (NZ ta a)
abbrev h2(h:Heap)(ta tb:Bool)(a b:Addr):Heap:=(h1 h ta a).push (NZ tb b)
abbrev h3(h:Heap)(ta tb:Bool)(a b:Addr):Heap:=(h2 h ta tb a b).push { cls := .type "tuple",data := .seq #[.ref h.objs.size,.ref (h1 h ta a).objs.size] }
abbrev h4(h:Heap)(ta tb:Bool)(a b:Addr):Heap:=(h3 h ta tb a b).push { cls := .type "tuple",data := .seq #[.none,.none] }
abbrev h5(h:Heap)(ta tb:Bool)(a b:Addr):Heap:=(h4 h ta tb a b).push { cls := .type "zip",data := .fields #[.none,.bool false,.bool true,.ref (h2 h ta tb a b).objs.size,.ref (h3 h ta tb a b).objs.size] }
theorem XQ(a b:Addr)(ta tb:Bool)(xs ys:Array Value):Meets (Builtin.«zip.__new__» ⟨[.type "zip",.ref a,.ref b],[(Str.ofString "strict",.bool true)]⟩)
  (λ_ R s=>SqAt s.heap ta a xs/\SqAt s.heap tb b ys/\R (.ok (.ret (.ref (h4 s.heap ta tb a b).objs.size))) { s with heap:=h5 s.heap ta tb a b }) :=
 .of_wp λprog w A R s⟨qa,qb,q⟩=>by
  obtain⟨hp,g,d,tk,os⟩:=s;have f1:=sub_zip;have e1:SqAt (Shared.heap ⟨hp,g,d,tk,os⟩) ta a xs:=qa;have e2:SqAt (Shared.heap ⟨hp.push (NZ ta a),g,d,tk,os⟩) tb b ys:=qb.at λo e=>wm _ e
  wp_walk using Oa e1,Oa e2
  exact⟨_,rfl,q⟩
end
end ZL

end
section
set_option maxHeartbeats 4000000
namespace ZL
open PySem PyProof.Rows
theorem okT(a b v:Value):checkTypeCall "zip" ⟨[a,b],[(Str.ofString "strict",v)]⟩=pure ():=by kernel_rfl
theorem okN(a b v:Value):checkBuiltinCall "zip.__new__" ⟨[.type "zip",a,b],[(Str.ofString "strict",v)]⟩=pure ():=by kernel_rfl
theorem okI(a b c v:Value):argsOk "object.__init__" ⟨[a,b,c],[(Str.ofString "strict",v)]⟩:=by
 unfold argsOk;rw[signature?_of (id := "object.__init__") (n := "__init__".toList.reverse) (o := "object".toList.reverse) (by kernel_rfl) F.owner_object];kernel_rfl
section
variable {prog:Program}{w:World}{A:Around}{E:aC}{s:Shared}
theorem Qh(self a b v:Value):Meets (Builtin.«object.__init__» ⟨[self,a,b],[(Str.ofString "strict",v)]⟩) (λ_ R s=>s.TypeIs self "zip" /\ R (.ok (.ret .none)) s):=by
 refine Meets.of_wp ?_;rintro prog w A R s ⟨t,q⟩;have hl:=F.called_zip.init.lookup;have hm:=F.called_zip.made;have hne:(some "zip.__new__" != some "object.__new__")=true:=by decide
 repeat (any_goals first|assumption|wp_step)
 exact⟨_,rfl,q⟩
theorem ZB{a b:Addr}{ta tb:Bool}{xs ys:Array Value}{Q:aC}(qa:SqAt s.heap ta a xs)(qb:SqAt s.heap tb b ys)
   (q:Q (.ref (h4 s.heap ta tb a b).objs.size) { s with heap:=h5 s.heap ta tb a b }):wpAny (model prog w) A (call (.type "zip") [.ref a,.ref b] [(Str.ofString "strict",.bool true)]) Q E s:=by
 obtain⟨c,tl,hmro⟩:=F.called_zip.mro;have m1:=F.called_zip.made;have m2:=F.called_zip.sub;have m3:=okT (.ref a) (.ref b) (.bool true);refine wpAny_call (codeAny_of_tree ?_);show wpAny _ _ (callAny (.type "zip") _) _ _ _;refine wpAny_pure ⟨Code.quiet_builtin _ (by decide +kernel),codeAny_builtin F.entry_type_call ?_⟩;rw[Around.under_plain (weight_type_call_type "zip" _ _) (units_type_call_type "zip" _ _)];have m4:=F.called_zip.notType;have m5:=F.called_zip.canCreate
 repeat (any_goals first|assumption|wp_step)
 refine codeAny_mono (codeAny_call_builtin F.called_zip.plain F.entry_zip_new (wpAny_of_eq (okN _ _ _) (XQ a b ta tb xs ys prog w A.in1 (wants (λo s1=>s1.TypeIs o "zip" /\ Q o s1) E) s ⟨qa,qb,?_⟩))) λr s1 hr=>?_
 · exact⟨⟨_,wF _ rfl,rfl⟩,q⟩
 cases r with
 | error e=>exact hr
 | ok fl =>
   cases fl with
   | ret o =>
    obtain⟨ty,hq⟩:=hr;have n1:=F.called_zip.init.lookup;have n2:=F.called_zip.init.bind o
    repeat (any_goals first|assumption|wp_step)
    refine codeAny_mono (codeAny_call_builtin F.called_zip.init.plain F.entry_object_init (F.called_zip.init.check _ _ _ _ _ _ _ _ ty (okI o _ _ _) (Qh o _ _ _ prog w A.in1 (wants (λr s2=>r = .none/\Q o s2) E) s1 ⟨ty,rfl,hq⟩))) λr2 s2 hr2=>?_;cases r2 with
    | error e=>exact hr2
    | ok f2 =>
     cases f2 with
     | ret r =>
      obtain⟨rfl,hq⟩:=hr2
      repeat (any_goals first|assumption|wp_step)
     | _=>exact hr2.elim
   | _=>exact hr.elim
end
end ZL

end
section
local macro_rules|`(tactic|rfl')=>`(tactic|first|lia|omega +splitDisjunctions)
set_option maxHeartbeats 1000000
namespace L2
open PySem PySem.Spec PyProof.Rows ZL
section
variable {X:Cx}{π:aB}{σ:St}{H:Hp}{s:Shared}{h':Heap}
theorem Inv.turnedL{t':Nat}{ch:List Addr}(I:Inv X π σ H s)(k:∀ b o,b ∉ ch->s.heap.get? b=some o->h'.get? b=some o)(hc:∀ b∈ch,FpOk X π H b):Inv X π σ H { s with heap:=h',toks:=t' }:=by
 have nit:∀ b u,H b=some u->b ∉ ch:=λb u e z=>by rw[(hc b z).1]at e;cases e
 refine I.step (g':=s.gens) (d':=s.drawn) (ch:=ch) (λb hb=>?_) (λb o _ _ hn e _=>k b o hn e) (λb o _ _ hn e _=>⟨o.slots,k b o hn e⟩) (λ_ _ _ _ n=>n)
   (λb o hn e=>⟨o,k b o hn e⟩) (λ_ _ e=>e) (λ_ _ _ e=>e) (λb ps e=>⟨#[],by rw[e];simp⟩) (λm hm=>?_) (λb u e=>?_) I.bare
 · obtain⟨f0,f1,f2,f3,f4,f5⟩:=hc b hb;exact⟨f3,f1,f4,f5⟩
 · obtain⟨o,es,ep,ho,r⟩:=hm;exact⟨o,es,ep,k _ o (λz=>(hc _ z).2.1 rfl) ho,r⟩
 · refine(I.hok b u e).stay (λc v hcc q=>k c v ?_ q) (λ_ q=>q) λ_ _ q=>q;rcases hcc with z|z
   · rw[z];exact nit b u e
   · exact nit c _ z
theorem Inv.pair{t':Nat}{ch:List Addr}{x y:V}{u v:Value}(I:Inv X π σ H s)(rx:RelV x u)(ry:RelV y v)(hp:h'.get? s.heap.objs.size=some { cls := .type "tuple",data := .seq #[u,v] })
   (k:∀ b o,b ∉ ch->s.heap.get? b=some o->h'.get? b=some o) (hc:∀ b∈ch,FpOk X π H b) (hl:∀ b∈ch,b<s.heap.objs.size) :
   H s.heap.objs.size=none/\Inv X π σ (upd H s.heap.objs.size (.tup [x,y])) { s with heap:=h',toks:=t' }:=by
 have hn:H s.heap.objs.size=none:=I.hok.fresh (wB _);have I1:Inv X π σ (upd H s.heap.objs.size (.tup [x,y])) { s with heap:=s.heap.push { cls := .type "tuple",data := .seq #[u,v] },toks:=t' } :=
   I.laid (λb o e=>wm _ e) (wB _) ⟨by show 2<=sizeLine;decide,[u,v],.cons rx (.cons ry .nil),⟨_,wF _ rfl,rfl,_,rfl⟩⟩
 refine⟨hn,Inv.turnedL (s:={ s with heap:=s.heap.push { cls := .type "tuple",data := .seq #[u,v] },toks:=t' }) (h':=h') (t':=t') (ch:=ch) I1 (λb o hb e=>?_) λb hb=>?_⟩
 · by_cases q:b=s.heap.objs.size
   · subst q;have e2:(s.heap.push { cls := .type "tuple",data := .seq #[u,v] }).get? s.heap.objs.size=some _:=wF _ rfl;have e:(s.heap.push { cls := .type "tuple",data := .seq #[u,v] }).get? s.heap.objs.size=some o:=e;rw[e2]at e;rw[hp];exact e
   · refine k b o hb ?_;have e:(s.heap.push { cls := .type "tuple",data := .seq #[u,v] }).get? b=some o:=e;rw[w0W _ _ _ q]at e;exact e
 · obtain⟨f0,f⟩:=hc b hb;exact⟨by rw[z9 (wY (hl b hb))];exact f0,f⟩
end
def SqV(K:aD)(tu:Bool)(H:Hp)(a:Addr)(xs:List V):Prop:=if tu then SqT K H a xs else SqL K H a xs
theorem SqV.mono{K:aD}{tu:Bool}{H H':Hp}{a:Addr}{xs:List V}(e:Same H H')(h:SqV K tu H a xs):SqV K tu H' a xs:=by
 unfold SqV at h ⊢;cases tu with
 | true=>exact e.seqT h
 | false=>exact e.seq h
theorem Inv.sq{X:Cx}{π:aB}{σ:St}{H:Hp}{s:Shared}{tu:Bool}{a:Addr}{xs:List V}(I:Inv X π σ H s)(h:SqV X.K tu H a xs):∃ its:aF,Vals xs its/\SqAt s.heap tu a its.toArray/\xs.length<=sizeLine:=by
 unfold SqV at h;unfold SqAt;cases tu with
 | true=>obtain⟨its,r,p,z⟩:=I.tuple h;exact⟨its,r,p,z⟩
 | false=>obtain⟨its,r,p,z⟩:=I.list h;exact⟨its,r,p.isList,z⟩
theorem Inv.sq_inj{X:Cx}{π:aB}{σ:St}{H:Hp}{s:Shared}{tu:Bool}{a:Addr}{xs ys:List V}(I:Inv X π σ H s)(h:SqV X.K tu H a xs)(h':SqV X.K tu H a ys):xs=ys:=by
 unfold SqV at h h';cases tu with
 | true=>exact I.tuple_inj h h'
 | false=>exact I.list_inj h h'
def Itz(K:aD)(ta tb:Bool)(a b:Addr):It where
 go:=λi H=>∃ xs ys x y,SqV K ta H a xs/\SqV K tb H b ys/\xs[i]?=some x/\ys[i]?=some y
 yld:=λi H v H'=>∃ p x y,(∀ xs,SqV K ta H a xs->xs[i]?=some x)/\(∀ ys,SqV K tb H b ys->ys[i]?=some y)/\H p=none/\v = .ref p/\H'=upd H p (.tup [x,y])
 stop:=λi H=>∃ xs ys,SqV K ta H a xs/\SqV K tb H b ys/\xs.length<=i/\ys.length<=i
theorem mem5{z ti to i j c:Addr}(h:c ∉ [z,ti,to,i,j]):c≠z/\c≠ti/\c≠to/\c≠i/\c≠j:=by simpa using h
theorem ZC{P:Program}{w:World}{K:aD}{elts:List Expr}{n:Nat}{pos:Pos}{ta tb:Bool}{z ti to i j a b:Addr}(D:Apart z ti to i j a b):
  Turn P w K (.Tuple elts n pos) (Itz K ta tb a b) [z,ti,to,i,j] z (λk h=>T7 h z ti to .none/\IsPair h ti (.ref i) (.ref j)/\(∃ u v,IsPair h to u v)/\ItAt h ta i a k/\ItAt h tb j b k) where
 mem:=by simp
 obj:=λk h ⟨q1,q2,⟨u,v,q3⟩,q4,q5⟩ c hc=>by
  have it:∀{tu:Bool} {it l:Addr} {k:Nat},ItAt h tu it l k->∃ o,h.get? it=some o/\∀ v,o.data ≠ .cell v:=λ{tu it l k} q=>by
    unfold ItAt at q;cases tu with
    | true=>obtain⟨o,e,_,d⟩:=q;exact⟨o,e,λv z=>by rw[d]at z;cases z⟩
    | false=>obtain⟨o,e,_,d⟩:=q;exact⟨o,e,λv z=>by rw[d]at z;cases z⟩
  simp only[ww,ui,or_false]at hc;rcases hc with rfl|rfl|rfl|rfl|rfl
  · exact⟨_,q1,λv z=>by have z':Data.fields _=Data.cell v:=z;cases z'⟩
  · exact⟨_,q2,λv z=>by have z':Data.seq _ _=Data.cell v:=z;cases z'⟩
  · exact⟨_,q3,λv z=>by have z':Data.seq _ _=Data.cell v:=z;cases z'⟩
  · exact it q4
  · exact it q5
 keep:=λk h h' ⟨q1,q2,⟨u,v,q3⟩,q4,q5⟩ kk=>⟨kk z (by simp) _ q1,kk ti (by simp) _ q2,⟨u,v,kk to (by simp) _ q3⟩,q4.at λo e=>kk i (by simp) o e,q5.at λo e=>kk j (by simp) o e⟩
 item:=by
  intro X hP hw hK hc k π s σ H E I hf ⟨q1,q2,⟨u,v,q3⟩,q4,q5⟩ hg;subst hP hw hK;obtain⟨xs,ys,x,y,hx,hy,ex,ey⟩:=hg;obtain⟨its,rx,px,_⟩:=I.sq hx;obtain⟨jts,ry,py,_⟩:=I.sq hy;obtain⟨ux,hux,rux⟩:=rx.get ex;obtain⟨uy,huy,ruy⟩:=ry.get ey;have lt:∀ b∈[z,ti,to,i,j],b<s.heap.objs.size:=λb hb=>by
    simp only[ww,ui,or_false]at hb;rcases hb with rfl|rfl|rfl|rfl|rfl
    · exact wy q1
    · exact wy q2
    · exact wy q3
    · exact q4.lt
    · exact q5.lt
  refine XO D q1 q2 q3 q4 q5 px py (x:=ux) (y:=uy) (by simpa using hux) (by simpa using huy) λh' a1 a2 a3 a4 a5 a6 a7=>⟨_,rfl,let_go a1 λh'' b1 b2=>?_⟩;have hzp:s.heap.objs.size≠z:=uP (lt z (by simp));have kk:∀ b o,b ∉ [z,ti,to,i,j]->s.heap.get? b=some o->h''.get? b=some o:=λb o hb e=>by
    obtain⟨c1,c2,c3,c4,c5⟩:=mem5 hb;exact b2.extBut _ _ c1 (a7 b o c1 c3 c4 c5 e)
  obtain⟨hn,I1⟩:=I.pair (t':=s.toks) (h':=h'') rux ruy (b2.extBut _ _ hzp a5) kk hf lt;refine⟨.ref s.heap.objs.size,_,I1,rfl,⟨_,x,y,λzs hz=>by rw[I.sq_inj hz hx];exact ex,λzs hz=>by rw[I.sq_inj hz hy];exact ey,hn,rfl,rfl⟩,?_,λb hb=>by rw[z9 (wY (lt b hb))];exact(hf b hb).1⟩;exact⟨b1,b2.extBut _ _ D.p1 (a7 _ _ D.p1 D.p5 D.p6 D.p7 q2),⟨_,_,b2.extBut _ _ D.p2 a2⟩,a3.at λo e=>b2.extBut _ _ D.p3 e,a4.at λo e=>b2.extBut _ _ D.p4 e⟩
 done:=by
  intro X hP hw hK hc k π s σ H E I hf ⟨q1,q2,⟨u,v,q3⟩,q4,q5⟩ hg;subst hP hw hK;obtain⟨xs,ys,hx,hy,ex,ey⟩:=hg;obtain⟨its,rx,px,_⟩:=I.sq hx;obtain⟨jts,ry,py,_⟩:=I.sq hy;have l1:=rx.length;have l2:=ry.length;refine ZA (I.ok.hd hc) D q1 q2 q3 q4 q5 px py (by simp;rfl') (by simp;rfl') λh' a7=>⟨rfl,I.turnedL (t':=s.toks) (ch:=[z,ti,to,i,j]) (λb o hb e=>?_) hf⟩;obtain⟨c1,c2,c3,c4,c5⟩:=mem5 hb;exact a7 b o c1 c3 c4 c5 e
 self:=λ_ _ _ _ _ q h=>NY q.1 h
def Ite(K:aD)(a:Addr):It where
 go:=λi H=>∃ xs x,SqL K H a xs/\xs[i]?=some x
 yld:=λi H v H'=>∃ p x,(∀ xs,SqL K H a xs->xs[i]?=some x)/\H p=none/\v = .ref p/\H'=upd H p (.tup [.int i,x])
 stop:=λi H=>∃ xs,SqL K H a xs/\xs.length<=i
theorem XR{P:Program}{w:World}{K:aD}{elts:List Expr}{n:Nat}{pos:Pos}{e it a:Addr}(hne:e≠it):
  Turn P w K (.Tuple elts n pos) (Ite K a) [e,it] e (λk h=>(∃ old,IsEnum h e it k old)/\h.IsListIter it a k) where
 mem:=by simp
 obj:=λk h ⟨⟨old,q1⟩,q2⟩ c hc=>by
  simp only[ww,ui,or_false]at hc;rcases hc with rfl|rfl
  · exact⟨_,q1,λv z=>by have z':Data.fields _=Data.cell v:=z;cases z'⟩
  · obtain⟨o,e,_,d⟩:=q2;exact⟨o,e,λv z=>by rw[d]at z;cases z⟩
 keep:=λk h h' ⟨⟨old,q1⟩,q2⟩ kk=>⟨⟨old,kk e (by simp) _ q1⟩,q2.at λo q=>kk it (by simp) o q⟩
 item:=by
  intro X hP hw hK hc k π s σ H E I hf ⟨⟨old,q1⟩,q2⟩ hg;subst hP hw hK;obtain⟨xs,x,hx,ex⟩:=hg;obtain⟨its,rx,px,_⟩:=I.list hx;obtain⟨ux,hux,rux⟩:=rx.get ex;have lt:∀ b∈[e,it],b<s.heap.objs.size:=λb hb=>by
    simp only[ww,ui,or_false]at hb;rcases hb with rfl|rfl
    · exact wy q1
    · obtain⟨o,z,_⟩:=q2;exact wy z
  refine wpAny_pyNext_enum_item q1 q2 px.isList (x:=ux) (by simpa using hux) hne λh' a1 a2 a3 a4 a5=>⟨_,rfl,wpAny_letOwnedTupleGo_enum a1 λh'' b1 b2=>?_⟩;have hzp:s.heap.objs.size≠e:=uP (lt e (by simp));have kk:∀ b o,b ∉ [e,it]->s.heap.get? b=some o->h''.get? b=some o:=λb o hb q=>by
    have c:b≠e/\b≠it:=by simpa using hb
    exact b2.extBut _ _ c.1 (a5 b o c.1 c.2 q)
  obtain⟨hn,I1⟩:=I.pair (x := .int k) (t':=s.toks+1) (h':=h'') ⟨s.toks,rfl⟩ rux (b2.extBut _ _ hzp a3) kk hf lt;refine⟨.ref s.heap.objs.size,_,I1,rfl,⟨_,x,λzs hz=>by rw[I.list_inj hz hx];exact ex,hn,rfl,rfl⟩,⟨⟨_,b1⟩,a2.at λo q=>b2.extBut _ _ (Ne.symm hne) q⟩,λb hb=>by rw[z9 (wY (lt b hb))];exact(hf b hb).1⟩
 done:=by
  intro X hP hw hK hc k π s σ H E I hf ⟨⟨old,q1⟩,q2⟩ hg;subst hP hw hK;obtain⟨xs,hx,ex⟩:=hg;obtain⟨its,rx,px,_⟩:=I.list hx;have l1:=rx.length;refine wpAny_pyNext_enum_end (I.ok.hd hc) q1 q2 px.isList (by simp;rfl') λh' a5=>⟨rfl,I.turnedL (t':=s.toks) (ch:=[e,it]) (λb o hb q=>?_) hf⟩;have c:b≠e/\b≠it:=by simpa using hb
  exact a5 b o c.2 q
 self:=λ_ _ _ _ _ q h=>by obtain⟨⟨old,q1⟩,_⟩:=q;exact wpAny_pyIter_enum q1 h
def Itv(K:aD)(a:Addr)(n:Nat):It where
 go:=λi H=>i<n/\∃ xs,SqL K H a xs/\xs.length=n
 yld:=λi H v H'=>H'=H/\∀ xs,SqL K H a xs->xs[n-1-i]?=some v
 stop:=λi H=>n<=i
theorem ZD{P:Program}{w:World}{K:aD}{tg:Expr}{it a:Addr}{n:Nat}:Turn P w K tg (Itv K a n) [it] it (λk h=>k<=n/\h.IsRevIter it a ((n:Int)-1-(k:Int))) where
 mem:=by simp
 obj:=λk h ⟨_,q⟩ c hc=>by
  have e:c=it:=by simpa using hc
  subst e;obtain⟨o,e,_,d⟩:=q;exact⟨o,e,λv z=>by rw[d]at z;cases z⟩
 keep:=λk h h' ⟨q0,q⟩ kk=>⟨q0,q.at λo z=>kk it (by simp) o z⟩
 item:=by
  intro X hP hw hK hc k π s σ H E I hf ⟨q0,q⟩ hg;subst hP hw hK;obtain⟨hk,xs,hx,hn⟩:=hg;obtain⟨its,rx,px,_⟩:=I.list hx;have hlt:n-1-k<xs.length:=by rfl'
  obtain⟨ux,hux,rux⟩:=rx.get (wa hlt);obtain⟨f0,f1,f2,f3,f4,f5⟩:=hf it (by simp);have e1:(n:Int)-1-(k:Int)=((n-1-k:Nat):Int):=by rfl'
  rw[e1]at q;refine wpAny_pyNext_rev_item q px.isList (x:=ux) (by simpa using hux) λh' b1 b2=>?_;have I1:Inv X π σ H { s with heap:=h' }:=I.turned (t':=s.toks) (λb o hb e=>(b2.2 b hb).trans e) f0 f1 f3 f4 f5;have e2:((n-1-k:Nat):Int)-1=(n:Int)-1-((k+1:Nat):Int):=by rfl'
  rw[e2]at b1;obtain⟨o,e,c,d⟩:=id b1;exact⟨ux,rfl,Wa (s:={ s with heap:=h' }) e c d (by decide) ⟨_,H,I1,rux,⟨rfl,λys hy=>by rw[I.list_inj hy hx];exact wa hlt⟩,⟨by rfl',b1⟩,λb hb=>(hf b hb).1⟩⟩
 done:=by
  intro X hP hw hK hc k π s σ H E I hf ⟨q0,q⟩ hg;subst hP hw hK;have hg:n<=k:=hg;obtain rfl:k=n:=by rfl'
  obtain⟨f0,f1,f2,f3,f4,f5⟩:=hf it (by simp);have e1:(k:Int)-1-(k:Int) = -1:=by rfl'
  rw[e1]at q;exact wpAny_pyNext_rev_end (I.ok.hd hc) q λh' eb=>⟨rfl,I.turned (t':=s.toks) (λb o hb e=>eb b o hb e) f0 f1 f3 f4 f5⟩
 self:=λ_ _ _ _ _ st h=>wpAny_pyIter_revIter st.2 h
section
variable {K:aD}{H1:Hp}
theorem z3P{A:List Addr}{H:Hp}{p:Addr}{o:HO}(hp:H p=none)(hA:∀ a∈A,∃ o,H a=some o):hidL A (upd H p o)=upd (hidL A H) p o:=funext λb=>by
 have np:p ∉ A:=λz=>by obtain⟨u,e⟩:=hA p z;rw[hp]at e;cases e
 by_cases q:b=p
 · subst q;rw[u8 np,D8,D8]
 · rw[z9 q];by_cases z:b∈A
   · rw[T1 z,T1 z]
   · rw[u8 z,u8 z,z9 q]
theorem Od{A:List Addr}{H:Hp}{p:Addr}{d d':Dt}{x y:V}(hp:H p=none)(hA:∀ a∈A,∃ o,H a=some o)(rx:Rp K emp d (hidL A H) x)(ry:Rp K emp d' (hidL A H) y):
  Same (hidL A H) (hidL A (upd H p (.tup [x,y])))/\(∀ a∈A,upd H p (.tup [x,y]) a=H a)/\Rp K emp (.tup [d,d']) (hidL A (upd H p (.tup [x,y]))) (.ref p):=by
 have np:p ∉ A:=λz=>by obtain⟨u,e⟩:=hA p z;rw[hp]at e;cases e
 have hq:hidL A H p=none:=by rw[u8 np];exact hp
 rw[z3P hp hA];refine⟨F8 hq,λa ha=>z9 λz=>np (z ▸ ha),Rp.tup_.mpr ⟨p,_,rfl,SqT.of D8,?_⟩⟩;exact Rps.cons_.mpr ⟨x,[y],rfl,Rp.mono _ (F8 hq) rx,Rps.one (Rp.mono _ (F8 hq) ry)⟩
def zipD:List Dt->List Dt->List Dt
 | x::xs,y::ys => .tup [x,y]::zipD xs ys
 | _,_=>[]
theorem Oe:∀{xs ys:List Dt} {i:Nat} {d:Dt},(zipD xs ys)[i]?=some d->∃ x y,xs[i]?=some x/\ys[i]?=some y/\d = .tup [x,y]
 | [],ys,i,d,h=>by simp[zipD]at h
 | x::xs,[],i,d,h=>by simp[zipD]at h
 | x::xs,y::ys,0,d,h=>by simp[zipD]at h;exact⟨x,y,rfl,rfl,h.symm⟩
 | x::xs,y::ys,i+1,d,h=>by
  have h:(zipD xs ys)[i]?=some d:=by simpa[zipD]using h
  obtain⟨a,b,q1,q2,q3⟩:=Oe h;exact⟨a,b,by simpa using q1,by simpa using q2,q3⟩
theorem Ex:∀{xs ys:List Dt},(zipD xs ys).length=min xs.length ys.length
 | [],ys=>by simp[zipD]
 | x::xs,[]=>by simp[zipD]
 | x::xs,y::ys=>by rw[zipD,wu,Ex,wu,wu];rfl'
theorem ZE{ta tb:Bool}{a b:Addr}{ds es:List Dt}{vs ws:List V}(h1:SqV K ta H1 a vs)(h2:SqV K tb H1 b ws)(r1:Rps K emp ds H1 vs)(r2:Rps K emp es H1 ws)(hl:ds.length=es.length):Walk K (Itz K ta tb a b) (zipD ds es) H1:=by
 intro A H sm hA;have s2:Same H1 H:=sm.trans A8;refine⟨λi d e=>?_,λi hi=>⟨vs,ws,h1.mono s2,h2.mono s2,?_,?_⟩⟩
 · obtain⟨x,y,ex,ey,rfl⟩:=Oe e;obtain⟨v,e1,p1⟩:=r1.get ex;obtain⟨u,e2,p2⟩:=r2.get ey;refine⟨⟨vs,ws,v,u,h1.mono s2,h2.mono s2,e1,e2⟩,?_⟩;rintro z H' ⟨p,v',u',f1,f2,hp,ez,eH⟩;have g1:=f1 vs (h1.mono s2);have g2:=f2 ws (h2.mono s2);rw[e1]at g1;rw[e2]at g2;cases g1;cases g2;subst ez;subst eH;exact Od hp hA (Rp.mono _ sm p1) (Rp.mono _ sm p2)
 · rw[Ex]at hi;rw[r1.length];rfl'
 · rw[Ex]at hi;rw[r2.length];rfl'
def V2:Nat->List Dt->List Dt
 | _,[]=>[]
 | n,x::xs => .tup [.int n,x]::V2 (n+1) xs
theorem KM:∀{xs:List Dt} {n i:Nat} {d:Dt},(V2 n xs)[i]?=some d->∃ x,xs[i]?=some x/\d = .tup [.int ((n+i:Nat):Int),x]
 | [],n,i,d,h=>by simp[V2]at h
 | x::xs,n,0,d,h=>by simp[V2]at h;exact⟨x,rfl,h.symm⟩
 | x::xs,n,i+1,d,h=>by
  have h:(V2 (n+1) xs)[i]?=some d:=by simpa[V2]using h
  obtain⟨a,q1,q3⟩:=KM h;exact⟨a,by simpa using q1,by rw[q3,show n+1+i=n+(i+1) by rfl']⟩
theorem FV:∀{xs:List Dt} {n:Nat},(V2 n xs).length=xs.length
 | [],n=>rfl
 | x::xs,n=>by rw[V2,wu,wu,FV]
theorem XS{a:Addr}{ds:List Dt}{vs:List V}(h1:SqL K H1 a vs)(r1:Rps K emp ds H1 vs):Walk K (Ite K a) (V2 0 ds) H1:=by
 intro A H sm hA;have s2:Same H1 H:=sm.trans A8;refine⟨λi d e=>?_,λi hi=>⟨vs,s2.seq h1,?_⟩⟩
 · obtain⟨x,ex,rfl⟩:=KM e;rw[ul];obtain⟨v,e1,p1⟩:=r1.get ex;refine⟨⟨vs,v,s2.seq h1,e1⟩,?_⟩;rintro z H' ⟨p,v',f1,hp,ez,eH⟩;have g1:=f1 vs (s2.seq h1);rw[e1]at g1;cases g1;subst ez;subst eH;exact Od hp hA (Rp.int_.mpr rfl) (Rp.mono _ sm p1)
 · rw[FV]at hi;rw[r1.length];rfl'
theorem ZF{a:Addr}{ds:List Dt}{vs:List V}(h1:SqL K H1 a vs)(r1:Rps K emp ds H1 vs):Walk K (Itv K a vs.length) ds.reverse H1:=by
 intro A H sm hA;have s2:Same H1 H:=sm.trans A8;have hl:=r1.length;refine⟨λi d e=>?_,λi hi=>?_⟩
 · have hi:i<ds.length:=by
    by_cases hi:i<ds.length
    · exact hi
    · rw[wR (by simp;rfl')]at e;cases e
   rw[List.getElem?_reverse hi]at e;obtain⟨v,e1,p1⟩:=r1.get e;refine⟨⟨by rfl',vs,s2.seq h1,rfl⟩,?_⟩;rintro z H' ⟨eH,f1⟩;subst eH;have g1:=f1 vs (s2.seq h1);rw[hl,e1]at g1;cases g1;exact⟨Same.refl _,λ_ _=>rfl,Rp.mono _ sm p1⟩
 · show vs.length<=i;rw[w0O]at hi;rfl'
end
section
variable {X:Cx}{a b e:Expr}{Fa Fb:FE}{elts:List Expr}{n:Nat}{tpos pos:Pos}
theorem XT{M:Model}{A:Around}{E:aC}{s:Shared}{env:Env}{T:String}{es:List Expr}{kws:List Keyword}{Q:aC}
  (h:wpAny M A (spliced (backTo pos (starEach (e::es) env))) (λvs s1=>wpAny M A (evalAll ((backToKw pos (keywordEach kws env)).map (·.2))) (λks s2=>wpAny M A (call (.type T) vs (((backToKw pos (keywordEach kws env)).filterMap (·.1)).zip ks)) Q E s2) E s1) E s)
  (h1:backTo pos (starEach (e::es) env)=(false,eval e env)::backTo pos (starEach es env)) (h2:(backTo pos (starEach (e::es) env)).any (·.1)=false) (h3:(backToKw pos (keywordEach kws env)).all (·.1.isSome)=true) (h4:(backToKw pos (keywordEach kws env)).any (·.1.isNone)=false) :
  wpAny M A (callWith pos (.type T) [] (backTo pos (starEach (e::es) env)) (backToKw pos (keywordEach kws env))) Q E s:=by
 unfold callWith;have g:wpAny M A (evalArgs (.type T) true (backTo pos (starEach (e::es) env)) (backToKw pos (keywordEach kws env))) (λz s1=>wpAny M A (call (.type T) ([]++z.pos) z.kw) Q E s1) E s:=by
  rw[h1]at h ⊢;exact evalArgs_kwB h3 h
 refine wpAny_bind (wpAny_holding (wpAny_mono g (λz s1 g1=>wpAny_bind (wpAny_standAt ?_)) λ_ _ x=>x));simp only[h2,h4,Bool.or_false];refine wpAny_bind (wpAny_pure ?_);exact wpAny_bind (wpAny_mono g1 (λr s2 hr=>wpAny_bind (wpAny_holding (wpAny_point (wpAny_pure hr)))) λ_ _ x=>x)
theorem ZG{H:Hp}{d:Dt}{ds:List Dt}{v:V}(e:seqD d=some ds)(r:Rp X.K emp d H v):∃ tu p vs,v = .ref p/\SqV X.K tu H p vs/\Rps X.K emp ds H vs:=by
 cases d<;>first|cases e|skip
 · obtain⟨p,vs,rfl,_,h1,h2⟩:=r.items;exact⟨false,p,vs,rfl,SqL.of h1,h2⟩
 · obtain⟨p,vs,rfl,h1,h2⟩:=Rp.tup_.mp r;exact⟨true,p,vs,rfl,h1,h2⟩
def iZip(F G:FE):FI:=λρ=>(F ρ).bind λx=>(G ρ).bind λy=>(seqD x.2).bind λxs=>(seqD y.2).bind λys=>if xs.length=ys.length then some (zipD xs ys) else none
theorem KN{p kp kpos:Pos}{jc:Nat}(hg:Gl X "zip")(hm:X.mg "zip" = none)(ha:PF X a Fa)(hb:PF X b Fb)(hs:starEach [a,b] X.env=[(false,eval a X.env),(false,eval b X.env)]:=by rfl)(hs1:starEach [b] X.env=[(false,eval b X.env)]:=by rfl):
   PFI X (.Tuple elts n tpos) (.Call (.Name "zip" p) [a,b] [⟨some "strict",.Constant (.bool true) jc kp,kpos⟩] pos) (iZip Fa Fb):=by
 intro π s σ H R I ⟨ρ,items,rs,e0,k⟩;obtain⟨⟨fa,da⟩,ea,e1⟩:=i8 e0;obtain⟨⟨fb,db⟩,eb,e2⟩:=i8 e1;obtain⟨xs,ex,e3⟩:=i8 e2;obtain⟨ys,ey,e4⟩:=i8 e3;clear e0 e1 e2 e3;split at e4
 · rename_i hl;cases e4;have hA:PA X [a,b] (upAs X (f9 Fa (f9 Fb fNil))):=j3 ha (j3 hb i9 hs1) (by rw[hs,hs1]);refine wpAny_Call_Name_kw (AW I hg hm (by decide +kernel:bootBuiltins "zip" = some (.type "zip")) ?_);refine XT (T := "zip") (thn (hA pos π s σ H (λvs H1=>Same H H1/\∃ va vb,vs=[va,vb]/\Rp X.K emp da H1 va/\Rp X.K emp db H1 vb) I ⟨ρ,[(fa,da),(fb,db)],rs,by simp[f9,fNil,ea,eb],λvs H1 s1 ⟨va,r1,ee1,q1,vb,r2,ee2,q2,q3⟩=>⟨s1,va,vb,by rw[ee1,ee2,show r2=[]from q3],q1.sh,q2.sh⟩⟩) λus s1 ⟨vs,H1,I1,rv,s1H,va,vb,ev,ra,rb⟩=>?_) (by rw[hs,hs1];rfl) (by rw[hs];rfl) rfl rfl;subst ev;obtain⟨ua,ub,rfl,rua,rub⟩:=rv.two;obtain⟨ta,pa,vsa,rfl,qa1,qa2⟩:=ZG ex ra;obtain⟨tb,pb,vsb,rfl,qb1,qb2⟩:=ZG ey rb;cases rua;cases rub;have hk:=Wb (X:=X) (nm:=some "strict") (kpos:=kpos) (pe_bl (X:=X) (b:=true) (j:=jc) (pos:=kp)) Zc;refine thn (hk pos π s1 σ H1 (λzs H2=>zs=[.bl true]/\H2=H1) I1 ⟨rfl,rfl⟩) ?_;rintro ks s2 ⟨zs,H2,I2,rz,ez,eH⟩;subst ez;subst eH;obtain⟨uk,rfl,ruk⟩:=rz.one;cases ruk;obtain⟨ita,rva,sa,hza⟩:=I2.sq qa1;obtain⟨itb,rvb,sb,hzb⟩:=I2.sq qb1;refine ZB sa sb ?_;have z1:(h1 s2.heap ta pa).objs.size=s2.heap.objs.size+1:=vH ..;have z2:(h2 s2.heap ta tb pa pb).objs.size=s2.heap.objs.size+2:=by rw[vH,z1]
   have z3:(h3 s2.heap ta tb pa pb).objs.size=s2.heap.objs.size+3:=by rw[vH,z2]
   have z4:(h4 s2.heap ta tb pa pb).objs.size=s2.heap.objs.size+4:=by rw[vH,z3]
   have g5:(h5 s2.heap ta tb pa pb).get? (h4 s2.heap ta tb pa pb).objs.size=some _:=wF _ rfl;have g4:(h5 s2.heap ta tb pa pb).get? (h3 s2.heap ta tb pa pb).objs.size=some _:=wm _ (wF _ rfl);have g3:(h5 s2.heap ta tb pa pb).get? (h2 s2.heap ta tb pa pb).objs.size=some _:=wm _ (wm _ (wF _ rfl));have g2:(h5 s2.heap ta tb pa pb).get? (h1 s2.heap ta pa).objs.size=some _:=wm _ (wm _ (wm _ (wF _ rfl)));have g1:(h5 s2.heap ta tb pa pb).get? s2.heap.objs.size=some _:=wm _ (wm _ (wm _ (wm _ (wF _ rfl))));have up:∀ c o,s2.heap.get? c=some o->(h5 s2.heap ta tb pa pb).get? c=some o:=λc o x=>wm _ (wm _ (wm _ (wm _ (wm _ x))));refine NY (z:=(h4 s2.heap ta tb pa pb).objs.size) (ti:=(h2 s2.heap ta tb pa pb).objs.size) (to:=(h3 s2.heap ta tb pa pb).objs.size) (f := .none) g5 ?_;have la:=sa.lt;have lb:=sb.lt;have D:Apart (h4 s2.heap ta tb pa pb).objs.size (h2 s2.heap ta tb pa pb).objs.size (h3 s2.heap ta tb pa pb).objs.size s2.heap.objs.size (h1 s2.heap ta pa).objs.size pa pb:=by
     rw[z1,z2,z3,z4];constructor<;>exact λz=>by simp only[Addr]at *;rfl'
   refine⟨_,[(h4 s2.heap ta tb pa pb).objs.size,(h2 s2.heap ta tb pa pb).objs.size,(h3 s2.heap ta tb pa pb).objs.size,s2.heap.objs.size,(h1 s2.heap ta pa).objs.size],_,_,H2,rfl,I2.kept (t':=s2.toks) up,ZC (ta:=ta) (tb:=tb) D,⟨g5,g3,⟨_,_,g4⟩,Ob g1,Ob g2⟩,λc hc=>?_,k _ H2 s1H ?_ (ZE qa1 qb1 qa2 qb2 hl)⟩
   · have hge:s2.heap.objs.size<=c:=by
      rw[z1,z2,z3,z4]at hc;simp only[ww,ui,or_false]at hc;rcases hc with rfl|rfl|rfl|rfl|rfl<;>rfl'
     exact I2.fpOk hge (I2.hok.fresh hge)
   · rw[Ex,←qa2.length];rfl'
 · cases e4
def lstD:Dt->Option (List Dt)
 | .lst ds=>some ds
 | _=>none
def X3(F:FE):FI:=λρ=>(F ρ).bind λx=>(lstD x.2).map (V2 0)
theorem ZH{H:Hp}{d:Dt}{ds:List Dt}{v:V}(e:lstD d=some ds)(r:Rp X.K emp d H v):∃ p vs,v = .ref p/\SqL X.K H p vs/\Rps X.K emp ds H vs:=by
 cases d<;>first|cases e|skip
 obtain⟨p,vs,rfl,_,h1,h2⟩:=r.items;exact⟨p,vs,rfl,SqL.of h1,h2⟩
theorem IC{p:Pos}(hg:Gl X "enumerate")(hm:X.mg "enumerate" = none)(ha:PF X a Fa)(hs:starEach [a] X.env=[(false,eval a X.env)]:=by rfl):PFI X (.Tuple elts n tpos) (.Call (.Name "enumerate" p) [a] [] pos) (X3 Fa):=by
 intro π s σ H R I ⟨ρ,items,rs,e0,k⟩;obtain⟨⟨fa,da⟩,ea,e1⟩:=i8 e0;cases ex:lstD da with
 | none=>rw[ex]at e1;cases e1
 | some xs =>
  rw[ex]at e1;cases e1;have hA:PA X [a] (upAs X (f9 Fa fNil)):=j3 ha i9 hs;refine wpAny_Call_Name_kw (AW I hg hm (by decide +kernel:bootBuiltins "enumerate" = some (.type "enumerate")) ?_);refine PyProof.Rows.callWith_type1 (thn (hA pos π s σ H (λvs H1=>Same H H1/\∃ va,vs=[va]/\Rp X.K emp da H1 va) I ⟨ρ,[(fa,da)],rs,by simp[f9,fNil,ea],λvs H1 s1 ⟨va,r1,ee1,q1,q3⟩=>⟨s1,va,by rw[ee1,show r1=[]from q3],q1.sh⟩⟩) λus s1 ⟨vs,H1,I1,rv,s1H,va,ev,ra⟩=>?_) hs rfl;subst ev;obtain⟨ua,rfl,rua⟩:=rv.one;obtain⟨pa,vsa,rfl,qa1,qa2⟩:=ZH ex ra;cases rua;obtain⟨ita,rva,pl,hza⟩:=I1.list qa1;refine call_enumerate_list pl.isList λh' b1 b2 b3 b4=>wpAny_pyIter_enum b1 ?_;refine⟨_,[s1.heap.objs.size+1,s1.heap.objs.size],_,_,H1,rfl,I1.kept (t':=s1.toks) b4,XR (Nat.succ_ne_self _),⟨⟨_,b1⟩,b2⟩,λc hc=>?_,k _ H1 s1H ?_ (XS qa1 qa2)⟩
  · have hge:s1.heap.objs.size<=c:=by
     simp only[ww,ui,or_false]at hc;rcases hc with rfl|rfl
     · exact Nat.le_succ _
     · exact wB _
    exact I1.fpOk hge (I1.hok.fresh hge)
  · rw[FV,←qa2.length];exact hza
def iRev(F:FE):FI:=λρ=>(F ρ).bind λx=>(lstD x.2).map List.reverse
theorem i_rev{tg:Expr}{p:Pos}(hg:Gl X "reversed")(hm:X.mg "reversed" = none)(ha:PF X a Fa)(hs:starEach [a] X.env=[(false,eval a X.env)]:=by rfl):PFI X tg (.Call (.Name "reversed" p) [a] [] pos) (iRev Fa):=by
 intro π s σ H R I ⟨ρ,items,rs,e0,k⟩;obtain⟨⟨fa,da⟩,ea,e1⟩:=i8 e0;cases ex:lstD da with
 | none=>rw[ex]at e1;cases e1
 | some xs =>
  rw[ex]at e1;cases e1;have hA:PA X [a] (upAs X (f9 Fa fNil)):=j3 ha i9 hs;refine wpAny_Call_Name_kw (AW I hg hm (by decide +kernel:bootBuiltins "reversed" = some (.type "reversed")) ?_);refine PyProof.Rows.callWith_type1 (thn (hA pos π s σ H (λvs H1=>Same H H1/\∃ va,vs=[va]/\Rp X.K emp da H1 va) I ⟨ρ,[(fa,da)],rs,by simp[f9,fNil,ea],λvs H1 s1 ⟨va,r1,ee1,q1,q3⟩=>⟨s1,va,by rw[ee1,show r1=[]from q3],q1.sh⟩⟩) λus s1 ⟨vs,H1,I1,rv,s1H,va,ev,ra⟩=>?_) hs rfl;subst ev;obtain⟨ua,rfl,rua⟩:=rv.one;obtain⟨pa,vsa,rfl,qa1,qa2⟩:=ZH ex ra;cases rua;obtain⟨ita,rva,pl,hza⟩:=I1.list qa1;have hn:ita.toArray.size=vsa.length:=by rw[wG,←rva.length]
  refine call_reversed_list pl.isList ?_;rw[hn];have g1:(s1.heap.push (revObj pa ((vsa.length:Int)-1))).get? s1.heap.objs.size=some _:=wF _ rfl;have it1:(s1.heap.push (revObj pa ((vsa.length:Int)-1))).IsRevIter s1.heap.objs.size pa ((vsa.length:Int)-1-((0:Nat):Int)):=⟨_,g1,rfl,by show Data.fields _=_;simp⟩;refine wpAny_pyIter_revIter it1 ?_;refine⟨_,[s1.heap.objs.size],_,_,H1,rfl,I1.kept (t':=s1.toks) (λc o x=>wm _ x),ZD (n:=vsa.length),⟨wU _,it1⟩,λc hc=>?_,k _ H1 s1H ?_ (ZF qa1 qa2)⟩
  · rw[wV.mp hc];exact I1.fpOk (wB _) (I1.hok.fresh (wB _))
  · rw[w0O,←qa2.length];exact hza
end
end L2

end
section
set_option maxHeartbeats 1000000
namespace L2
open PySem PySem.Spec PyProof.Rows
section
variable {X:Cx}
def ZI:V->List V->Hp->VK->Prop:=λx vs H Q=>∃ l xs y,x = .ref l/\vs=[.int 0,y]/\H l=some (.lst xs)/\xs.length<sizeLine/\Q .non (upd H l (.lst (y::xs)))
theorem Qi:MtM X "list.insert" ZI:=by
 intro π s σ H x vs v us Q I rx rv h;obtain⟨l,xs,y,rfl,rfl,hH,hz,q⟩:=h;cases rx;obtain⟨u0,u,rfl,ru0,ru⟩:=rv.two;obtain⟨t0,rfl⟩:=ru0;obtain⟨z,its,n,r,hl,e⟩:=I.lstM hH;refine call_meets F.slot_list_insert ⟨_,e,rfl⟩ F.entry_list_insert (F.args_list_insert_3 _ _ _) (AutoSeq1.list_insert_list_int_val_1 l its.toArray n 0 t0 u (by decide) (by rw[wG];rfl')) ⟨e,?_⟩;refine⟨.non,_,I.lset (its':=u::its) hH e ?_ (.cons ru r) ?_,rfl,q⟩
 · simp
 · rw[wu];rfl'
theorem Wn{Y:Ky}{f g:Bool}:Same (bsOf Y (f&&g)) (bsOf Y f):=by
 cases f<;>cases g<;>first|exact Same.refl _|exact Same.emp
theorem Wo{Y:Ky}{f g:Bool}:Same (bsOf Y (f&&g)) (bsOf Y g):=by
 cases f<;>cases g<;>first|exact Same.refl _|exact Same.emp
section
variable {H₀ H H':Hp}{O:Own}{ρ:Rho}{σ:St}{i:Nat}{f:Bool}{ds:List Dt}
theorem RepO.get(h:RepO X H₀ H O ρ σ)(e:ρ[i]?=some (.ow f ds)):∃ a vs,(i,a)∈O/\σ[i]?=some (some (.ref a))/\H a=some (.lst vs)/\Rps X.K (bsOf X.ky f) ds (hidL O.adr H) vs:=by
 obtain⟨o,e1,a,vs,q1,q2,q3,q4⟩:=h.at_ i _ e;subst q2;exact⟨a,vs,q1,e1,q3,q4⟩
theorem Og{x:Dv}{v:V}(rb:RepO X H₀ H O ρ σ)(r:RpF X.ky (hidL O.adr H) x.1 x.2 H' v):Rp X.K (bsOf X.ky x.1.isFr) x.2 H' v:=by
 by_cases q:x.1.isFr=true
 · rw[q];exact r.fr (rb.b0.trans rb.same) q
 · rw[show x.1.isFr=false by simpa using q];exact r.sh
theorem z3Q{x:Dv}{v:V}(rb:RepO X H₀ H O ρ σ)(sm:Same H H')(q:x.1.isNw=true)(r:RpF X.ky H x.1 x.2 H' v):Rp X.K (bsOf X.ky true) x.2 (hidL O.adr H') v :=
 Rp.anti rb.below _ (Zy rb.own sm q r)
end
abbrev FW:=List Dt->Dt->Option (List Dt)
def Ey(ρ:Rho)(i:Nat):Option (Bool×List Dt):=match ρ[i]? with|some (.ow f ds)=>some (f,ds)|_=>none
theorem FY{ρ:Rho}{i:Nat}{f:Bool}{ds:List Dt}(h:Ey ρ i=some (f,ds)):ρ[i]?=some (.ow f ds):=by
 unfold Ey at h;split at h
 · rename_i e;cases h;exact e
 · cases h
def sWr(w:FW)(i:Nat)(F:FE):FS:=λρ=>(Ey ρ i).bind λo=>(F (L0 ρ)).bind λx=>(w o.2 x.2).map λds => .nx (ρ.set i (.ow (o.1&&x.1.isFr) ds))
def sWrA(w:FW)(i:Nat)(F:FE):FS:=λρ=>(Ey ρ i).bind λo=>(F ρ).bind λx=>if x.1.isNw then(w o.2 x.2).map λds => .nx (ρ.set i (.ow o.1 ds)) else none
def wApp:FW:=λds d=>if ds.length<1000000 then some (ds++[d]) else none
def ID:FW:=λds d=>if ds.length<1000000 then some (d::ds) else none
def MtW(X:Cx)(id:String)(pre:List V)(w:FW):Prop:=∀(H:Hp) (B:Hp) (Hh:Hp) (l:Addr) (vs:List V) (y:V) (ds:List Dt) (d:Dt) (ds':List Dt) (Q:VK),H l=some (.lst vs)->Same Hh H->Rps X.K B ds Hh vs->Rp X.K B d Hh y->w ds d=some ds' ->
 (∀ vs',Rps X.K B ds' Hh vs'->Q .non (upd H l (.lst vs')))->∃ r,MtM X id r/\r (.ref l) (pre++[y]) H Q
theorem ZJ:MtW X "list.append" [] wApp:=λH B Hh l vs y ds d ds' Q hl sm rs r e k=>by
 unfold wApp at e;split at e
 · rename_i h;cases e;exact⟨_,Kz,l,vs,y,rfl,rfl,hl,by rw[rs.length];exact w0w h (by decide),k _ (rs.append (Rps.one r))⟩
 · cases e
theorem z3R:MtW X "list.insert" [.int 0] ID:=λH B Hh l vs y ds d ds' Q hl sm rs r e k=>by
 unfold ID at e;split at e
 · rename_i h;cases e;exact⟨_,Qi,l,vs,y,rfl,rfl,hl,by rw[rs.length];exact w0w h (by decide),k _ (Rps.cons_.mpr ⟨y,vs,rfl,r,rs⟩)⟩
 · cases e
section
variable {id:String}{w:FW}{x:Str}{name:Str}{e:Expr}{Fe:FE}{i:Nat}{px apos cpos pos:Pos}{pre:List V}
theorem s_wr1(hw:MtW X id [] w)(slot:Slot "list" name id)(hty:typeOf (.builtin id)=pure (.type "method_descriptor"))(hN:X.N[i]?=some x)(hv:Vis X.env.scope x)(he:PF X e Fe)(hd:(x==("__debug__" : Str))=false:=by decide)(hcd:(x==("__classdict__" : Str))=false:=by decide)
  (hbase:attributeBase (.Name x px) name X.env (eval (.Name x px) X.env)=eval (.Name x px) X.env:=by rfl)
  (hfew:((backTo cpos (starEach [e] X.env)).all (λx=>!x.1)&&(backToKw cpos (keywordEach [] X.env)).all (λx=>x.1.isSome)&&decide ([e].length+([]:List Keyword).length+(if([]:List Keyword).isEmpty then 0 else 1)<30))=true:=by rfl)
  (hline:(apos.endLine==cpos.line)=true:=by rfl) (hs:starEach [e] X.env=[(false,eval e X.env)]:=by rfl) (hsw:swapsWith (.Call (.Attribute (.Name x px) name apos) [e] [] cpos) none pos.line X.env=pure false:=by rfl) :
  PFS X (.Expr (.Call (.Attribute (.Name x px) name apos) [e] [] cpos) pos) (sWr w i Fe):=by
 intro π s σ H D I ⟨H₀,ρ,oc,⟨O,rb⟩,e0,k⟩;obtain⟨⟨f,ds⟩,e1,e2⟩:=i8 e0;obtain⟨z,e3,e4⟩:=i8 e2;cases hw':w ds z.2 with
 | none=>rw[hw']at e4;cases e4
 | some ds' =>
  rw[hw']at e4;cases e4;obtain⟨a,vs,q1,q2,q3,q4⟩:=rb.get (FY e1);have hm:MtM X id (λo us H' Q=>∃ y,o = .ref a/\us=[y]/\Same (hidL O.adr H) (hidL O.adr H')/\H' a=some (.lst vs)/\Rp X.K (bsOf X.ky z.1.isFr) z.2 (hidL O.adr H') y/\∀ vs',Rps X.K (bsOf X.ky (f&&z.1.isFr)) ds' (hidL O.adr H') vs'->Q .non (upd H' a (.lst vs'))):=by
   intro π s σ H' o us v vs2 Q I ro ru ⟨y,eo,eu,sm,ha,ry,kk⟩;subst eo;subst eu;obtain⟨r,hr,hq⟩:=hw H' (bsOf X.ky (f&&z.1.isFr)) (hidL O.adr H') a vs y ds z.2 ds' Q ha A8 (Rps.anti Wn _ (Rps.mono _ sm q4)) (Rp.anti Wo _ ry) hw' kk;exact hr π s σ H' _ _ v vs2 Q I ro ru hq
  refine Mv (pe_bm F.plainAttrs_list slot hty hm (Mu hN hv hd hcd) (PA.frame (j3 he i9 hs)) hbase hfew hline hs rfl) hsw π s σ H D I ⟨.ref a,q2,.inl ⟨rfl,vs,SqL.of q3⟩,O.adr,rb.own,L0 ρ,[z],rb.rest,by simp[f9,fNil,e3],?_⟩;rintro us H' sm ⟨y,r,eu,ry,er⟩ hn;have er:r=[]:=er;subst er;subst eu;have hg:hidL O.adr (F7 O.adr H H')=H':=X0 hn;refine⟨y,rfl,rfl,by rw[hg];exact sm,by rw[CY (Bg q1)];exact q3,by rw[hg];exact Og rb ry,λvs' rs'=>k _ _ ⟨O,?_⟩⟩;exact(rb.mono (Same.glue sm hn)).upd (FY e1) q1 rs'
theorem s_insA{j0:Nat}{p0:Pos}(hN:X.N[i]?=some x)(hv:Vis X.env.scope x)(he:PF X e Fe)(hd:(x==("__debug__" : Str))=false:=by decide)(hcd:(x==("__classdict__" : Str))=false:=by decide)
   (hbase:attributeBase (.Name x px) "insert" X.env (eval (.Name x px) X.env)=eval (.Name x px) X.env:=by rfl)
   (hfew:((backTo cpos (starEach [.Constant (.int 0) j0 p0,e] X.env)).all (λx=>!x.1)&&(backToKw cpos (keywordEach [] X.env)).all (λx=>x.1.isSome)&&decide ([Expr.Constant (.int 0) j0 p0,e].length+([]:List Keyword).length+(if([]:List Keyword).isEmpty then 0 else 1)<30))=true:=by rfl)
   (hline:(apos.endLine==cpos.line)=true:=by rfl) (hs:starEach [e] X.env=[(false,eval e X.env)]:=by rfl) (hs2:starEach [.Constant (.int 0) j0 p0,e] X.env=(false,eval (.Constant (.int 0) j0 p0) X.env)::starEach [e] X.env:=by rfl)
   (hsw:swapsWith (.Call (.Attribute (.Name x px) "insert" apos) [.Constant (.int 0) j0 p0,e] [] cpos) none pos.line X.env=pure false:=by rfl) :
   PFS X (.Expr (.Call (.Attribute (.Name x px) "insert" apos) [.Constant (.int 0) j0 p0,e] [] cpos) pos) (sWrA ID i Fe):=by
 intro π s σ H D I ⟨H₀,ρ,oc,⟨O,rb⟩,e0,k⟩;obtain⟨⟨f,ds⟩,e1,e2⟩:=i8 e0;obtain⟨z,e3,e5⟩:=i8 e2;split at e5
 · rename_i qn;cases hw':ID ds z.2 with
   | none=>rw[hw']at e5;cases e5
   | some ds' =>
    rw[hw']at e5;cases e5;obtain⟨a,vs,q1,q2,q3,q4⟩:=rb.get (FY e1);have hm:MtM X "list.insert" (λo us H' Q=>∃ y,o = .ref a/\us=[.int 0,y]/\Same H H'/\RpF X.ky H z.1 z.2 H' y/\∀ vs',Rps X.K (bsOf X.ky f) ds' (hidL O.adr H') vs'->Q .non (upd H' a (.lst vs'))):=by
     intro π s σ H' o us v vs2 Q I ro ru ⟨y,eo,eu,sm,ry,kk⟩;subst eo;subst eu;have r1:=z3Q rb sm qn ry;obtain⟨r,hr,hq⟩:=z3R (X:=X) H' (bsOf X.ky f) (hidL O.adr H') a vs y ds z.2 ds' Q (sm _ _ q3) A8 (Rps.mono _ (M3 sm) q4) (Rp.anti (by cases f<;>first|exact Same.refl _|exact Same.emp) _ r1) hw' kk;exact hr π s σ H' _ _ v vs2 Q I ro ru hq
    refine Mv (pe_bm F.plainAttrs_list F.slot_list_insert F.type_list_insert hm (Mu hN hv hd hcd) (j3 (j8 (X:=X)) (j3 he i9 hs) hs2) hbase hfew hline hs2 (by rw[hs];rfl)) hsw π s σ H D I ⟨.ref a,q2,.inl ⟨rfl,vs,SqL.of q3⟩,ρ,[(.nw,.int 0),z],rb.all,by simp[f9,fNil,fC,e3],?_⟩;rintro us H' sm ⟨y0,r0,eu0,ry0,y,r,eu,ry,er⟩;have er:r=[]:=er;subst er;subst eu;subst eu0;have e00:y0 = .int 0:=Rp.int_.mp ry0.sh;subst e00;exact⟨y,rfl,rfl,sm,ry,λvs' rs'=>k _ _ ⟨O,(rb.mono sm).upd (FY e1) q1 rs'⟩⟩
 · cases e5
end
def setD(ds:List Dt)(j:Int)(d:Dt):Option (List Dt):=(ixN ds.length j).map λk=>ds.set k d
def sPut(i:Nat)(Fj Fe:FE):FS:=λρ=>(Ey ρ i).bind λo=>(Fe (L0 ρ)).bind λx=>(Fj ρ).bind λj=>(intD j.2).bind λn=>(setD o.2 n x.2).map λds => .nx (ρ.set i (.ow (o.1&&x.1.isFr) ds))
section
variable {x:Str}{e j:Expr}{Fe Fj:FE}{i:Nat}{px spos pos:Pos}
theorem Wp(hN:X.N[i]?=some x)(hv:Vis X.env.scope x)(hj:PF X j Fj)(he:PF X e Fe)(hd:(x==("__debug__" : Str))=false:=by decide)(hcd:(x==("__classdict__" : Str))=false:=by decide)
  (ha:∀ v,assign (.Subscript (.Name x px) j spos) X.env v=(do
   let ov ←holding [v] (eval (.Name x px) X.env);let iv ←holding [v,ov] (eval j X.env)
   standAt spos
   holding [v,ov,iv] (setItem ov iv v)
   release [v,ov,iv] []):=by intro _;rfl)
  (hs:swapsWithSole [.Subscript (.Name x px) j spos] e pos.line X.env=pure false:=by rfl) (hw:swappedStores [.Subscript (.Name x px) j spos] e X.env=pure none:=by rfl)
  (h1:(assignEach [.Subscript (.Name x px) j spos] X.env).map (·.2)=[assign (.Subscript (.Name x px) j spos) X.env]:=by rfl) :
  PFS X (.Assign [.Subscript (.Name x px) j spos] e pos) (sPut i Fj Fe):=by
 intro π s σ H D I ⟨H₀,ρ,oc,⟨O,rb⟩,e0,k⟩;obtain⟨⟨f,ds⟩,e1,e2⟩:=i8 e0;obtain⟨z,e3,e4⟩:=i8 e2;obtain⟨⟨fj,dj⟩,e5,e6⟩:=i8 e4;obtain⟨n,e7,e8⟩:=i8 e6;obtain⟨a,vs,q1,q2,q3,q4⟩:=rb.get (FY e1);unfold setD at e8;cases hx:ixN ds.length n with
 | none=>rw[hx]at e8;cases e8
 | some m =>
  rw[hx]at e8;cases e8;refine ps_asg (PE.frame he) (pg_sub (Mu hN hv hd hcd) hj Ze ha) hs hw h1 π s σ H D I ⟨O.adr,rb.own,L0 ρ,z.1,z.2,rb.rest,e3,λv H' sm r hn=>?_⟩;have hg:hidL O.adr (F7 O.adr H H')=H':=X0 hn;have rb2:=rb.mono (Same.glue sm hn);refine⟨.ref a,q2,ρ,fj,dj,rb2.all,e5,λv2 H2 s2 r2=>?_⟩;have ed:=Db e7;have ed:dj = .int n:=ed;subst ed;have rv:Rp X.K (bsOf X.ky z.1.isFr) z.2 (hidL O.adr H2) v:=Rp.mono _ (by rw[←hg];exact M3 s2) (Og rb r);have ha2:H2 a=some (.lst vs):=s2 _ _ (by rw[CY (Bg q1)];exact q3);refine⟨a,vs,n,m,rfl,Rp.int_.mp r2.sh,ha2,by rw[q4.length];exact hx,k _ _ ⟨O,(rb2.mono s2).upd (FY e1) q1 ?_⟩⟩;exact Rps.set m (Rps.anti Wn _ (Rps.mono _ (M3 ((Same.glue sm hn).trans s2)) q4)) (Rp.anti Wo _ rv)
end
end
end L2

end
section
set_option maxHeartbeats 1000000
namespace L2
open PySem PySem.Spec PyProof.Rows
def upR(X:Cx)(F:FI):TI:=λσ H R=>∃ ρ items,RepS X.ky H ρ σ/\F ρ=some items/\∀ J H',Same H H'->items.length<=sizeLine->(∀ H2,Walk X.K J items H2)->R J H'
def PFR(X:Cx)(tg e:Expr)(F:FI):Prop:=PI X tg e (upR X F)
section
variable {X:Cx}{tg a b e:Expr}{Fa Fb Fe:FE}{pos:Pos}
theorem XU{p:Pos}(hg:Gl X "range")(hm:X.mg "range" = none)(ha:PF X a Fa)(hs:starEach [a] X.env=[(false,eval a X.env)]:=by rfl):PFR X tg (.Call (.Name "range" p) [a] [] pos) (m9 Fa) :=
 (Kr hg hm (AY ha Ik hs) hs).imp fun σ H R hZ=>hZ.elim fun ρ hZ=>hZ.elim fun items hZ=>hZ.elim fun rs hZ=>hZ.elim fun e0 k=>by
  obtain⟨⟨f,d⟩,e1,e2⟩:=i8 e0;obtain⟨j,e3,e4⟩:=i8 e2;clear e0 e2;have ed:=Db e3;cases (show d = .int j from ed);split at e4
  · rename_i hr;cases e4;obtain⟨h1,h2⟩:=MI hr;refine⟨ρ,f,_,rs,e1,λv H1 s1 r1=>⟨j,by rw[Rp.int_.mp r1.sh],by rfl',by rfl',k _ H1 s1 ?_ (λ_=>DQ)⟩⟩;rw[DR];have:sizeLine=16777216:=rfl;rfl'
  · cases e4
theorem XV{p:Pos}(hg:Gl X "range")(hm:X.mg "range" = none)(ha:PF X a Fa)(hb:PF X b Fb)(hs:starEach [a,b] X.env=[(false,eval a X.env),(false,eval b X.env)]:=by rfl)
  (hs1:starEach [b] X.env=[(false,eval b X.env)]:=by rfl):PFR X tg (.Call (.Name "range" p) [a,b] [] pos) (HN Fa Fb) :=
 (Xv hg hm (AY ha (AY hb Ik hs1) (by rw[hs,hs1])) hs hs1).imp fun σ H R hZ=>hZ.elim fun ρ hZ=>hZ.elim fun items hZ=>hZ.elim fun rs hZ=>hZ.elim fun e0 k=>by
  obtain⟨⟨f,d⟩,e1,e2⟩:=i8 e0;obtain⟨⟨f',d'⟩,e1',e2'⟩:=i8 e2;obtain⟨i,e3,e4⟩:=i8 e2';obtain⟨j,e5,e6⟩:=i8 e4;clear e0 e2 e2' e4;have ed:=Db e3;have ed':=Db e5;cases (show d = .int i from ed);cases (show d' = .int j from ed');split at e6
  · rename_i hr;rw[wN]at hr;cases e6;obtain⟨h1,h2⟩:=MI hr.1;obtain⟨h3,h4⟩:=MI hr.2;refine⟨ρ,f,_,rs,e1,λv H1 s1 r1=>⟨ρ,f',_,rs.mono s1,e1',λv' H2 s2 r2=>⟨i,j,by rw[Rp.int_.mp r1.sh,Rp.int_.mp r2.sh],⟨by rfl',by rfl',by rfl',by rfl'⟩,k _ H2 (s1.trans s2) ?_ (λ_=>DQ)⟩⟩⟩;rw[DR];have:sizeLine=16777216:=rfl;rfl'
  · cases e6
end
def Hk(Fi:FI)(g:Tg)(F:FS):FS:=λρ=>(Fi ρ).bind λitems=>forF g F items ρ
section
variable {X:Cx}{tg iter:Expr}{body:List Stmt}{Fi:FI}{g:Tg}{F:FS}{pos:Pos}
theorem ZK(hp:PassesOwn (model X.prog X.w) X.A X.env X.xe)(hc:X.calm=true)(hi:PFR X tg iter Fi)(hg:PG X tg (g.low X.K))(hb:PFSs X body F)
   (hs:∀ x,foldedSetIterable iter X.env x=pure x:=by intro _;rfl):PFS X (.For tg iter body [] pos) (Hk Fi g F):=(YW hp hc hi hg hb hs).imp λD σ H ⟨H₀,ρ,oc,⟨O,rb⟩,e0,k⟩=>by
 obtain⟨items,e1,e2⟩:=i8 e0;refine⟨ρ,items,rb.all,e1,λJ H1 sm hsz wk=>?_⟩;refine⟨λi m σ' H'=>m=items.length-i/\∃ ρ',RepB X H₀ H' ρ' σ'/\forF g F (items.drop i) ρ'=some oc,⟨_,rfl,_,⟨O,rb.mono sm⟩,e2⟩,?_⟩;rintro i m σ' H' ⟨rfl,ρ',⟨O2,r2⟩,f2⟩;obtain⟨w1,w2⟩:=wk (hidL O2.adr H') O2.adr H' (Same.refl _) λa ha=>by obtain⟨⟨vs,q⟩,_⟩:=r2.own a ha;exact⟨_,q⟩
 by_cases hlt:i<items.length
 · obtain⟨x,hx⟩:∃ x,items[i]?=some x:=⟨_,wa hlt⟩;have hdrop:items.drop i=x::items.drop (i+1):=by
    rw[uH hlt];rw[wa hlt]at hx;cases hx;rfl
   rw[hdrop]at f2;unfold forF at f2;obtain⟨ρ2,p1,f3⟩:=i8 f2;obtain⟨oc',p2,f4⟩:=i8 f3;obtain⟨go,yl⟩:=w1 i x hx;refine .inr ⟨go,λσ3 H3=>∃ ρ3,RepB X H₀ H3 ρ3 σ3/\forF g F (items.drop (i+1)) ρ3=some oc,λσ3 H3⟨ρ3,r3,f3⟩=>⟨items.length-(i+1),by rfl',rfl,ρ3,r3,f3⟩,λxv H3 y3=>?_⟩;obtain⟨s3,k3,r3⟩:=yl xv H3 y3;have sm3:Same H' H3:=λb o e=>by
    by_cases hb:b∈O2.adr
    · rw[k3 b hb];exact e
    · exact(Bc (s3 b o (by rw[u8 hb];exact e))).2
   refine Tg.low_mono (Tg.simO (r2.mono sm3) r3 p1) ?_;rintro σ4 H4 ⟨eH,O4,r4⟩;subst eH;refine⟨H₀,ρ2,oc',⟨O4,r4⟩,p2,?_⟩;cases oc' with
   | nx ρ5=>exact λσ5 H5 r5=>⟨ρ5,r5,f4⟩
   | ct ρ5=>exact λσ5 H5 r5=>⟨ρ5,r5,f4⟩
   | bk ρ5=>cases f4;exact k
   | rt f d=>cases f4;exact k
   | ex C=>cases f4;exact k
 · have hd:items.drop i=[]:=vC (by rfl');rw[hd]at f2;cases f2;exact .inl ⟨w2 i (by rfl'),k σ' H' ⟨O2,r2⟩⟩
end
section
variable {P:Program}{w:World}{K:aD}{mg:aE}{base:Heap}
theorem Fun.dat{x qual:Str}{st:Stmt}{f:Addr}{fd:FuncData}{N ps:List Str}{k np nn:Nat}{fr:Bool}{F:FS}(Fu:Fun K x qual st f fd)(S:FnScope N ps (i0 st))(hp:np=ps.length)(hn:nn=N.length)
  (body:∀(cdv:Value) (A:Around) (outer:List Env) (s:Shared) (H:Hp) (E:XK),Room k (A.deeper (envOfC qual (i0 st) s.heap.objs.size f cdv)) →
   PFSs (cxOf CX0 P w K mg base N qual (i0 st) f cdv A outer s H E).nox (K8 st) F):FnOk P w K mg base CX0 (k+1) f fd ps (spc K fr (cOf np nn fr F)):=by
 subst hp hn;exact Fun.data Fu S body
end
theorem p_cal{X:Cx}{e:Expr}{es:List Expr}{pos:Pos}{Fs:FA}{fr:Bool}{k k':Nat}{f:Addr}{fd:FuncData}{ps:List Str}{ct:FC}{x:Str}{st:Stmt}{p:Pos}(F:FnOk X.prog X.w X.K X.mg X.base CX0 k f fd ps (spc X.K fr ct))(D:Df X.K X.mg x st ps f fd)(hr:Room k' X.A)(hg:Gl X x)
  (ha:PFA X (e::es) Fs) (hle:k<=k':=by decide) (hdb:(x==("__debug__" : Str))=false:=by decide) (hst:starEach (e::es) X.env=(false,eval e X.env)::starEach es X.env:=by rfl) (hpl:(backTo pos (starEach es X.env)).any (·.1)=false:=by rfl):PF X (.Call (.Name x p) (e::es) [] pos) (i6 fr ct Fs) :=
 p_call F (hr.mono hle) hg D.mg D.fn.kp D.bd ha hdb hst hpl
def Dh(K:aD)(x:Str)(st:Stmt)(f:Addr):Prop:=∃(oc kV doc pm cdv ct:Value) (od an:Option Addr) (osl:Array (Option Value)),PySem.W.nsIn K mainGlobals x=some (some (.ref f))/\K.lookup f=some ⟨oc,od,.func (PySem.W.fnOf x x (T0 st) (K8 st) (i0 st) .none kV doc pm an cdv ct),osl⟩/\PySem.W.codeIn K cdv x=true/\PySem.W.keepIn K (.ref f)=true
theorem dh{K:aD}{x:Str}{st:Stmt}{f:Addr}{oc kV doc pm cdv ct:Value}{od an:Option Addr}{osl:Array (Option Value)}(e:PySem.W.nsIn K mainGlobals x=some (some (.ref f)))(l:K.lookup f=some ⟨oc,od,.func (PySem.W.fnOf x x (T0 st) (K8 st) (i0 st) .none kV doc pm an cdv ct),osl⟩)(c:PySem.W.codeIn K cdv x=true)(k:PySem.W.keepIn K (.ref f)=true):Dh K x st f:=⟨_,_,_,_,_,_,_,_,_,e,l,c,k⟩
theorem Dh.df{K:aD}{h:Heap}{mg:aE}(X:K.In h)(G:h.Ns mainGlobals mg){x:Str}{st:Stmt}{f:Addr}{ps:List Str}(d:Dh K x st f)
  (hb:∀(kV doc pm:Value) (an:Option Addr) (cdv ct:Value) (us:aF),us.length=ps.length->bindArgs (PySem.W.fnOf x x (T0 st) (K8 st) (i0 st) .none kV doc pm an cdv ct) ⟨us,[]⟩=pure (ps.zip us)) :
  ∃ fd,Df K mg x st ps f fd/\∀ us:aF,us.length=ps.length->bindArgs fd ⟨us,[]⟩=pure (ps.zip us):=by
 obtain⟨_,_,_,_,_,_,_,_,_,e,l,c,k⟩:=d;exact⟨_,df_mk X G e l c k hb,hb _ _ _ _ _ _⟩
theorem ndp(l:List Str)(h:l.Nodup:=by decide +kernel):l.Nodup:=h
theorem jlt(l:List Nat)(m:Nat)(h:∀ j∈l,j<m:=by decide):∀ j∈l,j<m:=h
theorem scm{N P:List Str}{sc:Scope}(kind:sc.kind = .function:=by rfl)(co:sc.isCoroutine=false:=by rfl)(gen:sc.isGenerator=false:=by rfl)(nd:N.Nodup:=by decide +kernel)(pre:N.take P.length=P:=by rfl)(par:∀ x∈P,sc.names.lookup x=some .local\/sc.names.lookup x=some .cell:=by decide +kernel)(nofree:∀ y∈sc.names,y.2 ≠ .free:=by decide +kernel):FnScope N P sc:=⟨kind,co,gen,nd,pre,par,nofree⟩
theorem ZM{Fi:FI}{g:Tg}{F:FS}{ρ:Rho}:Hk Fi g F ρ=(Fi ρ).bind λitems=>forF g F items ρ:=rfl
end L2

end
section
namespace L2
open PySem PySem.Spec PySem.W PyProof.Rows
section
variable {X:Cx}{C:Addr}{n:Nat}{e:Expr}{es:List Expr}{pos:Pos}{Fs:FA}{fr:Bool}{k k':Nat}{f:Addr}{fd:FuncData}{ps:List Str}{x:Str}{st:Stmt}{p:Pos}
abbrev FX:=List Dt->Option (Dt ⊕ Nat)
end
section
variable {P:Program}{w:World}{K:aD}{mg:aE}{base:Heap}
end
end L2

end
section
namespace L2
open PySem PySem.Spec PySem.W PyProof.Rows
section
variable {X:Cx}{π:aB}{σ:St}{H H1 H' H₀:Hp}{s s1:Shared}{ea C M:Addr}{E:aC}
end
section
variable {X:Cx}{C:Addr}{n:Nat}{e:Expr}{es:List Expr}{pos pos' tpos hpos np:Pos}{Fs:FA}{fr:Bool}{k k':Nat}{f:Addr}{fd:FuncData}{ps:List Str}{x y:Str}{st:Stmt}{p:Pos}{ct:FX}
end
section
variable {X:Cx}{H₀ H:Hp}{O:Own}{ρ:Rho}{σ:St}{π:aB}{s:Shared}{ea:Addr}
end
end L2

end
section
namespace L2
open PySem PySem.Spec PySem.W PyProof.Rows
section
variable {X:Cx}{C:Addr}{n:Nat}{e:Expr}{es:List Expr}{pos pos' tpos hpos np:Pos}{Fs:FA}{fr:Bool}{k k':Nat}{f:Addr}{fd:FuncData}{ps:List Str}{x y z:Str}{st:Stmt}{p:Pos}{ct:FX}
end
end L2

end
section
namespace L2
open PySem PySem.Spec PySem.W PyProof.Rows
abbrev FR:=Rho->Option Nat
section
variable {X:Cx}{e a b:Expr}{es:List Expr}{pos pos' p:Pos}{Fs:FA}{R:FR}{fr:Bool}{k k':Nat}{f:Addr}{fd:FuncData}{ps:List Str}{x:Str}{st:Stmt}{ct:FX}
end
end L2

end
section
namespace L2
open PySem PySem.Spec PyProof.Rows
section
variable {X:Cx}{x y:Str}{j j2:Expr}{Fj Fk:FE}{i iy:Nat}{px px2 spos spos2 pos pos':Pos}
end
end L2

end
section
namespace L2
open PySem PySem.Spec PyProof.Rows
theorem asn{X:Cx}{e:Expr}{Fe:FE}{pos pos':Pos}{x:Str}(i:Nat)(he:PF X e Fe)(hN:X.N.Nodup)(hi:X.N[i]?=some x:=by rfl)(hx:Loc X.env.scope x:=by exact Or.inl rfl)(hs:swapsWith e (some (.Name x pos')) pos.line X.env=pure false:=by rfl)(hf:X.fn x=true\/X.env.scope.names.lookup x=some .local:=by exact Or.inl rfl):PFS X (.Assign [.Name x pos'] e pos) (sSet [] i Fe):=E3 (rels:=[]) (r8 he hN hi hx hs hf)
section
variable {X:Cx}{e:Expr}{es:List Expr}{pos p:Pos}{Fs:FA}{r:FB}{x:Str}
theorem p_bu{id:String}(hc:BU X (.builtin id) r)(hm:X.mg x=none)(ha:PFA X (e::es) Fs)(hg:Gl X x:=by rfl)(hv:bootBuiltins x=some (.builtin id):=by decide +kernel)(hn:x ≠ "__name__" := by decide)(hdb:(x==("__debug__" : Str))=false:=by decide)(hst:starEach (e::es) X.env=(false,eval e X.env)::starEach es X.env:=by rfl)(hpl:(backTo pos (starEach es X.env)).any (·.1)=false:=by rfl):
 PF X (.Call (.Name x p) (e::es) [] pos) (fBlt r Fs):=z3L hc hg hm hv ha hn hdb hst hpl
theorem p_ty{T:String}(hc:BU X (.type T) r)(hm:X.mg x=none)(ha:PFA X (e::es) Fs)(hg:Gl X x:=by rfl)(hv:bootBuiltins x=some (.type T):=by decide +kernel)(hn:x ≠ "__name__" := by decide)(hdb:(x==("__debug__" : Str))=false:=by decide)(hst:starEach (e::es) X.env=(false,eval e X.env)::starEach es X.env:=by rfl)(hpl:(backTo pos (starEach es X.env)).any (·.1)=false:=by rfl):
 PF X (.Call (.Name x p) (e::es) [] pos) (fBlt r Fs):=Zu hc hg hm hv ha hn hdb hst hpl
theorem p_ca{fr:Bool}{k k':Nat}{f:Addr}{fd:FuncData}{ps:List Str}{ct:FC}{st:Stmt}(F:FnOk X.prog X.w X.K X.mg X.base CX0 k f fd ps (spc X.K fr ct))(D:Df X.K X.mg x st ps f fd)(hr:Room k' X.A)
  (ha:PFA X (e::es) Fs) (hg:Gl X x:=by rfl) (hle:k<=k':=by decide) (hdb:(x==("__debug__" : Str))=false:=by decide) (hst:starEach (e::es) X.env=(false,eval e X.env)::starEach es X.env:=by rfl) (hpl:(backTo pos (starEach es X.env)).any (·.1)=false:=by rfl):PF X (.Call (.Name x p) (e::es) [] pos) (i6 fr ct Fs) :=
 p_cal F D hr hg ha hle hdb hst hpl
end
section
variable {X:Cx}{a b:Expr}{Fa Fb:FE}{pos:Pos}{op:CmpOp}{r:FO}
theorem p_cm(ho:OpF X (compareOp op) r)(ha:PF X a Fa)(hb:PF X b Fb)(h:op ≠ .In:=by decide)(h2:op ≠ .NotIn:=by decide):PF X (.Compare a [op] [b] pos) (fOp r Fa Fb):=p_cmp ho ha hb (YX _ h h2)
theorem t_cm(ho:OpF X (compareOp op) r)(ha:PF X a Fa)(hb:PF X b Fb)(h:op ≠ .In:=by decide)(h2:op ≠ .NotIn:=by decide):PFT X (.Compare a [op] [b] pos) (u9 (fOp r Fa Fb)):=t_cmp ho ha hb (YX _ h h2)
end
section
variable {X:Cx}{scope:Scope}{x:Str}{tp pos:Pos}{elt iter:Expr}{Fi:FI}{Fe:FE}
theorem p_co(N:List Str)(nt:Nat)(js:List Nat)(XN:List Str)(xs:List (Str×NameKind))(hi:PFI X (.Name x tp) iter Fi)(he:∀ cl C fp s H,PF (C2 X N scope cl C fp s H) elt Fe)
  (h1:X.N=XN:=by rfl) (h2:X.env.scope.names=xs:=by rfl) (hk:scope.kind = .function:=by rfl) (c:ML XN xs scope N nt js=true:=by decide +kernel) (hc:X.calm=true:=by rfl) (nd:N.Nodup:=by decide +kernel) (h0:N[0]?=some x:=by rfl) (hl:∀ cl C fp s H,(C2 X N scope cl C fp s H).env.scope.names.lookup x=some .local:=by intro _ _ _ _ _;rfl) (hb:0<nt:=by decide) (hj:∀ j∈js,j<XN.length:=by decide)
  (hs:∀ x,foldedSetIterable iter X.env x=pure x:=by intro _;rfl):PF X (.ListComp elt [⟨.Name x tp,iter,[],0⟩] scope pos) (j9 nt js Fi (Tg.one 0) fYes Fe) :=
 O7 (i4 XN xs h1 h2 hk c) hc hi (λcl C fp s H=>R3 nd h0 (Or.inl (hl cl C fp s H)) (Or.inr (hl cl C fp s H))) hb (λ_ _ _ _ _=>O6) he (λj hj'=>by rw[h1];exact hj j hj') hs
theorem a_co{y:Str}{pos' spos:Pos}(i:Nat)(hN:X.N.Nodup)(N:List Str)(nt:Nat)(js:List Nat)(XN:List Str)(xs:List (Str×NameKind))(hi:PFI X (.Name x tp) iter Fi)(he:∀ cl C fp s H,PF (C2 X N scope cl C fp s H) elt Fe)
  (hix:X.N[i]?=some y:=by rfl) (hx:X.env.scope.names.lookup y=some .local:=by rfl) (hsw:swapsWith (.ListComp elt [⟨.Name x tp,iter,[],0⟩] scope pos) (some (.Name y pos')) spos.line X.env=pure true:=by rfl)
  (h1:X.N=XN:=by rfl) (h2:X.env.scope.names=xs:=by rfl) (hk:scope.kind = .function:=by rfl) (c:ML XN xs scope N nt js=true:=by decide +kernel) (hc:X.calm=true:=by rfl) (nd:N.Nodup:=by decide +kernel) (h0:N[0]?=some x:=by rfl) (hl:∀ cl C fp s H,(C2 X N scope cl C fp s H).env.scope.names.lookup x=some .local:=by intro _ _ _ _ _;rfl) (hb:0<nt:=by decide) (hj:∀ j∈js,j<XN.length:=by decide)
  (hs:∀ x,foldedSetIterable iter X.env x=pure x:=by intro _;rfl):AsgF X (.Assign [.Name y pos'] (.ListComp elt [⟨.Name x tp,iter,[],0⟩] scope pos) spos) i (j9 nt js Fi (Tg.one 0) fYes Fe) :=
 IA hN hix hx hsw (i4 XN xs h1 h2 hk c) hc hi (λcl C fp s H=>R3 nd h0 (Or.inl (hl cl C fp s H)) (Or.inr (hl cl C fp s H))) hb (λ_ _ _ _ _=>O6) he (λj hj'=>by rw[h1];exact hj j hj') hs
end
theorem p_i{X:Cx}{a b:Expr}{Fa Fb:FE}{pos:Pos}(ha:PF X a Fa)(hb:PF X b Fb)(hs:MA b:=by exact λ_ _=>rfl):PF X (.Subscript a b pos) (fAt Fa Fb):=p_ix ha hb hs
theorem Df.d{P:Program}{w:World}{K:aD}{mg:aE}{base:Heap}{x:Str}{st:Stmt}{f:Addr}{fd:FuncData}{N ps:List Str}{np nn:Nat}{fr:Bool}(D:Df K mg x st ps f fd)(k:Nat)(F:FS)(S:FnScope N ps (i0 st))
 (body:∀(cdv:Value) (A:Around) (outer:List Env) (s:Shared) (H:Hp) (E:XK),Room k (A.deeper (envOfC x (i0 st) s.heap.objs.size f cdv))→(A.deeper (envOfC x (i0 st) s.heap.objs.size f cdv)).units+64<cLine →
  PFSs (cxOf CX0 P w K mg base N x (i0 st) f cdv A outer s H E).nox (K8 st) F) (hp:np=ps.length:=by rfl) (hn:nn=N.length:=by rfl):FnOk P w K mg base CX0 (k+1) f fd ps (spc K fr (cOf np nn fr F)):=Fun.dat D.fn S hp hn λcdv A outer s H E hr=>body cdv A outer s H E hr hr.units
theorem q_n{X:Cx}{x:Str}{pos:Pos}{es:List Expr}{Fs:FA}(i:Nat)(hr:PFA X es Fs)(hN:X.N[i]?=some x:=by rfl)(hv:Vis X.env.scope x:=by first|exact Or.inl rfl|exact Or.inr (Or.inl rfl)|exact Or.inr (Or.inr rfl))(hd:(x==("__debug__" : Str))=false:=by decide)(hcd:(x==("__classdict__" : Str))=false:=by decide)(hs:starEach (.Name x pos::es) X.env=(false,eval (.Name x pos) X.env)::starEach es X.env:=by rfl):PFA X (.Name x pos::es) (f9 (fN i) Fs):=j3 (g6 i hN hv hd hcd) hr hs
end L2

end
section
namespace L2
open PySem PySem.Spec PyProof.Rows
def DJ:List Dt->Option (aH)
 | []=>some []
 | .int i::ds=>(DJ ds).map (i::·)
 | _::_=>none
theorem Oh:∀{ds:List Dt} {ns:aH},DJ ds=some ns->ds=ns.map Dt.int
 | [],ns,h=>by cases h;rfl
 | d::ds,ns,h=>by
  cases d with
  | int i =>
   unfold DJ at h;cases q:DJ ds with
   | none=>rw[q]at h;cases h
   | some ms=>rw[q]at h;cases h;rw[Oh q];rfl
  | _=>unfold DJ at h;cases h
theorem KO:∀ ns:aH,DJ (ns.map Dt.int)=some ns
 | []=>rfl
 | n::ns=>by rw[wo,DJ,KO ns];rfl
def opIn:FO:=λx y=>match x,y with
 | .int i,.lst ds=>(DJ ds).map λns=>(.nw,.bl (ns.any λy=>decide (y=i)))
 | _,_=>none
theorem o_in{X:Cx}:OpF X (compareOp .In) opIn:=by
 rintro π s σ H x y v u Q I r1 r2 ⟨d1,d2,f,d,q1,q2,e,k⟩;unfold opIn at e;split at e
 · rename_i i ds;cases q:DJ ds with
   | none=>rw[q]at e;cases e
   | some ns =>
    rw[q]at e;cases e;have ed:=Oh q;subst ed;have h1:=Rp.int_.mp q1;subst h1;obtain⟨a,vs,rfl,_,h3,h4⟩:=Rp.lst_.mp q2;have h5:=Rps.ints.mp h4;subst h5;have ev:∀ y:Int,eqV (.int y) (.int i)=decide (y=i):=λy=>by
     first
     | rfl
     | (unfold eqV;simp)
    have iv:inV (.int i) (ns.map V.int)=ns.any λy=>decide (y=i):=by
     unfold inV;rw[List.any_map];congr 1
    have fl:(ns.map V.int).all Eu=true:=by
     rw[List.all_map,uD];intro y _;rfl
    refine XA π s σ H _ _ v u Q I r1 r2 ⟨a,ns.map V.int,rfl,.inl (SqL.of h3),rfl,fl,?_⟩;rw[if_neg wL,iv];exact k _ H (Same.refl H) RpF.b_
 · cases e
end L2

end
section
local macro_rules|`(tactic|rfl')=>`(tactic|first|lia|omega +splitDisjunctions)
set_option maxHeartbeats 2000000
namespace L2
open PySem PySem.Spec PyProof.Rows
section
variable {α β:Type}
def insK(p:Int×α):List (Int×α)->List (Int×α)
 | []=>[p]
 | q::qs=>if p.1<=q.1 then p::q::qs else q::insK p qs
def T8:List (Int×α)->List (Int×α)
 | []=>[]
 | p::ps=>insK p (T8 ps)
theorem FZ(p:Int×α):∀ qs:List (Int×α),(insK p qs).Perm (p::qs)
 | []=>List.Perm.refl _
 | q::qs=>by
  unfold insK;split
  · exact List.Perm.refl _
  · exact((FZ p qs).cons q).trans (List.Perm.swap p q qs)
theorem O8:∀ ps:List (Int×α),(T8 ps).Perm ps
 | []=>List.Perm.refl _
 | p::ps=>(FZ p _).trans ((O8 ps).cons p)
abbrev Le(p q:Int×α):Prop:=p.1<=q.1
theorem Hl(p:Int×α):∀ qs:List (Int×α),qs.Pairwise Le->(insK p qs).Pairwise Le
 | [],_=>List.pairwise_singleton _ _
 | q::qs,h=>by
  obtain⟨h1,h2⟩:=vj.mp h;unfold insK;split
  · rename_i hle;exact vj.mpr ⟨λx hx=>by
      rcases ww.mp hx with rfl|hx
      · exact hle
      · exact Int.le_trans hle (h1 x hx),h⟩
  · rename_i hle;refine vj.mpr ⟨λx hx=>?_,Hl p qs h2⟩;rcases ww.mp ((FZ p qs).mem_iff.mp hx)with rfl|hx
    · show q.1<=x.1;rfl'
    · exact h1 x hx
theorem Bh:∀ ps:List (Int×α),(T8 ps).Pairwise Le
 | []=>List.Pairwise.nil
 | p::ps=>Hl p _ (Bh ps)
theorem Oi(g:α->β)(p:Int×α):∀ qs:List (Int×α),insK (p.1,g p.2) (qs.map λq=>(q.1,g q.2))=(insK p qs).map λq=>(q.1,g q.2)
 | []=>rfl
 | q::qs=>by
  rw[wo];unfold insK;by_cases h:p.1<=q.1
  · rw[if_pos h,if_pos h];rfl
  · rw[if_neg h,if_neg h,wo,Oi g p qs]
theorem De(g:α->β):∀ ps:List (Int×α),T8 (ps.map λq=>(q.1,g q.2))=(T8 ps).map λq=>(q.1,g q.2)
 | []=>rfl
 | p::ps=>by rw[wo,T8,T8,De g ps,Oi g p]
theorem IE:∀{xs ys:List (Int×α)},xs.Perm ys->xs.Pairwise Le->ys.Pairwise Le->(xs.map (·.1)).Nodup->xs=ys
 | [],ys,p,_,_,_=>(List.Perm.nil_eq p)
 | x::xs,[],p,_,_,_=>by have:=p.length_eq;simp at this
 | x::xs,y::ys,p,h1,h2,nd=>by
  obtain⟨a1,a2⟩:=vj.mp h1;obtain⟨b1,b2⟩:=vj.mp h2;have nd':(x.1::xs.map (·.1)).Nodup:=nd;obtain⟨n1,n2⟩:=vy.mp nd';have hx:x∈y::ys:=p.mem_iff.mp wf;have hy:y∈x::xs:=p.mem_iff.mpr wf
  have exy:x=y:=by
   rcases ww.mp hx with e|hx
   · exact e
   · rcases ww.mp hy with e|hy
     · exact e.symm
     · have l1:x.1<=y.1:=a1 y hy;have l2:y.1<=x.1:=b1 x hx;have e:x.1=y.1:=by rfl'
       exact absurd (wj.mpr ⟨y,hy,e.symm⟩) n1
  subst exy;rw[IE (p.cons_inv) a2 b2 n2]
end
section
variable {X:Cx}{π:aB}{σ:St}{H:Hp}{s:Shared}
theorem Inv.track{D:Addr}{its:aF}{ys:List V}{n:Nat}(I:Inv X π σ H s)(hD:H D=none)(f:FpOk X π H D)(hn:X.s₀.heap.objs.size<=D)(ho:s.heap.get? D=some { cls := .type "list",data := .seq its.toArray n })(hv:Vals ys its)(hz:ys.length<=sizeLine):
   Inv X π σ (upd H D (.lst ys)) s:=by
 obtain⟨f0,f1,f2,f3,f4,f5⟩:=f;have ne:∀ b o,X.s₀.heap.get? b=some o->b≠D:=λb o e z=>by
   subst z;exact absurd (wE (wy e) hn) (vx _)
 have nH:∀ b o,H b=some o->b≠D:=λb o e z=>by rw[z,hD]at e;cases e
 refine⟨I.ok,I.os,I.bare,⟨I.base.keep,I.base.slot,λb o e q hx=>?_,I.base.there,λb xs e=>?_,λb o u e=>?_,λb ps e=>?_⟩,I.loc,I.cell,?_,λx c e=>?_,λp hp=>?_,λa o e=>?_,I.len⟩
 · rw[z9 (ne b o e)];exact I.base.free b o e q hx
 · have:=I.base.tups b xs e;rw[z9 (nH b _ this)];exact this
 · have:=I.base.frzs b o u e;rw[z9 (nH b _ this)];exact this
 · obtain⟨more,this⟩:=I.base.tbls b ps e;exact⟨more,by rw[z9 (nH b _ this)];exact this⟩
 · rw[z9 (Ne.symm f1)];exact I.free
 · rw[z9 (f4 x c e)];exact I.freeC x c e
 · obtain⟨q1,q2,q3⟩:=I.pin p hp;exact⟨q1,by rw[z9 (f5 p hp)];exact q2,q3⟩
 · by_cases z:a=D
   · subst z;rw[D8]at e;cases e;exact⟨hz,its,n,hv,ho⟩
   · rw[z9 z]at e;refine(I.hok a o e).stay (λb u _ q=>q) (λb q=>?_) (λb xs q=>?_)
     · rw[z9 (nH b _ q)];exact q
     · rw[z9 (nH b _ q)];exact q
theorem ns_inj{h:Heap}{a:Addr}{m m':aE}(p:h.Ns a m)(q:h.Ns a m'):m=m':=by
 obtain⟨o,es,ep,e,d,_,f⟩:=p;obtain⟨o',es',ep',e',d',_,f'⟩:=q;rw[e]at e';cases e';rw[d]at d';cases d'
 funext x
 rw[←f x,←f' x]
def IF(base:Heap)(L a b:Addr)(h:Heap):aB:=(List.range h.objs.size).filterMap λc=>match h.get? c with
 | some o=>if base.get? c=none/\c≠L/\c≠a/\c≠b then some (c,o) else none
 | none=>none
theorem Qj{base:Heap}{L a b c:Addr}{h:Heap}{o:Obj}(e:h.get? c=some o)(h1:base.get? c=none)(h2:c≠L)(h3:c≠a)(h4:c≠b):(c,o)∈IF base L a b h :=
 vY.mpr ⟨c,wM.mpr (wy e),by rw[e];simp[h1,h2,h3,h4]⟩
theorem Gb{base:Heap}{L a b:Addr}{h:Heap}{p:Addr×Obj}(hp:p∈IF base L a b h):h.get? p.1=some p.2/\base.get? p.1=none/\p.1≠L/\p.1≠a/\p.1≠b:=by
 obtain⟨c,hc,e⟩:=vY.mp hp;cases q:h.get? c with
 | none=>rw[q]at e;cases e
 | some o =>
  rw[q]at e;dsimp only at e;split at e
  · rename_i hh;cases e;exact⟨q,hh⟩
  · cases e
theorem Inv.turnedN{h':Heap}{t':Nat}{ch:List Addr}{m:aE}(I:Inv X π σ H s)(hm:s.heap.Ns X.env.locals m)(hm':h'.Ns X.env.locals m)(hl:∃ o,h'.get? X.env.locals=some o)(k:∀ b o,b ∉ ch->b≠X.env.locals->s.heap.get? b=some o->h'.get? b=some o)(hc:∀ b∈ch,FpOk X π H b):
   Inv X π σ H { s with heap:=h',toks:=t' }:=by
 have nit:∀ b u,H b=some u->b ∉ ch:=λb u e z=>by rw[(hc b z).1]at e;cases e
 have nL:∀ b u,H b=some u->b≠X.env.locals:=λb u e z=>by rw[z,I.free]at e;cases e
 refine I.step (g':=s.gens) (d':=s.drawn) (ch:=ch) (λb hb=>?_) (λb o nl _ hn e _=>k b o hn nl e) (λb o nl _ hn e _=>⟨o.slots,k b o hn nl e⟩) (λ_ _ _ _ n=>n)
   (λb o hn e=>?_) (λ_ _ e=>e) (λ_ _ _ e=>e) (λb ps e=>⟨#[],by rw[e];simp⟩) (λm' hm2=>by rw[←ns_inj hm hm2];exact hm') (λb u e=>?_) I.bare
 · obtain⟨f0,f1,f2,f3,f4,f5⟩:=hc b hb;exact⟨f3,f1,f4,f5⟩
 · by_cases z:b=X.env.locals
   · subst z;exact hl
   · exact⟨o,k b o hn z e⟩
 · refine(I.hok b u e).stay (λc v hcc q=>k c v ?_ ?_ q) (λ_ q=>q) λ_ _ q=>q
   · rcases hcc with z|z
     · rw[z];exact nit b u e
     · exact nit c _ z
   · rcases hcc with z|z
     · rw[z];exact nL b u e
     · exact nL c _ z
end
def R6(c:FC):List Dt->Option (aH)
 | []=>some []
 | d::ds=>(c [d]).bind λr=>(intD r).bind λi=>(R6 c ds).map (i::·)
theorem DT{c:FC}:∀{ds:List Dt} {ks:aH},R6 c ds=some ks->ks.length=ds.length
 | [],ks,h=>by cases h;rfl
 | d::ds,ks,h=>by
  obtain⟨r,_,h⟩:=i8 h;obtain⟨i,_,h⟩:=i8 h;cases q:R6 c ds with
  | none=>rw[q]at h;cases h
  | some js=>rw[q]at h;cases h;rw[wu,wu,DT q]
theorem IG{c:FC}:∀{ds:List Dt} {ks:aH} {j:Nat} {d:Dt} {k:Int},R6 c ds=some ks->ds[j]?=some d->ks[j]?=some k->c [d]=some (.int k)
 | [],ks,j,d,k,h,e,_=>by simp at e
 | a::ds,ks,j,d,k,h,e,e'=>by
  obtain⟨r,h1,h⟩:=i8 h;obtain⟨i,h2,h⟩:=i8 h;cases q:R6 c ds with
  | none=>rw[q]at h;cases h
  | some js =>
   rw[q]at h;cases h;cases j with
   | zero =>
    simp at e e';subst e;subst e';rw[h1,Db h2]
   | succ j=>exact IG q (by simpa using e) (by simpa using e')
section
variable {X:Cx}{π:aB}{σ:St}{H:Hp}{s:Shared}{k:Nat}{f:Addr}{fd:FuncData}{p:Str}{fr:Bool}{ct:FC}{l:Addr}{vs:List V}{ds:List Dt}{ks:aH}{Q:VK}
theorem z3S{H1:Hp}{s1:Shared}{d:Dt}{v:V}{u:Value}{n:Int}(F:FnOk X.prog X.w X.K X.mg X.base CX0 k f fd [p] (spc X.K fr ct))(hr:Room (k+2) X.A)(hb:Binds X.K fd [p] [])(I:Inv X π σ H1 s1)(r:RelV v u)(rd:Rp X.K emp d H1 v)(hc:ct [d]=some (.int n))
  {P:aC} {E:aC} (q:∀ t H2 s2,Inv X π σ H2 s2->Same H1 H2->(∀ b o,s1.heap.get? b=some o->H1 b=none->b ∉ frs X.stack->s2.heap.get? b=some o/\H2 b=none)->P (.int n t) s2):wpAny (model X.prog X.w) X.A.in1.in1 (call (.ref f) [u]) P E s1:=by
 have hr2:Room k X.A.in1.in1:=(show Room (k+1+1) X.A from hr).in1.in1;refine wpAny_call (codeAny_mono (F.run X.A.in1.in1 X.stack s1 H1 ⟨[u],[]⟩ [u] [v] (λw H2=>w = .int n/\Same H1 H2) E0 hr2 I.env0.in1.in1 (hb s1 [u] I.kIn rfl) (.cons r .nil) ⟨[d],_,Rps.one rd,hc,λw H2 sm rw'=>⟨by cases fr<;>exact Rp.int_.mp rw',sm⟩⟩) λres s2 hres=>?_);cases res with
 | error e=>exact hres.elim
 | ok fl =>
  cases fl with
  | ret w =>
   obtain⟨x,H2,os,bare,un,hok,rw',ex,sm⟩:=hres;subst ex;obtain⟨t,rfl⟩:=rw';exact q t H2 s2 (I.call' (ch:=[]) os un hok bare λb hb=>absurd hb (by simp)) sm λb o e hn hf=>⟨un.keep b o e hn hf (by simp),un.free b o e hn (by simp)⟩
  | next=>exact hres.elim
  | brk=>exact hres.elim
  | cont=>exact hres.elim
theorem ZN(I:Inv X π σ H s){b:Addr}(hb:b∈frs X.stack):b<s.heap.objs.size:=by
 obtain⟨_,o,e,_⟩:=I.stack.mem hb;exact wy e
theorem XW{D kS:Addr}{e1:Nat}{its:List Value}{P:PySem.Fin→Shared→Prop}{E:Value→Shared→Prop}(F:FnOk X.prog X.w X.K X.mg X.base CX0 k f fd [p] (spc X.K fr ct))(hr:Room (k+2) X.A)(hb:Binds X.K fd [p] [])(I:Inv X π    σ H s)(rv:Vals vs its)(rs:Rps X.K emp ds H vs)(hk:R6 ct ds=some ks)(h64:ds.length<64)
  (hD:s.heap.get? D=some (seqObj "list" #[] e1)) (hS:s.heap.get? kS=some (seqObj "list" #[] 0)) (nDS:kS≠D) (fD:FpOk X π H D) (fS:FpOk X π H kS) (gD:D ∉ frs X.stack) (gS:kS ∉ frs X.stack) (sD:X.s₀.heap.objs.size<=D) (sS:X.s₀.heap.objs.size<=kS)
  (q:∀ H2 s2 (out:aF) c,Inv X π σ H2 s2->Same H H2->H2 D=none->s2.heap.get? D=some (seqObj "list" out.toArray c)->KskOut false ks its out->P (.done (.ret .none)) s2) :
  wpAny (model X.prog X.w) X.A.in1.in1 (ksk_rest D (.ref f) false its.toArray e1 (.ref kS)) P E s:=by
 have hlen:=DT hk;have l1:=rs.length;have l2:=rv.length;unfold ksk_rest;refine wpAny_bind (wpAny_rule ?_);rw[List.forIn_toArray];refine wpAny_bind (ksk_fold (λi s'=>∃ H1 kA e,Inv X π σ H1 s'/\Same H H1/\H1 D=none/\H1 kS=none/\s'.heap.get? D=some (seqObj "list" #[] e1)/\s'.heap.get? kS=some (seqObj "list" kA e)/\IntsAre kA.toList (ks.take i)) its 0 s
  ⟨H,#[],0,I,Same.refl H,fD.1,fS.1,hD,hS,by simpa using IntsAre.nil⟩ ?step ?done)
 case step =>
  rintro j u s' hu ⟨H1,kA,e,I1,sm,d1,d2,o1,o2,hka⟩;simp only[ul]at hka ⊢;have hj:j<its.length:=(vJ.mp hu).1;obtain⟨n,hn⟩:∃ n,ks[j]?=some n:=⟨_,wa (by rfl')⟩;obtain⟨d,hd⟩:∃ d,ds[j]?=some d:=⟨_,wa (by rfl')⟩;obtain⟨v,hv,rd⟩:=rs.get hd;obtain⟨u',hu',ru⟩:=rv.get hv;rw[hu]at hu';cases hu';have hz:kA.size<=its.length:=by
    have h1:=hka.length;rw[Array.length_toList,vA]at h1;rfl'
  refine wpAny_bind (wpAny_attempt (z3S F hr hb I1 ru (Rp.mono _ sm rd) (IG hk hd hn) λt H2 s2 I2 sm2 kk=>?_));obtain⟨p1,p2⟩:=kk D _ o1 d1 gD;obtain⟨p3,p4⟩:=kk kS _ o2 d2 gS
  try dsimp only
  have sb:=Heap.SameBut.update s2.heap kS (Obj.mapSeq (·.push (.int n t)));have g2:=get?_update_seq p3 (·.push (.int n t));have ek:ks.take (j+1)=ks.take j++[n]:=by rw[List.take_add_one,hn];simp
  have ea:(kA.push (Value.int n t)).toList=kA.toList++[Value.int n t]:=by simp
  refine wpAny_bind (listUpdate_at p3 rfl ?_ (by rw[sizeLine_eq];rfl') (wK (Nat.le_of_eq (Array.size_push ..)) (by rw[sizeLine_eq];rfl')));have fS2:FpOk X π H2 kS:=⟨p4,fS.2⟩;refine wpAny_pure ⟨rfl,H2,kA.push (.int n t),_,I2.turnedL (t':=s2.toks) (ch:=[kS]) (λb o hb e=>(sb.2 b (by simpa using hb)).trans e) (λb hb=>by rw[wV.mp hb];exact fS2),sm.trans sm2,p2,p4,(sb.2 D (Ne.symm nDS)).trans p1,g2,by rw[ea,ek];exact ksk_snoc hka⟩
 case done =>
  rintro s' ⟨H1,kA,e,I1,sm,d1,d2,o1,o2,hka⟩;have hk':IntsAre kA.toList ks:=by
    rw[vW (by rfl')]at hka;exact hka
  try dsimp only
  refine wpAny_bind (listItems_at o2 rfl ?_);obtain⟨m,hfr⟩:=I1.fr;have fD1:FpOk X π H1 D:=⟨d1,fD.2⟩;have fS1:FpOk X π H1 kS:=⟨d2,fS.2⟩;have bD:X.base.get? D=none:=uZ (wK I.ok.bsz sD);have bS:X.base.get? kS=none:=uZ (wK I.ok.bsz sS);refine ksk_end_ (e:=e) (news:=IF X.base X.env.locals kS D s'.heap) hfr (λz hz=>?_) nDS (λz hz=>(Gb hz).2.2.2.1) (λz hz=>(Gb hz).2.2.2.2) hk' (by rfl') (by rfl') λh' tk out c F' N' ko=>?_
  · rcases wx.mp hz with hz|hz
    · obtain⟨z1,z2,z3,_⟩:=Gb hz;exact⟨z1,z3,z2⟩
    · rcases ww.mp hz with rfl|hz
      · exact⟨o2,fS1.2.1,bS⟩
      · rw[wV.mp hz];exact⟨o1,fD1.2.1,bD⟩
  · have nd:=N' (D,seqObj "list" out c) wf;refine q H1 _ out.toList c (I1.turnedN (t':=tk) (ch:=[kS,D]) hfr.ns F'.ns (by obtain⟨o,_,_,e,_⟩:=F'.ns;exact⟨o,e⟩) (λb o hb hl eb=>?_) (λb hb=>?_)) sm d1 nd.1 ko
    · have hb2:b≠kS/\b≠D:=by simpa using hb
      cases z:X.base.get? b with
      | some o' =>
        have e2:=I1.bk b o' z;rw[eb]at e2;cases e2;exact F'.keep b _ z
      | none=>exact(N' _ (wc _ (Qj eb z hl hb2.1 hb2.2))).1
    · rcases ww.mp hb with rfl|hb
      · exact fS1
      · rw[wV.mp hb];exact fD1
theorem XX{D:Addr}{n0:Nat}{its:aF}{P:PySem.Fin->Shared->Prop}{E:aC}(F:FnOk X.prog X.w X.K X.mg X.base CX0 k f fd [p] (spc X.K fr ct))(hr:Room (k+2) X.A)(hb:Binds X.K fd [p] [])(I:Inv X π σ H s)(rv:Vals vs its)(rs:Rps X.K emp ds H vs)(hk:R6 ct ds=some ks)(h64:ds.length<64)
  (hD:s.heap.get? D=some (seqObj "list" its.toArray n0)) (fD:FpOk X π H D) (gD:D ∉ frs X.stack) (sD:X.s₀.heap.objs.size<=D)
  (q:∀ H2 s2 (out:aF) c,Inv X π σ H2 s2->Same H H2->H2 D=none->s2.heap.get? D=some (seqObj "list" out.toArray c)->KskOut false ks its out->P (.done (.ret .none)) s2) :
  wpAny (model X.prog X.w) X.A.in1.in1 (ksk_tree D (.ref f) false) P E s:=by
 have l1:=rs.length;have l2:=rv.length;have hlt:D<s.heap.objs.size:=wy hD;unfold ksk_tree;refine wpAny_bind (listItems_at hD rfl ?_);have sb:=Heap.SameBut.update s.heap D (Obj.mapSeq λ_=>(#[]:Array Value));have o1:=get?_update_seq hD λ_=>(#[]:Array Value);refine wpAny_bind (listUpdate_at hD rfl ?_ (by rw[wG,sizeLine_eq];rfl') (wU _));have I1:Inv X π σ H { s with heap:=s.heap.update D (Obj.mapSeq λ_=>(#[]:Array Value)) }:=I.turnedL (t':=s.toks) (ch:=[D]) (λb o hb e=>(sb.2 b (by simpa using hb)).trans e) (λb hb=>by rw[wV.mp hb];exact fD);refine wpAny_bind (seqEpoch_at o1 rfl ?_);refine wpAny_bind (wpAny_newTuple ?_ (by show its.length<=_;rw[sizeLine_eq];rfl'));refine wpAny_bind (wpAny_newList ?_ (wU _));refine wpAny_holding ?_;generalize hg:s.heap.update D (Obj.mapSeq λ_=>(#[]:Array Value))=g at *;have zg:g.objs.size=s.heap.objs.size:=sb.1;have I2:Inv X π σ H { s with heap:=(g.push (seqObj "tuple" its.toArray 0)).push (seqObj "list" #[] 0) }:=I1.kept (t':=s.toks) λb o e=>wm _ (wm _ e);have zk:(g.push (seqObj "tuple" its.toArray 0)).objs.size=g.objs.size+1:=size_push' _ _;have ge:s.heap.objs.size<=(g.push (seqObj "tuple" its.toArray 0)).objs.size:=by rfl'
 refine XW (s:={ s with heap:=(g.push (seqObj "tuple" its.toArray 0)).push (seqObj "list" #[] 0) }) (kS:=(g.push (seqObj "tuple" its.toArray 0)).objs.size) F hr hb I2 rv rs hk h64 (wm _ (wm _ o1)) (wF _ rfl) (uP (wE hlt ge)) fD (I.fpOk ge (I.hok.fresh ge)) gD (λz=>?_) sD (wK I.sz ge) q;exact absurd (wE (ZN I z) ge) (vx _)
theorem Qk(F:FnOk X.prog X.w X.K X.mg X.base CX0 k f fd [p] (spc X.K fr ct))(hr:Room (k+2) X.A)(hb:Binds X.K fd [p] [])(I:Inv X π σ H s)(hl:H l=some (.lst vs))(rs:Rps X.K emp ds H vs)(hk:R6 ct ds=some ks)(h64:ds.length<64)(nd:ks.Nodup)
  (q:∀ D H2 ys,Same H H2->H2 D=none->Rps X.K emp ((T8 (ks.zip ds)).map (·.2)) H2 ys->Q (.ref D) (upd H2 D (.lst ys))) :
  wpAny (model X.prog X.w) X.A (call (.builtin "sorted") [.ref l] [(Str.ofString "key",.ref f)]) (EP X π σ Q) X.xe s:=by
 obtain⟨its,rv,pl,hz⟩:=I.list (SqL.of (K:=X.K) hl);have l1:=rs.length;have l2:=rv.length;have l3:=DT hk;refine call_function_entry_kw kind_sorted plain_sorted entry_sorted (ksk_s1 _ _) ?_;unfold Builtin.«sorted»;refine wpAny_bind (m:=checkCount "sorted" 1 1 _) (wpAny_pure ?_);refine wpAny_bind (collect_list pl.isList ?_ (by rw[sizeLine_eq];rfl'));refine wpAny_bind (wpAny_newList ?_ (by rw[sizeLine_eq];rfl'));generalize hg:(s.heap.push (seqObj "list" #[] 0)).update s.heap.objs.size (Obj.mapSeq (·++its.toArray))=g;have zg:g.objs.size=s.heap.objs.size+1:=by rw[←hg,Heap.size_update,size_push']
 have kg:∀ b o,s.heap.get? b=some o->g.get? b=some o:=λb o e=>by
  have hlt:=wy e;rw[←hg,Heap.get?_update_ne _ _ _ _ (wY hlt),w0W _ _ _ (wY hlt)];exact e
 have I1:Inv X π σ H { s with heap:=g.push (seqObj "list" its.toArray 0) }:=I.kept (t':=s.toks) λb o e=>wm _ (kg b o e);have oD:(g.push (seqObj "list" its.toArray 0)).get? g.objs.size=some (seqObj "list" its.toArray 0):=wF _ rfl;have ge:s.heap.objs.size<=g.objs.size:=by rfl'
 refine wpAny_bind (wpAny_holding (wpAny_call_entry_kw slot_list_sort ⟨_,oD,rfl⟩ entry_list_sort ?body (ksk_l1 _ _)))
 case body =>
  show wpAny (model X.prog X.w) X.A.in1.in1 (Builtin.«list.sort» ⟨[.ref g.objs.size],[(Str.ofString "key",.ref f)]⟩) _ _ _;rw[ksk_t1];refine XX (s:={ s with heap:=g.push (seqObj "list" its.toArray 0) }) F hr hb I1 rv rs hk h64 oD (I.fpOk ge (I.hok.fresh ge)) (λz=>absurd (wE (ZN I z) ge) (vx _)) (wK I.sz ge) λH2 s2 out c I2 sm d2 o2 ⟨ps,pp,eo,so⟩=>⟨_,rfl,?_⟩;refine wpAny_pure ⟨_,rfl,?_⟩;have key:∃ ts:List (Int×(Dt×(V×Value))),(ts.map λt=>(t.1,t.2.2.2))=ps/\(ts.map λt=>(t.1,t.2.1))=T8 (ks.zip ds)/\∀ t∈ts,Rp X.K emp t.2.1 H t.2.2.1/\RelV t.2.2.1 t.2.2.2:=by
   refine⟨T8 (ks.zip (ds.zip (vs.zip its))),?_,?_,λt ht=>?_⟩
   · have e1:ks.zip its=(ks.zip (ds.zip (vs.zip its))).map λt=>(t.1,t.2.2.2):=by
      apply vM
      · simp;rfl'
      · intro i h1 h2;simp
     rw[←De (λz:Dt×(V×Value)=>z.2.2),←e1];refine IE ((O8 _).trans pp.symm) (Bh _) (so.imp λh=>by simpa using h) ?_;have:((T8 (ks.zip its)).map (·.1)).Perm ks:=((O8 (ks.zip its)).map _).trans (by rw[List.map_fst_zip (by rfl')]);exact this.nodup_iff.mpr nd
   · have e1:ks.zip ds=(ks.zip (ds.zip (vs.zip its))).map λt=>(t.1,t.2.1):=by
      apply vM
      · simp;rfl'
      · intro i h1 h2;simp
     rw[←De (λz:Dt×(V×Value)=>z.1),←e1]
   · have ht:=(O8 _).mem_iff.mp ht;obtain⟨i,hi,e⟩:=wH ht;simp at hi;subst e;simp only[List.getElem_zip];obtain⟨v,e1,r1⟩:=rs.get (i:=i) (wa (by rfl'));obtain⟨u,e2,r2⟩:=rv.get e1;rw[wa (by rfl')]at e1 e2;cases e1;cases e2;exact⟨r1,r2⟩
  obtain⟨ts,k1,k2,k3⟩:=key;have ev:Vals (ts.map λt=>t.2.2.1) out:=by
   rw[eo,←k1,wS];clear k1 k2 eo
   induction ts with
   | nil=>exact .nil
   | cons t ts ih=>exact .cons (k3 t wf).2 (ih λz hz=>k3 z (wc _ hz))
  have er:Rps X.K emp ((T8 (ks.zip ds)).map (·.2)) H (ts.map λt=>t.2.2.1):=by
   rw[←k2,wS];clear k1 k2 eo ev
   induction ts with
   | nil=>exact Rps.nil_.mpr rfl
   | cons t ts ih=>exact Rps.cons_.mpr ⟨_,_,rfl,(k3 t wf).1,ih λz hz=>k3 z (wc _ hz)⟩
  have lt:(ts.map λt=>t.2.2.1).length<=sizeLine:=by
   rw[wn,←wn (f:=λt:Int×(Dt×(V×Value))=>(t.1,t.2.1)),k2,(O8 _).length_eq,List.length_zip,sizeLine_eq];rfl'
  exact⟨.ref g.objs.size,_,I2.track d2 ⟨d2,(I.fpOk ge (I.hok.fresh (H:=H) ge)).2⟩ (wK I.sz ge) (by simpa using o2) ev lt,rfl,q _ _ _ sm d2 (Rps.mono _ sm er)⟩
end
section
variable {X:Cx}{a:Expr}{Fa:FE}{k:Nat}{f:Addr}{fd:FuncData}{prm:Str}{fr:Bool}{ct:FC}{x:Str}{p pos kp kpos:Pos}
def DU(c:FC)(F:FE):FE:=λρ=>(F ρ).bind λx=>(lstD x.2).bind λds=>(R6 c ds).bind λks=>if ds.length<64/\ks.Nodup then some (newL ((T8 (ks.zip ds)).map (·.2))) else none
theorem z3T(F:FnOk X.prog X.w X.K X.mg X.base CX0 k f fd [prm] (spc X.K fr ct))(hr:Room (k+2) X.A)(hg:Gl X "sorted")(hm:X.mg "sorted" = none)(hf:X.mg x=some (.ref f))(hgf:Gl X x)(hb:Binds X.K fd [prm] [])(ha:PF X a Fa)(hd:(x==("__debug__" : Str))=false:=by decide)(hs:starEach [a] X.env=[(false,eval a X.env)]:=by rfl):
   PF X (.Call (.Name "sorted" p) [a] [⟨some "key",.Name x kp,kpos⟩] pos) (DU ct Fa):=by
 intro π s σ H Q I ⟨ρ,fz,dz,rs,e0,kk⟩;obtain⟨⟨fa,da⟩,ea,e1⟩:=i8 e0;obtain⟨ds,ed,e2⟩:=i8 e1;obtain⟨ks,ek,e3⟩:=i8 e2;split at e3
 · rename_i hh;cases e3;have hA:PA X [a] (upAs X (f9 Fa fNil)):=j3 ha i9 hs;refine wpAny_Call_Name_kw (AW I hg hm (by decide +kernel:bootBuiltins "sorted" = some (.builtin "sorted")) ?_);refine PyProof.Rows.callWith_kw (thn (hA pos π s σ H (λvs H1=>Same H H1/\∃ va,vs=[va]/\Rp X.K emp da H1 va) I ⟨ρ,[(fa,da)],rs,by simp[f9,fNil,ea],λvs H1 s1 ⟨va,r1,ee1,q1,q3⟩=>⟨s1,va,by rw[ee1,show r1=[]from q3],q1.sh⟩⟩) λus s1 ⟨vs,H1,I1,rv,s1H,va,ev,ra⟩=>?_) (by rw[hs];rfl) (by rw[hs];rfl) rfl rfl;subst ev;obtain⟨ua,rfl,rua⟩:=rv.one;have hkw:=Wb (X:=X) (nm:=some "key") (kpos:=kpos) (VZ (v:=V.ref f) (pos:=kp) hgf hf rfl hd) Zc;refine thn (hkw pos π s1 σ H1 (λzs H2=>zs=[.ref f]/\H2=H1) I1 ⟨rfl,rfl⟩) ?_;rintro kvs s2 ⟨zs,H2,I2,rz,ez,eH⟩;subst ez;subst eH;obtain⟨uk,rfl,ruk⟩:=rz.one;cases ruk;have ex:∃ l vs,va = .ref l/\H2 l=some (.lst vs)/\Rps X.K emp ds H2 vs:=by
    cases da<;>first|cases ed|skip
    obtain⟨l,vs,e,_,h1,h2⟩:=ra.items;exact⟨l,vs,e,h1,h2⟩
   obtain⟨l,vs,rfl,h1,h2⟩:=ex;cases rua;refine Qk F hr hb I2 h1 h2 ek hh.1 hh.2 λD H3 ys sm d3 r3=>kk _ _ (s1H.trans (sm.trans (F8 d3))) ?_;exact(Ew d3 r3).early (s1H.trans sm)
 · cases e3
end
end L2

end
section
namespace L2
open PySem
abbrev L(ns:aH):Dt := .lst (ns.map .int)
abbrev T(ns:aH):Dt := .tup (ns.map .int)
theorem v6{α β:Type}{a:α}{f:α->Option β}:(some a).bind f=f a:=rfl
theorem Wq{α:Type}{xs:List α}{i:Int}(h0:0<=i):atI xs i=xs[i.toNat]?:=by
 unfold atI ixN;rw[if_pos h0];by_cases h:i<xs.length
 · rw[if_pos h];rfl
 · rw[if_neg h,wR (by rfl')];rfl
theorem atI_c0{α:Type}{x:α}{xs:List α}:atI (x::xs) 0=some x:=S9 (j:=0) rfl
theorem atI_c1{α:Type}{x y:α}{xs:List α}:atI (x::y::xs) 1=some y:=S9 (j:=1) rfl
theorem atI_c2{α:Type}{x y z:α}{xs:List α}:atI (x::y::z::xs) 2=some z:=S9 (j:=2) rfl
theorem X4:∀ ns:aH,J8 (ns.map Dt.int)=true
 | []=>rfl
 | n::ns=>by rw[wo,J8,X4 ns];rfl
theorem W1:∀(k:Nat) (ns:aH),oksN k (ns.map Dt.int)=true
 | k,[]=>by cases k<;>rfl
 | k,n::ns=>by rw[wo,oksN,W1 k ns];cases k<;>rfl
theorem Az:∀ ns:aH,pys (ns.map Dt.int)=ns.map PyData.int
 | []=>rfl
 | n::ns=>by rw[wo,pys,Az ns];rfl
theorem Z2:∀ ns ms:aH,PyData.eqvAll (ns.map PyData.int) (ms.map PyData.int)=decide (ns=ms)
 | [],[]=>by simp[PyData.eqvAll]
 | [],m::ms=>by simp[PyData.eqvAll]
 | n::ns,[]=>by simp[PyData.eqvAll]
 | n::ns,m::ms=>by
  rw[wo,wo,PyData.eqvAll,Z2 ns ms,PyData.eqv,w0B];simp
theorem XY(ns ms:aH):opEq (L ns) (L ms)=some (.nw,.bl (decide (ns=ms))):=by
 unfold opEq L;rw[Dt.okN,Dt.okN,W1,W1];unfold eqD;rw[Dt.py,Dt.py,Az,Az,PyData.eqv,Z2];rfl
theorem XZ(ns ms:aH):opNe (L ns) (L ms)=some (.nw,.bl (!decide (ns=ms))):=by
 unfold opNe L;rw[Dt.okN,Dt.okN,W1,W1];unfold eqD;rw[Dt.py,Dt.py,Az,Az,PyData.eqv,Z2];rfl
theorem z3U(ns:aH):(Dt.scr ns).okN 8=true:=by simp[Dt.okN]
theorem Oj(ns ms:aH):opEq (.scr ns) (L ms)=some (.nw,.bl (decide (ns=ms))):=by
 unfold opEq;rw[z3U];unfold L;rw[Dt.okN,W1];unfold eqD;rw[Dt.py,Dt.py,Az,PyData.eqv,Z2];rfl
theorem C7(i j:Int):opEq (.int i) (.int j)=some (.nw,.bl (decide (i=j))):=by
 unfold opEq eqD;rw[Dt.py,Dt.py,PyData.eqv,w0G];rfl
theorem D4(i j:Int):opNe (.int i) (.int j)=some (.nw,.bl (!decide (i=j))):=by
 unfold opNe eqD;rw[Dt.py,Dt.py,PyData.eqv,w0G];rfl
theorem Hm{i j:Int}(h:j.natAbs<2 ^ 64):D9 i j=true:=by unfold D9;rw[decide_eq_true h];simp
theorem Bi{i j:Int}(h:i.natAbs<2 ^ 64):D9 i j=true:=by unfold D9;rw[decide_eq_true h];simp
section
variable (i j:Int)
end
def v8(ns:aH)(k:Int):Int:=if k<ns.length then ns.getD k.toNat 0 else if ns=[] then 0 else ns.getD (k.fmod ns.length).toNat 0*31+k
end L2

end
section
namespace L2
open PySem
section
variable {α β γ:Type}{g:Tg}{Fc:FT}{Fe:FE}{ρ0:Rho}
theorem Gc(e:α->Dt)(h:α->Dv):∀(xs:List α),(∀ x∈xs,(g.put (e x) ρ0).bind Fe=some (h x))->Ce g fYes Fe ρ0 (xs.map e)=some (xs.map h)
 | [],_=>rfl
 | x::xs,q=>by
  have q1:=q x wf;have ih:=Gc e h xs λy hy=>q y (wc _ hy);rw[wo,Ce];cases p:g.put (e x) ρ0 with
  | none=>rw[p]at q1;cases q1
  | some ρ1 =>
   rw[p]at q1;have q1:Fe ρ1=some (h x):=q1;simp[fYes,q1,ih]
theorem Ez(e:α->Dt)(h:α->Dv)(p:α->Bool):∀(xs:List α),(∀ x∈xs,(g.put (e x) ρ0).bind Fc=some (p x))->(∀ x∈xs,p x=true->(g.put (e x) ρ0).bind Fe=some (h x))->Ce g Fc Fe ρ0 (xs.map e)=some ((xs.filter p).map h)
 | [],_,_=>rfl
 | x::xs,q,q'=>by
  have q1:=q x wf;have q2:=q' x wf;have ih:=Ez e h p xs (λy hy=>q y (wc _ hy)) (λy hy=>q' y (wc _ hy));rw[wo,Ce];cases z:g.put (e x) ρ0 with
  | none=>rw[z]at q1;cases q1
  | some ρ1 =>
   rw[z]at q1 q2;have q1:Fc ρ1=some (p x):=q1;cases w:p x with
   | true =>
    have q2:Fe ρ1=some (h x):=q2 w;simp[q1,w,q2,ih]
   | false=>simp[q1,w,ih]
theorem EA(h:α->Dv):∀ xs:List α,sndL (xs.map h)=xs.map λx=>(h x).2
 | []=>rfl
 | x::xs=>by rw[wo,sndL,EA h xs];rfl
theorem Ge{h:α->Dv}:∀{xs:List α},(∀ x∈xs,(h x).1.isFr=true)->V0 (xs.map h)=true
 | [],_=>rfl
 | x::xs,q=>by rw[wo,V0,q x wf,Ge λy hy=>q y (wc _ hy)];rfl
theorem m6{nt:Nat}{js:List Nat}{Fi:FI}{ρ:Rho}{e:α->Dt}{h:α->Dt}{xs:List α}(hi:Fi ρ=some (xs.map e))(q:∀ x∈xs,(g.put (e x) (sigD nt js ρ)).bind Fe=some (.nw,h x)):j9 nt js Fi g fYes Fe ρ=some (.nw,.lst (xs.map h)):=by
 unfold j9;rw[hi,v6,Gc e (λx=>(.nw,h x)) xs q,v6,Ge (λx _=>rfl),EA];rfl
theorem Bj{nt:Nat}{js:List Nat}{Fi:FI}{ρ:Rho}{e:α->Dt}{h:α->Dt}{p:α->Bool}{xs:List α}(hi:Fi ρ=some (xs.map e))(q:∀ x∈xs,(g.put (e x) (sigD nt js ρ)).bind Fc=some (p x))(q':∀ x∈xs,p x=true->(g.put (e x) (sigD nt js ρ)).bind Fe=some (.nw,h x)):
  j9 nt js Fi g Fc Fe ρ=some (.nw,.lst ((xs.filter p).map h)):=by
 unfold j9;rw[hi,v6,Ez e (λx=>(.nw,h x)) p xs q q',v6,Ge (λx _=>rfl),EA];rfl
theorem II{nt:Nat}{js:List Nat}{Fi:FI}{ρ:Rho}{e:α->Dt}{h:α->Dv}{xs:List α}(hi:Fi ρ=some (xs.map e))(q:∀ x∈xs,(g.put (e x) (sigD nt js ρ)).bind Fe=some (h x)):j9 nt js Fi g fYes Fe ρ=some (if V0 (xs.map h) then .nw else .tn,.lst (xs.map λx=>(h x).2)):=by
 unfold j9;rw[hi,v6,Gc e h xs q,v6,EA]
variable {F:FS}
def nextO(G:FS):Oc->Option Oc
 | .nx ρ=>G ρ
 | .ct ρ=>G ρ
 | .bk ρ=>some (.nx ρ)
 | .rt f d=>some (.rt f d)
 | .ex C=>some (.ex C)
theorem ZO{ρ:Rho}:forF g F [] ρ=some (.nx ρ):=rfl
theorem F9{x:Dt}{xs:List Dt}{ρ:Rho}:forF g F (x::xs) ρ=((g.put x ρ).bind F).bind (nextO (forF g F xs)):=by
 rw[forF];cases g.put x ρ with
 | none=>rfl
 | some ρ1 =>
  show(F ρ1).bind _=(F ρ1).bind _;congr 1
  first|done|(funext oc;cases oc<;>rfl)
theorem Gf(e:α->Dt)(R:β->γ->Rho)(step:β->α->β):∀(xs:List α) (b:β) (j:γ),(∀ b x j,x∈xs->∃ j',(g.put (e x) (R b j)).bind F=some (.nx (R (step b x) j')))->∃ j',forF g F (xs.map e) (R b j)=some (.nx (R (xs.foldl step b) j'))
 | [],b,j,_=>⟨j,rfl⟩
 | x::xs,b,j,h=>by
  obtain⟨j1,h1⟩:=h b x j wf;obtain⟨j2,h2⟩:=Gf e R step xs (step b x) j1 λb y j hy=>h b y j (wc _ hy);refine⟨j2,?_⟩;rw[wo,F9,h1];exact h2
theorem DV(e:α->Dt)(R:β->γ->Rho)(step:β->α->β)(P:β->Prop):∀(xs:List α) (b:β) (j:γ),P b->(∀ b x j,x∈xs->P b->P (step b x)/\∃ j',(g.put (e x) (R b j)).bind F=some (.nx (R (step b x) j')))->P (xs.foldl step b)/\∃ j',forF g F (xs.map e) (R b j)=some (.nx (R (xs.foldl step b) j'))
 | [],b,j,p,_=>⟨p,j,rfl⟩
 | x::xs,b,j,p,h=>by
  obtain⟨p1,j1,h1⟩:=h b x j wf p;obtain⟨p2,j2,h2⟩:=DV e R step P xs (step b x) j1 p1 λb y j hy=>h b y j (wc _ hy);refine⟨p2,j2,?_⟩;rw[wo,F9,h1];exact h2
end
abbrev LL(rows:aA):Dt := .lst (rows.map L)
abbrev TTu(rows:aA):Dt := .tup (rows.map T)
abbrev v5(k:Int)(bills:aA):Dt := .tup [.int k,TTu bills]
theorem ZP(ns:aH):(T ns).flat=true:=by show J8 _=true;exact X4 ns
theorem Gg:∀ rows:aA,J8 (rows.map T)=true
 | []=>rfl
 | r::rows=>by rw[wo,J8,ZP,Gg rows];rfl
theorem z3V(f:Fl)(i:Int):nrm f (.int i)=(.nw,.int i):=rfl
theorem nrm_T(f:Fl)(ns:aH):nrm f (T ns)=(.nw,T ns):=by unfold nrm;rw[ZP];rfl
theorem ZQ(ns:aH):lfl (ns.map .int) = .nw:=by unfold lfl;rw[X4];rfl
theorem R7(ns:aH):newL (ns.map .int)=(.nw,L ns):=by unfold newL;rw[ZQ]
theorem Dg{α:Type}(h:α->Bool):∀ xs:List α,DI (xs.map λx => .bl (h x))=some (xs.map h)
 | []=>rfl
 | x::xs=>by rw[wo,DI,Dg h xs];rfl
theorem Hn:∀ xs:aH,Bf (xs.map .int)=some xs
 | []=>rfl
 | x::xs=>by rw[wo,Bf,Hn xs];rfl
theorem T9{α β:Type}(e:α->Dt)(f:β->Dt):∀(xs:List α) (ys:List β),zipD (xs.map e) (ys.map f)=(xs.zip ys).map λp => .tup [e p.1,f p.2]
 | [],ys=>by simp[zipD]
 | x::xs,[]=>by simp[zipD]
 | x::xs,y::ys=>by rw[wo,wo,zipD,T9 e f xs ys];rfl
theorem v7(lo:Int)(n:Nat):Q0 lo n=(List.range n).map λ(k:Nat) => .int (lo+(k:Int)):=rfl
theorem C4(c:Int){m:Int}(h:0<m):0<=c.fmod m/\c.fmod m<m:=⟨vp c h,vG c h⟩
def Ch(c m:Int):Int :=
 if m=2 then(if((c.fdiv (10 ^ 30)).fmod 2)=1 then -(c.fmod (10 ^ 30)) else c.fmod (10 ^ 30))
 else
  let wide:Int:=if m=0 then 9 else 61
  let n:=c.fmod wide
  if wide.fdiv 2<n then n-wide else n
theorem ZR(c m:Int):(Ch c m).natAbs<10 ^ 30:=by
 unfold Ch;have a1:=vp c (show(0:Int)<10 ^ 30 by decide);have a2:=vG c (show(0:Int)<10 ^ 30 by decide);dsimp only;split
 · split<;>rfl'
 · have hw:(if m=0 then(9:Int) else 61)=9\/(if m=0 then(9:Int) else 61)=61:=by split<;>simp
   generalize (if m=0 then(9:Int) else 61)=wide at *;have b1:=vp c (show(0:Int)<wide by rfl');have b2:=vG c (show(0:Int)<wide by rfl');split<;>rfl'
theorem Ol(c m:Int)(h:m=0):(Ch c m).natAbs<=4:=by
 subst h;unfold Ch;have b1:=vp c (show(0:Int)<9 by decide);have b2:=vG c (show(0:Int)<9 by decide);simp;split<;>rfl'
theorem Yb(c m:Int)(h:m=1):(Ch c m).natAbs<=30:=by
 subst h;unfold Ch;have b1:=vp c (show(0:Int)<61 by decide);have b2:=vG c (show(0:Int)<61 by decide);simp;split<;>rfl'
def Z3(ns:aH)(at_:Int)(n:Nat)(m:Int):aH:=(List.range n).map λ(k:Nat)=>Ch (v8 ns (at_+(k:Int))) m
theorem Gh(ns:aH)(a:Int)(n:Nat)(m:Int):(Z3 ns a n m).length=n:=by unfold Z3;simp
def D5(ns:aH):Int:=if(v8 ns 3).fmod 7=6 then 0 else if(v8 ns 2).fmod 5<3 then 0 else if(v8 ns 2).fmod 5=3 then 1 else 2
def Ci(ns:aH):Int:=if(v8 ns 3).fmod 7=6 then 6 else 1+(v8 ns 0).fmod 4
def IJ(ns:aH):Int:=if(v8 ns 3).fmod 7=6 then 8 else(v8 ns 1).fmod 5
def E2(ns:aH):Nat:=(if D5 ns=2 then 1+(Ci ns).fmod 2 else Ci ns).toNat
def Ai(ns:aH):Nat:=(if D5 ns=2 then(IJ ns).fmod 4 else IJ ns).toNat
def M5(ns:aH):aA:=(List.range (Ai ns)).map λ(k:Nat)=>Z3 ns (8+(E2 ns:Int)*(k:Int)) (E2 ns) (D5 ns)
theorem DW(ns:aH):1<=E2 ns/\E2 ns<=6:=by
 have h1:=C4 (v8 ns 0) (show(0:Int)<4 by decide);have h2:=C4 (Ci ns) (show(0:Int)<2 by decide);unfold E2;split
 · rfl'
 · unfold Ci;split<;>rfl'
theorem KP(ns:aH):Ai ns<=8:=by
 have h1:=C4 (v8 ns 1) (show(0:Int)<5 by decide);have h2:=C4 (IJ ns) (show(0:Int)<4 by decide);unfold Ai;split
 · rfl'
 · unfold IJ;split<;>rfl'
theorem Bk(ns:aH):D5 ns=0\/D5 ns=1\/D5 ns=2:=by
 unfold D5;split
 · simp
 · split
   · simp
   · split<;>simp
end L2

end
section
local macro_rules|`(tactic|rfl')=>`(tactic|first|lia|omega +splitDisjunctions)
namespace L2
open PySem
def addR(a b:aH):aH:=List.zipWith (·+·) a b
def subR(a b:aH):aH:=List.zipWith (· - ·) a b
def sclR(k:Int)(a:aH):aH:=a.map (k*·)
def n8(n:Nat):aH:=List.replicate n 0
def mixR(n:Nat)(rows:aA)(cs:aH):aH:=(rows.zip cs).foldl (λt p=>addR t (sclR p.2 p.1)) (n8 n)
def isWh:Dt->Bool
 | .int _=>true
 | _=>false
theorem X5{a b:aH}(h:a.length=b.length):(addR a b).length=a.length:=by unfold addR;rw[vI];rfl'
theorem Om{a b:aH}(h:a.length=b.length):(subR a b).length=a.length:=by unfold subR;rw[vI];rfl'
theorem A3{k:Int}{a:aH}:(sclR k a).length=a.length:=by unfold sclR;simp
theorem B3{n:Nat}:(n8 n).length=n:=by unfold n8;simp
theorem X6{i j:Int}{p q:Nat}(h1:i.natAbs<2 ^ p)(h2:j.natAbs<2 ^ q)(h:p+q<=134217728):D9 i j=true:=by
 unfold D9;have a:=MF h1;have b:=MF h2;rw[decide_eq_true (show Builtin.Int.intBits i+Builtin.Int.intBits j<=134217728 by rfl')];rfl
theorem lt30{i:Int}(h:i.natAbs<10 ^ 30):i.natAbs<2 ^ 100:=wE h (by decide)
theorem ZS(a b:aH):(a.zip b).map (λp=>Dt.int (p.1+p.2))=(addR a b).map .int:=by
 unfold addR;rw[List.zip,]
 induction a generalizing b with
 | nil=>rfl
 | cons x a ih=>cases b with
  | nil=>rfl
  | cons y b=>have:=ih b;simp[List.zipWith]
theorem Yc(a b:aH):(a.zip b).map (λp=>Dt.int (p.1-p.2))=(subR a b).map .int:=by
 unfold subR;rw[List.zip,]
 induction a generalizing b with
 | nil=>rfl
 | cons x a ih=>cases b with
  | nil=>rfl
  | cons y b=>have:=ih b;simp[List.zipWith]
theorem X7{α β:Type}(g:α->β)(xs:List α)(i:Int):atI (xs.map g) i=(atI xs i).map g:=by
 unfold atI;rw[wn];cases ixN xs.length i with
 | none=>rfl
 | some j=>show(xs.map g)[j]?=_;rw[wv];rfl
theorem ZT{α:Type}{xs:List α}{i:Nat}(h:i<xs.length):atI xs (i:Int)=some xs[i]:=S9 (wa h)
def Wide(n:Nat)(rows:aA):Prop:=∀ r∈rows,r.length=n
theorem Oo{n:Nat}:∀(ps:List (aH×Int)) (t:aH),t.length=n->(∀ p∈ps,p.1.length=n)->(ps.foldl (λt p=>addR t (sclR p.2 p.1)) t).length=n
 | [],t,h,_=>h
 | p::ps,t,h,q=>Oo ps _ (by rw[X5 (by rw[h,A3,q p wf])];exact h) λp hp=>q p (wc _ hp)
theorem EB{n:Nat}{rows:aA}{cs:aH}(h:Wide n rows):(mixR n rows cs).length=n :=
 Oo _ _ B3 λp hp=>h _ (vz hp).1
theorem Yd(a b:aH)(h:a.length=b.length)(f:Int->Int->Int):(List.range a.length).map (λk=>f (a.getD k 0) (b.getD k 0))=List.zipWith f a b:=by
 apply vM
 · simp;rfl'
 · intro i h1 h2;simp at h1;simp[List.getD,wa h1,wa (show i<b.length by rfl')]
theorem ZU(d:Dt):nrm .nw d=(.nw,d):=by unfold nrm;split<;>rfl
theorem run{F G:FS}{ρ ρ':Rho}{r:Option Oc}(h:F ρ=some (.nx ρ'))(k:G ρ'=r):sSeq F G ρ=r:=by
 unfold sSeq;rw[h];exact k
theorem T2{np n:Nat}{fr:Bool}{F:FS}{ds:List Dt}{f:Fl}{d:Dt}(hl:ds.length=np)(h:F (rho0 n ds)=some (.rt f d))(hf:(f.isFr||d.flat)=true):cOf np n fr F ds=some d:=by
 unfold cOf;rw[if_pos hl,h];show(if(fr&&!(f.isFr||d.flat))=true then none else some d)=some d;rw[hf];cases fr<;>rfl
theorem Bl{n:Nat}(h:n<=1000000):V1 (n:Int)=true:=by
 unfold V1;rw[decide_eq_true (show -1000000<=(n:Int) by rfl'),decide_eq_true (show(n:Int)<=1000000 by rfl')];rfl
theorem Ye(rows:aA)(cs:aH)(h:rows.length=cs.length):(List.range rows.length).map (λj=>(rows.getD j [],cs.getD j 0))=rows.zip cs:=by
 apply vM
 · simp;rfl'
 · intro i h1 h2;simp at h1;simp[List.getD,wa h1,wa (show i<cs.length by rfl')]
theorem Ql(n:Nat)(rows:aA)(cs:aH)(h:rows.length=cs.length):(List.range rows.length).foldl (λt j=>addR t (sclR (cs.getD j 0) (rows.getD j []))) (n8 n)=mixR n rows cs:=by
 unfold mixR;rw[←Ye rows cs h,w1s]
theorem ZV(a b:aH)(k:Int)(h:a.length=b.length):(List.range a.length).map (λi=>a.getD i 0+k*b.getD i 0)=addR a (sclR k b):=by
 unfold addR sclR;rw[w0x];exact Yd a b h λx y=>x+k*y
theorem ZW(f:Nat->Int)(n:Nat):(List.range n).map (λk=>Dt.int (f k))=((List.range n).map f).map .int:=by rw[wS];rfl
theorem EC{α:Type}{xs:List α}{i:Nat}(d:α)(h:i<xs.length):xs.getD i d∈xs:=by
 simp[List.getD,wa h]
theorem L1{α:Type}{xs:List α}{i:Nat}(d:α)(h:i<xs.length):atI xs (i:Int)=some (xs.getD i d):=by
 rw[ZT h];simp[List.getD,wa h]
theorem Op(ns:aH)(a:Int)(n:Nat)(m:Int):∀ x∈Z3 ns a n m,x.natAbs<10 ^ 30:=λx hx=>by
 unfold Z3 at hx;obtain⟨k,_,rfl⟩:=wj.mp hx;exact ZR _ _
theorem MM(ns:aH):Wide (E2 ns) (M5 ns):=λr hr=>by
 unfold M5 at hr;obtain⟨k,_,rfl⟩:=wj.mp hr;exact Gh _ _ _ _
theorem Qm(ns:aH):∀ r∈M5 ns,∀ x∈r,x.natAbs<10 ^ 30:=λr hr=>by
 unfold M5 at hr;obtain⟨k,_,rfl⟩:=wj.mp hr;exact Op _ _ _ _
theorem Oq(ns:aH):(M5 ns).length=Ai ns:=by unfold M5;simp
end L2

end
section
namespace L2
open PySem
@[simp] theorem x0:∀(n:Nat) (ds:List Dt),rho0 n ds=List.map (Cell.sh false) ds++List.replicate (n-List.length ds) Cell.no:=by intros;rfl
@[simp] theorem x1:∀(F G:FS) (ρ:Rho),sSeq F G ρ=Option.bind (F ρ) (seqO G):=by intros;rfl
@[simp] theorem x2:∀(G:FS) (ρ:Rho),seqO G (Oc.nx ρ)=G ρ:=by intros;rfl
@[simp] theorem x3:∀(G:FS) (x:Oc),(∀(ρ:Rho),x=Oc.nx ρ->False)->seqO G x=some x:=by exact @L2.seqO.eq_2
@[simp] theorem x4:∀(c:FT) (F G:FS) (ρ:Rho),sIf c F G ρ=Option.bind (c ρ) λb=>if b=true then F ρ else G ρ:=by intros;rfl
@[simp] theorem x5:∀(F:FE) (ρ:Rho),u9 F ρ=Option.bind (F ρ) λx=>blD (Prod.snd x):=by intros;rfl
@[simp] theorem x6:∀(r:FO) (Fa Fb:FE) (ρ:Rho),
 fOp r Fa Fb ρ=Option.bind (Fa ρ) λx=>Option.bind (Fb ρ) λy=>r (Prod.snd x) (Prod.snd y):=by intros;rfl
@[simp] theorem x7:∀(i:Nat) (ρ:Rho),fN i ρ=KC ρ i:=by intros;rfl
@[simp] theorem x8:∀(ρ:Rho) (i:Nat),KC ρ i=Option.bind ρ[i]? Cell.val:=by intros;rfl
@[simp] theorem x9:Cell.val Cell.no=none:=by intros;rfl
@[simp] theorem x10:∀(f:Bool) (d:Dt),Cell.val (Cell.sh f d)=some (nrm (flOf f) d):=by intros;rfl
@[simp] theorem x11:∀(f:Bool) (ds:List Dt),Cell.val (Cell.ow f ds)=some (flOf f,Dt.lst ds):=by intros;rfl
@[simp] theorem x12:∀(f:Bool),flOf f=if f=true then Fl.fr else Fl.sh:=by intros;rfl
@[simp] theorem x13:∀(r:FB) (Fs:FA) (ρ:Rho),fBlt r Fs ρ=Option.bind (Fs ρ) λxs=>r (sndL xs):=by intros;rfl
@[simp] theorem x14:∀(Fa:FE) (Fs:FA) (ρ:Rho),f9 Fa Fs ρ=Option.bind (Fa ρ) λx=>Option.bind (Fs ρ) λxs=>some (x::xs):=by intros;rfl
@[simp] theorem x15:∀(x:Rho),fNil x=some []:=by intros;rfl
@[simp] theorem x16:sndL []=[]:=by intros;rfl
@[simp] theorem x17:∀(x_1:Dv) (xs:List Dv),sndL (x_1::xs)=Prod.snd x_1::sndL xs:=by intros;rfl
@[simp] theorem x18:∀(xs:List Dt),bLen [Dt.lst xs]=some (Fl.nw,Dt.int ↑(List.length xs)):=by intros;rfl
@[simp] theorem x19:∀(xs:List Dt),bLen [Dt.tup xs]=some (Fl.nw,Dt.int ↑(List.length xs)):=by intros;rfl
@[simp] theorem x20:∀(xs:aH),bLen [Dt.scr xs]=some (Fl.nw,Dt.int ↑(List.length xs)):=by intros;rfl
@[simp] theorem x22:∀(b:Bool),blD (Dt.bl b)=some b:=by intros;rfl
@[simp] theorem x24:truD Dt.non=some false:=by intros;rfl
@[simp] theorem x25:∀(b:Bool),truD (Dt.bl b)=some b:=by intros;rfl
@[simp] theorem x26:∀(i:Int),truD (Dt.int i)=some (i != 0):=by intros;rfl
@[simp] theorem x27:∀(ds:List Dt),truD (Dt.lst ds)=some !List.isEmpty ds:=by intros;rfl
@[simp] theorem x28:∀(ds:List Dt),truD (Dt.tup ds)=some !List.isEmpty ds:=by intros;rfl
@[simp] theorem x30:∀(F:FE) (ρ:Rho),sRet F ρ=Option.map (λx=>Oc.rt (Prod.fst x) (Prod.snd x)) (F ρ):=by intros;rfl
@[simp] theorem x31:∀(ρ:Rho),A9 ρ=some (Oc.nx ρ):=by intros;rfl
@[simp] theorem x32:∀(Fa Fb:FE) (ρ:Rho),fAt Fa Fb ρ=Option.bind (Fa ρ) λx=>Option.bind (Fb ρ) λy=>opAt x y:=by intros;rfl
@[simp] theorem x33:∀(x y:Dv),
 opAt x y =
  match Prod.snd x,Prod.snd y with
  | Dt.lst ds,Dt.int i=>Option.map (nrm (Fl.item (Prod.fst x))) (atI ds i)
  | Dt.tup ds,Dt.int i=>Option.map (nrm (Fl.item (Prod.fst x))) (atI ds i)
  | Dt.scr ns,Dt.int i=>Option.map (λn=>(Fl.nw,Dt.int n)) (atI ns i)
  | x,x_1=>none:=by intros;rfl
@[simp] theorem x34:∀(Fs:FA) (ρ:Rho),
 fLst Fs ρ =
  Option.bind (Fs ρ) λxs =>
   if List.length xs<=1000 then some (if Au xs=true then Fl.nw else Fl.tn,Dt.lst (sndL xs)) else none:=by intros;rfl
@[simp] theorem x35:∀(Fs:FA) (ρ:Rho),
 fTup Fs ρ =
  Option.bind (Fs ρ) λxs =>
   if List.length xs<=1000 then
    some (if Au xs=true then Fl.nw else if V0 xs=true then Fl.fr else Fl.sh,Dt.tup (sndL xs))
   else none:=by intros;rfl
@[simp] theorem x36:Fl.item Fl.tn=Fl.sh:=by intros;rfl
@[simp] theorem x37:∀(x:Fl),(x=Fl.tn->False)->Fl.item x=x:=by exact @L2.Fl.item.eq_2
@[simp] theorem x38:∀(d:Dt) (x:Rho),fC d x=some (Fl.nw,d):=by intros;rfl
@[simp] theorem x39:∀(F:FE) (ρ:Rho),fTru F ρ=Option.bind (F ρ) λx=>truD (Prod.snd x):=by intros;rfl
@[simp] theorem x40:∀(F:FT) (ρ:Rho),fNot F ρ=Option.map not (F ρ):=by intros;rfl
@[simp] theorem x41:∀(F G:FT) (ρ:Rho),fAnd F G ρ=Option.bind (F ρ) λb=>if b=true then G ρ else some false:=by intros;rfl
@[simp] theorem x42:∀(F G:FT) (ρ:Rho),fOr F G ρ=Option.bind (F ρ) λb=>if b=true then some true else G ρ:=by intros;rfl
@[simp] theorem x43:∀(F G:FE) (ρ:Rho),
 vAnd F G ρ=Option.bind (u9 F ρ) λb=>if b=true then G ρ else some (Fl.nw,Dt.bl false):=by intros;rfl
@[simp] theorem x44:∀(F G:FE) (ρ:Rho),vOr F G ρ=Option.bind (u9 F ρ) λb=>if b=true then some (Fl.nw,Dt.bl true) else G ρ:=by intros;rfl
@[simp] theorem x45:∀(F:FE) (ρ:Rho),vNot F ρ=Option.map (λb=>(Fl.nw,Dt.bl !b)) (u9 F ρ):=by intros;rfl
@[simp] theorem x46:∀(F:FE) (ρ:Rho),
 fNeg F ρ =
  Option.bind (F ρ) λx =>
   match Prod.snd x with
   | Dt.int i=>some (Fl.nw,Dt.int (-i))
   | x=>none:=by intros;rfl
@[simp] theorem x47:∀(F:FT) (Fa Fb:FE) (ρ:Rho),fIf F Fa Fb ρ=Option.bind (F ρ) λb=>if b=true then Fa ρ else Fb ρ:=by intros;rfl
@[simp] theorem x48:∀(T:String) (F:FE) (ρ:Rho),fIsi T F ρ=Option.map (λx=>(Fl.nw,Dt.bl (NW (tyN (Prod.snd x)) T))) (F ρ):=by intros;rfl
@[simp] theorem x49:∀(t T:String),NW t T=(t==T||t == "bool" && T == "int"):=by intros;rfl
@[simp] theorem x50:tyN Dt.non = "NoneType" := by intros;rfl
@[simp] theorem x51:∀(b:Bool),tyN (Dt.bl b) = "bool" := by intros;rfl
@[simp] theorem x52:∀(i:Int),tyN (Dt.int i) = "int" := by intros;rfl
@[simp] theorem x53:∀(x_1:PySem.Str),tyN (Dt.str x_1) = "str" := by intros;rfl
@[simp] theorem x54:∀(xs:List Dt),tyN (Dt.lst xs) = "list" := by intros;rfl
@[simp] theorem x55:∀(ns:aH),tyN (Dt.scr ns) = "list" := by intros;rfl
@[simp] theorem x56:∀(xs:List Dt),tyN (Dt.tup xs) = "tuple" := by intros;rfl
@[simp] theorem x57:∀(rels:List Nat) (i:Nat) (F:FE) (ρ:Rho),
 sSet rels i F ρ =
  Option.map (λx=>Oc.nx (List.set (relS rels ρ) i (Cell.sh (Fl.isFr (Prod.fst x)) (Prod.snd x))))
   (F (L0 (relS rels ρ))):=by intros;rfl
@[simp] theorem x58:∀(x:Rho),relS [] x=x:=by intros;rfl
@[simp] theorem x59:∀(x:Rho) (i:Nat) (is:List Nat),relS (i::is) x=relS is (KJ x i):=by intros;rfl
@[simp] theorem x60:L0 []=[]:=by intros;rfl
@[simp] theorem x61:∀(c:Cell) (ρ:List Cell),L0 (c::ρ)=Aw c::L0 ρ:=by intros;rfl
@[simp] theorem x62:∀(f:Bool) (ds:List Dt),Aw (Cell.ow f ds)=Cell.no:=by intros;rfl
@[simp] theorem x63:∀(x:Cell),(∀(f:Bool) (ds:List Dt),x=Cell.ow f ds->False)->Aw x=x:=by exact @L2.Aw.eq_2
@[simp] theorem x64:∀(fr:Bool) (c:FC) (Fs:FA) (ρ:Rho),
 i6 fr c Fs ρ=Option.bind (Fs ρ) λxs=>Option.map (nrm (if fr=true then Fl.nw else Fl.sh)) (c (sndL xs)):=by intros;rfl
@[simp] theorem x65:Fl.isFr Fl.nw=true:=by intros;rfl
@[simp] theorem x66:Fl.isFr Fl.fr=true:=by intros;rfl
@[simp] theorem x68:Fl.isNw Fl.nw=true:=by intros;rfl
@[simp] theorem x69:∀(x:Fl),(x=Fl.nw->False)->Fl.isNw x=false:=by exact @L2.Fl.isNw.eq_2
@[simp] theorem x70:Au []=true:=by intros;rfl
@[simp] theorem x71:∀(x_1:Dv) (xs:List Dv),Au (x_1::xs)=(Fl.isNw (Prod.fst x_1)&&Au xs):=by intros;rfl
@[simp] theorem x72:V0 []=true:=by intros;rfl
@[simp] theorem x73:∀(x_1:Dv) (xs:List Dv),V0 (x_1::xs)=(Fl.isFr (Prod.fst x_1)&&V0 xs):=by intros;rfl
@[simp] theorem x74:∀(F:FE) (ρ:Rho),Ay F ρ=Option.map (λx=>Oc.nx ρ) (F ρ):=by intros;rfl
@[simp] theorem x75:∀(rels:List Nat) (Fi:FI) (g:Tg) (F:FS) (ρ:Rho),
 sFor rels Fi g F ρ=Option.bind (Fi (L0 (relS rels ρ))) λitems=>forF g F items (relS rels ρ):=by intros;rfl
@[simp] theorem x76:∀(F:FE) (ρ:Rho),iSeq F ρ=Option.bind (F ρ) λx=>seqD (Prod.snd x):=by intros;rfl
@[simp] theorem x77:∀(ds:List Dt),seqD (Dt.lst ds)=some ds:=by intros;rfl
@[simp] theorem x78:∀(ds:List Dt),seqD (Dt.tup ds)=some ds:=by intros;rfl
@[simp] theorem x80:∀(i:Nat) (F:FE) (ρ:Rho),
 T6 i F ρ =
  Option.bind (F ρ) λx =>
   if Fl.isNw (Prod.fst x)=true then some (Oc.nx (List.set ρ i (Cell.sh true (Prod.snd x)))) else none:=by intros;rfl
@[simp] theorem x81:∀(i:Nat) (F:FE) (ρ:Rho),
 sOwn i F ρ =
  Option.bind (F (L0 ρ)) λx =>
   match x with
   | (Fl.nw,Dt.lst ds)=>if i<List.length ρ then some (Oc.nx (List.set ρ i (Cell.ow true ds))) else none
   | (Fl.tn,Dt.lst ds)=>if i<List.length ρ then some (Oc.nx (List.set ρ i (Cell.ow false ds))) else none
   | x=>none:=by intros;rfl
@[simp] theorem x82:∀(i:Nat) (F:FE) (ρ:Rho),
 sOwnA i F ρ =
  Option.bind (F ρ) λx =>
   match x with
   | (Fl.nw,Dt.lst ds)=>if i<List.length ρ then some (Oc.nx (List.set ρ i (Cell.ow true ds))) else none
   | x=>none:=by intros;rfl
@[simp] theorem x83:∀(w:FW) (i:Nat) (F:FE) (ρ:Rho),
 sWr w i F ρ =
  Option.bind (Ey ρ i) λo =>
   Option.bind (F (L0 ρ)) λx =>
    Option.map (λds=>Oc.nx (List.set ρ i (Cell.ow (Prod.fst o&&Fl.isFr (Prod.fst x)) ds)))
     (w (Prod.snd o) (Prod.snd x)):=by intros;rfl
@[simp] theorem x84:∀(w:FW) (i:Nat) (F:FE) (ρ:Rho),
 sWrA w i F ρ =
  Option.bind (Ey ρ i) λo =>
   Option.bind (F ρ) λx =>
    if Fl.isNw (Prod.fst x)=true then
     Option.map (λds=>Oc.nx (List.set ρ i (Cell.ow (Prod.fst o) ds))) (w (Prod.snd o) (Prod.snd x))
    else none:=by intros;rfl
@[simp] theorem x85:∀(i:Nat) (Fj Fe:FE) (ρ:Rho),
 sPut i Fj Fe ρ =
  Option.bind (Ey ρ i) λo =>
   Option.bind (Fe (L0 ρ)) λx =>
    Option.bind (Fj ρ) λj =>
     Option.bind (intD (Prod.snd j)) λn =>
      Option.map (λds=>Oc.nx (List.set ρ i (Cell.ow (Prod.fst o&&Fl.isFr (Prod.fst x)) ds)))
       (setD (Prod.snd o) n (Prod.snd x)):=by intros;rfl
@[simp] theorem x86:∀(ρ:Rho) (i:Nat),
 Ey ρ i =
  match ρ[i]? with
  | some (Cell.ow f ds)=>some (f,ds)
  | x=>none:=by intros;rfl
@[simp] theorem x87:∀(F:FE) (ρ:Rho),X3 F ρ=Option.bind (F ρ) λx=>Option.map (V2 0) (lstD (Prod.snd x)):=by intros;rfl
@[simp] theorem x88:∀(F:FE) (ρ:Rho),iRev F ρ=Option.bind (F ρ) λx=>Option.map List.reverse (lstD (Prod.snd x)):=by intros;rfl
@[simp] theorem x89:∀(ds:List Dt),lstD (Dt.lst ds)=some ds:=by intros;rfl
@[simp] theorem x91:∀(F G:FE) (ρ:Rho),
 iZip F G ρ =
  Option.bind (F ρ) λx =>
   Option.bind (G ρ) λy =>
    Option.bind (seqD (Prod.snd x)) λxs =>
     Option.bind (seqD (Prod.snd y)) λys=>if List.length xs=List.length ys then some (zipD xs ys) else none:=by intros;rfl
@[simp] theorem x92:∀(F:FE) (ρ:Rho),
 m9 F ρ =
  Option.bind (F ρ) λx =>
   Option.bind (intD (Prod.snd x)) λj=>if V1 j=true then some (Q0 0 (Int.toNat j)) else none:=by intros;rfl
@[simp] theorem x93:∀(i:Int),intD (Dt.int i)=some i:=by intros;rfl
@[simp] theorem x95:∀(ds:List Dt) (d:Dt),wApp ds d=if List.length ds<1000000 then some (ds++[d]) else none:=by intros;rfl
@[simp] theorem x96:∀(ds:List Dt) (d:Dt),ID ds d=if List.length ds<1000000 then some (d::ds) else none:=by intros;rfl
@[simp] theorem x97:∀(ds:List Dt) (j:Int) (d:Dt),setD ds j d=Option.map (λk=>List.set ds k d) (ixN (List.length ds) j):=by intros;rfl
@[simp] theorem x98:∀(xs:List Dt),bLst [Dt.lst xs]=some (newL xs):=by intros;rfl
@[simp] theorem x99:∀(xs:List Dt),bLst [Dt.tup xs]=some (newL xs):=by intros;rfl
@[simp] theorem x101:∀(xs:List Dt),bTup [Dt.lst xs]=some (if J8 xs=true then Fl.nw else Fl.sh,Dt.tup xs):=by intros;rfl
@[simp] theorem x102:∀(xs:List Dt),bTup [Dt.tup xs]=some (if J8 xs=true then Fl.nw else Fl.sh,Dt.tup xs):=by intros;rfl
@[simp] theorem x104:∀(x:Dt) (x_1:Rho) (i:Nat),Tg.put (Tg.one i) x x_1=some (List.set x_1 i (Cell.sh false x)):=by intros;rfl
@[simp] theorem x105:∀(x:Rho) (is:List Nat) (ds:List Dt),
 Tg.put (Tg.many is) (Dt.tup ds) x=if List.length ds=List.length is then some (Q2 x is ds) else none:=by intros;rfl
@[simp] theorem x107:∀(x:Rho) (i:Nat) (is:List Nat) (d:Dt) (ds:List Dt),
 Q2 x (i::is) (d::ds)=Q2 (List.set x i (Cell.sh false d)) is ds:=by intros;rfl
@[simp] theorem x108:∀(x:Rho) (x_1:List Nat) (x_2:List Dt),
 (∀(i:Nat) (is:List Nat) (d:Dt) (ds:List Dt),x_1=i::is->x_2=d::ds->False)->Q2 x x_1 x_2=x:=by exact @L2.Q2.eq_2
@[simp] theorem x109:Cf Cell.no=Cell.no:=by intros;rfl
@[simp] theorem x110:∀(f:Bool) (d:Dt),Cf (Cell.sh f d)=Cell.sh false d:=by intros;rfl
@[simp] theorem x111:∀(f:Bool) (ds:List Dt),Cf (Cell.ow f ds)=Cell.sh false (Dt.lst ds):=by intros;rfl
@[simp] theorem x112:∀(nt:Nat) (js:List Nat) (ρ:Rho),
 sigD nt js ρ =
  List.replicate nt Cell.no ++
   List.map
    (fun j =>
     match ρ[j]? with
     | some c=>Cf c
     | none=>Cell.no)
    js:=by intros;rfl
@[simp] theorem x113:∀(r r':FO) (Fa Fb Fc:FE) (ρ:Rho),
 Ir r r' Fa Fb Fc ρ =
  Option.bind (Fa ρ) λx =>
   Option.bind (Fb ρ) λy =>
    Option.bind (r (Prod.snd x) (Prod.snd y)) λz =>
     Option.bind (blD (Prod.snd z)) λk =>
      if k=true then Option.bind (Fc ρ) λw=>r' (Prod.snd y) (Prod.snd w) else some (Fl.nw,Dt.bl false):=by intros;rfl
@[simp] theorem x114:∀(c:FC) (F:FE) (ρ:Rho),
 DU c F ρ =
  Option.bind (F ρ) λx =>
   Option.bind (lstD (Prod.snd x)) λds =>
    Option.bind (R6 c ds) λks =>
     if List.length ds<64/\List.Nodup ks then
      some (newL (List.map (λx=>Prod.snd x) (T8 (List.zip ks ds))))
     else none:=by intros;rfl
@[simp] theorem x115:∀(i j:Int),opLt (Dt.int i) (Dt.int j)=some (Fl.nw,Dt.bl (decide (i<j))):=by intros;rfl
@[simp] theorem x116:∀(i j:Int),opLe (Dt.int i) (Dt.int j)=some (Fl.nw,Dt.bl (decide (i<=j))):=by intros;rfl
@[simp] theorem x117:∀(i j:Int),opGt (Dt.int i) (Dt.int j)=some (Fl.nw,Dt.bl (decide (j<i))):=by intros;rfl
@[simp] theorem x118:∀(i j:Int),opGe (Dt.int i) (Dt.int j)=some (Fl.nw,Dt.bl (decide (j<=i))):=by intros;rfl
@[simp] theorem x119:∀(i j:Int),DF (Dt.int i) (Dt.int j)=some (Fl.nw,Dt.int (i-j)):=by intros;rfl
@[simp] theorem x120:∀(i j:Int),T5 (Dt.int i) (Dt.int j)=if Ca i j=true then some (Fl.nw,Dt.int (Int.fmod i j)) else none:=by intros;rfl
@[simp] theorem x121:∀(i j:Int),D6 (Dt.int i) (Dt.int j)=if D9 i j=true then some (Fl.nw,Dt.int (i*j)) else none:=by intros;rfl
@[simp] theorem x122:∀(i j:Int),Ap (Dt.int i) (Dt.int j)=if P8 i j=true then some (Fl.nw,Dt.int (Int.fdiv i j)) else none:=by intros;rfl
@[simp] theorem x123:∀(i j:Int),KD (Dt.int i) (Dt.int j)=if Iq i j=true then some (Fl.nw,Dt.int (i ^ Int.toNat j)) else none:=by intros;rfl
@[simp] theorem x124:∀(i j:Int),u6 (Dt.int i) (Dt.int j)=some (Fl.nw,Dt.int (i+j)):=by intros;rfl
@[simp] theorem x125:∀(f:Fl) (i:Int),nrm f (Dt.int i)=(Fl.nw,Dt.int i):=by intros;rfl
@[simp] theorem x126:∀(f:Fl) (i:Bool),nrm f (Dt.bl i)=(Fl.nw,Dt.bl i):=by intros;rfl
@[simp] theorem x127:∀(f:Fl),nrm f Dt.non=(Fl.nw,Dt.non):=by intros;rfl
@[simp] theorem x128:∀(f:Fl) (ns:aH),nrm f (Dt.scr ns)=(f,Dt.scr ns):=by intros;rfl
@[simp] theorem x129:∀(f:Fl) (ns:aH),nrm f (L ns)=(f,L ns):=by intros;rfl
@[simp] theorem x130:∀(f:Fl) (ns:aA),nrm f (LL ns)=(f,LL ns):=by intros;rfl
@[simp] theorem x134:∀{α β:Type} {a:α} {f:α->Option β},Option.bind (some a) f=f a:=by intros;rfl
@[simp] theorem x135:∀{α β:Type} {f:α->Option β},Option.bind none f=none:=by intros;rfl
@[simp] theorem x136:∀{α:Type} {x:α} {xs:List α},atI (x::xs) 0=some x:=by exact @L2.atI_c0
@[simp] theorem x137:∀{α:Type} {x y:α} {xs:List α},atI (x::y::xs) 1=some y:=by exact @L2.atI_c1
@[simp] theorem x138:∀{α:Type} {x y z:α} {xs:List α},atI (x::y::z::xs) 2=some z:=by exact @L2.atI_c2
@[simp] theorem y1(ns:aH):newL (List.map Dt.int ns)=(Fl.nw,Dt.lst (List.map Dt.int ns)):=R7 ns
@[simp] theorem y2:newL []=(Fl.nw,Dt.lst []):=rfl
@[simp] theorem y3(ns:aH):J8 (List.map Dt.int ns)=true:=X4 ns
@[simp] theorem y4(d:Dt):nrm Fl.nw d=(Fl.nw,d):=ZU d
@[simp] theorem y5(i:Int):Dt.flat (Dt.int i)=true:=rfl
@[simp] theorem y6(i:Bool):Dt.flat (Dt.bl i)=true:=rfl
@[simp] theorem y7(f:Fl)(ds:List Dt):nrm f (Dt.lst ds)=(f,Dt.lst ds):=rfl
@[simp] theorem y8:J8 []=true:=rfl
@[simp] theorem y9(d:Dt)(ds:List Dt):J8 (d::ds)=(d.flat&&J8 ds):=by rw[J8]
@[simp] theorem y10(ds:List Dt):Dt.flat (Dt.lst ds)=false:=by rw[Dt.flat]
@[simp] theorem y11(ds:List Dt):Dt.flat (Dt.tup ds)=J8 ds:=by rw[Dt.flat]
@[simp] theorem y12(f:Fl)(ds:List Dt):nrm f (Dt.tup ds)=(if J8 ds=true then Fl.nw else f,Dt.tup ds):=rfl
@[simp] theorem xd1:tyN Dt.dic = "dict" := rfl
end L2

end
section
local macro_rules|`(tactic|rfl')=>`(tactic|first|lia|omega +splitDisjunctions)
namespace L2
open PySem
@[simp] theorem y13(n:Nat)(h:n<=1000000):V1 (n:Int)=true:=Bl h
theorem getD_L(S:aA){k:Nat}(h:k<S.length):atI (S.map L) (k:Int)=some (L (S.getD k [])):=by rw[X7,L1 [] h];rfl
end L2
namespace L2
open PySem
theorem AA{α:Type}(xs:List α)(n:Nat):cutD xs (some (n:Int)) none=xs.drop n:=by
 unfold cutD;rw[HT.sIx_none,HT.sIx_nat];by_cases h:n<=xs.length
 · rw[w1m h,vW (by rw[wZ];rfl')]
 · rw[w16 (by rfl'),uS (by rfl'),uS (by rfl')];simp
theorem IK{α:Type}(xs:List α)(n:Nat):cutD xs none (some (n:Int))=xs.take n:=by
 unfold cutD;rw[HT.sIx_none,HT.sIx_nat,uT,Nat.sub_zero];by_cases h:n<=xs.length
 · rw[w1m h]
 · rw[w16 (by rfl'),vW (by rfl'),vW (by rfl')]
@[simp] theorem y14(F:FE)(A B:FP)(ρ:Rho):fSl F A B ρ=(F ρ).bind λx=>(A ρ).bind λlo=>(B ρ).bind λhi=>match x.2 with|.lst ds=>some (newL (cutD ds lo hi))|_=>none:=rfl
@[simp] theorem y15(F:FE)(ρ:Rho):J9 F ρ=(F ρ).bind λx=>(intD x.2).map some:=rfl
@[simp] theorem y16(ρ:Rho):A6 ρ=some none:=rfl
theorem G4(xs:aH)(n:Nat):newL ((xs.map Dt.int).drop n)=(.nw,L (xs.drop n)):=by rw[←List.map_drop];exact R7 _
theorem X8(xs:aH)(n:Nat):newL ((xs.map Dt.int).take n)=(.nw,L (xs.take n)):=by rw[←w0n];exact R7 _
theorem Cj(a b:aH)(h:a.length+b.length<=1000000):u6 (.lst (a.map Dt.int)) (.lst (b.map Dt.int))=some (.nw,L (a++b)):=by
 have:u6 (.lst (a.map Dt.int)) (.lst (b.map Dt.int))=Cb (.lst (a.map Dt.int)) (.lst (b.map Dt.int)):=rfl;rw[this,Cb,if_pos (by simpa using h),←vm,R7]
end L2

end
section
local macro_rules|`(tactic|rfl')=>`(tactic|first|lia|omega +splitDisjunctions)
namespace Lat
abbrev Vec:=Nat->Int
def Span:List Vec->Vec->Prop
 | [],v=>∀ k,v k=0
 | r::rs,v=>∃ c:Int,Span rs (λk=>v k-c*r k)
theorem Span.congr{rs:List Vec}{v w:Vec}(h:∀ k,v k=w k)(s:Span rs v):Span rs w:=by
 have:v=w:=funext h;rw[←this];exact s
theorem Span.zero:∀{rs:List Vec},Span rs (λ_=>0)
 | []=>λ_=>rfl
 | r::rs=>⟨0,Span.congr (λk=>by simp) (Span.zero (rs:=rs))⟩
theorem Span.add:∀{rs:List Vec} {v w:Vec},Span rs v->Span rs w->Span rs (λk=>v k+w k)
 | [],v,w,h1,h2=>λk=>by show v k+w k=0;rw[h1 k,h2 k];rfl
 | r::rs,v,w,⟨c,h1⟩,⟨d,h2⟩=>⟨c+d,Span.congr (λk=>by show _=(v k+w k)-(c+d)*r k;rw[w1e];rfl') (h1.add h2)⟩
theorem Span.smul:∀{rs:List Vec} {v:Vec} (a:Int),Span rs v->Span rs (λk=>a*v k)
 | [],v,a,h=>λk=>by show a*v k=0;rw[h k,uf]
 | r::rs,v,a,⟨c,h⟩=>⟨a*c,Span.congr (λk=>by rw[uO,vO]) (h.smul a)⟩
theorem Span.neg{rs:List Vec}{v:Vec}(h:Span rs v):Span rs (λk =>-v k):=Span.congr (λk=>by rfl') (h.smul (-1))
theorem Span.sub{rs:List Vec}{v w:Vec}(h1:Span rs v)(h2:Span rs w):Span rs (λk=>v k-w k):=Span.congr (λk=>by rfl') (h1.add h2.neg)
theorem Span.head{r:Vec}{rs:List Vec}:Span (r::rs) r:=⟨1,Span.congr (λk=>by rfl') Span.zero⟩
theorem Span.cons{r:Vec}{rs:List Vec}{v:Vec}(h:Span rs v):Span (r::rs) v:=⟨0,Span.congr (λk=>by rfl') h⟩
theorem Span.mem:∀{rs:List Vec} {r:Vec},r∈rs->Span rs r
 | _::_,_,.head _=>Span.head
 | _::_,_,.tail _ h=>(Span.mem h).cons
theorem Span.least{P:Vec->Prop}(z:P (λ_=>0))(a:∀ v w,P v->P w->P (λk=>v k+w k))(m:∀(c:Int) v,P v->P (λk=>c*v k)):
  ∀{rs:List Vec} {v:Vec},(∀ r∈rs,P r)->Span rs v->P v
 | [],v,_,h=>by have:v=λ_=>0:=funext h;rw[this];exact z
 | r::rs,v,hr,⟨c,h⟩=>by
  have h1:=Span.least z a m (λx hx=>hr x (wc _ hx)) h;have h2:=a _ _ h1 (m c r (hr r wf));have:v=λk=>(v k-c*r k)+c*r k:=funext λk=>by rfl'
  rw[this];exact h2
theorem Span.trans{rs ss:List Vec}{v:Vec}(h:∀ r∈rs,Span ss r)(s:Span rs v):Span ss v :=
 Span.least (P:=Span ss) Span.zero (λ_ _=>Span.add) (λc _=>Span.smul c) h s
def SameSpan(rs ss:List Vec):Prop:=(∀ r∈rs,Span ss r)/\∀ s∈ss,Span rs s
theorem SameSpan.iff{rs ss:List Vec}(h:SameSpan rs ss){v:Vec}:Span rs v↔Span ss v:=⟨Span.trans h.1,Span.trans h.2⟩
theorem SameSpan.refl{rs:List Vec}:SameSpan rs rs:=⟨λ_=>Span.mem,λ_=>Span.mem⟩
theorem SameSpan.symm{rs ss:List Vec}(h:SameSpan rs ss):SameSpan ss rs:=⟨h.2,h.1⟩
theorem SameSpan.trans{rs ss ts:List Vec}(h:SameSpan rs ss)(g:SameSpan ss ts):SameSpan rs ts:=⟨λr hr=>(h.1 r hr).trans g.1,λt ht=>(g.2 t ht).trans h.2⟩
def Form:Nat->List (Nat×Vec)->Prop
 | _,[]=>True
 | f,(h,r)::rs=>f<=h/\(∀ k,k<h->r k=0)/\0<r h/\(∀ p∈rs,0<=r p.1/\r p.1<p.2 p.1)/\Form (h+1) rs
abbrev E1(S:List (Nat×Vec)):List Vec:=S.map (·.2)
theorem Form.low:∀{f:Nat} {S:List (Nat×Vec)} {v:Vec},Form f S->Span (E1 S) v->∀ k,k<f->v k=0
 | _,[],v,_,s,k,_=>s k
 | f,(h,r)::S,v,⟨h1,h2,h3,h4,h5⟩,⟨c,s⟩,k,hk=>by
  have:=Form.low h5 s k (by rfl');have e:r k=0:=h2 k (by rfl');have this:v k-c*r k=0:=this;rw[e]at this;simpa using this
theorem Form.coef{f h:Nat}{r v:Vec}{S:List (Nat×Vec)}{c:Int}(F:Form f ((h,r)::S))(s:Span (E1 S) (λk=>v k-c*r k)):v h=c*r h:=by
 have:v h-c*r h=0:=F.2.2.2.2.low s h (by rfl');rfl'
theorem Aj{c r v:Int}(e:v=c*r)(hr:0<r)(h1 : -r<v)(h2:v<r):c=0:=by
 rcases w0i c 0 with h|h|h
 · exfalso;have:c*r <= -1*r:=vN (by rfl') (by rfl');rfl'
 · exact h
 · exfalso;have:1*r<=c*r:=vN (by rfl') (by rfl');rfl'
theorem Form.small:∀{f:Nat} {S:List (Nat×Vec)} {v:Vec},Form f S->Span (E1 S) v->(∀ p∈S,-(p.2 p.1)<v p.1/\v p.1<p.2 p.1)->∀ k,v k=0
 | _,[],v,_,s,_=>s
 | f,(h,r)::S,v,F,⟨c,s⟩,hs=>by
  have e:=F.coef s;have hp:=hs (h,r) wf;have c0:c=0:=Aj e F.2.2.1 hp.1 hp.2;subst c0;refine F.2.2.2.2.small (Span.congr (λk=>by rfl') s) (λp hp=>hs p (wc _ hp))
theorem Form.tail{f h:Nat}{r v:Vec}{S:List (Nat×Vec)}(F:Form f ((h,r)::S))(s:Span (E1 ((h,r)::S)) v)(z:v h=0):Span (E1 S) v:=by
 obtain⟨c,s⟩:=s;have e:=F.coef s;have hr:=F.2.2.1;rw[z]at e;have c0:c=0:=by
  rcases vF.mp e.symm with h|h
  · exact h
  · rfl'
 subst c0;exact Span.congr (λk=>by rfl') s
theorem Form.head_le{f g h h':Nat}{r r':Vec}{S S':List (Nat×Vec)}(F:Form f ((h,r)::S))(G:Form g ((h',r')::S'))(s:Span (E1 ((h',r')::S')) r):h'<=h:=by
 apply vK;intro hlt;have G':Form h' ((h',r')::S'):=⟨wB _,G.2⟩;have:=G'.low s h hlt;have:=F.2.2.1;rfl'
theorem Form.unique:∀{S T:List (Nat×Vec)} {f g:Nat},Form f S->Form g T->SameSpan (E1 S) (E1 T)->S=T
 | [],[],_,_,_,_,_=>rfl
 | [],(h,r)::T,_,_,_,G,s=>by
  have:=s.2 r wf h;have:=G.2.2.1;rfl'
 | (h,r)::S,[],_,_,F,_,s=>by
  have:=s.1 r wf h;have:=F.2.2.1;rfl'
 | (h,r)::S,(h',r')::T,f,g,F,G,s=>by
  have s1:Span (E1 ((h',r')::T)) r:=s.1 r wf;have s2:Span (E1 ((h,r)::S)) r':=s.2 r' wf;have eh:h=h':=Nat.le_antisymm (G.head_le F s2) (F.head_le G s1);subst eh;have evh:r h=r' h:=by
   obtain⟨c,q⟩:=s1;obtain⟨d,q'⟩:=s2;have e1:=G.coef q;have e2:=F.coef q';have p1:=F.2.2.1;have p2:=G.2.2.1;have c1:1<=c:=by
     apply Int.not_lt.mp;intro hc;have:c*r' h<=0:=uM (by rfl') (by rfl');rfl'
   have d1:1<=d:=by
     apply Int.not_lt.mp;intro hd;have:d*r h<=0:=uM (by rfl') (by rfl');rfl'
   have a1:1*r' h<=c*r' h:=vN c1 (by rfl');have a2:1*r h<=d*r h:=vN d1 (by rfl');rfl'
  have tails:SameSpan (E1 S) (E1 T):=by
   constructor
   · intro x hx;have hs:Span (E1 S) x:=Span.mem hx;have z:=F.2.2.2.2.low hs h (by rfl');exact G.tail (s.iff.mp hs.cons) z
   · intro x hx;have hs:Span (E1 T) x:=Span.mem hx;have z:=G.2.2.2.2.low hs h (by rfl');exact F.tail (s.iff.mpr hs.cons) z
  have eST:=Form.unique F.2.2.2.2 G.2.2.2.2 tails;subst eST;have d0:Span (E1 S) (λk=>r k-r' k):=F.tail (Span.sub Span.head s2) (by rfl');have er:r=r':=funext λk=>by
   have:=F.2.2.2.2.small d0 (λp hp=>by
     have q1:=F.2.2.2.1 p hp;have q2:=G.2.2.2.1 p hp;rfl') k
   rfl'
  rw[er]
end Lat

end
section
namespace Lat
theorem Ak{α β:Type}[DecidableEq β]:∀{l:List α} {m:List β} (f:α->β),l.Nodup->(∀ x∈l,∀ y∈l,f x=f y->x=y)->(∀ x∈l,f x∈m)->l.length<=m.length
 | [],m,f,_,_,_=>wU _
 | x::l,m,f,hn,hi,hm=>by
  have hx:=hm x wf;have hn':=vy.mp hn;have h1:l.length<=(m.erase (f x)).length:=by
   refine Ak f hn'.2 (λa ha b hb=>hi a (wc _ ha) b (wc _ hb)) (λa ha=>?_);have hne:f a≠f x:=λe=>by
    have:=hi a (wc _ ha) x wf e;subst this;exact hn'.1 ha
   exact(List.mem_erase_of_ne hne).mpr (hm a (wc _ ha))
  have h2:(m.erase (f x)).length=m.length-1:=List.length_erase_of_mem hx;have h3:0<m.length:=List.length_pos_of_mem hx;simp only[wu];rfl'
def box:List Nat->aA
 | []=>[[]]
 | n::ns=>(List.range n).flatMap λ(i:Nat)=>(box ns).map λt=>(i:Int)::t
def prod:List Nat->Nat
 | []=>1
 | n::ns=>n*prod ns
theorem Os{α:Type}(g:Nat->List α)(k:Nat):∀(l:List Nat),(∀ i∈l,(g i).length=k)->(l.flatMap g).length=l.length*k
 | [],_=>by simp
 | i::l,h=>by
  rw[w0X,wD,Os g k l (λj hj=>h j (wc _ hj)),h i wf,wu,uU,Nat.add_comm]
theorem DX:∀ ns:List Nat,(box ns).length=prod ns
 | []=>rfl
 | n::ns=>by
  show((List.range n).flatMap λ(i:Nat)=>(box ns).map λt=>(i:Int)::t).length=n*prod ns;rw[Os _ (prod ns) _ (λi _=>by rw[wn,DX ns]),vv]
def K1:List Nat->aH->Prop
 | [],[]=>True
 | n::ns,x::xs=>0<=x/\x<n/\K1 ns xs
 | _,_=>False
theorem Di:∀{ns:List Nat} {t:aH},t∈box ns↔K1 ns t
 | [],[]=>by simp[box,K1]
 | [],x::t=>by simp[box,K1]
 | n::ns,[]=>by simp[box,K1]
 | n::ns,x::t=>by
  simp only[box,K1,w17,wM,wj,List.cons.injEq];constructor
  · rintro⟨i,hi,u,hu,rfl,rfl⟩;exact⟨by rfl',by rfl',Di.mp hu⟩
  · rintro⟨h0,h1,h2⟩;exact⟨x.toNat,by rfl',t,Di.mpr h2,by rfl',rfl⟩
theorem KQ:∀ ns:List Nat,(box ns).Nodup
 | []=>by simp[box]
 | n::ns=>by
  have ih:=KQ ns;have key:∀ m,((List.range m).flatMap λ(i:Nat)=>(box ns).map λt=>(i:Int)::t).Nodup:=by
   intro m
   induction m with
   | zero=>simp
   | succ m hm =>
    rw[w04,List.flatMap_append,w0Y];refine⟨hm,?_,?_⟩
    · rw[w0X,List.flatMap_nil,uL];refine List.Pairwise.map _ (λa b hab e=>hab ?_) ih;exact(List.cons.inj e).2
    · intro a ha b hb e;subst e;simp only[w17,wM,wj,wV]at ha hb;obtain⟨i,hi,u,hu,rfl⟩:=ha;obtain⟨j,hj,w,hw,e⟩:=hb;have:=(List.cons.inj e).1;rfl'
  exact key n
theorem Wr{ns ms:List Nat}(f:aH->aH)(hi:∀ s t,K1 ns s->K1 ns t->f s=f t->s=t)(hm:∀ s,K1 ns s->K1 ms (f s)):prod ns<=prod ms:=by
 rw[←DX ns,←DX ms];exact Ak f (KQ ns) (λx hx y hy=>hi x y (Di.mp hx) (Di.mp hy)) (λx hx=>Di.mpr (hm x (Di.mp hx)))
end Lat

end
section
local macro_rules|`(tactic|rfl')=>`(tactic|first|lia|omega +splitDisjunctions)
namespace Br
structure BI(a b u0 u1 u2 l0 l1 l2:Int):Prop where
 up:a*u1+b*u2=u0
 lo:a*l1+b*l2=l0
 gcd:uu u0 l0=uu a b
 p1:u0.natAbs*l1.natAbs+l0.natAbs*u1.natAbs<=a.natAbs+2*b.natAbs
 p2:u0.natAbs*l2.natAbs+l0.natAbs*u2.natAbs<=a.natAbs+2*b.natAbs
 ph:(u0=a/\u1=1/\u2=0/\l0=b/\l1=0/\l2=1)\/(0<=u0*l0/\u0≠0)
 b1:u1.natAbs<=a.natAbs+2*b.natAbs+1
 b2:u2.natAbs<=a.natAbs+2*b.natAbs+1
 b3:l1.natAbs<=a.natAbs+2*b.natAbs+1
 b4:l2.natAbs<=a.natAbs+2*b.natAbs+1
 c1:u0.natAbs<=a.natAbs+b.natAbs
 c2:l0.natAbs<=b.natAbs
theorem BI.start(a b:Int):BI a b a 1 0 b 0 1 where
 up:=by simp
 lo:=by simp
 gcd:=rfl
 p1:=by simp;rfl'
 p2:=by simp
 ph := .inl ⟨rfl,rfl,rfl,rfl,rfl,rfl⟩
 b1:=by simp
 b2:=by simp
 b3:=by simp
 b4:=by simp
 c1:=by rfl'
 c2:=by rfl'
theorem pot(L A R Qa u1 l1 f1 E:Nat)(hA:Qa*L+R<=A+E)(hf:f1<=u1+Qa*l1):L*f1+R*l1<=A*l1+L*u1+E*l1:=by
 have h1:L*f1<=L*(u1+Qa*l1):=vc L hf;have h2:L*(u1+Qa*l1)=L*u1+Qa*L*l1:=by
  rw[w0j,←vP,uE L Qa]
 have h3:(Qa*L+R)*l1<=(A+E)*l1:=wI l1 hA;rw[w1f,w1f]at h3;rfl'
theorem Ot(u l:Int)(h:0<l):(u-u.fdiv l*l).natAbs<l.natAbs/\0<=l*(u-u.fdiv l*l)/\(0<=u*l->(u.fdiv l).natAbs*l.natAbs+(u-u.fdiv l*l).natAbs=u.natAbs) /\
  (u.fdiv l).natAbs*l.natAbs<=u.natAbs+(u-u.fdiv l*l).natAbs:=by
 have hs:u.fdiv l*l=u-u.fmod l:=Int.fdiv_mul_self u l;have hq:(u.fdiv l).natAbs*l.natAbs=(u.fdiv l*l).natAbs:=(vd _ _).symm;have e:u-u.fdiv l*l=u.fmod l:=by rfl'
 rw[e,hq,hs];have h1:0<=u.fmod l:=vp u h;have h2:u.fmod l<l:=vG u h;refine⟨by rfl',w0I (by rfl') h1,λhu=>?_,by rfl'⟩;have hu0:0<=u:=by
  by_cases hu':0<=u
  · exact hu'
  · have:=Int.mul_neg_of_neg_of_pos (show u<0 by rfl') h;rfl'
 have:u.fmod l<=u:=by
  have q1:0<=u.fdiv l:=Int.fdiv_nonneg hu0 (by rfl');have q2:0<=u.fdiv l*l:=w0I q1 (by rfl');rfl'
 rfl'
theorem Ws(u l:Int)(hl:l≠0):(u-u.fdiv l*l).natAbs<l.natAbs/\0<=l*(u-u.fdiv l*l)/\(0<=u*l->(u.fdiv l).natAbs*l.natAbs+(u-u.fdiv l*l).natAbs=u.natAbs) /\
   (u.fdiv l).natAbs*l.natAbs<=u.natAbs+(u-u.fdiv l*l).natAbs:=by
 rcases Int.lt_or_gt_of_ne hl with h|h
 · have q:=Ot (-u) (-l) (by rfl');rw[Int.neg_fdiv_neg]at q;have e : -u-u.fdiv l * -l = -(u-u.fdiv l*l):=by rw[w0J];rfl'
   rw[e,uV,uV,uV,w1n,w1n]at q;exact q
 · exact Ot u l h
theorem IL{a b c:Nat}(h:a*b<=c)(ha:a≠0):b<=c:=wK (Nat.le_mul_of_pos_left b (Nat.pos_of_ne_zero ha)) h
theorem Wt(u q l:Int):(u-q*l).natAbs<=u.natAbs+q.natAbs*l.natAbs:=by
 have:=vd q l;rfl'
theorem BI.turn{a b u0 u1 u2 l0 l1 l2:Int}(h:BI a b u0 u1 u2 l0 l1 l2)(hl:l0≠0):
   BI a b l0 l1 l2 (u0-u0.fdiv l0*l0) (u1-u0.fdiv l0*l1) (u2-u0.fdiv l0*l2):=by
 obtain⟨r1,r2,r3,r4⟩:=Ws u0 l0 hl;have hL:l0.natAbs≠0:=λe=>hl (w0Q.mp e);have hup:=h.up;have hlo:=h.lo;generalize eq:u0.fdiv l0=q at *;have lin:∀(x y:Int),a*(x-q*l1)+b*(y-q*l2)=(a*x+b*y)-q*(a*l1+b*l2):=λx y=>by
   rw[uO,uO,w0k,vT a q l1,vT b q l2];rfl'
 have f1:(u1-q*l1).natAbs<=u1.natAbs+q.natAbs*l1.natAbs:=Wt u1 q l1;have f2:(u2-q*l2).natAbs<=u2.natAbs+q.natAbs*l2.natAbs:=Wt u2 q l2;have key:∀(x y f:Nat),f<=x+q.natAbs*y->u0.natAbs*y+l0.natAbs*x<=a.natAbs+2*b.natAbs->((0<=u0*l0)\/(y=0)\/(y=1/\x=0/\u0=a/\l0=b)) ->
     l0.natAbs*f+(u0-q*l0).natAbs*y<=a.natAbs+2*b.natAbs:=λx y f hf hp hc=>by
   rcases hc with hc|hc|⟨hc,hx,ha,hb⟩
   · have:=pot l0.natAbs u0.natAbs (u0-q*l0).natAbs q.natAbs x y f 0 (by have:=r3 hc;rfl') hf;rfl'
   · subst hc;have:l0.natAbs*f<=l0.natAbs*x:=vc _ (by rfl');rfl'
   · subst hc;subst hx;have:=pot l0.natAbs u0.natAbs (u0-q*l0).natAbs q.natAbs 0 1 f (2*(u0-q*l0).natAbs) (by rfl') hf;have hab:u0.natAbs=a.natAbs:=by rw[ha]
     have hbb:l0.natAbs=b.natAbs:=by rw[hb]
     generalize (u0-q*l0).natAbs=R at *;generalize l0.natAbs*f=Z at *;rfl'
 have ph1:0<=u0*l0\/l1.natAbs=0\/(l1.natAbs=1/\u1.natAbs=0/\u0=a/\l0=b):=by
   rcases h.ph with⟨_,_,_,_,e,_⟩|⟨e,_⟩
   · exact .inr (.inl (by rw[e];rfl))
   · exact .inl e
 have ph2:0<=u0*l0\/l2.natAbs=0\/(l2.natAbs=1/\u2.natAbs=0/\u0=a/\l0=b):=by
   rcases h.ph with⟨e1,_,e2,e3,_,e4⟩|⟨e,_⟩
   · exact .inr (.inr ⟨by rw[e4];rfl,by rw[e2];rfl,e1,e3⟩)
   · exact .inl e
 have k1:=key _ _ _ f1 h.p1 ph1;have k2:=key _ _ _ f2 h.p2 ph2;have c2:=h.c2;refine⟨hlo,?_,?_,k1' k1,k1' k2,.inr ⟨r2,hl⟩,h.b3,h.b4,?_,?_,by rfl',by rfl'⟩
 · rw[lin,hup,hlo]
 · rw[Int.gcd_sub_mul_right_right,Int.gcd_comm,h.gcd]
 · exact w0h (IL (wK (w18 _ _) k1) hL)
 · exact w0h (IL (wK (w18 _ _) k2) hL)
where k1' {x y:Nat} (h:x<=y):x<=y:=h
theorem BI.fin{a b u0 u1 u2 l1 l2:Int}(h:BI a b u0 u1 u2 0 l1 l2):(u0.natAbs:Int)=uu a b:=by
 have:=h.gcd;rw[Int.gcd_zero_right]at this;rw[this]
end Br

end
section
namespace St
abbrev Row:=aH
def at0(r:Row)(k:Nat):Int:=r.getD k 0
def f8:Row->Nat
 | []=>0
 | x::r=>if x=0 then f8 r+1 else 0
theorem Gi:∀ r:Row,f8 r<=r.length
 | []=>wB _
 | x::r=>by
  unfold f8;split
  · exact w19 (Gi r)
  · exact wU _
theorem r9:∀(r:Row) (k:Nat),k<f8 r->at0 r k=0
 | [],k,h=>by simp[f8]at h
 | x::r,k,h=>by
  unfold f8 at h;split at h
  · rename_i hx;cases k with
    | zero=>simp[at0,hx]
    | succ k=>exact r9 r k (by rfl')
  · rfl'
theorem Ck:∀(r:Row),f8 r<r.length->at0 r (f8 r)≠0
 | [],h=>by simp[f8]at h
 | x::r,h=>by
  unfold f8 at h ⊢;split at h
  · rename_i hx;rw[if_pos hx];exact Ck r (by simpa using h)
  · rename_i hx;rw[if_neg hx];exact hx
theorem K4:∀(r:Row) (h:Nat),(∀ k,k<h->at0 r k=0)->at0 r h≠0->f8 r=h
 | [],h,_,q=>by simp[at0]at q
 | x::r,0,_,q=>by
  unfold f8;rw[if_neg (by simpa[at0]using q)]
 | x::r,h+1,z,q=>by
  have hx:x=0:=by simpa[at0]using z 0 (by rfl')
  unfold f8;rw[if_pos hx,K4 r h (λk hk=>by simpa[at0]using z (k+1) (by rfl')) (by simpa[at0]using q)]
theorem Yg(r:Row)(h:Nat)(z:∀ k,k<h->at0 r k=0)(hl:h<=r.length):h<=f8 r:=by
 apply vK;intro hlt;exact Ck r (by rfl') (z _ hlt)
theorem u7{r:Row}{k:Nat}(h:r.length<=k):at0 r k=0:=by simp[at0,List.getD,wR h]
theorem ext0{a b:Row}(h:a.length=b.length)(q:∀ k,at0 a k=at0 b k):a=b:=by
 apply vM h;intro i h1 h2;have:=q i;simpa[at0,List.getD,wa h1,wa h2]using this
def sub(a:Row)(q:Int)(b:Row):Row:=List.zipWith (λx y=>x-q*y) a b
theorem O0{a b:Row}{q:Int}(h:a.length=b.length):(sub a q b).length=a.length:=by unfold sub;rw[vI];rfl'
theorem M6{a b:Row}{q:Int}(h:a.length=b.length)(k:Nat):at0 (sub a q b) k=at0 a k-q*at0 b k:=by
 by_cases hk:k<a.length
 · unfold at0 sub;simp[List.getD,uX,wa hk,wa (show k<b.length by rfl')]
 · rw[u7 (by rw[O0 h];rfl'),u7 (by rfl'),u7 (show b.length<=k by rfl')];simp
def lin(x:Int)(a:Row)(y:Int)(b:Row):Row:=List.zipWith (λp q=>x*p+y*q) a b
theorem HP{a b:Row}{x y:Int}(h:a.length=b.length):(lin x a y b).length=a.length:=by unfold lin;rw[vI];rfl'
theorem HQ{a b:Row}{x y:Int}(h:a.length=b.length)(k:Nat):at0 (lin x a y b) k=x*at0 a k+y*at0 b k:=by
 by_cases hk:k<a.length
 · unfold at0 lin;simp[List.getD,uX,wa hk,wa (show k<b.length by rfl')]
 · rw[u7 (by rw[HP h];rfl'),u7 (by rfl'),u7 (show b.length<=k by rfl')];simp
def hd(r:Row):Int:=at0 r (f8 r)
def B8(left rung:Row):Int:=(at0 left (f8 rung)).fdiv (hd rung)
def n4:Row->aA->Row
 | left,[]=>left
 | left,r::rs=>n4 (sub left (B8 left r) r) rs
def IM:Row->aA->aH
 | _,[]=>[]
 | left,r::rs=>B8 left r::IM (sub left (B8 left r) r) rs
def Asc(n:Nat):Nat->aA->Prop
 | _,[]=>True
 | f,r::rs=>r.length=n/\f<=f8 r/\f8 r<n/\0<hd r/\Asc n (f8 r+1) rs
theorem Asc.weak{n:Nat}:∀{f g:Nat} {S:aA},Asc n f S->g<=f->Asc n g S
 | _,_,[],_,_=>trivial
 | _,_,r::rs,⟨h1,h2,h3,h4,h5⟩,h=>⟨h1,wK h h2,h3,h4,h5⟩
theorem Asc.mem{n:Nat}:∀{f:Nat} {S:aA} {r:Row},Asc n f S->r∈S->r.length=n/\f<=f8 r/\f8 r<n/\0<hd r
 | _,_::_,_,⟨h1,h2,h3,h4,h5⟩,.head _=>⟨h1,h2,h3,h4⟩
 | _,_::_,_,⟨h1,h2,h3,h4,h5⟩,.tail _ q=>by obtain⟨a,b,c,d⟩:=h5.mem q;exact⟨a,by rfl',c,d⟩
theorem L3{n:Nat}:∀{f:Nat} {S:aA} {left:Row},Asc n f S->left.length=n->(n4 left S).length=n
 | _,[],left,_,h=>h
 | _,r::rs,left,⟨h1,h2,h3,h4,h5⟩,h=>by rw[n4];exact L3 h5 (by rw[O0 (by rfl')];exact h)
theorem Bm{n:Nat}:∀{f:Nat} {S:aA} {left:Row},Asc n f S->left.length=n->∀ k,k<f->at0 (n4 left S) k=at0 left k
 | _,[],left,_,h,k,_=>rfl
 | f,r::rs,left,⟨h1,h2,h3,h4,h5⟩,h,k,hk=>by
  rw[n4,Bm h5 (by rw[O0 (by rfl')];exact h) k (by rfl'),M6 (by rfl'),r9 r k (by rfl')];simp
theorem Gj(a:Int){b:Int}(h:0<b):0<=a-a.fdiv b*b/\a-a.fdiv b*b<b:=by
 have h1:=vp a h;have h2:=vG a h;have h3:=w0H a b;rw[wO]at h3;rfl'
theorem P0{n:Nat}:∀{f:Nat} {S:aA} {left:Row},Asc n f S->left.length=n->∀ r∈S,0<=at0 (n4 left S) (f8 r)/\at0 (n4 left S) (f8 r)<hd r
 | f,r::rs,left,⟨h1,h2,h3,h4,h5⟩,h,x,hx=>by
  have hl:(sub left (B8 left r) r).length=n:=by rw[O0 (by rfl')];exact h
  rw[n4];cases hx with
  | head =>
   rw[Bm h5 hl _ (vB _),M6 (by rfl')];exact Gj _ h4
  | tail _ hx=>exact P0 h5 hl x hx
def Lt(m:Nat)(r:Row):Prop:=∀ k,(at0 r k).natAbs<m
theorem Lt.mono{m m':Nat}{r:Row}(h:Lt m r)(q:m<=m'):Lt m' r:=λk=>wE (h k) q
theorem AB(a:Int){b:Int}(h:0<b):(a.fdiv b).natAbs<=a.natAbs:=by
 have h1:=Gj a h;generalize a.fdiv b=q at *;rcases w0i q 0 with hq|hq|hq
 · have e:(q+1)*b=q*b+b:=by rw[w1e];rfl'
   have:(q+1)*b<=(q+1)*1:=Int.mul_le_mul_of_nonpos_left (by rfl') (by rfl');rfl'
 · subst hq;simp
 · have:q*1<=q*b:=Int.mul_le_mul_of_nonneg_left (by rfl') (by rfl');rfl'
theorem sub_lt{a b:Row}{q:Int}{s t u:Nat}(hl:a.length=b.length)(ha:Lt s a)(hb:Lt t b)(hq:q.natAbs<=u)(hs:0<s)(ht:0<t):Lt (s+u*t) (sub a q b):=λk=>by
 rw[M6 hl];have h1:=ha k;have h2:=hb k;have h3:(q*at0 b k).natAbs<=u*(t-1):=by rw[vd];exact vS hq (by rfl')
 have h4:u*(t-1)<=u*t:=vc _ (by rfl');rfl'
theorem ZX{left r:Row}{s t:Nat}(hl:left.length=r.length)(hr:0<hd r)(ha:Lt s left)(hb:Lt t r):Lt (s*(t+1)) (sub left (B8 left r) r):=by
 have hs:0<s:=w0a (wU _) (ha 0);have ht:0<t:=w0a (wU _) (hb 0);have:=sub_lt (q:=B8 left r) (u:=s) hl ha hb (wK (AB (at0 left (f8 r)) hr) (vV (ha (f8 r)))) hs ht;rw[w0j,Nat.mul_one,Nat.add_comm];exact this
end St

end
section
local macro_rules|`(tactic|rfl')=>`(tactic|first|lia|omega +splitDisjunctions)
namespace St
open Lat
abbrev vec(r:Row):Vec:=λk=>at0 r k
abbrev vecs(S:aA):List Vec:=S.map vec
theorem Cl{S:aA}{r:Row}(h:r∈S):vec r∈vecs S:=wj.mpr ⟨r,h,rfl⟩
theorem J0{n:Nat}:∀{f:Nat} {S:aA} {left:Row},Asc n f S->left.length=n->Span (vecs S) (λk=>at0 left k-at0 (n4 left S) k)
 | _,[],left,_,h=>λk=>by show at0 left k-at0 left k=0;rfl'
 | f,r::rs,left,⟨h1,h2,h3,h4,h5⟩,h=>by
  have hl:(sub left (B8 left r) r).length=n:=by rw[O0 (by rfl')];exact h
  have ih:=J0 h5 hl;refine⟨B8 left r,Span.congr (λk=>?_) ih⟩;rw[n4];show at0 (sub left (B8 left r) r) k-at0 (n4 (sub left (B8 left r) r) rs) k=at0 left k-at0 (n4 (sub left (B8 left r) r) rs) k-B8 left r*at0 r k;rw[M6 (by rfl')];rfl'
def mix:aA->aH->Vec
 | r::rs,c::cs=>λk=>c*at0 r k+mix rs cs k
 | _,_=>λ_=>0
theorem Asc.low{n:Nat}:∀{f:Nat} {S:aA} {v:Vec},Asc n f S->Span (vecs S) v->∀ k,k<f->v k=0
 | _,[],v,_,s,k,_=>s k
 | f,r::S,v,⟨h1,h2,h3,h4,h5⟩,⟨c,s⟩,k,hk=>by
  have e:=Asc.low h5 s k (by rfl');have e2:at0 r k=0:=r9 r k (by rfl');have e:v k-c*at0 r k=0:=e;rw[e2]at e;simpa using e
theorem Asc.coef{n f:Nat}{r:Row}{v:Vec}{S:aA}{c:Int}(A:Asc n f (r::S))(s:Span (vecs S) (λk=>v k-c*at0 r k)):v (f8 r)=c*hd r:=by
 have:v (f8 r)-c*at0 r (f8 r)=0:=A.2.2.2.2.low s _ (vB _);unfold hd;rfl'
theorem Asc.first{n:Nat}:∀{f:Nat} {S:aA} {v:Vec} {h:Nat},Asc n f S->Span (vecs S) v->(∀ k,k<h->v k=0)->v h≠0->∃ r∈S,f8 r=h
 | _,[],v,h,_,s,_,q=>absurd (s h) q
 | f,r::S,v,h,A,⟨c,s⟩,z,q=>by
  have e:=A.coef s;by_cases hc:c=0
  · subst hc;have s':Span (vecs S) v:=Span.congr (λk=>by simp) s;obtain⟨x,hx,e⟩:=A.2.2.2.2.first s' z q;exact⟨x,wc _ hx,e⟩
  · have hn:v (f8 r)≠0:=by
      rw[e];intro z;rcases vF.mp z with z|z
      · exact hc z
      · have:=A.2.2.2.1;rfl'
    have h1:¬f8 r<h:=λz'=>hn (z _ z');by_cases h2:h<f8 r
    · exfalso;have e2:v h-c*at0 r h=0:=A.2.2.2.2.low s h (by rfl');rw[r9 r h h2]at e2;exact q (by simpa using e2)
    · exact⟨r,wf,by rfl'⟩
def even:aA->aA
 | []=>[]
 | r::rs=>n4 r (even rs)::even rs
theorem W3{n:Nat}:∀{f:Nat} {S:aA},Asc n f S->Asc n f (even S)/\(even S).map f8=S.map f8/\(even S).map hd=S.map hd
 | _,[],_=>⟨trivial,rfl,rfl⟩
 | f,r::rs,⟨h1,h2,h3,h4,h5⟩=>by
  obtain⟨i1,i2,i3⟩:=W3 h5;have low:=Bm i1 h1;have e1:at0 (n4 r (even rs)) (f8 r)=hd r:=low _ (vB _);have e2:f8 (n4 r (even rs))=f8 r:=K4 _ _ (λk hk=>by rw[low k (by rfl')];exact r9 r k hk) (by rw[e1];rfl');have e3:hd (n4 r (even rs))=hd r:=by unfold hd;rw[e2];exact e1
  refine⟨⟨L3 i1 h1,by rw[e2];exact h2,by rw[e2];exact h3,by rw[e3];exact h4,by rw[e2];exact i1⟩,?_,?_⟩
  · rw[even,wo,wo,e2,i2]
  · rw[even,wo,wo,e3,i3]
def u5(S:aA):List (Nat×Vec):=S.map λr=>(f8 r,vec r)
theorem KR{n:Nat}:∀{f:Nat} {S:aA},Asc n f S->Form f (u5 (even S))
 | _,[],_=>trivial
 | f,r::rs,A=>by
  obtain⟨j1,_,_⟩:=W3 A;obtain⟨h1,h2,h3,h4,h5⟩:=A;obtain⟨i1,i2,i3⟩:=W3 h5;obtain⟨k1,k2,k3,k4,k5⟩:=j1;have low:=Bm i1 h1;have e1:at0 (n4 r (even rs)) (f8 r)=hd r:=low _ (vB _);have e2:f8 (n4 r (even rs))=f8 r:=K4 _ _ (λk hk=>by rw[low k (by rfl')];exact r9 r k hk) (by rw[e1];rfl');refine⟨k2,λk hk=>r9 _ k hk,k4,λp hp=>?_,by rw[e2];exact KR h5⟩;obtain⟨x,hx,rfl⟩:=wj.mp hp;exact P0 i1 h1 x hx
theorem KS{n:Nat}:∀{f:Nat} {S:aA},Asc n f S->SameSpan (vecs (even S)) (vecs S)
 | _,[],_=>SameSpan.refl
 | f,r::rs,A=>by
  obtain⟨h1,h2,h3,h4,h5⟩:=A;obtain⟨i1,i2,i3⟩:=W3 h5;have ih:=KS h5;have sp:=J0 i1 h1;constructor
  · intro v hv;obtain⟨x,hx,rfl⟩:=wj.mp hv;rcases ww.mp hx with rfl|hx
    · refine⟨1,Span.congr (λk=>?_) ((ih.iff.mp sp).neg)⟩;show -(at0 r k-at0 (n4 r (even rs)) k)=at0 (n4 r (even rs)) k-1*at0 r k;rfl'
    · exact(ih.1 _ (Cl hx)).cons
  · intro v hv;obtain⟨x,hx,rfl⟩:=wj.mp hv;rcases ww.mp hx with rfl|hx
    · refine⟨1,Span.congr (λk=>?_) sp⟩;show at0 x k-at0 (n4 x (even rs)) k=at0 x k-1*at0 (n4 x (even rs)) k;rfl'
    · exact(ih.2 _ (Cl hx)).cons
end St

end
section
local macro_rules|`(tactic|rfl')=>`(tactic|first|lia|omega +splitDisjunctions)
namespace St
open Lat
theorem Asc.iff{n:Nat}:∀{f:Nat} {S:aA},Asc n f S↔(∀ r∈S,r.length=n/\f<=f8 r/\f8 r<n/\0<hd r)/\(S.map f8).Pairwise (·<·)
 | f,[]=>by simp[Asc]
 | f,r::rs=>by
  constructor
  · intro A;refine⟨λx hx=>A.mem hx,?_⟩;rw[wo,vj];refine⟨λh hh=>?_,(Asc.iff.mp A.2.2.2.2).2⟩;obtain⟨x,hx,rfl⟩:=wj.mp hh;exact(A.2.2.2.2.mem hx).2.1
  · rintro⟨h1,h2⟩;rw[wo,vj]at h2;have q:=h1 r wf;refine⟨q.1,q.2.1,q.2.2.1,q.2.2.2,Asc.iff.mpr ⟨λx hx=>?_,h2.2⟩⟩;have q2:=h1 x (wc _ hx);exact⟨q2.1,h2.1 _ (wj.mpr ⟨x,hx,rfl⟩),q2.2.2.1,q2.2.2.2⟩
theorem sub_zero{a b:Row}(h:a.length=b.length):sub a 0 b=a:=ext0 (O0 h) λk=>by rw[M6 h];simp
theorem Cm{n:Nat}{t:Nat}:∀{S:aA} {left:Row},(∀ r∈S,r.length=n)->left.length=n->(∀ k,k<t->at0 left k=0)->(∀ k,k<t->at0 (n4 left S) k=0)/\(n4 left S).length=n
 | [],left,_,hl,z=>⟨z,hl⟩
 | r::rs,left,hw,hl,z=>by
  have h1:=hw r wf;rw[n4];refine Cm (λx hx=>hw x (wc _ hx)) (by rw[O0 (by rfl')];exact hl) λk hk=>?_;rw[M6 (by rfl'),z k hk];by_cases hh:f8 r<t
  · have:B8 left r=0:=by unfold B8;rw[z _ hh];simp
    rw[this];simp
  · rw[r9 r k (by rfl')];simp
def LowB(m:Nat):Row->aA->Prop
 | _,[]=>True
 | left,r::rs=>(B8 left r=0\/((B8 left r).natAbs<2 ^ m/\Lt (2 ^ m) r))/\LowB m (sub left (B8 left r) r) rs
theorem P1{n t s e m:Nat}:∀{S:aA} {left:Row},(∀ r∈S,r.length=n/\0<hd r)->left.length=n->(∀ k,k<t->at0 left k=0)->(∀ r∈S,t<=f8 r->Lt (2 ^ e) r)->Lt (2 ^ s) left->s+S.length*(e+1)<=m->e<=m ->
  Lt (2 ^ (s+S.length*(e+1))) (n4 left S)/\LowB m left S
 | [],left,_,hl,z,_,hs,_,_=>⟨by simpa[n4]using hs,trivial⟩
 | r::rs,left,hw,hl,z,hb,hs,hm,hem=>by
  have h1:=hw r wf;have lenE:(r::rs).length*(e+1)=rs.length*(e+1)+(e+1):=by rw[wu,uU]
  have e2:∀ q,(sub left q r).length=n:=λq=>by rw[O0 (by rfl')];exact hl
  by_cases hh:f8 r<t
  · have o:B8 left r=0:=by unfold B8;rw[z _ hh];simp
    have es:sub left (B8 left r) r=left:=by rw[o];exact sub_zero (by rfl')
    obtain⟨i1,i2⟩:=P1 (t:=t) (s:=s) (e:=e) (m:=m) (S:=rs) (left:=left) (λx hx=>hw x (wc _ hx)) hl z (λx hx=>hb x (wc _ hx)) hs (by rfl') hem;rw[n4,LowB,es];exact⟨i1.mono (wq (by decide) (by rfl')),.inl o,i2⟩
  · have hr:Lt (2 ^ e) r:=hb r wf (by rfl');have st:=ZX (s:=2 ^ s) (t:=2 ^ e) (by rfl') h1.2 hs hr;have st':Lt (2 ^ (s+(e+1))) (sub left (B8 left r) r):=by
     refine st.mono ?_;rw[vt];refine vc _ ?_;have:0<2 ^ e:=wJ e;rw[vQ];rfl'
    obtain⟨i1,i2⟩:=P1 (t:=t) (s:=s+(e+1)) (e:=e) (m:=m) (S:=rs) (left:=sub left (B8 left r) r) (λx hx=>hw x (wc _ hx)) (e2 _)
     (λk hk=>by rw[M6 (by rfl'),z k hk,r9 r k (by rfl')];simp) (λx hx=>hb x (wc _ hx)) st' (by rfl') hem
    rw[n4,LowB];refine⟨i1.mono (wq (by decide) (by rfl')),.inr ⟨?_,hr.mono (wq (by decide) hem)⟩,i2⟩;refine w0a (AB (at0 left (f8 r)) h1.2) (wE (hs _) (wq (by decide) (by rfl')))
def B4(r left:Row)(x y:Int):Row:=lin x r y left
def F6(r left:Row)(g:Int):Row:=lin ((at0 r (f8 r)).fdiv g) left (-((at0 left (f8 r)).fdiv g)) r
structure Wi(n e eh m0 kk:Nat)(S0:aA)(v:Row)(S:aA)(left:Row):Prop where
 asc:Asc n 0 S
 len:left.length=n
 heads:S.map f8=S0.map f8
 span:SameSpan (vecs (left::S)) (vecs (v::S0))
 low:∀ r∈S,0<=at0 left (f8 r)/\at0 left (f8 r)<hd r
 right:∀ r∈S,f8 left<=f8 r->Lt (2 ^ e) r
 hds:∀ r∈S,hd r<2 ^ eh
 size:Lt (2 ^ (m0+f8 left*kk)) left
 all:∀ r∈S,Lt (2 ^ (e+3+(m0+f8 left*kk))) r
theorem ZY{a b:Row}{x y:Int}{p q s:Nat}(h:a.length=b.length)(hx:x.natAbs<2 ^ p)(hy:y.natAbs<2 ^ p)(ha:Lt (2 ^ q) a)(hb:Lt (2 ^ q) b)(hs:p+q+1<=s):Lt (2 ^ s) (lin x a y b):=λk=>by
 rw[HQ h];have h1:(x*at0 a k).natAbs<2 ^ (p+q):=by
  rw[vd,vt];exact uj hx (ha k)
 have h2:(y*at0 b k).natAbs<2 ^ (p+q):=by
  rw[vd,vt];exact uj hy (hb k)
 have h3:2 ^ (p+q+1)<=2 ^ s:=wq (by decide) hs;rw[vQ]at h3;omega +splitDisjunctions
theorem n9{S:aA}{r:Row}(h:r∈S):Span (vecs S) (λk=>at0 r k):=Span.mem (Cl h)
theorem ED{T:List Vec}{u v:Vec}(x y:Int)(hu:Span T u)(hv:Span T v):Span T (λk=>x*u k+y*v k):=(hu.smul x).add (hv.smul y)
theorem Bn{A B:aA}(h1:∀ r∈A,Span (vecs B) (λk=>at0 r k))(h2:∀ r∈B,Span (vecs A) (λk=>at0 r k)):SameSpan (vecs A) (vecs B):=by
 constructor
 · intro v hv;obtain⟨r,hr,rfl⟩:=wj.mp hv;exact h1 r hr
 · intro v hv;obtain⟨r,hr,rfl⟩:=wj.mp hv;exact h2 r hr
theorem Wi.step{n e eh m0 kk:Nat}{S0:aA}{v:Row}{S1 S2:aA}{r left:Row}{g x y:Int}(I:Wi n e eh m0 kk S0 v (S1++r::S2) left)(hh:f8 r=f8 left)(hn:f8 left<n)
   (hg:0<g) (ga:g∣hd r) (gb:g∣at0 left (f8 r)) (hxy:hd r*x+at0 left (f8 r)*y=g) (hx:x.natAbs<2 ^ (e+2)) (hy:y.natAbs<2 ^ (e+2)) (he:e<=m0)
   (hk:2*e+3+(S1.length+S2.length+1)*(e+1)<=kk) :
   Wi n e eh m0 kk S0 v (S1++B4 r left x y::S2) (n4 (F6 r left g) (S1++B4 r left x y::S2))/\f8 left<f8 (n4 (F6 r left g) (S1++B4 r left x y::S2)) /\
     LowB (m0+n*kk) (F6 r left g) (S1++B4 r left x y::S2)/\(∀ q∈S1++B4 r left x y::S2,hd q<2 ^ eh):=by
 have hrm:r∈S1++r::S2:=wx.mpr (.inr wf);have q:=I.asc.mem hrm;have hl:r.length=left.length:=by rw[q.1,I.len]
 have hlow:=I.low r hrm;have hu:∀ k,at0 (B4 r left x y) k=x*at0 r k+y*at0 left k:=λk=>HQ hl k;have hlo:∀ k,at0 (F6 r left g) k=((at0 r (f8 r)).fdiv g)*at0 left k+(-((at0 left (f8 r)).fdiv g))*at0 r k:=λk=>HQ hl.symm k;have lu:(B4 r left x y).length=n:=by unfold B4;rw[HP hl];exact q.1
 have llo:(F6 r left g).length=n:=by unfold F6;rw[HP hl.symm];exact I.len
 obtain⟨a',ea⟩:=ga;obtain⟨b',eb⟩:=gb;have da:(hd r).fdiv g=a':=by rw[ea];exact w0o _ (by rfl')
 have db:(at0 left (f8 r)).fdiv g=b':=by rw[eb];exact w0o _ (by rfl')
 have hlo:∀ k,at0 (F6 r left g) k=a'*at0 left k+(-b')*at0 r k:=λk=>by
   have:=hlo k;rw[db,show at0 r (f8 r)=hd r from rfl,da]at this;exact this
 have det:a'*x+b'*y=1:=by
   have:g*(a'*x+b'*y)=g*1:=by rw[w0k,←vO,←vO,←ea,←eb];rfl'
   exact w0d (by rfl') this
 have zb:∀ k,k<f8 left->at0 r k=0/\at0 left k=0:=λk hk=>⟨r9 r k (by rfl'),r9 left k hk⟩;have us:at0 (B4 r left x y) (f8 r)=g:=by rw[hu,←hxy];show x*hd r+y*_=_;rw[wO x,wO y]
 have uh:f8 (B4 r left x y)=f8 r:=K4 _ _ (λk hk=>by rw[hu,(zb k (by rfl')).1,(zb k (by rfl')).2];simp) (by rw[us];rfl');have uhd:hd (B4 r left x y)=g:=by unfold hd;rw[uh];exact us
 have gle:g<=hd r:=vR q.2.2.2 ⟨a',ea⟩;have lz:∀ k,k<f8 left+1->at0 (F6 r left g) k=0:=λk hk=>by
   rw[hlo];by_cases h:k<f8 left
   · rw[(zb k h).1,(zb k h).2];simp
   · have:k=f8 r:=by rfl'
     subst this;rw[eb,show at0 r (f8 r)=hd r from rfl,ea,vT a' g b',w00,vT b' g a',wO a' b'];rfl'
 have asc':Asc n 0 (S1++B4 r left x y::S2):=by
   have A:=Asc.iff.mp I.asc;refine Asc.iff.mpr ⟨λz hz=>?_,?_⟩
   · rcases wx.mp hz with h|h
     · exact A.1 z (wx.mpr (.inl h))
     · rcases ww.mp h with rfl|h
       · exact⟨lu,wU _,by rw[uh];exact q.2.2.1,by rw[uhd];exact hg⟩
       · exact A.1 z (wx.mpr (.inr (wc _ h)))
   · have e1:(S1++B4 r left x y::S2).map f8=(S1++r::S2).map f8:=by simp[uh]
     rw[e1];exact A.2
 have hw':∀ z∈S1++B4 r left x y::S2,z.length=n:=λz hz=>(asc'.mem hz).1;obtain⟨nz,nl⟩:=Cm (t:=f8 left+1) hw' llo lz;have hhead:f8 left+1<=f8 (n4 (F6 r left g) (S1++B4 r left x y::S2)):=Yg _ _ nz (by rw[nl];rfl');have mm:∀ z∈S1++B4 r left x y::S2,z=B4 r left x y\/z∈S1++r::S2:=λz hz=>by
   rcases wx.mp hz with h|h
   · exact .inr (wx.mpr (.inl h))
   · rcases ww.mp h with rfl|h
     · exact .inl rfl
     · exact .inr (wx.mpr (.inr (wc _ h)))
 have right':∀ z∈S1++B4 r left x y::S2,f8 left+1<=f8 z->Lt (2 ^ e) z:=λz hz hk=>by
   rcases mm z hz with rfl|h
   · rw[uh]at hk;rfl'
   · exact I.right z h (by rfl')
 have rlt:Lt (2 ^ e) r:=I.right r hrm (by rfl');have hds':∀ z∈S1++B4 r left x y::S2,hd z<2 ^ eh:=λz hz=>by
   rcases mm z hz with rfl|h
   · rw[uhd];have:=I.hds r hrm;rfl'
   · exact I.hds z h
 have aS:(a').natAbs<2 ^ e:=by
   have h1:(hd r).natAbs<2 ^ e:=rlt (f8 r);rw[ea,vd]at h1;have:1*a'.natAbs<=g.natAbs*a'.natAbs:=wI _ (by rfl');rfl'
 have bS:(-b').natAbs<2 ^ e:=by
   have h1:(hd r).natAbs<2 ^ e:=rlt (f8 r);have h2:(at0 left (f8 r)).natAbs<2 ^ e:=by rfl'
   rw[eb,vd]at h2;have:1*b'.natAbs<=g.natAbs*b'.natAbs:=wI _ (by rfl');rfl'
 have m1:e<=m0+f8 left*kk:=by rfl'
 have sl:Lt (2 ^ (e+(m0+f8 left*kk)+1)) (F6 r left g):=by
   unfold F6;rw[show at0 r (f8 r)=hd r from rfl,da,db];exact ZY hl.symm aS bS I.size (rlt.mono (wq (by decide) m1)) (wB _)
 have hk1:(f8 left+1)*kk=f8 left*kk+kk:=by rw[uU]
 have hkn:(f8 left+1)*kk<=n*kk:=wI _ (by rfl');have hkh:(f8 left+1)*kk<=f8 (n4 (F6 r left g) (S1++B4 r left x y::S2))*kk:=wI _ hhead;have lenS:(S1++B4 r left x y::S2).length=S1.length+S2.length+1:=by simp;rfl'
 obtain⟨z1,z2⟩:=P1 (n:=n) (t:=f8 left+1) (s:=e+(m0+f8 left*kk)+1) (e:=e) (m:=m0+n*kk) (S:=S1++B4 r left x y::S2) (left:=F6 r left g)
   (λz hz=>⟨hw' z hz,(asc'.mem hz).2.2.2⟩) llo lz right' sl (by rw[lenS];rfl') (by rfl')
 have low':=P0 asc' llo;refine⟨⟨asc',nl,?_,?_,low',λz hz hk=>right' z hz (by rfl'),hds',z1.mono (wq (by decide) (by rw[lenS];rfl')),λz hz=>?_⟩,hhead,z2,hds'⟩
 · rw[←I.heads];simp[uh]
 · refine SameSpan.trans (Bn (B:=left::(S1++r::S2)) ?_ ?_) I.span
   ·
     have oldr:Span (vecs (left::(S1++r::S2))) (λk=>at0 r k):=n9 (wc _ hrm);have oldl:Span (vecs (left::(S1++r::S2))) (λk=>at0 left k):=n9 wf;have nu:Span (vecs (left::(S1++r::S2))) (λk=>at0 (B4 r left x y) k):=Span.congr (λk=>(hu k).symm) (ED x y oldr oldl);have nlo:Span (vecs (left::(S1++r::S2))) (λk=>at0 (F6 r left g) k):=Span.congr (λk=>(hlo k).symm) (ED a' (-b') oldl oldr);have all:∀ z∈S1++B4 r left x y::S2,Span (vecs (left::(S1++r::S2))) (λk=>at0 z k):=λz hz=>by
       rcases mm z hz with rfl|h
       · exact nu
       · exact n9 (wc _ h)
     intro z hz;rcases ww.mp hz with rfl|hz
     · have d:=J0 asc' llo;have d':Span (vecs (left::(S1++r::S2))) (λk=>at0 (F6 r left g) k-at0 (n4 (F6 r left g) (S1++B4 r left x y::S2)) k) :=
         d.trans λw hw=>by obtain⟨z,hz,rfl⟩:=wj.mp hw;exact all z hz
       exact Span.congr (λk=>by rfl') (nlo.sub d')
     · exact all z hz
   · have um:B4 r left x y∈S1++B4 r left x y::S2:=wx.mpr (.inr wf);have nu:Span (vecs (n4 (F6 r left g) (S1++B4 r left x y::S2)::(S1++B4 r left x y::S2))) (λk=>at0 (B4 r left x y) k):=n9 (wc _ um);have nlo:Span (vecs (n4 (F6 r left g) (S1++B4 r left x y::S2)::(S1++B4 r left x y::S2))) (λk=>at0 (F6 r left g) k):=by
       have d:=J0 asc' llo;have t:Span (vecs (n4 (F6 r left g) (S1++B4 r left x y::S2)::(S1++B4 r left x y::S2))) (λk=>at0 (n4 (F6 r left g) (S1++B4 r left x y::S2)) k):=n9 wf;exact Span.congr (λk=>by rfl') (t.add d.cons)
     have nr:∀ k,at0 r k=a'*at0 (B4 r left x y) k+(-y)*at0 (F6 r left g) k:=λk=>by
       rw[hu,hlo];have:at0 r k=(a'*x+b'*y)*at0 r k:=by rw[det];rfl'
       rw[this]
       grind
     have nle:∀ k,at0 left k=b'*at0 (B4 r left x y) k+x*at0 (F6 r left g) k:=λk=>by
       rw[hu,hlo];have:at0 left k=(a'*x+b'*y)*at0 left k:=by rw[det];rfl'
       rw[this]
       grind
     intro z hz;rcases ww.mp hz with rfl|hz
     · exact Span.congr (λk=>(nle k).symm) (ED _ _ nu nlo)
     · rcases wx.mp hz with h|h
       · exact n9 (wc _ (wx.mpr (.inl h)))
       · rcases ww.mp h with rfl|h
         · exact Span.congr (λk=>(nr k).symm) (ED _ _ nu nlo)
         · exact n9 (wc _ (wx.mpr (.inr (wc _ h))))
 · rcases mm z hz with rfl|h
   · exact ZY (q:=m0+f8 left*kk) hl hx hy (rlt.mono (wq (by decide) m1)) I.size (by rfl')
   · exact(I.all z h).mono (wq (by decide) (by rfl'))
end St

end
section
namespace St
open Lat
def Ind(R:aA):Prop:=∀ cs:aH,cs.length=R.length->(∀ k,mix R cs k=0)->∀ c∈cs,c=0
theorem EE{T:List Vec}:∀{R:aA} {cs:aH},(∀ r∈R,Span T (λk=>at0 r k))->Span T (mix R cs)
 | [],cs,_=>by unfold mix;exact Span.zero
 | r::R,[],_=>by unfold mix;exact Span.zero
 | r::R,c::cs,h=>by
  unfold mix;exact((h r wf).smul c).add (EE λx hx=>h x (wc _ hx))
def dif(a b:aH):aH:=List.zipWith (λx y=>x-y) a b
theorem Wu{a b:aH}(h:a.length=b.length):(dif a b).length=a.length:=by unfold dif;rw[vI];rfl'
theorem Wv:∀{R:aA} {a b:aH},a.length=b.length->∀ k,mix R (dif a b) k=mix R a k-mix R b k
 | [],a,b,h,k=>by simp[mix]
 | r::R,[],[],h,k=>by simp[mix,dif]
 | r::R,x::a,y::b,h,k=>by
  have ih:=Wv (R:=R) (a:=a) (b:=b) (by simpa using h) k;show(x-y)*at0 r k+mix R (dif a b) k=(x*at0 r k+mix R a k)-(y*at0 r k+mix R b k);rw[ih,w0K];rfl'
theorem Ou:∀{a b:aH},a.length=b.length->(∀ c∈dif a b,c=0)->a=b
 | [],[],_,_=>rfl
 | x::a,y::b,h,z=>by
  have h1:x-y=0:=z _ (wf);rw[Ou (a:=a) (b:=b) (by simpa using h) λc hc=>z c (wc _ hc),show x=y by rfl']
theorem KT{N:Nat}:∀{a b:aH},(∀ c∈a,0<=c/\c<=N)->(∀ c∈b,0<=c/\c<=N)->∀ c∈dif a b,c.natAbs<=N
 | [],_,_,_,c,hc=>by simp[dif]at hc
 | x::a,[],_,_,c,hc=>by simp[dif]at hc
 | x::a,y::b,ha,hb,c,hc=>by
  have hc:c∈(x-y)::dif a b:=hc;rcases ww.mp hc with rfl|hc
  · have:=ha x wf;have:=hb y wf;rfl'
  · exact KT (λc h=>ha c (wc _ h)) (λc h=>hb c (wc _ h)) c hc
theorem MN{N B:Nat}:∀{R:aA} {cs:aH},(∀ r∈R,Lt B r)->(∀ c∈cs,c.natAbs<=N)->∀ k,(mix R cs k).natAbs<=R.length*(N*B)
 | [],cs,_,_,k=>by simp[mix]
 | r::R,[],_,_,k=>by simp[mix]
 | r::R,c::cs,hr,hc,k=>by
  have ih:=MN (R:=R) (cs:=cs) (λx hx=>hr x (wc _ hx)) (λx hx=>hc x (wc _ hx)) k;show(c*at0 r k+mix R cs k).natAbs<=_;have h1:(c*at0 r k).natAbs<=N*B:=by
   rw[vd];exact vS (hc c wf) (vV (hr r wf k))
  rw[wu,uU];rfl'
theorem Gk{N:Nat}:∀{r:Nat} {t:aH},K1 (List.replicate r (N+1)) t↔t.length=r/\∀ c∈t,0<=c/\c<=N
 | 0,[]=>by simp[K1]
 | 0,x::t=>by simp[K1]
 | r+1,[]=>by simp[K1,List.replicate]
 | r+1,x::t=>by
  rw[w0P,K1,Gk,wu];constructor
  · rintro⟨h1,h2,h3,h4⟩;refine⟨by rfl',λc hc=>?_⟩;rcases ww.mp hc with rfl|hc
    · rfl'
    · exact h4 c hc
  · rintro⟨h1,h2⟩;have:=h2 x wf;exact⟨by rfl',by rfl',by rfl',λc hc=>h2 c (wc _ hc)⟩
theorem IN(N:Nat):∀ r,prod (List.replicate r N)=N ^ r
 | 0=>rfl
 | r+1=>by rw[w0P,prod,IN,vQ,uE]
theorem siegel{R:aA}{B:Nat}(hR:Ind R)(hb:∀ r∈R,Lt B r)(hp:0<B)(hs:List Nat)(hl:hs.length+1=R.length):
   ∃ cs:aH,cs.length=R.length/\(∀ h∈hs,mix R cs h=0)/\(∃ k,mix R cs k≠0)/\∀ k,(mix R cs k).natAbs<=(2*R.length*B) ^ R.length:=by
 let r:=R.length;let N:=(2*R.length*B) ^ hs.length;let W:=R.length*(N*B);let f:aH->aH:=λcs=>hs.map λh=>mix R cs h+(W:Int);have main:∃ a b:aH,K1 (List.replicate r (N+1)) a/\K1 (List.replicate r (N+1)) b/\f a=f b/\a≠b:=by
   apply vi;intro no;have inj:∀ s t,K1 (List.replicate r (N+1)) s->K1 (List.replicate r (N+1)) t->f s=f t->s=t:=λs t h1 h2 h3=>vi λhne=>no ⟨s,t,h1,h2,h3,hne⟩;have h1:=Wr (ns:=List.replicate r (N+1)) (ms:=List.replicate hs.length (2*W+1)) f inj λs hsr=>by
    rw[Gk]at hsr ⊢;refine⟨by simp[f],λc hc=>?_⟩;obtain⟨h,_,rfl⟩:=wj.mp hc;have:=MN (N:=N) hb (cs:=s) (λc hc=>by have:=hsr.2 c hc;rfl') h;have:(mix R s h).natAbs<=W:=this;rfl'
   rw[IN,IN]at h1;have hr1:1<=R.length:=by rfl'
   have h2:2*W+1<=(2*R.length*B)*(N+1):=by
    have e:(2*R.length*B)*(N+1)=2*W+2*R.length*B:=by
     show _=2*(R.length*(N*B))+_;rw[w0j,Nat.mul_one];congr 1;rw[uE N B,vP,vP]
    have:1<=2*R.length*B:=w0L (by rfl') hp;rfl'
   have h3:(2*W+1) ^ hs.length<=((2*R.length*B)*(N+1)) ^ hs.length:=uI h2 _;rw[Nat.mul_pow]at h3;have h4:(N+1) ^ r=(N+1)*(N+1) ^ hs.length:=by rw[show r=hs.length+1 from hl.symm,vQ,uE]
   rw[h4]at h1;have h5:(N+1)*(N+1) ^ hs.length<=N*(N+1) ^ hs.length:=wK h1 h3;have h6:0<(N+1) ^ hs.length:=w1g (by rfl');rw[uU]at h5;rfl'
 obtain⟨a,b,ha,hb',hf,hne⟩:=main;rw[Gk]at ha hb';have hab:a.length=b.length:=by rw[ha.1,hb'.1]
 refine⟨dif a b,by rw[Wu hab];exact ha.1,λh hh=>?_,?_,λk=>?_⟩
 · rw[Wv hab];have:mix R a h+(W:Int)=mix R b h+(W:Int):=List.map_inj_left.mp hf h hh;rfl'
 · apply vi;intro no;have z:∀ k,mix R (dif a b) k=0:=λk=>vi λh=>no ⟨k,h⟩;exact hne (Ou hab (hR (dif a b) (by rw[Wu hab];exact ha.1) z))
 · have:=MN (N:=N) hb (cs:=dif a b) (KT ha.2 hb'.2) k;refine wK this ?_;rw[←hl,vQ,hl,uE];show(N*B)*R.length<=N*(2*R.length*B);rw[vP,uE B];refine vc _ ?_;rw[vP];rfl'
theorem Ov(v:Vec):∀ m,v m≠0->∃ h,(∀ k,k<h->v k=0)/\v h≠0:=by
 intro m
 induction m using ut with
 | _ m ih =>
  intro hm;by_cases q:∃ k,k<m/\v k≠0
  · obtain⟨k,h1,h2⟩:=q;exact ih k h1 h2
  · exact⟨m,λk hk=>vi λh=>q ⟨k,hk,h⟩,hm⟩
theorem Ow{E:Nat}:∀{T:aA} {n f Q:Nat} {u:Vec},Asc n f T->Form f (u5 T)->(∀ r∈T,Lt E r)->Span (vecs T) u->(∀ r∈T,(u (f8 r)).natAbs<=Q*(hd r).natAbs)->∀ k,(u k).natAbs<=Q*((2 ^ T.length-1)*E)
 | [],n,f,Q,u,_,_,_,s,_,k=>by rw[s k];simp
 | r::T,n,f,Q,u,A,F,hE,⟨c,s⟩,hu,k=>by
  have hp:=A.2.2.2.1;have ec:=A.coef s;have hc:c.natAbs<=Q:=by
   have:=hu r wf;rw[ec,vd]at this;exact Nat.le_of_mul_le_mul_right this (by rfl')
  have ih:=Ow (T:=T) (Q:=2*Q) A.2.2.2.2 F.2.2.2.2 (λx hx=>hE x (wc _ hx)) s (λx hx=>by
   have h1:=hu x (wc _ hx);have h2:=F.2.2.2.1 (f8 x,vec x) (wj.mpr ⟨x,hx,rfl⟩);have h2:0<=at0 r (f8 x)/\at0 r (f8 x)<hd x:=h2;show(u (f8 x)-c*at0 r (f8 x)).natAbs<=_;have h3:(c*at0 r (f8 x)).natAbs<=Q*(hd x).natAbs:=by rw[vd];exact vS hc (by rfl')
   rw[vP];rfl') k
  have ih:(u k-c*at0 r k).natAbs<=2*Q*((2 ^ T.length-1)*E):=ih;have h4:(c*at0 r k).natAbs<=Q*E:=by rw[vd];exact vS hc (vV (hE r wf k))
  have h5:Q*((2 ^ (r::T).length-1)*E)=2*Q*((2 ^ T.length-1)*E)+Q*E:=by
   have p:0<2 ^ T.length:=wJ _;rw[wu,vQ,show 2 ^ T.length*2-1=2*(2 ^ T.length-1)+1 by rfl',w1f,Nat.one_mul,w0j,vP 2,Nat.mul_left_comm Q 2,vP 2]
  rfl'
theorem ZZ{W E n f:Nat}{r:Row}{T:aA}{w:Vec}(A:Asc n f (r::T))(F:Form f (u5 (r::T)))(hE:∀ x∈T,Lt E x)(s:Span (vecs (r::T)) w)(h0:w (f8 r)≠0)(hz:∀ x∈T,w (f8 x)=0)(hw:∀ k,(w k).natAbs<=W):
  ∀ k,(at0 r k).natAbs<=W+(2 ^ T.length-1)*E:=by
 obtain⟨c,s⟩:=s;have ec:=A.coef s;have c0:c≠0:=by intro z;rw[z]at ec;simp at ec;exact h0 ec
 intro k;have q:=Ow (E:=E) (Q:=c.natAbs) A.2.2.2.2 F.2.2.2.2 hE s (λx hx=>by
  have h2:=F.2.2.2.1 (f8 x,vec x) (wj.mpr ⟨x,hx,rfl⟩);have h2:0<=at0 r (f8 x)/\at0 r (f8 x)<hd x:=h2;show(w (f8 x)-c*at0 r (f8 x)).natAbs<=_;rw[hz x hx];have h3:(c*at0 r (f8 x)).natAbs<=c.natAbs*(hd x).natAbs:=by rw[vd];exact vc _ (by rfl')
  rfl') k
 have q:(w k-c*at0 r k).natAbs<=c.natAbs*((2 ^ T.length-1)*E):=q;have hwk:=hw k;have e1:(c*at0 r k).natAbs=c.natAbs*(at0 r k).natAbs:=vd _ _;apply vK;intro hlt;generalize (2 ^ T.length-1)*E=X at *;have h6:c.natAbs*(W+X+1)<=c.natAbs*(at0 r k).natAbs:=vc _ hlt;have h7:c.natAbs*(W+X+1)=c.natAbs*X+c.natAbs*(W+1):=by rw[←w0j];congr 1;rfl'
 have h8:1*(W+1)<=c.natAbs*(W+1):=wI _ (by rfl');rfl'
def bnd(r B:Nat):Nat:=(2*r*B) ^ r*2 ^ (r*r)
theorem KU{W n:Nat}:∀{T:aA} {f:Nat},Asc n f T->Form f (u5 T)->(∀ r∈T,∃ w:Vec,Span (vecs T) w/\w (f8 r)≠0/\(∀ k,k<f8 r->w k=0)/\(∀ x∈T,x≠r->w (f8 x)=0)/\∀ k,(w k).natAbs<=W)->∀ r∈T,Lt (W*2 ^ (T.length*T.length)+1) r
 | r::T,f,A,F,h,x,hx=>by
  have nd:∀ y∈T,f8 r<f8 y:=λy hy=>(A.2.2.2.2.mem hy).2.1;have ih:=KU (T:=T) A.2.2.2.2 F.2.2.2.2 (λy hy=>by
    obtain⟨w,w1,w2,w3,w4,w5⟩:=h y (wc _ hy);refine⟨w,?_,w2,w3,λz hz hne=>w4 z (wc _ hz) hne,w5⟩;exact Form.tail F (show Span (E1 (u5 (r::T))) w by
     have:E1 (u5 (r::T))=vecs (r::T):=by simp[u5,E1]
     rw[this];exact w1) (w3 _ (nd y hy)) |> λs=>by
      have:E1 (u5 T)=vecs T:=by simp[u5,E1]
      have s:Span (E1 (u5 T)) w:=s;rw[this]at s;exact s)
  have hW:W*2 ^ (T.length*T.length)+1<=W*2 ^ ((r::T).length*(r::T).length)+1:=by
    refine w19 (vc _ (wq (by decide) ?_));exact vS (by simp) (by simp)
  rcases ww.mp hx with rfl|hx
  · obtain⟨w,w1,w2,w3,w4,w5⟩:=h x wf;intro k;have q:=ZZ (E:=W*2 ^ (T.length*T.length)+1) A F ih w1 w2 (λy hy=>w4 y (wc _ hy) λe=>by have:=nd y hy;rw[e]at this;rfl') w5 k;refine Nat.lt_succ_of_le (wK q ?_);have hW1:1<=W:=by have:=w5 (f8 x);rfl'
    have e2:(x::T).length*(x::T).length=T.length*T.length+T.length+T.length+1:=by rw[wu];grind
    rw[e2,vQ,vt];generalize hP:2 ^ (T.length*T.length+T.length)=P;have p1:2 ^ (T.length*T.length)*2 ^ T.length=P:=by rw[←hP,vt]
    have p2:1<=2 ^ T.length:=wJ _;have p3:1<=2 ^ (T.length*T.length):=wJ _;generalize 2 ^ T.length=a at *;generalize 2 ^ (T.length*T.length)=b at *;have h1:(a-1)*(W*b+1)<=a*(2*(W*b)):=vS (by rfl') (by have:1<=W*b:=w0L hW1 p3;rfl');have h1':(a-1)*(W*b+1)+(W*b+1)=a*(W*b+1):=by
     have:a=(a-1)+1:=by rfl'
     rw[show a*(W*b+1)=((a-1)+1)*(W*b+1) by rw[←this],uU]
    have h2:W<=W*b:=w0r _ p3;have h3:a*(W*b+1)<=a*(2*(W*b)):=vc _ (by have:1<=W*b:=w0L hW1 p3;rfl');have h4:a*(2*(W*b))=W*(b*a)*2:=by grind
    have h5:W*(b*a)*2<=W*(P*a*2):=by
     rw[p1,vP];refine vc _ (wI _ (w0r _ p2))
    rfl'
  · exact(ih x hx).mono hW
theorem KW(T:aA):E1 (u5 T)=vecs T:=by simp[u5,E1]
theorem Qn{n B:Nat}{S R:aA}(A:Asc n 0 S)(F:Form 0 (u5 S))(hR:Ind R)(hl:R.length=S.length)(hs:∀ r∈R,Span (vecs S) (λk=>at0 r k))(hb:∀ r∈R,Lt B r)(hp:0<B):
  ∀ r∈S,Lt (bnd S.length B+1) r:=by
 refine KU A F λr hr=>?_;have hpw:=(Asc.iff.mp A).2;obtain⟨S1,S2,rfl⟩:=w0R hr;obtain⟨cs,c1,c2,⟨m,c3⟩,c4⟩:=siegel hR hb hp ((S1++S2).map f8) (by rw[hl];simp;rfl');have sp:Span (vecs (S1++r::S2)) (mix R cs):=EE hs;obtain⟨h,z,q⟩:=Ov _ m c3;obtain⟨x,hx,ex⟩:=A.first sp z q;have oth:∀ y∈S1++r::S2,y≠r->y∈S1++S2:=λy hy hne=>by
  rcases wx.mp hy with h|h
  · exact wx.mpr (.inl h)
  · rcases ww.mp h with rfl|h
    · exact absurd rfl hne
    · exact wx.mpr (.inr h)
 have zo:∀ y∈S1++r::S2,y≠r->mix R cs (f8 y)=0:=λy hy hne=>c2 _ (wj.mpr ⟨y,oth y hy hne,rfl⟩);have er:x=r:=vi λhne=>q (by rw[←ex];exact zo x hx hne);subst er;rw[hl]at c4;exact⟨mix R cs,sp,by rw[ex];exact q,λk hk=>z k (by rfl'),zo,c4⟩
end St

end
section
local macro_rules|`(tactic|rfl')=>`(tactic|first|lia|omega +splitDisjunctions)
namespace St
open Lat
structure Post(n u:Nat)(S0:aA)(v:Row)(S:aA):Prop where
 asc:Asc n 0 S
 span:SameSpan (vecs S) (vecs (v::S0))
 size:∀ r∈S,Lt (2 ^ u) r
 more:S.map f8=S0.map f8\/(S.length=S0.length+1/\∃ r∈S,∀ x∈S0,f8 x≠f8 r)
theorem Wi.start{n e eh s m0 kk:Nat}{S0:aA}{v:Row}(A:Asc n 0 S0)(hv:v.length=n)(h0:∀ r∈S0,Lt (2 ^ e) r)(hh:∀ r∈S0,hd r<2 ^ eh)(hs:Lt (2 ^ s) v)(hm:s+S0.length*(e+1)<=m0)(he:e<=m0):
   Wi n e eh m0 kk S0 v S0 (n4 v S0)/\LowB m0 v S0:=by
 obtain⟨z1,z2⟩:=P1 (n:=n) (t:=0) (s:=s) (e:=e) (m:=m0) (S:=S0) (left:=v) (λr hr=>⟨(A.mem hr).1,(A.mem hr).2.2.2⟩) hv (λk hk=>by rfl') (λr hr _=>h0 r hr) hs hm he;have sp:=J0 A hv;refine⟨⟨A,L3 A hv,rfl,?_,P0 A hv,λr hr _=>h0 r hr,λr hr=>?_,z1.mono (wq (by decide) (by rfl')),λr hr=>(h0 r hr).mono (wq (by decide) (by rfl'))⟩,z2⟩
 · refine Bn (λr hr=>?_) λr hr=>?_
   · rcases ww.mp hr with rfl|hr
     · have t:Span (vecs (v::S0)) (λk=>at0 v k):=n9 wf;exact Span.congr (λk=>by rfl') (t.sub sp.cons)
     · exact n9 (wc _ hr)
   · rcases ww.mp hr with rfl|hr
     · have t:Span (vecs (n4 r S0::S0)) (λk=>at0 (n4 r S0) k):=n9 wf;exact Span.congr (λk=>by rfl') (t.add sp.cons)
     · exact n9 (wc _ hr)
 · exact hh r hr
theorem Wi.done{n e eh m0 kk:Nat}{S0:aA}{v:Row}{S:aA}{left:Row}(I:Wi n e eh m0 kk S0 v S left)(h:¬f8 left<n):Post n (e+3+(m0+n*kk)) S0 v S:=by
 have hl:=Gi left;rw[I.len]at hl;have e:f8 left=n:=by rfl'
 refine⟨I.asc,SameSpan.trans (Bn (λr hr=>n9 (wc _ hr)) λr hr=>?_) I.span,λr hr=>by have:=I.all r hr;rw[e]at this;exact this,.inl I.heads⟩;rcases ww.mp hr with rfl|hr
 · refine Span.congr (λk=>?_) Span.zero;by_cases hk:k<n
   · exact(r9 r k (by rfl')).symm
   · exact(u7 (by rw[I.len];rfl')).symm
 · exact n9 hr
theorem Wi.new{n e eh m0 kk:Nat}{S0:aA}{v:Row}{S S':aA}{left t:Row}(I:Wi n e eh m0 kk S0 v S left)(h:f8 left<n)(hn:∀ r∈S,f8 r≠f8 left)
   (ht:t.length=n) (c:Int) (hc:c=1\/c = -1) (et:∀ k,at0 t k=c*at0 left k) (hp:0<at0 t (f8 left)) (pm:S'.Perm (t::S)) (pw:(S'.map f8).Pairwise (·<·)):Post n (e+3+(m0+n*kk)) S0 v S':=by
 have hh:f8 t=f8 left:=K4 _ _ (λk hk=>by rw[et,r9 left k hk];simp) (by rfl');have mem:∀ r∈S',r=t\/r∈S:=λr hr=>ww.mp (pm.mem_iff.mp hr);have tm:t∈S':=pm.mem_iff.mpr wf;have sm:∀ r∈S,r∈S':=λr hr=>pm.mem_iff.mpr (wc _ hr);have hk:m0+f8 left*kk<=m0+n*kk:=by have:=wI kk (vV h);rfl'
 refine⟨Asc.iff.mpr ⟨λr hr=>?_,pw⟩,SameSpan.trans (Bn (λr hr=>?_) λr hr=>?_) I.span,λr hr=>?_,.inr ⟨?_,t,tm,λx hx e=>?_⟩⟩
 · rcases mem r hr with rfl|hr
   · exact⟨ht,wU _,by rw[hh];exact h,by unfold hd;rw[hh];exact hp⟩
   · exact I.asc.mem hr
 · rcases mem r hr with rfl|hr
   · exact Span.congr (λk=>(et k).symm) ((n9 wf:Span (vecs (left::S)) (λk=>at0 left k)).smul c)
   · exact n9 (wc _ hr)
 · rcases ww.mp hr with rfl|hr
   · refine Span.congr (λk=>?_) ((n9 tm:Span (vecs S') (λk=>at0 t k)).smul c);show c*at0 t k=at0 r k;rw[et];rcases hc with rfl|rfl<;>rfl'
   · exact n9 (sm r hr)
 · rcases mem r hr with rfl|hr
   · intro k;rw[et];have h1:=I.size k;have h2:2 ^ (m0+f8 left*kk)<=2 ^ (e+3+(m0+n*kk)):=wq (by decide) (by rfl');rcases hc with rfl|rfl<;>rfl'
   · exact(I.all r hr).mono (wq (by decide) (by rfl'))
 · have h1:=pm.length_eq;have h2:=congrArg List.length I.heads;simp at h1 h2;rfl'
 · have:f8 x∈S.map f8:=by rw[I.heads];exact wj.mpr ⟨x,hx,rfl⟩
   obtain⟨y,hy,ey⟩:=wj.mp this;exact hn y hy (by rfl')
structure Good(n B:Nat)(rows:aA)(S:aA):Prop where
 asc:Asc n 0 S
 form:Form 0 (u5 S)
 span:SameSpan (vecs S) (vecs rows)
 ind:∃ R:aA,Ind R/\R.length=S.length/\(∀ r∈R,r∈rows)
 len:S.length<=rows.length
 full:Ind rows->S.length=rows.length
theorem Good.nil{n B:Nat}:Good n B [] []:=⟨trivial,trivial,SameSpan.refl,⟨[],(λcs h _ c hc=>by have h:cs=[]:=w0s.mp h;subst h;cases hc),rfl,λr hr=>by cases hr⟩,wB _,λ_=>rfl⟩
theorem Good.small{n B:Nat}{rows S:aA}(G:Good n B rows S)(hb:∀ r∈rows,Lt B r)(hp:0<B):∀ r∈S,Lt (bnd S.length B+1) r:=by
 obtain⟨R,h1,h2,h3⟩:=G.ind;exact Qn G.asc G.form h1 h2 (λr hr=>G.span.iff.mpr (n9 (h3 r hr))) (λr hr=>hb r (h3 r hr)) hp
theorem U0:∀{R:aA} {v:Vec},Span (vecs R) v->∃ c:aH,c.length=R.length/\∀ k,v k=mix R c k
 | [],v,s=>⟨[],rfl,s⟩
 | r::R,v,⟨c,s⟩=>by
  obtain⟨cs,h1,h2⟩:=U0 s;refine⟨c::cs,by simp[h1],λk=>?_⟩;have:=h2 k;have this:v k-c*at0 r k=mix R cs k:=this;show v k=c*at0 r k+mix R cs k;rfl'
theorem IP{v:Row}{d:Int}:∀{R:aA} {c:aH},c.length=R.length->∀ k,mix (R++[v]) (c++[d]) k=mix R c k+d*at0 v k
 | [],[],_,k=>by simp[mix]
 | r::R,x::c,h,k=>by
  show x*at0 r k+mix (R++[v]) (c++[d]) k=x*at0 r k+mix R c k+d*at0 v k;rw[IP (R:=R) (c:=c) (by simpa using h)];rfl'
theorem Ind.left{R:aA}{v:Row}(h:Ind (R++[v])):Ind R:=λc hl hz x hx=>by
 exact h (c++[0]) (by simp[hl]) (λk=>by rw[IP hl,hz k];simp) x (wx.mpr (.inl hx))
theorem KY{n:Nat}:∀{f:Nat} {S T:aA} {u:Vec},Asc n f S->Asc n f T->T.map f8=S.map f8->(∀ r∈T,Span (vecs S) (λk=>at0 r k))->Span (vecs S) u->∃ D:Int,D≠0/\Span (vecs T) (λk=>D*u k)
 | f,[],[],u,_,_,_,_,s=>⟨1,by decide,λk=>by have:=s k;show 1*u k=0;rfl'⟩
 | f,r::S,t::T,u,A,A',hh,hT,s=>by
  have hh':f8 t=f8 r/\T.map f8=S.map f8:=by simpa using hh
  have tz:∀{w:Vec},Span (vecs (r::S)) w->w (f8 r)=0->Span (vecs S) w:=λ{w} hw z=>by
    obtain⟨c,q⟩:=hw;have e:=A.coef q;have c0:c=0:=by
      rw[z]at e;rcases vF.mp e.symm with h|h
      · exact h
      · have:=A.2.2.2.1;rfl'
    subst c0;exact Span.congr (λk=>by simp) q
  have ht:Span (vecs (r::S)) (λk=>at0 t k):=hT t wf;have w1:Span (vecs (r::S)) (λk=>hd t*u k-u (f8 r)*at0 t k):=(s.smul (hd t)).sub (ht.smul (u (f8 r)));have w2:=tz w1 (by show hd t*u (f8 r)-u (f8 r)*at0 t (f8 r)=0;rw[←hh'.1];show hd t*_-_*hd t=0;rw[wO];rfl');obtain⟨D,hD,q⟩:=KY A.2.2.2.2 (by rw[←hh'.1];exact A'.2.2.2.2) hh'.2 (λx hx=>tz (hT x (wc _ hx)) (r9 x _ (by have:=(A'.2.2.2.2.mem hx).2.1;rfl'))) w2;refine⟨D*hd t,λz=>?_,D*u (f8 r),Span.congr (λk=>?_) q⟩
  · rcases vF.mp z with z|z
    · exact hD z
    · have:=A'.2.2.2.1;rfl'
  · show D*(hd t*u k-u (f8 r)*at0 t k)=D*hd t*u k-D*u (f8 r)*at0 t k
    grind
 | f,[],t::T,u,_,_,hh,_,_=>by simp at hh
 | f,r::S,[],u,_,_,hh,_,_=>by simp at hh
theorem X9:∀ S:aA,(even S).length=S.length
 | []=>rfl
 | r::rs=>by rw[even,wu,wu,X9 rs]
theorem Good.step{n u B:Nat}{rows S0 S:List Row}{v:Row}(G:Good n B rows S0)(P:Post n u S0 v S):Good n B (rows++[v]) (even S):=by
  have es:=KS P.asc;have sp:SameSpan (vecs (v::S0)) (vecs (rows++[v])):=Bn (λr hr=>by
      rcases ww.mp hr with rfl|hr
      · exact n9 (wx.mpr (.inr wf))
      · exact(G.span.iff.mp (n9 hr)).trans λw hw=>by
          obtain⟨z,hz,rfl⟩:=wj.mp hw;exact n9 (wx.mpr (.inl hz))) λr hr=>by
      rcases wx.mp hr with hr|hr
      · exact(G.span.iff.mpr (n9 hr)).trans λw hw=>by
          obtain⟨z,hz,rfl⟩:=wj.mp hw;exact n9 (wc _ hz)
      · rcases wV.mp hr with rfl
        exact n9 wf
  obtain⟨R,h1,h2,h3⟩:=G.ind;have hlen:(even S).length<=(rows++[v]).length:=by
    rw[X9,wD];have:=G.len;rcases P.more with h|⟨h,_⟩
    · have h:=congrArg List.length h;simp at h ⊢;rfl'
    · simp;rfl'
  refine⟨(W3 P.asc).1,KR P.asc,SameSpan.trans es (P.span.trans sp),?_,hlen,λhI=>?_⟩
  rotate_left
  · have hI0:=hI.left;have hl0:=G.full hI0;rcases P.more with h|⟨h,_⟩
    · exfalso;have hv:Span (vecs S) (λk=>at0 v k):=P.span.iff.mpr (n9 wf);obtain⟨D,hD,q⟩:=KY P.asc G.asc h.symm (λr hr=>P.span.iff.mpr (n9 (wc _ hr))) hv;obtain⟨c,hc,ec⟩:=U0 (G.span.iff.mp q);have:=hI (c++[-D]) (by simp[hc]) (λk=>by rw[IP hc];have:=ec k;rw[←this,w00];show D*at0 v k+_=0;rfl') (-D) (by simp);rfl'
    · rw[X9,h,hl0];simp
  rcases P.more with h|⟨h,r,hr,hne⟩
  · exact⟨R,h1,by have h:=congrArg List.length h;simp at h;rw[X9,h,h2],λr hr=>wx.mpr (.inl (h3 r hr))⟩
  · refine⟨ v::R,?_,by rw[X9,h,List.length_cons,h2],fun r hr=>?_⟩
    · intro cs hl hz
      cases cs with
      | nil=>intro c hc;cases hc
      | cons c cs =>
        have hl':cs.length=R.length:=by simpa using hl
        have hz:∀ k,c*at0 v k+mix R cs k=0:=hz;by_cases c0:c=0
        · subst c0;have z:=h1 cs hl' (λk=>by have:=hz k;rfl');intro d hd;rcases ww.mp hd with rfl|hd
          · rfl
          · exact z d hd
        · exfalso;have cv:Span (vecs S0) (λk=>c*at0 v k):=by
            have:Span (vecs S0) (mix R cs):=EE λr hr=>G.span.iff.mpr (n9 (h3 r hr));exact Span.congr (λk=>by have:=hz k;rfl') this.neg
          have all:∀ w:Vec,Span (vecs (v::S0)) w->Span (vecs S0) (λk=>c*w k):=λw hw=>by
            obtain⟨d,s⟩:=hw;have s2:=(cv.smul d).add (s.smul c);refine Span.congr (λk=>?_) s2;show d*(c*at0 v k)+c*(w k-d*at0 v k)=c*w k
            grind
          have rs:Span (vecs (v::S0)) (λk=>at0 r k):=P.span.iff.mp (n9 hr);have q:=P.asc.mem hr;obtain⟨x,hx,e⟩:=G.asc.first (h:=f8 r) (all _ rs) (λk hk=>by show c*at0 r k=0;rw[r9 r k hk];simp) (by
            show c*hd r≠0;intro z;rcases vF.mp z with z|z
            · exact c0 z
            · rfl')
          exact hne x hx e
    · rcases ww.mp hr with rfl|hr
      · exact wx.mpr (.inr wf)
      · exact wx.mpr (.inl (h3 r hr))
theorem Cn{r s B:Nat}(h:r<=s)(hB:0<B)(hs:0<s):bnd r B<=bnd s B:=by
 unfold bnd;refine vS ?_ (wq (by decide) (vS h h));have h1:2*r*B<=2*s*B:=wI _ (vc _ h);have h2:0<2*s*B:=w0L (by rfl') hB;exact wK (uI h1 r) (wq h2 h)
theorem Z4{n:Nat}:∀{f:Nat} {S:aA},Asc n f S->f<=n->S.length<=n-f
 | f,[],_,_=>wU _
 | f,r::rs,⟨h1,h2,h3,h4,h5⟩,h=>by
  have:=Z4 h5 (by rfl');rw[wu];rfl'
end St

end
section
set_option exponentiation.threshold 3000
namespace St
open Lat
theorem IQ:∀{f:Nat} {S:aA},Form f (u5 S)->∀{j k:Nat},j<k->k<S.length->0<=at0 (S.getD j []) (f8 (S.getD k []))/\at0 (S.getD j []) (f8 (S.getD k []))<hd (S.getD k [])
 | f,r::S,F,0,k+1,_,hk=>by
  have hk:k<S.length:=by simpa using hk
  have hm:S.getD k []∈S:=by simp[List.getD,wa hk]
  have:=F.2.2.2.1 (f8 (S.getD k []),vec (S.getD k [])) (wj.mpr ⟨_,hm,rfl⟩);exact this
 | f,r::S,F,j+1,k+1,hjk,hk=>by
  have:=IQ (S:=S) F.2.2.2.2 (j:=j) (k:=k) (by rfl') (by simpa using hk);simpa[List.getD]using this
theorem EG{n f:Nat}{S:aA}(A:Asc n f S){k:Nat}(hk:k<S.length):(S.getD k []).length=n/\f<=f8 (S.getD k [])/\f8 (S.getD k [])<n/\0<hd (S.getD k []) :=
 A.mem (by simp[List.getD,wa hk])
theorem Qo{n:Nat}:∀{f:Nat} {S:aA},Asc n f S->∀{j k:Nat},j<k->k<S.length->f8 (S.getD j [])<f8 (S.getD k [])
 | f,r::S,A,0,k+1,_,hk=>by
  have hk:k<S.length:=by simpa using hk
  have hm:S.getD k []∈S:=by simp[List.getD,wa hk]
  have:=(A.2.2.2.2.mem hm).2.1;exact this
 | f,r::S,A,j+1,k+1,hjk,hk=>by
  have:=Qo (S:=S) A.2.2.2.2 (j:=j) (k:=k) (by rfl') (by simpa using hk);simpa[List.getD]using this
theorem Ww(k:Nat)(h:k<=8):bnd k (10 ^ 30)+1<=2 ^ 900:=by
 have:=Cn (B:=10 ^ 30) h (by decide) (by decide);have e:bnd 8 (10 ^ 30)+1<=2 ^ 900:=by unfold bnd;decide
 rfl'
theorem KZ{r:Row}{B:Nat}(hB:0<B)(h:∀ x∈r,x.natAbs<B):Lt B r:=λk=>by
 unfold at0 List.getD;by_cases hk:k<r.length
 · rw[wa hk];exact h _ (ve _)
 · rw[wR (by rfl')];exact hB
end St

end
section
local macro_rules|`(tactic|rfl')=>`(tactic|first|lia|omega +splitDisjunctions)
namespace St
open Lat
theorem Asc.tz{n f:Nat}{r:Row}{S:aA}{w:Vec}(A:Asc n f (r::S))(hw:Span (vecs (r::S)) w)(z:w (f8 r)=0):Span (vecs S) w:=by
 obtain⟨c,q⟩:=hw;have e:=A.coef q;have c0:c=0:=by
  rw[z]at e;rcases vF.mp e.symm with h|h
  · exact h
  · have:=A.2.2.2.1;rfl'
 subst c0;exact Span.congr (λk=>by simp) q
theorem Asc.small0{n:Nat}:∀{f:Nat} {S:aA} {u:Vec},Asc n f S->Span (vecs S) u->(∀ r∈S,0<=u (f8 r)/\u (f8 r)<hd r)->∀ k,u k=0
 | f,[],u,_,s,_=>s
 | f,r::S,u,A,s,h=>by
  have hr:=h r wf;have z:u (f8 r)=0:=by
   obtain⟨c,q⟩:=s;have e:=A.coef q;have c0:c=0:=Aj e A.2.2.2.1 (by rfl') hr.2;rw[e,c0];simp
  exact A.2.2.2.2.small0 (A.tz s z) λx hx=>h x (wc _ hx)
def Wx(n:Nat):Row:=List.replicate n 0
theorem Yh(n k:Nat):at0 (Wx n) k=0:=by
 unfold at0 Wx List.getD;rw[vn];split<;>rfl
theorem Qp{R:aA}(c:aH):Span (vecs R) (mix R c):=EE λr hr=>n9 hr
theorem Bo{n:Nat}:∀{R:aA} {c:aH},(∀ r∈R,r.length=n)->∀ k,n<=k->mix R c k=0
 | [],c,_,k,_=>by simp[mix]
 | r::R,[],_,k,_=>by simp[mix]
 | r::R,x::c,h,k,hk=>by
  show x*at0 r k+mix R c k=0;rw[Bo (λy hy=>h y (wc _ hy)) k hk,u7 (by rw[h r wf];exact hk)];simp
abbrev Ab(a b:Row):Prop:=0<=at0 a (f8 b)/\at0 a (f8 b)<hd b
theorem Co{n:Nat}:∀{f:Nat} {S:aA},Asc n f S->(Form f (u5 S)↔S.Pairwise Ab)
 | f,[],_=>by simp[u5,Form]
 | f,r::S,A=>by
  have ih:=Co A.2.2.2.2;rw[vj,←ih];constructor
  · intro F;exact⟨λb hb=>F.2.2.2.1 (f8 b,vec b) (wj.mpr ⟨b,hb,rfl⟩),F.2.2.2.2⟩
  · rintro⟨h1,h2⟩;refine⟨A.2.1,λk hk=>r9 r k hk,A.2.2.2.1,λp hp=>?_,h2⟩;obtain⟨b,hb,rfl⟩:=wj.mp hp;exact h1 b hb
theorem Wy{n:Nat}:∀{S T:aA},(∀ r∈S,r.length=n)->(∀ r∈T,r.length=n)->u5 S=u5 T->S=T
 | [],[],_,_,_=>rfl
 | [],t::T,_,_,h=>by simp[u5]at h
 | s::S,[],_,_,h=>by simp[u5]at h
 | s::S,t::T,hs,ht,h=>by
  have h:(f8 s,vec s)::u5 S=(f8 t,vec t)::u5 T:=h;have h1:=(List.cons.inj h).1;have h2:=(List.cons.inj h).2;have e:s=t:=ext0 (by rw[hs s wf,ht t wf]) λk=>congrFun (congrArg Prod.snd h1) k;rw[e,Wy (λr hr=>hs r (wc _ hr)) (λr hr=>ht r (wc _ hr)) h2]
theorem La{n:Nat}{S T:aA}(A:Asc n 0 S)(F:Form 0 (u5 S))(A':Asc n 0 T)(F':Form 0 (u5 T))(h:SameSpan (vecs S) (vecs T)):S=T:=by
 refine Wy (n:=n) (λr hr=>(A.mem hr).1) (λr hr=>(A'.mem hr).1) (Form.unique F F' ?_);rw[KW,KW];exact h
theorem M7{n:Nat}{a b:Row}(h:a.length=n)(k:Nat):at0 (a++b) k=if k<n then at0 a k else at0 b (k-n):=by
 subst h;unfold at0 List.getD;rw[List.getElem?_append];split<;>rfl
theorem G5(r:Row)(n k:Nat):at0 (r.take n) k=if k<n then at0 r k else 0:=by
 unfold at0 List.getD;rw[w0S];split<;>rfl
theorem A5(r:Row)(n k:Nat):at0 (r.drop n) k=at0 r (n+k):=by
 unfold at0 List.getD;rw[uN]
def o7(m j:Nat):Row:=(List.range m).map λk=>if k=j then 1 else 0
theorem K5(m j:Nat):(o7 m j).length=m:=by unfold o7;simp
theorem w8(m j k:Nat):at0 (o7 m j) k=if k=j/\k<m then 1 else 0:=by
 unfold at0 o7 List.getD;rw[wv];by_cases hk:k<m
 · rw[vU hk];simp[hk]
 · rw[wR (by simpa using hk)];simp[hk]
def tagF(m:Nat):Nat->aA->aA
 | _,[]=>[]
 | s,b::bs=>(b++o7 m s)::tagF m (s+1) bs
abbrev N6(bills:aA):aA:=tagF bills.length 0 bills
theorem AC(m:Nat):∀(s:Nat) (bs:aA),(tagF m s bs).length=bs.length
 | s,[]=>rfl
 | s,b::bs=>by rw[tagF,wu,wu,AC]
theorem IR(m:Nat):∀{s:Nat} {bs:aA} {r:Row},r∈tagF m s bs->∃ b∈bs,∃ j,r=b++o7 m j
 | s,b::bs,r,h=>by
  rcases ww.mp h with rfl|h
  · exact⟨b,wf,s,rfl⟩
  · obtain⟨b',hb,j,e⟩:=IR m h;exact⟨b',wc _ hb,j,e⟩
theorem Cp{n m:Nat}:∀{s:Nat} {bs:aA} {c:aH} {k:Nat},(∀ b∈bs,b.length=n)->k<n->mix (tagF m s bs) c k=mix bs c k
 | s,[],c,k,_,_=>by simp[tagF,mix]
 | s,b::bs,[],k,_,_=>by simp[tagF,mix]
 | s,b::bs,x::c,k,h,hk=>by
  show x*at0 (b++o7 m s) k+mix (tagF m (s+1) bs) c k=x*at0 b k+mix bs c k;rw[Cp (λy hy=>h y (wc _ hy)) hk,M7 (h b wf),if_pos hk]
theorem EH{n m:Nat}:∀{s:Nat} {bs:aA} {c:aH} {i:Nat},(∀ b∈bs,b.length=n)->c.length=bs.length->s+bs.length<=m->mix (tagF m s bs) c (n+i)=if s<=i/\i<s+bs.length then at0 c (i-s) else 0
 | s,[],[],i,_,_,_=>by simp[tagF,mix];intros;rfl'
 | s,b::bs,x::c,i,h,hl,hs=>by
  have ih:=EH (n:=n) (m:=m) (s:=s+1) (bs:=bs) (c:=c) (i:=i) (λy hy=>h y (wc _ hy)) (by simpa using hl) (by simp at hs;rfl');show x*at0 (b++o7 m s) (n+i)+mix (tagF m (s+1) bs) c (n+i)=_;rw[ih,M7 (h b wf),if_neg (by rfl'),w8,show n+i-n=i by rfl'];have hlen:(b::bs).length=bs.length+1:=rfl;rw[hlen];have hm:s<m:=by simp at hs;rfl'
  by_cases h1:i=s
  · subst h1;rw[if_pos ⟨rfl,hm⟩,if_neg (by rfl'),if_pos (by rfl')];simp[at0]
  · rw[if_neg (by rfl')];by_cases h2:s+1<=i/\i<s+1+bs.length
    · rw[if_pos h2,if_pos (by rfl')];have:i-s=(i-(s+1))+1:=by rfl'
      rw[this];simp[at0]
    · rw[if_neg h2,if_neg (by rfl')];simp
theorem IS{n:Nat}{bills:aA}{c:aH}(h:∀ b∈bills,b.length=n)(hl:c.length=bills.length)(i:Nat):mix (N6 bills) c (n+i)=at0 c i:=by
 rw[EH h hl (by rfl')];split
 · simp
 · rw[u7 (by rfl')]
theorem IT{n:Nat}{bills:aA}(h:∀ b∈bills,b.length=n):Ind (N6 bills):=λc hl hz x hx=>by
 rw[AC]at hl;obtain⟨i,hi,e⟩:=w01.mp hx;have:=hz (n+i);rw[IS h hl]at this;rw[←e];simpa[at0,List.getD,wa hi]using this
theorem Cq{n:Nat}{bills:aA}{u:Row}(h:∀ b∈bills,b.length=n)(hu:u.length=n+bills.length):Span (vecs (N6 bills)) (λk=>at0 u k)↔∀ k,k<n->at0 u k=mix bills (u.drop n) k:=by
 have hd:(u.drop n).length=bills.length:=by rw[wZ];rfl'
 constructor
 · intro s k hk;obtain⟨c,hc,e⟩:=U0 s;rw[AC]at hc;have:c=u.drop n:=ext0 (by rw[hc,hd]) λi=>by
     rw[A5,←IS h hc i];exact(e (n+i)).symm
   have e1:=e k;rw[Cp h hk,this]at e1;exact e1
 · intro q;refine Span.congr (λk=>?_) (Qp (u.drop n));by_cases hk:k<n
   · rw[Cp h hk,q k hk]
   · have:k=n+(k-n):=by rfl'
     rw[this,IS h hd,A5]
theorem Bp{N n:Nat}:∀{f:Nat} {S:aA},Asc N f S->S=S.filter (λr=>decide (f8 r<n))++S.filter (λr=>!decide (f8 r<n))
 | f,[],_=>rfl
 | f,r::S,A=>by
  have ih:=Bp (n:=n) A.2.2.2.2;by_cases h:f8 r<n
  · rw[vX,vX];simp only[h,decide_true,if_true,Bool.not_true,w09,if_false];rw[uY,←ih]
  · have e:S.filter (λr=>decide (f8 r<n))=[]:=List.filter_eq_nil_iff.mpr λx hx=>by have:=(A.2.2.2.2.mem hx).2.1;simp;rfl'
    rw[e,w0C]at ih;rw[vX,vX];simp only[h,decide_false,w1t,if_true,w09,if_false];rw[e,w0C,←ih]
def tops(n:Nat)(S:aA):aA:=(S.filter λr=>decide (f8 r<n)).map (·.take n)
def bots(n:Nat)(S:aA):aA:=(S.filter λr=>!decide (f8 r<n)).map (·.drop n)
theorem Gm{r:Row}{n:Nat}(h:f8 r<n)(hl:f8 r<r.length):f8 (r.take n)=f8 r:=K4 _ _ (λk hk=>by rw[G5,if_pos (by rfl')];exact r9 r k hk) (by rw[G5,if_pos h];exact Ck r hl)
theorem AD{r:Row}{n:Nat}(h:n<=f8 r)(hl:f8 r<r.length):f8 (r.drop n)=f8 r-n:=K4 _ _ (λk hk=>by rw[A5];exact r9 r _ (by rfl')) (by rw[A5,show n+(f8 r-n)=f8 r by rfl'];exact Ck r hl)
section
variable {n N:Nat}{S:aA}
theorem EI(A:Asc N 0 S)(hN:n<=N):Asc n 0 (tops n S)/\(tops n S).length=(S.filter λr=>decide (f8 r<n)).length:=by
 have Q:=Asc.iff.mp A;refine⟨Asc.iff.mpr ⟨λx hx=>?_,?_⟩,by unfold tops;simp⟩
 · obtain⟨r,hr,rfl⟩:=wj.mp hx;obtain⟨hr,hd'⟩:=wP.mp hr;have hd':f8 r<n:=by simpa using hd'
   have q:=Q.1 r hr;have e:=Gm hd' (by rfl');refine⟨by rw[vA];rfl',wU _,by rw[e];exact hd',?_⟩;unfold hd;rw[e,G5,if_pos hd'];exact q.2.2.2
 · have e:(tops n S).map f8=(S.filter λr=>decide (f8 r<n)).map f8:=by
    unfold tops;rw[wS];apply uJ;intro r hr;obtain⟨hr,hd'⟩:=wP.mp hr;exact Gm (by simpa using hd') (by have:=Q.1 r hr;rfl')
   rw[e];exact Q.2.sublist (vk.map _)
theorem Gn(A:Asc N 0 S)(F:Form 0 (u5 S))(hN:n<=N):Form 0 (u5 (tops n S)):=by
 have Q:=Asc.iff.mp A;rw[Co (EI A hN).1];have P:=(Co A).mp F;unfold tops;rw[uv];refine List.Pairwise.imp_of_mem (λ{a b} ha hb h=>?_) (P.sublist vk);obtain⟨hb,hd'⟩:=wP.mp hb;have hd':f8 b<n:=by simpa using hd'
 have e:=Gm hd' (by have:=Q.1 b hb;rfl');unfold Ab hd at *;rw[e,G5,if_pos hd',G5,if_pos hd'];exact h
theorem IU(A:Asc N 0 S){m:Nat}(hN:N=n+m):Asc m 0 (bots n S):=by
 have Q:=Asc.iff.mp A;refine Asc.iff.mpr ⟨λx hx=>?_,?_⟩
 · obtain⟨r,hr,rfl⟩:=wj.mp hx;obtain⟨hr,hd'⟩:=wP.mp hr;have hd':n<=f8 r:=by simpa using hd'
   have q:=Q.1 r hr;have e:=AD hd' (by rfl');refine⟨by rw[wZ];rfl',wU _,by rw[e];rfl',?_⟩;unfold hd;rw[e,A5,show n+(f8 r-n)=f8 r by rfl'];exact q.2.2.2
 · unfold bots;rw[wS,uv];have P:=(uv.mp Q.2).sublist (vk (p:=λr=>!decide (f8 r<n)));refine List.Pairwise.imp_of_mem (λ{a b} ha hb h=>?_) P;obtain⟨ha,ha'⟩:=wP.mp ha;obtain⟨hb,hb'⟩:=wP.mp hb;have ha':n<=f8 a:=by simpa using ha'
   have hb':n<=f8 b:=by simpa using hb'
   show f8 (a.drop n)<f8 (b.drop n);rw[AD ha' (by have:=Q.1 a ha;rfl'),AD hb' (by have:=Q.1 b hb;rfl')];rfl'
theorem Yi(A:Asc N 0 S)(F:Form 0 (u5 S)){m:Nat}(hN:N=n+m):Form 0 (u5 (bots n S)):=by
 have Q:=Asc.iff.mp A;rw[Co (IU A hN)];have P:=(Co A).mp F;unfold bots;rw[uv];refine List.Pairwise.imp_of_mem (λ{a b} ha hb h=>?_) (P.sublist vk);obtain⟨hb,hb'⟩:=wP.mp hb;have hb':n<=f8 b:=by simpa using hb'
 have e:=AD hb' (by have:=Q.1 b hb;rfl');unfold Ab hd at *;rw[e,A5,A5,show n+(f8 b-n)=f8 b by rfl'];exact h
theorem Go(A:Asc N 0 S){v:Vec}(s:Span (vecs S) v):Span (vecs (tops n S)) (λk=>if k<n then v k else 0):=by
 refine Span.least (P:=λv=>Span (vecs (tops n S)) (λk=>if k<n then v k else 0)) ?_ (λv w hv hw=>?_) (λc v hv=>?_) (λx hx=>?_) s
 · exact Span.congr (λk=>by split<;>rfl) Span.zero
 · exact Span.congr (λk=>by split<;>rfl) (hv.add hw)
 · refine Span.congr (λk=>?_) (hv.smul c);split
   · rfl
   · simp
 · obtain⟨r,hr,rfl⟩:=wj.mp hx;by_cases h:f8 r<n
   · have hm:r.take n∈tops n S:=wj.mpr ⟨r,wP.mpr ⟨hr,by simpa using h⟩,rfl⟩;exact Span.congr (λk=>G5 r n k) (n9 hm)
   · refine Span.congr (λk=>?_) Span.zero;split
     · rw[show vec r k=0 from r9 r k (by rfl')]
     · rfl
theorem Ox{N:Nat}:∀{f:Nat} {T B:aA} {v:Vec},Asc N f (T++B)->Span (vecs (T++B)) v->(∀ r∈T,v (f8 r)=0)->Span (vecs B) v
 | f,[],B,v,_,s,_=>s
 | f,r::T,B,v,A,s,h=>Ox (T:=T) A.2.2.2.2 (A.tz s (h r wf)) λx hx=>h x (wc _ hx)
theorem Lb(A:Asc N 0 S){v:Vec}(s:Span (vecs S) v)(z:∀ k,k<n->v k=0):Span (vecs (bots n S)) (λk=>v (n+k)):=by
 have e:=Bp (n:=n) A;have A':=A;rw[e]at A' s;have s2:=Ox A' s λr hr=>z _ (by simpa using(wP.mp hr).2);refine Span.least (P:=λv=>Span (vecs (bots n S)) (λk=>v (n+k))) Span.zero (λv w hv hw=>hv.add hw) (λc v hv=>hv.smul c) (λx hx=>?_) s2;obtain⟨r,hr,rfl⟩:=wj.mp hx;exact Span.congr (λk=>A5 r n k) (n9 (wj.mpr ⟨r,hr,rfl⟩))
theorem Lc(A:Asc N 0 S){w:Vec}(s:Span (vecs (bots n S)) w):Span (vecs S) (λk=>if k<n then 0 else w (k-n)):=by
 refine Span.least (P:=λw=>Span (vecs S) (λk=>if k<n then 0 else w (k-n))) ?_ (λv w hv hw=>?_) (λc v hv=>?_) (λx hx=>?_) s
 · exact Span.congr (λk=>by split<;>rfl) Span.zero
 · exact Span.congr (λk=>by split<;>rfl) (hv.add hw)
 · refine Span.congr (λk=>?_) (hv.smul c);split
   · simp
   · rfl
 · obtain⟨r',hr',rfl⟩:=wj.mp hx;obtain⟨r,hr1,rfl⟩:=wj.mp hr';obtain⟨hr,h⟩:=wP.mp hr1;have h:n<=f8 r:=by simpa using h
   refine Span.congr (λk=>?_) (n9 hr);split
   · rw[r9 r k (by rfl')]
   · show at0 r k=at0 (r.drop n) (k-n);rw[A5,show n+(k-n)=k by rfl']
end
structure Tag(n:Nat)(bills S:aA):Prop where
 wide:∀ b∈bills,b.length=n
 asc:Asc (n+bills.length) 0 S
 form:Form 0 (u5 S)
 span:SameSpan (vecs S) (vecs (N6 bills))
 full:S.length=bills.length
theorem Good.tag{n B:Nat}{bills S:aA}(h:∀ b∈bills,b.length=n)(G:Good (n+bills.length) B (N6 bills) S):Tag n bills S :=
 ⟨h,G.asc,G.form,G.span,by rw[G.full (IT h),AC]⟩
end St

end
section
local macro_rules|`(tactic|rfl')=>`(tactic|first|lia|omega +splitDisjunctions)
namespace St
open Lat
theorem E8{B:aA}{i:Nat}(h:i<B.length):B.getD i []∈B:=by simp[List.getD,wa h]
end St
namespace St
open Lat
theorem Asc.small{n:Nat}:∀{f:Nat} {S:aA} {u:Vec},Asc n f S->Span (vecs S) u->(∀ r∈S,-(hd r)<u (f8 r)/\u (f8 r)<hd r)->∀ k,u k=0
 | f,[],u,_,s,_=>s
 | f,r::S,u,A,s,h=>by
  have hr:=h r wf;have z:u (f8 r)=0:=by
   obtain⟨c,q⟩:=s;have e:=A.coef q;have c0:c=0:=Aj e A.2.2.2.1 hr.1 hr.2;rw[e,c0];simp
  exact A.2.2.2.2.small (A.tz s z) λx hx=>h x (wc _ hx)
theorem Yj{n:Nat}{S:aA}{u v:Row}(A:Asc n 0 S)(hu:u.length=n)(hv:v.length=n)(s:Span (vecs S) (λk=>at0 u k-at0 v k))(h1:∀ r∈S,0<=at0 u (f8 r)/\at0 u (f8 r)<hd r)(h2:∀ r∈S,0<=at0 v (f8 r)/\at0 v (f8 r)<hd r):u=v:=by
 refine ext0 (by rfl') λk=>?_;have:=A.small s (λr hr=>by have:=h1 r hr;have:=h2 r hr;rfl') k;rfl'
theorem Oy{n:Nat}{S:aA}{u v:Row}(A:Asc n 0 S)(hu:u.length=n)(hv:v.length=n)(s:Span (vecs S) (λk=>at0 u k-at0 v k)):n4 u S=n4 v S:=by
 refine Yj A (L3 A hu) (L3 A hv) ?_ (P0 A hu) (P0 A hv);have s1:=J0 A hu;have s2:=J0 A hv;exact Span.congr (λk=>by rfl') ((s.sub s1).add s2)
end St

end
section
namespace St
open Lat
def ordR(b:Row)(bills:aA):aA:=(b++[1])::bills.map (·++[0])
theorem z3W(r:Row):vec (r++[0])=vec r:=funext λk=>by
 show at0 (r++[0]) k=at0 r k;rw[M7 rfl];split
 · rfl
 · rename_i h;rw[u7 (r:=r) (by rfl')];unfold at0;cases k-r.length with
   | zero=>rfl
   | succ j=>rfl
theorem z00(bills:aA):vecs (bills.map (·++[0]))=vecs bills:=by
 show List.map vec (List.map _ bills)=List.map vec bills;rw[wS];exact uJ λr _=>z3W r
theorem IV{n:Nat}{bills:aA}(hw:∀ r∈bills,r.length=n){v:Vec}(s:Span (vecs bills) v):∀ k,n<=k->v k=0 :=
 Span.least (P:=λv=>∀ k,n<=k->v k=0) (λ_ _=>rfl) (λv w h1 h2 k hk=>by show v k+w k=0;rw[h1 k hk,h2 k hk];rfl) (λc v h k hk=>by show c*v k=0;rw[h k hk,uf]) (λr hr=>by
  obtain⟨x,hx,rfl⟩:=wj.mp hr;intro k hk;exact u7 (by rw[hw x hx];exact hk)) s
def Ty(bills:aA)(b:Row)(t:Int):Prop:=Span (vecs bills) (λk=>t*at0 b k)
theorem z01{n:Nat}{b:Row}{bills:aA}(hb:b.length=n)(hw:∀ r∈bills,r.length=n)(t:Int):Span (vecs (ordR b bills)) (λk=>if k=n then t else 0)↔Ty bills b t:=by
 have e:vecs (ordR b bills)=vec (b++[1])::vecs bills:=by
   show vec (b++[1])::List.map vec _=_;congr 1;exact z00 bills
 have hv:∀ k,vec (b++[1]) k=if k<n then at0 b k else if k=n then 1 else 0:=λk=>by
   show at0 (b++[1]) k=_;rw[M7 hb];split
   · rfl
   · rename_i h;by_cases z:k=n
     · rw[if_pos z,z,w06];rfl
     · rw[if_neg z,u7 (by simp;rfl')]
 rw[e];constructor
 · rintro⟨c,s⟩;have z:=IV hw s n (wB n);have hc:c=t:=by
     have z:(if n=n then t else 0)-c*vec (b++[1]) n=0:=z;rw[hv,if_pos rfl,if_neg (vx n),if_pos rfl]at z;rfl'
   subst hc;refine Span.congr (λk=>?_) s.neg;show -((if k=n then c else 0)-c*vec (b++[1]) k)=c*at0 b k;rw[hv];by_cases h:k<n
   · rw[if_neg (by rfl'),if_pos h];rfl'
   · rw[if_neg h,u7 (r:=b) (by rfl')];by_cases z:k=n
     · rw[if_pos z,if_pos z];rfl'
     · rw[if_neg z,if_neg z];rfl'
 · intro s;refine⟨t,Span.congr (λk=>?_) s.neg⟩;show -(t*at0 b k)=(if k=n then t else 0)-t*vec (b++[1]) k;rw[hv];by_cases h:k<n
   · rw[if_neg (show ¬k=n by rfl'),if_pos h];rfl'
   · rw[if_neg h,u7 (r:=b) (by rfl')];by_cases z:k=n
     · rw[if_pos z,if_pos z];rfl'
     · rw[if_neg z,if_neg z];rfl'
def IsOrd(bills:aA)(b:Row):Option Int->Prop
 | none=>∀ t,Ty bills b t->t=0
 | some m=>0<m/\∀ t,Ty bills b t↔m∣t
theorem z02{n:Nat}{b:Row}{bills S:aA}(hb:b.length=n)(hw:∀ r∈bills,r.length=n)(A:Asc (n+1) 0 S)(ss:SameSpan (vecs S) (vecs (ordR b bills))):
  (bots n S=[]/\IsOrd bills b none)\/∃ m,bots n S=[[m]]/\IsOrd bills b (some m):=by
 have key:∀ t,Ty bills b t↔Span (vecs (bots n S)) (fun k=>if k=0 then t else 0):=fun t=>by
  rw[←z01 hb hw t,←ss.iff];constructor
  · intro s;refine Span.congr (λk=>?_) (Lb (n:=n) A s λk hk=>by rw[if_neg (by rfl')]);by_cases h:k=0
    · rw[if_pos (by rfl'),if_pos h]
    · rw[if_neg (by rfl'),if_neg h]
  · intro s;refine Span.congr (λk=>?_) (Lc (n:=n) A s);by_cases h:k<n
    · rw[if_pos h,if_neg (by rfl')]
    · rw[if_neg h];by_cases z:k=n
      · rw[if_pos z,if_pos (by rfl')]
      · rw[if_neg z,if_neg (by rfl')]
 have B:=IU (n:=n) A (m:=1) rfl
 match h:bots n S,B,Z4 B (wU _) with
 | [],_,_ =>
  refine .inl ⟨rfl,λt ht=>?_⟩;have:=(key t).mp ht;rw[h]at this;have:=this 0;simpa using this
 | [r],B,_ =>
  obtain⟨h1,h2,h3,h4,_⟩:=B;obtain⟨m,rfl⟩:∃ m,r=[m]:=by
    match r,h1 with
    | [m],_=>exact⟨m,rfl⟩
  have hm:0<m:=by
    unfold hd at h4;have e:f8 [m]=0:=by rfl'
    rw[e]at h4;exact h4
  refine .inr ⟨m,rfl,hm,λt=>?_⟩;rw[key,h];constructor
  · rintro⟨c,s⟩;have:=s 0;have this:(if 0=0 then t else 0)-c*m=0:=this;rw[if_pos rfl]at this;exact⟨c,by rw[wO];rfl'⟩
  · rintro⟨c,rfl⟩;refine⟨c,λk=>?_⟩;show(if k=0 then m*c else 0)-c*at0 [m] k=0;by_cases z:k=0
    · rw[if_pos z,z];show m*c-c*m=0;rw[wO];rfl'
    · rw[if_neg z,u7 (by simp;rfl')];rfl'
 | _::_::_,_,hl=>exact absurd hl (by simp)
theorem IsOrd.one{bills:aA}{b:Row}{o p:Option Int}(h:IsOrd bills b o)(g:IsOrd bills b p):o=p:=by
 match o,p,h,g with
 | none,none,_,_=>rfl
 | none,some m,h,⟨g1,g2⟩=>have:=h m ((g2 m).mpr (uW m));rfl'
 | some m,none,⟨h1,h2⟩,g=>have:=g m ((h2 m).mpr (uW m));rfl'
 | some m,some k,⟨h1,h2⟩,⟨g1,g2⟩ =>
  have a:=(g2 m).mp ((h2 m).mpr (uW m));have b:=(h2 k).mp ((g2 k).mpr (uW k));congr 1;exact w1a (by rfl') (by rfl') b a
end St

end
section
namespace St
open Lat
theorem Ld{A B:aA}{v:Vec}(s:Span (vecs A) v)(h:∀ r∈A,r∈B):Span (vecs B) v:=Span.trans (λr hr=>by
 obtain⟨x,hx,rfl⟩:=wj.mp hr;exact Span.mem (Cl (h x hx))) s
end St

end
section
namespace St
open Lat
theorem Y0{S:aA}{r:Row}(h:r∈S):Span (vecs S) (vec r):=Span.mem (Cl h)
end St

end
section
set_option maxHeartbeats 1000000
namespace St
open Lat
theorem Bq{a b:Row}{n k:Nat}(h:a.length=n):at0 (a++b) k=if k<n then at0 a k else at0 b (k-n):=M7 h k
theorem Wz(n k:Nat):at0 (List.replicate n 0) k=0:=by
 unfold at0;by_cases h:k<n
 · simp[List.getD,h]
 · simp[List.getD,h]
theorem W4{A B:aA}(v:Vec):Span (vecs (A++B)) v↔∃ x y:Vec,Span (vecs A) x/\Span (vecs B) y/\∀ k,v k=x k+y k:=by
 constructor
 · intro s;refine Span.least (P:=λv=>∃ x y:Vec,Span (vecs A) x/\Span (vecs B) y/\∀ k,v k=x k+y k) ?_ ?_ ?_ ?_ s
   · exact⟨_,_,Span.zero,Span.zero,λk=>rfl⟩
   · rintro v w ⟨x,y,a,b,e⟩ ⟨x',y',a',b',e'⟩;exact⟨_,_,a.add a',b.add b',λk=>by show v k+w k=_;rw[e,e'];rfl'⟩
   · rintro c v ⟨x,y,a,b,e⟩;exact⟨_,_,a.smul c,b.smul c,λk=>by show c*v k=_;rw[e,w0k]⟩
   · intro g hg;obtain⟨r,hr,rfl⟩:=wj.mp hg;rcases wx.mp hr with h|h
     · exact⟨_,_,Y0 h,Span.zero,λk=>(Int.add_zero _).symm⟩
     · exact⟨_,_,Span.zero,Y0 h,λk=>(w0y _).symm⟩
 · rintro⟨x,y,a,b,e⟩;exact Span.congr (λk=>(e k).symm) ((Ld a λr hr=>wx.mpr (.inl hr)).add (Ld b λr hr=>wx.mpr (.inr hr)))
end St

end
section
set_option maxHeartbeats 1000000
namespace St
open Lat
def AF(table rungs:aA):aA:=N6 table++rungs.map (λr=>r++List.replicate table.length 0)
theorem z03(n:Nat)(r:Row):vec (r++List.replicate n 0)=vec r:=funext λk=>by
 show at0 (r++List.replicate n 0) k=at0 r k;rw[Bq rfl];split
 · rfl
 · rw[Wz,u7 (r:=r) (by rfl')]
theorem Lf(n:Nat)(S:aA):vecs (S.map λr=>r++List.replicate n 0)=vecs S:=by
 show List.map vec (List.map _ S)=List.map vec S;rw[wS];exact uJ λr _=>z03 n r
theorem Yk{m:Nat}{table rungs U:aA}{b:Row}(ht:∀ r∈table,r.length=m)(hr:∀ r∈rungs,r.length=m)(hb:b.length=table.length)(A:Asc (m+table.length) 0 U)(ss:SameSpan (vecs U) (vecs (AF table rungs))):Span (vecs (bots m U)) (λk=>at0 b k)↔Span (vecs rungs) (mix table b):=by
 have vf:vecs (AF table rungs)=vecs (N6 table++rungs):=by
   unfold AF;show List.map vec _=List.map vec _;rw[vm,vm];congr 1;exact Lf _ _
 have mz:∀ k,m<=k->mix table b k=0:=Bo ht;constructor
 · intro s;have s1:=(ss.iff).mp (Lc (n:=m) A s);rw[vf]at s1;obtain⟨x,y,sx,sy,e⟩:=(W4 _).mp s1;have yo:=IV hr sy;have u0:∀ k,at0 ((List.range m).map x++b) k=x k:=λk=>by
     rw[Bq (a:=(List.range m).map x) (n:=m) (by simp)];by_cases h:k<m
     · rw[if_pos h];unfold at0;simp[List.getD,h]
     · rw[if_neg h];have e:=e k;have e:(if k<m then(0:Int) else at0 b (k-m))=x k+y k:=e;rw[if_neg h,yo k (by rfl')]at e;rfl'
   have sx':Span (vecs (N6 table)) (λk=>at0 ((List.range m).map x++b) k):=Span.congr (λk=>(u0 k).symm) sx;have q:=(Cq ht (by rw[wD,wn,vv,hb])).mp sx';have dr:((List.range m).map x++b).drop m=b:=by
     have:((List.range m).map x).length=m:=by simp
     rw[uF,this,w06,uT,vC (by rfl')];rfl
   rw[dr]at q;refine Span.congr (λk=>?_) sy.neg;by_cases h:k<m
   · have e:=e k;have e:(if k<m then(0:Int) else at0 b (k-m))=x k+y k:=e;rw[if_pos h,←u0 k,q k h]at e;show -(y k)=_;rfl'
   · show -(y k)=_;rw[yo k (by rfl'),mz k (by rfl')];rfl
 · intro s;have dr:((List.range m).map (mix table b)++b).drop m=b:=by
     have:((List.range m).map (mix table b)).length=m:=by simp
     rw[uF,this,w06,uT,vC (by rfl')];rfl
   have u0:∀ k,at0 ((List.range m).map (mix table b)++b) k=if k<m then mix table b k else at0 b (k-m):=λk=>by
     rw[Bq (a:=(List.range m).map (mix table b)) (n:=m) (by simp)];by_cases h:k<m
     · rw[if_pos h,if_pos h];unfold at0;simp[List.getD,h]
     · rw[if_neg h,if_neg h]
   have sx:Span (vecs (N6 table)) (λk=>at0 ((List.range m).map (mix table b)++b) k):=(Cq ht (by rw[wD,wn,vv,hb])).mpr λk hk=>by
     rw[u0,if_pos hk,dr]
   have s1:Span (vecs (N6 table++rungs)) (λk=>at0 ((List.range m).map (mix table b)++b) k-mix table b k):=(W4 _).mpr ⟨_,_,sx,s.neg,λk=>by show _=_ + -(mix table b k);rfl'⟩;rw[←vf]at s1;have s2:=(ss.iff).mpr s1;refine Span.congr (λk=>?_) (Lb (n:=m) A s2 λk hk=>?_)
   · show at0 ((List.range m).map (mix table b)++b) (m+k)-mix table b (m+k)=at0 b k;rw[u0,if_neg (by rfl'),mz _ (by rfl'),show m+k-m=k by rfl'];rfl'
   · show at0 ((List.range m).map (mix table b)++b) k-mix table b k=0;rw[u0,if_pos hk];rfl'
end St

end
section
namespace St
open Lat
def sm:Nat->(Nat->Int)->Int
 | 0,_=>0
 | m+1,f=>f 0+sm m (λk=>f (k+1))
theorem o9:∀{m:Nat} {f g:Nat->Int},(∀ k,k<m->f k=g k)->sm m f=sm m g
 | 0,_,_,_=>rfl
 | m+1,f,g,h=>by rw[sm,sm,h 0 (by rfl'),o9 λk hk=>h (k+1) (by rfl')]
theorem A7{m:Nat}{f:Nat->Int}(h:∀ k,k<m->f k=0):sm m f=0:=by
 rw[o9 h]
 induction m with
 | zero=>rfl
 | succ m ih=>rw[sm,ih λk hk=>h k (by rfl')];rfl
theorem Gp:∀(m:Nat) (f g:Nat->Int),sm m (λk=>f k+g k)=sm m f+sm m g
 | 0,_,_=>rfl
 | m+1,f,g=>by rw[sm,sm,sm,Gp m];rfl'
theorem L4(c:Int):∀(m:Nat) (f:Nat->Int),sm m (λk=>c*f k)=c*sm m f
 | 0,_=>by simp[sm]
 | m+1,f=>by rw[sm,sm,L4 c m,w0k]
theorem MO(c:Int)(m:Nat)(f:Nat->Int):sm m (λk=>f k*c)=sm m f*c:=by
 rw[wO,←L4];exact o9 λk _=>wO _ _
theorem DY(m:Nat)(f g:Nat->Int):sm m (λk=>f k-g k)=sm m f-sm m g:=by
 have:=Gp m f (λk=>(-1)*g k);rw[L4]at this;rw[o9 (g:=λk=>f k+(-1)*g k) λk _=>by rfl',this];rfl'
theorem EJ:∀(m p:Nat) (f:Nat->Nat->Int),sm m (λi=>sm p (λj=>f i j))=sm p (λj=>sm m (λi=>f i j))
 | 0,p,f=>by rw[sm];exact(A7 λk _=>rfl).symm
 | m+1,p,f=>by rw[sm,EJ m p,←Gp];rfl
theorem L5:∀{m i:Nat} {f:Nat->Int},i<m->(∀ k,k<m->k≠i->f k=0)->sm m f=f i
 | m+1,0,f,_,z=>by rw[sm,A7 λk hk=>z (k+1) (by rfl') (by rfl')];rfl'
 | m+1,i+1,f,h,z=>by rw[sm,z 0 (by rfl') (by rfl'),L5 (i:=i) (by rfl') λk hk hn=>z (k+1) (by rfl') (by rfl')];rfl'
def ent(A:aA)(i j:Nat):Int:=at0 (A.getD i []) j
theorem z3X(k:Nat):at0 [] k=0:=by simp[at0]
theorem C0{A:aA}{i:Nat}(h:A.length<=i)(j:Nat):ent A i j=0:=by
 unfold ent;rw[show A.getD i []=[] by simp[List.getD,wR h],z3X]
theorem MP{A:aA}{m i j:Nat}(hl:∀ r∈A,r.length=m)(h:m<=j):ent A i j=0:=by
 by_cases hi:i<A.length
 · unfold ent;exact u7 (by rw[hl _ (E8 hi)];exact h)
 · exact C0 (by rfl') j
theorem Oz(r:Row)(A:aA)(i j:Nat):ent (r::A) (i+1) j=ent A i j:=rfl
theorem E9:∀{A:aA} {v:Vec},Span (vecs A) v↔∃ c:Nat->Int,∀ k,v k=sm A.length (λi=>c i*ent A i k)
 | [],v=>⟨λh=>⟨λ_=>0,h⟩,λ⟨_,h⟩=>h⟩
 | r::A,v=>by
  constructor
  · rintro⟨c0,h⟩;obtain⟨c,h⟩:=E9.mp h;refine⟨λi=>match i with|0=>c0|i+1=>c i,λk=>?_⟩;have:v k-c0*at0 r k=sm A.length (λi=>c i*ent A i k):=h k;rw[wu,sm];show v k=c0*at0 r k+sm A.length (λi=>c i*ent A i k);rfl'
  · rintro⟨c,h⟩;refine⟨c 0,E9.mpr ⟨λi=>c (i+1),λk=>?_⟩⟩;have:=h k;rw[wu,sm]at this;show v k-c 0*at0 r k=sm A.length (λi=>c (i+1)*ent A i k);have e:ent (r::A) 0 k=at0 r k:=rfl;rw[e]at this;simp only[Oz]at this;rfl'
theorem Q5{A:aA}{i:Nat}(h:i<A.length):Span (vecs A) (λk=>ent A i k):=n9 (E8 h)
def trn(m:Nat)(A:aA):aA:=(List.range m).map λk=>A.map λr=>at0 r k
theorem C8(m:Nat)(A:aA):(trn m A).length=m:=by simp[trn]
theorem V3{m:Nat}{A:aA}{r:Row}(h:r∈trn m A):r.length=A.length:=by
 obtain⟨k,_,rfl⟩:=wj.mp h;simp
theorem z04(m:Nat)(A:aA)(k i:Nat):ent (trn m A) k i=if k<m then ent A i k else 0:=by
 by_cases h:k<m
 · rw[if_pos h];unfold ent trn at0;rw[show((List.range m).map λk=>A.map λr=>r.getD k 0).getD k []=A.map λr=>r.getD k 0 by simp[List.getD,h]];by_cases hi:i<A.length
   · simp[List.getD,wa hi]
   · simp[List.getD,wR (vK hi)]
 · rw[if_neg h,C0 (by rw[C8];rfl')]
theorem J2{m:Nat}{A:aA}(hl:∀ r∈A,r.length=m)(k i:Nat):ent (trn m A) k i=ent A i k:=by
 rw[z04];split
 · rfl
 · exact(MP hl (by rfl')).symm
theorem z3Y{A B:aA}{m:Nat}(h:A.length=B.length)(ha:∀ r∈A,r.length=m)(hb:∀ r∈B,r.length=m)(q:∀ i k,ent A i k=ent B i k):A=B:=by
 refine vM h λi h1 h2=>?_;have e1:A.getD i []=A[i]:=by simp[List.getD,wa h1]
 have e2:B.getD i []=B[i]:=by simp[List.getD,wa h2]
 refine ext0 (by rw[ha _ (ve h1),hb _ (ve h2)]) λk=>?_;have:=q i k;unfold ent at this;rw[e1,e2]at this;exact this
theorem z3Z{m p:Nat}{A:aA}(hl:∀ r∈A,r.length=m)(hp:A.length=p):trn p (trn m A)=A:=by
 refine z3Y (m:=m) (by rw[C8,hp]) (λr hr=>by rw[V3 hr,C8]) hl λi k=>?_;rw[J2 (λr hr=>by rw[V3 hr,hp]),J2 hl]
structure Sq(r:Nat)(A:aA):Prop where
 asc:Asc r 0 A
 form:Form 0 (u5 A)
 len:A.length=r
theorem Lg{n:Nat}:∀{f:Nat} {S:aA} {i:Nat},Asc n f S->i<S.length->f+i<=f8 (S.getD i [])/\f8 (S.getD i [])+(S.length-i)<=n
 | f,r::S,0,⟨h1,h2,h3,h4,h5⟩,_=>by
  have:=Z4 h5 (by rfl');show f+0<=f8 r/\f8 r+(S.length+1-0)<=n;rfl'
 | f,r::S,i+1,⟨h1,h2,h3,h4,h5⟩,h=>by
  obtain⟨a,b⟩:=Lg (i:=i) h5 (by simpa using h);have e:(r::S).getD (i+1) []=S.getD i []:=rfl;rw[e,wu];rfl'
variable {r:Nat}{A:aA}
theorem Sq.rows(q:Sq r A):∀ x∈A,x.length=r:=λx hx=>(q.asc.mem hx).1
theorem Sq.head(q:Sq r A){i:Nat}(hi:i<r):f8 (A.getD i [])=i:=by
 have:=Lg q.asc (i:=i) (by rw[q.len];exact hi);have:=q.len;rfl'
theorem Sq.pos(q:Sq r A){i:Nat}(hi:i<r):0<ent A i i:=by
 have:=(EG q.asc (k:=i) (by rw[q.len];exact hi)).2.2.2;unfold hd at this;rw[q.head hi]at this;exact this
theorem Sq.low(q:Sq r A){i j:Nat}(h:j<i):ent A i j=0:=by
 by_cases hi:i<r
 · exact r9 _ _ (by rw[q.head hi];exact h)
 · exact C0 (by rw[q.len];rfl') j
theorem Sq.red(q:Sq r A){i j:Nat}(h:i<j)(hj:j<r):0<=ent A i j/\ent A i j<ent A j j:=by
 have:=IQ q.form (j:=i) (k:=j) h (by rw[q.len];exact hj);unfold hd at this;rw[q.head hj]at this;exact this
theorem Sq.far(q:Sq r A){i j:Nat}(h:r<=j):ent A i j=0:=MP q.rows h
theorem MQ{n:Nat}:∀{f:Nat} {S:aA} {v:Vec} {x:Row},Asc n f S->Span (vecs S) v->(∀ k,k<f8 x->v k=0)->x∈S->hd x∣v (f8 x)
 | f,r::S,v,x,A,⟨c,s⟩,z,hx=>by
  have e:=A.coef s;rcases ww.mp hx with rfl|hx
  · exact⟨c,by rw[e];exact wO _ _⟩
  · have hh:=(A.2.2.2.2.mem hx).2.1;have e0:=z (f8 r) (by rfl');have hp:=A.2.2.2.1;have hc:c=0:=by
     rw[e0]at e;rcases vF.mp e.symm with h|h
     · exact h
     · rfl'
    subst hc;exact MQ A.2.2.2.2 (Span.congr (λk=>by simp) s) z hx
theorem Sq.dvd(q:Sq r A){v:Vec}{i:Nat}(hi:i<r)(s:Span (vecs A) v)(z:∀ k,k<i->v k=0):ent A i i∣v i:=by
 have h:=MQ q.asc s (x:=A.getD i []) (λk hk=>z k (by rw[q.head hi]at hk;exact hk)) (E8 (by rw[q.len];exact hi));unfold hd at h;rw[q.head hi]at h;exact h
abbrev pt(i:Nat)(d:Int):Vec:=λk=>if k=i then d else 0
theorem Sq.clean(q:Sq r A){i:Nat}{d:Int}(hi:i<r)(hd:0<d)(h1:Span (vecs A) (pt i d))(h2:∀ y,Span (vecs A) y->d∣y i):∀ k,ent A i k=pt i d k:=by
 have a:=q.dvd hi h1 λk hk=>by simp[pt];rfl'
 have b:=h2 _ (Q5 (by rw[q.len];exact hi));have e:ent A i i=d:=w1a (Int.le_of_lt (q.pos hi)) (Int.le_of_lt hd) (by simpa[pt]using a) b;have u:Span (vecs A) (λk=>ent A i k-pt i d k):=(Q5 (by rw[q.len];exact hi)).sub h1;have z:=Asc.small0 q.asc u λx hx=>by
  obtain⟨j,hj,rfl⟩:=wH hx;have ej:A[j]=A.getD j []:=by simp[List.getD,wa hj]
  rw[q.len]at hj;have hp:=q.pos hj;unfold St.hd;rw[ej,q.head hj];show 0<=ent A i j-pt i d j/\ent A i j-pt i d j<ent A j j;rcases w0l j i with h|h|h
  · rw[q.low h];simp only[pt];rw[if_neg (by rfl')];rfl'
  · subst h;simp only[pt,if_true];rfl'
  · have:=q.red h hj;simp only[pt];rw[if_neg (by rfl')];rfl'
 intro k;have:=z k;rfl'
def Clean(t:Nat)(A:aA):Prop:=∀ i,i<t->∀ k,k≠i->ent A i k=0
theorem U1{y:Vec}(hl:∀ x∈A,x.length=r):Span (vecs (trn r A)) y↔∃ c:Nat->Int,∀ k,y k=sm r (λj=>c j*ent A k j):=by
 rw[E9];simp only[C8,J2 hl]
theorem Clean.dvd(q:Sq r A){t i:Nat}(c:Clean t A)(hi:i<t){y:Vec}(s:Span (vecs (trn r A)) y):ent A i i∣y i:=by
 by_cases hr:i<r
 · obtain⟨c',h⟩:=(U1 q.rows).mp s;rw[h i,L5 hr λk _ hn=>by rw[c i hi k hn];simp];exact⟨c' i,wO _ _⟩
 · rw[q.far (by rfl')];obtain⟨c',h⟩:=(U1 q.rows).mp s;rw[h i,A7 λk hk=>by rw[c i hi k (by rfl')];simp];exact⟨0,rfl⟩
theorem Clean.col(q:Sq r A){t:Nat}(c:Clean t A){i:Nat}(hi:i<=t)(hr:i<r):Span (vecs (trn r A)) (pt i (ent A i i)):=by
 refine Span.congr (λk=>?_) (Q5 (A:=trn r A) (i:=i) (by rw[C8];exact hr));rw[J2 q.rows];simp only[pt];by_cases h:k=i
 · subst h;rw[if_pos rfl]
 · rw[if_neg h];by_cases hk:k<i
   · exact c k (by rfl') i (by rfl')
   · exact q.low (by rfl')
theorem half{X Y:aA}{t:Nat}(x:Sq r X)(y:Sq r Y)(s:SameSpan (vecs Y) (vecs (trn r X)))(c:Clean t X)(ht:t<=r):
   Clean t Y/\(∀ i,i<t->ent Y i i=ent X i i)/\(t<r->ent Y t t∣ent X t t/\(ent Y t t=ent X t t->Clean (t+1) Y)):=by
 have key:∀ i,i<t->∀ k,ent Y i k=pt i (ent X i i) k:=λi hi=>y.clean (by rfl') (x.pos (by rfl')) (s.iff.mpr (c.col x (by rfl') (by rfl'))) λv hv=>c.dvd x hi (s.iff.mp hv);have cl:Clean t Y:=λi hi k hn=>by rw[key i hi];simp[pt,hn]
 refine⟨cl,λi hi=>by rw[key i hi];simp[pt],λh=>?_⟩;have sp:=s.iff.mpr (c.col x (wB t) h);have d:=y.dvd h sp λk hk=>by simp[pt];rfl'
 simp only[pt,if_true]at d;refine⟨d,λe=>?_⟩;have k2:=y.clean (i:=t) (d:=ent X t t) h (x.pos h) sp λv hv=>by
   obtain⟨c',hc⟩:=E9.mp hv;rw[hc t,y.len,L5 h λk hk hn=>?_]
   · rw[e];exact⟨c' t,wO _ _⟩
   · rcases uq hn with hlt|hgt
     · rw[cl k hlt t (by rfl')];simp
     · rw[y.low hgt];simp
 intro i hi k hn;by_cases ht:i<t
 · exact cl i ht k hn
 · have:i=t:=by rfl'
   subst this;rw[k2];simp[pt,hn]
theorem OA{X Y Z:aA}{t:Nat}(x:Sq r X)(y:Sq r Y)(z:Sq r Z)(s:SameSpan (vecs Y) (vecs (trn r X)))(s':SameSpan (vecs Z) (vecs (trn r Y)))(c:Clean t X)(ht:t<r):
   Clean t Z/\(Clean (t+1) Z\/ent Z t t<ent X t t):=by
 obtain⟨a1,a2,a3⟩:=half x y s c (by rfl');obtain⟨b1,b2,b3⟩:=half y z s' a1 (by rfl');obtain⟨a4,a5⟩:=a3 ht;obtain⟨b4,b5⟩:=b3 ht;have xp:=x.pos ht;have yp:=y.pos ht;have zp:=z.pos ht;have l1:=vR xp a4;have l2:=vR yp b4;refine⟨b1,?_⟩;by_cases e:ent Z t t=ent X t t
 · left;have cy:=a5 (by rfl');obtain⟨d1,_,_⟩:=half y z s' cy (by rfl');exact d1
 · right;rfl'
def Q6(r:Nat)(w:Int)(A:aA):Prop:=∀ i,i<r->Span (vecs A) (pt i w)
theorem Sq.comm(q:Sq r A){w:Int}(h:Q6 r w A):Q6 r w (trn r A):=by
 have hM:∃ M:Nat->Nat->Int,∀ i,i<r->∀ k,pt i w k=sm r (λj=>M i j*ent A j k):=by
   have:∀ i,∃ c:Nat->Int,i<r->∀ k,pt i w k=sm r (λj=>c j*ent A j k):=λi=>by
     by_cases hi:i<r
     · obtain⟨c,hc⟩:=E9.mp (h i hi);rw[q.len]at hc;exact⟨c,λ_=>hc⟩
     · exact⟨λ_=>0,λh=>absurd h hi⟩
   exact⟨λi=>vL (this i),λi hi=>vh (this i) hi⟩
 obtain⟨M,hM⟩:=hM;have indep:∀ z:Nat->Int,(∀ k,k<r->sm r (λj=>z j*ent A j k)=0)->∀ j,j<r->z j=0:=λz hz j=>by
   induction j using ut with
   | ind j ih =>
     intro hj;have e:=hz j hj;rw[L5 hj λk hk hn=>?_]at e
     · rcases vF.mp e with h|h
       · exact h
       · have:=q.pos hj;rfl'
     · rcases uq hn with h|h
       · rw[ih k h hk];simp
       · rw[q.low h];simp
 intro i hi;refine(U1 q.rows).mpr ⟨λj=>M j i,λk=>?_⟩;by_cases hk:k<r
 · have:=indep (λi=>sm r (λj=>M j i*ent A k j)-pt i w k) (λm hm=>?_) i hi
   · have hs:pt i w k=pt k w i:=by simp only[pt];split<;>split<;>first|rfl|rfl'
     show pt i w k=sm r (λj=>M j i*ent A k j);rw[hs];have this:sm r (λj=>M j i*ent A k j)-pt i w k=0:=this;rfl'
   · rw[o9 (g:=λi=>sm r (λj=>(ent A k j*(M j i*ent A i m)))-pt i w k*ent A i m) λi _=>?_]
     · rw[DY,EJ,o9 (g:=λj=>ent A k j*pt j w m) λj hj=>?_]
       · rw[L5 (i:=m) hm λj _ hn=>by simp only[pt];rw[if_neg (by rfl')];simp];rw[L5 (i:=k) hk λj _ hn=>by simp only[pt];rw[if_neg (by rfl')];simp];simp only[pt,if_true];rw[wO];rfl'
       · rw[L4,←hM j hj m]
     · rw[w0K,←MO];congr 1;exact o9 λj _=>by rw[wO (M j i),vO]
 · have:pt i w k=0:=by simp only[pt];rw[if_neg (by rfl')]
   rw[show(pt i w) k=0 from this,A7 λj _=>by rw[C0 (A:=A) (i:=k) (by rw[q.len];rfl')];simp]
theorem Sq.whole(q:Sq r A){w:Int}(h:Q6 r w A){i:Nat}(hi:i<r):ent A i i∣w:=by
 have:=q.dvd hi (h i hi) λk hk=>by simp[pt];rfl'
 simpa[pt]using this
end St

end
section
namespace St
open Lat
theorem z05:∀{m k:Nat} {f:Nat->Int},k<=m->(∀ i,k<=i->i<m->f i=0)->sm m f=sm k f
 | m,0,f,_,z=>A7 λi hi=>z i (wU _) hi
 | m+1,k+1,f,h,z=>by rw[sm,sm,z05 (k:=k) (by rfl') λi h1 h2=>z (i+1) (by rfl') (by rfl')]
theorem EK{m a:Nat}{c:Nat->Int}{D:Nat->Nat->Int}(hd:∀ l,l<m->D l l≠0)(hl:∀ l j,l<j->j<m->D l j=0)(h:∀ j,a<=j->j<m->sm m (λl=>c l*D l j)=0):
  ∀ d l,l+d=m->a<=l->l<m->c l=0:=λd=>by
 induction d using ut with
 | ind d ih =>
  intro l e ha hm;have q:=h l ha hm;rw[L5 hm λk hk hn=>?_]at q
  · rcases vF.mp q with q|q
    · exact q
    · exact absurd q (hd l hm)
  · rcases uq hn with x|x
    · rw[hl k l x hm];simp
    · rw[ih (m-k) (by rfl') k (by rfl') (by rfl') hk];simp
theorem IW{P:aA}{k i:Nat}(h:i<k)(j:Nat):ent (P.take k) i j=ent P i j:=by
 unfold ent;congr 1;simp[List.getD,w0S,h]
structure Below(r N:Nat)(w:Int)(P:aA):Prop where
 len:P.length=r
 wid:r<=N
 rows:∀ x∈P,x.length=N
 pos:∀ i,i<r->ent P i i≠0
 low:∀ i j,i<j->j<r->ent P i j=0
 whole:∀ i,i<r->∃ v:Vec,Span (vecs P) v/\v i=w/\∀ k,k<r->k≠i->v k=0
theorem Below.heads{r N:Nat}{w:Int}{P S:aA}(B:Below r N w P){k:Nat}(hk:k<=r)(A:Asc N 0 S)(s:SameSpan (vecs S) (vecs (P.take k))){x:Row}(hx:x∈S):f8 x<k/\hd x∣w:=by
 have kl:(P.take k).length=k:=by rw[vA,B.len];rfl'
 obtain⟨c,hc⟩:=E9.mp (s.iff.mp (n9 hx));rw[kl]at hc;have hh:f8 x<k:=by
  refine Nat.lt_of_not_le λhge=>?_;have z:=EK (m:=k) (a:=0) (c:=c) (D:=λl j=>ent P l j) (λl hl=>B.pos l (by rfl')) (λl j h1 h2=>B.low l j h1 (by rfl')) (λj _ hj=>by
   have:=hc j;rw[o9 (g:=λl=>c l*ent P l j) λl hl=>by rw[IW hl]]at this;rw[←this];exact r9 x j (by rfl'))
  have:=(A.mem hx).2.2.2;unfold hd at this;have e:=hc (f8 x);rw[A7 λl hl=>by rw[z (k-l) l (by rfl') (by rfl') hl];simp]at e;rfl'
 refine⟨hh,?_⟩;obtain⟨v,v1,v2,v3⟩:=B.whole (f8 x) (by rfl');obtain⟨d,hd'⟩:=E9.mp v1;rw[B.len]at hd';have z:=EK (m:=r) (a:=f8 x+1) (c:=d) (D:=λl j=>ent P l j) B.pos B.low λj h1 h2=>by rw[←hd' j];exact v3 j h2 (by rfl')
 have sv:Span (vecs S) v:=s.iff.mpr (E9.mpr ⟨d,λj=>by
  rw[hd' j,kl,z05 hk λi h1 h2=>by rw[z (r-i) i (by rfl') (by rfl') h2];simp];exact o9 λl hl=>by rw[IW hl]⟩)
 have:=MQ A sv (x:=x) (λj hj=>v3 j (by rfl') (by rfl')) hx;rw[v2]at this;exact this
structure Lin(F:Vec->Int):Prop where
 add:∀ u v:Vec,F (λk=>u k+v k)=F u+F v
 smul:∀(c:Int) (u:Vec),F (λk=>c*u k)=c*F u
theorem Lin.zero{F:Vec->Int}(h:Lin F):F (λ_=>0)=0:=by
 have:=h.smul 0 (λ_=>0);simpa using this
theorem Lin.sum{F:Vec->Int}(h:Lin F):∀(m:Nat) (c:Nat->Int) (R:Nat->Vec),F (λk=>sm m (λi=>c i*R i k))=sm m (λi=>c i*F (R i))
 | 0,_,_=>h.zero
 | m+1,c,R=>by
  have:=h.sum m (λi=>c (i+1)) (λi=>R (i+1));rw[sm,←this,←h.smul,←h.add];rfl
theorem Lin.span{F:Vec->Int}(h:Lin F){P:aA}{v:Vec}(z:∀ l,l<P.length->F (λk=>ent P l k)=0)(s:Span (vecs P) v):F v=0:=by
 obtain⟨c,hc⟩:=E9.mp s;rw[show v=λk=>sm P.length (λi=>c i*ent P i k)from funext hc,h.sum];exact A7 λi hi=>by rw[z i hi];simp
theorem Lh{N:Nat}:∀{f:Nat} {S:aA} {z:Nat->Int},Asc N f S->(∀ k,sm S.length (λi=>z i*ent S i k)=0)->∀ i,i<S.length->z i=0
 | f,r::S,z,A,h,i,hi=>by
  have e:=h (f8 r);rw[wu,sm,A7 λk hk=>?_]at e
  · have z0:z 0=0:=by
     have p:=A.2.2.2.1;have e:z 0*hd r+0=0:=e;rcases vF.mp (show z 0*hd r=0 by rfl')with q|q
     · exact q
     · rfl'
    match i,hi with
    | 0,_=>exact z0
    | i+1,hi =>
     refine Lh (z:=λi=>z (i+1)) A.2.2.2.2 (λk=>?_) i (by simpa using hi);have e:=h k;rw[wu,sm,z0]at e;have e:0*ent (r::S) 0 k+sm S.length (λi=>z (i+1)*ent S i k)=0:=e;rfl'
  · rw[Oz];have:=(A.2.2.2.2.mem (E8 hk)).2.1;rw[show ent S k (f8 r)=0 from r9 _ _ (by rfl')];simp
theorem lift{N:Nat}{P S:aA}(s:SameSpan (vecs P) (vecs S))(A:Asc N 0 S)(ζ:Nat->Int):
  ∃ z:Nat->Int,∀ F,Lin F->(∀ l,l<P.length->F (λk=>ent P l k)=z l)->∀ i,i<S.length->F (λk=>ent S i k)=ζ i:=by
 have hU:∀ i,∃ c:Nat->Int,i<S.length->∀ k,ent S i k=sm P.length (λl=>c l*ent P l k):=λi=>by
  by_cases hi:i<S.length
  · obtain⟨c,hc⟩:=E9.mp (s.iff.mpr (Q5 hi));exact⟨c,λ_=>hc⟩
  · exact⟨λ_=>0,λh=>absurd h hi⟩
 have hV:∀ i,∃ c:Nat->Int,i<P.length->∀ k,ent P i k=sm S.length (λl=>c l*ent S l k):=λi=>by
  by_cases hi:i<P.length
  · obtain⟨c,hc⟩:=E9.mp (s.iff.mp (Q5 hi));exact⟨c,λ_=>hc⟩
  · exact⟨λ_=>0,λh=>absurd h hi⟩
 obtain⟨U,hU⟩:∃ U:Nat->Nat->Int,∀ i,i<S.length->∀ k,ent S i k=sm P.length (λl=>U i l*ent P l k):=⟨λi=>vL (hU i),λi=>vh (hU i)⟩;obtain⟨V,hV⟩:∃ V:Nat->Nat->Int,∀ i,i<P.length->∀ k,ent P i k=sm S.length (λl=>V i l*ent S l k):=⟨λi=>vL (hV i),λi=>vh (hV i)⟩
 have key:∀ i,i<S.length→∀ m,m<S.length→sm P.length (fun l=>U i l*V l m)=if m=i then 1 else 0:=fun i hi m hm=>by
  have:=Lh (z:=λm=>sm P.length (λl=>U i l*V l m)-if m=i then 1 else 0) A (λk=>?_) m hm
  · have this:sm P.length (λl=>U i l*V l m)-(if m=i then 1 else 0)=0:=this;rfl'
  · rw[o9 (g:=λm=>sm P.length (λl=>U i l*(V l m*ent S m k))-(if m=i then 1 else 0)*ent S m k) λm _=>?_]
    · rw[DY,EJ,o9 (g:=λl=>U i l*ent P l k) λl hl=>by rw[L4,←hV l hl k],←hU i hi k,L5 hi λm _ hn=>by rw[if_neg hn];simp];simp
    · rw[w0K,←MO];congr 1;exact o9 λl _=>by rw[vO]
 refine⟨λl=>sm S.length (λm=>V l m*ζ m),λF h hF i hi=>?_⟩;rw[show(λk=>ent S i k)=λk=>sm P.length (λl=>U i l*ent P l k)from funext (hU i hi),h.sum P.length (U i) (λl k=>ent P l k)];rw[o9 (g:=λl=>sm S.length (λm=>U i l*V l m*ζ m)) λl hl=>by rw[hF l hl,←L4];exact o9 λm _=>(vO _ _ _).symm];rw[EJ,o9 (g:=λm=>(if m=i then 1 else 0)*ζ m) λm hm=>by rw[MO,key i hi m hm],L5 hi λm _ hn=>by rw[if_neg hn];simp];simp
def fun_(r n:Nat)(c b v:Vec):Int:=sm n (λk=>v (r+k)*b k)-sm r (λj=>c j*v j)
theorem HR(r n:Nat)(c b:Vec):Lin (fun_ r n c b) where
 add u v:=by
  unfold fun_;rw[o9 (g:=λk=>u (r+k)*b k+v (r+k)*b k) λk _=>w1e _ _ _,Gp,o9 (m:=r) (g:=λj=>c j*u j+c j*v j) λk _=>w0k _ _ _,Gp];rfl'
 smul a u:=by
  unfold fun_;rw[o9 (g:=λk=>a*(u (r+k)*b k)) λk _=>vO _ _ _,L4,o9 (m:=r) (g:=λj=>a*(c j*u j)) λk _=>by rw[←vO,wO (c k),vO],L4,uO]
def EqP(r n:Nat)(P:aA)(b:Vec):Prop:=∃ c:Vec,∀ l,l<P.length->fun_ r n c b (λk=>ent P l k)=0
theorem EqP.same{r n:Nat}{P S:aA}{b:Vec}(s:SameSpan (vecs P) (vecs S)):EqP r n P b↔EqP r n S b :=
 ⟨λ⟨c,h⟩=>⟨c,λl hl=>(HR r n c b).span h (s.iff.mpr (Q5 hl))⟩,λ⟨c,h⟩=>⟨c,λl hl=>(HR r n c b).span h (s.iff.mp (Q5 hl))⟩⟩
end St

end
section
namespace St
open Lat
def wts(n:Nat)(W:aA)(b:Vec):Vec:=λi=>sm n (λk=>ent W i k*b k)
def pair(A W:aA):aA:=List.zipWith (·++·) A W
theorem Q7{A W:aA}(h:A.length=W.length):(pair A W).length=A.length:=by unfold pair;rw[vI];rfl'
theorem z06{A W:aA}{i:Nat}(h:i<A.length)(h':i<W.length):(pair A W).getD i []=A.getD i []++W.getD i []:=by
 simp[pair,List.getD,uX,wa h,wa h']
theorem Cr{r n:Nat}{A W:aA}(ha:∀ x∈A,x.length=r){i:Nat}(h:i<A.length)(h':i<W.length)(k:Nat):ent (pair A W) i k=if k<r then ent A i k else ent W i (k-r):=by
 unfold ent;rw[z06 h h',M7 (ha _ (E8 h))]
theorem Li{r n:Nat}{A W:aA}(ha:∀ x∈A,x.length=r)(hw:∀ x∈W,x.length=n):∀ x∈pair A W,x.length=r+n:=λx hx=>by
 obtain⟨i,hi,rfl⟩:=wH hx;simp only[pair,w0M,wD];rw[ha _ (ve _),hw _ (ve _)]
theorem Ct{r n:Nat}{A W:aA}{b:Vec}(ha:∀ x∈A,x.length=r)(hl:A.length=W.length)(c:Vec)(l:Nat)(h:l<A.length):fun_ r n c b (λk=>ent (pair A W) l k)=wts n W b l-sm r (λj=>c j*ent A l j):=by
 unfold fun_ wts;rw[o9 (g:=λk=>ent W l k*b k) λk _=>by show ent (pair A W) l (r+k)*b k=_;rw[Cr (n:=n) ha h (by rfl'),if_neg (by rfl'),show r+k-r=k by rfl']];rw[o9 (m:=r) (g:=λj=>c j*ent A l j) λj hj=>by show c j*ent (pair A W) l j=_;rw[Cr (n:=n) ha h (by rfl'),if_pos hj]]
theorem WA{r n:Nat}{A W:aA}{b:Vec}(ha:∀ x∈A,x.length=r)(hl:A.length=W.length):EqP r n (pair A W) b↔Span (vecs (trn r A)) (wts n W b):=by
 rw[U1 ha];have e:=Ct (r:=r) (n:=n) (b:=b) ha hl;constructor
 · rintro⟨c,h⟩;refine⟨c,λk=>?_⟩;by_cases hk:k<A.length
   · have:=h k (by rw[Q7 hl];exact hk);rw[e c k hk]at this;rfl'
   · rw[show wts n W b k=0 from A7 λj _=>by rw[C0 (by rfl')];simp];exact(A7 λj _=>by rw[C0 (by rfl')];simp).symm
 · rintro⟨c,h⟩;refine⟨c,λl hl'=>?_⟩;rw[Q7 hl]at hl';rw[e c l hl',h l];rfl'
theorem Qq{r:Nat}{w:Int}{B:aA}(h:Q6 r w B){u:Vec}(hu:∀ k,r<=k->u k=0):Span (vecs B) (λk=>w*u k):=by
 have key:∀ m,m≤r→Span (vecs B) (fun k=>if k<m then w*u k else 0):=fun m=>by
   induction m with
   | zero=>intro _;exact Span.congr (λk=>by simp) Span.zero
   | succ m ih =>
    intro hm;refine Span.congr (λk=>?_) ((ih (by rfl')).add ((h m (by rfl')).smul (u m)));by_cases e:k=m
    · subst e;rw[if_neg (by rfl'),if_pos (by rfl')];simp[pt,wO]
    · simp only[pt,if_neg e];by_cases q:k<m
      · rw[if_pos q,if_pos (by rfl')];simp
      · rw[if_neg q,if_neg (by rfl')];simp
 refine Span.congr (λk=>?_) (key r (wB _));by_cases q:k<r
 · rw[if_pos q]
 · rw[if_neg q,hu k (by rfl')];simp
theorem Yl{r:Nat}{P:aA}{v:Vec}(s:Span (vecs P) v):Span (vecs (P.map (·.take r))) (λk=>if k<r then v k else 0):=by
 obtain⟨c,h⟩:=E9.mp s;refine E9.mpr ⟨c,λk=>?_⟩;have e:∀ i,ent (P.map (·.take r)) i k=if k<r then ent P i k else 0:=λi=>by
   by_cases hi:i<P.length
   · unfold ent;rw[show(P.map (·.take r)).getD i []=(P.getD i []).take r by simp[List.getD,wa hi],G5]
   · rw[C0 (by simpa using vK hi),C0 (by rfl')];simp
 rw[wn];by_cases hk:k<r
 · rw[if_pos hk,h k];exact o9 λi _=>by rw[e,if_pos hk]
 · rw[if_neg hk];exact(A7 λi _=>by rw[e,if_neg hk];simp).symm
theorem Dj{r:Nat}{P S:aA}(s:SameSpan (vecs P) (vecs S)):SameSpan (vecs (P.map (·.take r))) (vecs (S.map (·.take r))):=by
 have one:∀{P S:aA},SameSpan (vecs P) (vecs S)->∀ x∈P.map (·.take r),Span (vecs (S.map (·.take r))) (λk=>at0 x k):=λ{P S} s x hx=>by
  obtain⟨y,hy,rfl⟩:=wj.mp hx;exact Span.congr (λk=>by rw[G5]) (Yl (r:=r) (s.iff.mp (n9 hy)))
 exact Bn (one s) (one s.symm)
theorem Dk{r:Nat}{A W:aA}(ha:∀ x∈A,x.length=r)(hl:A.length=W.length):(pair A W).map (·.take r)=A:=by
 refine vM (by rw[wn,Q7 hl]) λi h1 h2=>?_;simp only[pair,List.getElem_map,w0M];rw[w1o (ha _ (ve _))]
theorem OB{r:Nat}(S:aA):pair (S.map (·.take r)) (S.map (·.drop r))=S:=by
 induction S with
 | nil=>rfl
 | cons x S ih=>show(x.take r++x.drop r)::_=_;rw[List.take_append_drop];congr 1
theorem z07{r N:Nat}{S:aA}(h:∀ x∈S,f8 x<r):tops r S=S.map (·.take r):=by
 unfold tops;congr 1;exact List.filter_eq_self.mpr λx hx=>decide_eq_true (h x hx)
structure Mst(r n:Nat)(w:Int)(G K A W:aA):Prop where
 sq:Sq r A
 wl:W.length=r
 wr:∀ x∈W,x.length=n
 whole:Q6 r w (trn r A)
 ker:∀ b:Vec,(∀ k,n<=k->b k=0)->(Span (vecs G) b↔(∀ j,j<K.length->wts n K b j=0)/\Span (vecs (trn r A)) (wts n W b))
 onto:∀ ζ κ:Vec,∃ b:Vec,(∀ k,n<=k->b k=0)/\(∀ j,j<K.length->wts n K b j=κ j)/\Span (vecs (trn r A)) (λi=>wts n W b i-if i<r then ζ i else 0)
variable {r n:Nat}{w:Int}{G K A W T S W':aA}
theorem Mst.rest(m:Mst r n w G K A W)(hl:W'.length=r)(hr:∀ x∈W',x.length=n)(q:Nat->Nat->Int)(e:∀ i k,i<r->ent W' i k=ent W i k-w*q i k):Mst r n w G K A W':=by
 have key:∀ b:Vec,Span (vecs (trn r A)) (λi=>wts n W b i-wts n W' b i):=λb=>by
   refine Span.congr (λi=>?_) (Qq m.whole (u:=λi=>if i<r then sm n (λk=>q i k*b k) else 0) λk hk=>by simp;rfl');by_cases hi:i<r
   · unfold wts;rw[if_pos hi,←DY,←L4];exact o9 λk _=>by rw[e i k hi,w0K,vO];rfl'
   · have z1:wts n W b i=0:=A7 λk _=>by rw[C0 (by rw[m.wl];rfl')];simp
     have z2:wts n W' b i=0:=A7 λk _=>by rw[C0 (by rfl')];simp
     rw[if_neg hi,z1,z2];simp
 refine⟨m.sq,hl,hr,m.whole,λb hb=>?_,λζ κ=>?_⟩
 · rw[m.ker b hb];refine and_congr_right λ_=>⟨λh=>Span.congr (λi=>by rfl') (h.sub (key b)),λh=>Span.congr (λi=>by rfl') (h.add (key b))⟩
 · obtain⟨b,h1,h2,h3⟩:=m.onto ζ κ;exact⟨b,h1,h2,Span.congr (λi=>by rfl') (h3.sub (key b))⟩
theorem Mst.step(m:Mst r n w G K A W)(t:Sq r T)(sT:SameSpan (vecs T) (vecs (trn r A)))(As:Asc (r+n) 0 S)(Fs:Form 0 (u5 S))(sl:S.length=r)(sh:∀ x∈S,f8 x<r)(ss:SameSpan (vecs S) (vecs (pair (trn r T) W))):
   Mst r n w G K (S.map (·.take r)) (S.map (·.drop r)):=by
 have et:tops r S=S.map (·.take r):=z07 (N:=0) sh;obtain⟨a1,a2⟩:=EI As (show r<=r+n by rfl');rw[et]at a1 a2;have sq:Sq r (S.map (·.take r)):=⟨a1,by rw[←et];exact Gn As Fs (by rfl'),by rw[wn,sl]⟩;have cl:(trn r T).length=r:=C8 _ _;have cr:∀ x∈trn r T,x.length=r:=λx hx=>by rw[V3 hx,t.len]
 have tt:trn r (trn r T)=T:=z3Z t.rows t.len;have dr:∀ x∈S.map (·.drop r),x.length=n:=λx hx=>by
   obtain⟨y,hy,rfl⟩:=wj.mp hx;rw[wZ,(As.mem hy).1];rfl'
 have hs:=Dj (r:=r) ss;rw[Dk cr (by rw[cl,m.wl])]at hs;have wT:Q6 r w T:=λi hi=>sT.iff.mpr (m.whole i hi);have wC:=t.comm wT;have wA:Q6 r w (S.map (·.take r)):=λi hi=>hs.iff.mpr (wC i hi);have eq:∀ y,Span (vecs (trn r A)) y↔Span (vecs (trn r (trn r T))) y:=λy=>by rw[tt];exact sT.symm.iff
 have pc:=OB (r:=r) S;refine⟨sq,by rw[wn,sl],dr,sq.comm wA,λb hb=>?_,λζ κ=>?_⟩
 · rw[m.ker b hb];refine and_congr_right λ_=>?_;rw[eq,←WA (n:=n) cr (by rw[cl,m.wl]),←WA (n:=n) sq.rows (by simp),pc];exact EqP.same ss.symm
 · obtain⟨z,hz⟩:=lift ss.symm As ζ;obtain⟨b,h1,h2,h3⟩:=m.onto z κ;refine⟨b,h1,h2,?_⟩;obtain⟨c,hc⟩:=(U1 cr).mp ((eq _).mp h3);have pl:(pair (trn r T) W).length=r:=by rw[Q7 (by rw[cl,m.wl]),cl]
   have:=hz (fun_ r n c b) (HR r n c b) λl hl=>by
     rw[pl]at hl;have e:=hc l;rw[if_pos hl]at e;rw[Ct cr (by rw[cl,m.wl]) c l (by rfl')];rfl'
   refine(U1 sq.rows).mpr ⟨c,λi=>?_⟩;by_cases hi:i<r
   · have e:=this i (by rfl');rw[←pc]at e;rw[Ct sq.rows (by simp) c i (by rw[sq.len];exact hi)]at e;rw[if_pos hi];rfl'
   · rw[if_neg hi,show wts n (S.map (·.drop r)) b i=0 from A7 λk _=>by rw[C0 (by simp[sl];rfl')];simp];rw[A7 λj _=>by rw[C0 (by rw[sq.len];rfl')];simp];rfl
end St

end
section
namespace St
open Lat
def pr(A:aA):Nat->Int
 | 0=>1
 | k+1=>pr A k*ent A k k
theorem z08{T:List Vec}{R:Nat->Vec}(c:Nat->Int):∀ m,(∀ j,j<m->Span T (R j))->Span T (λk=>sm m (λj=>c j*R j k)):=by
 intro m
 induction m generalizing c R with
 | zero=>intro _;exact Span.zero
 | succ m ih=>intro h;exact((h 0 (by rfl')).smul (c 0)).add (ih (R:=λj=>R (j+1)) (λj=>c (j+1)) λj hj=>h (j+1) (by rfl'))
theorem OC{D:aA}(hl:∀ i j,i<j->ent D i j=0):∀ i,i<=D.length->∀ j,j<i->Span (vecs D) (pt j (pr D i)):=by
 intro i
 induction i with
 | zero=>intro _ j hj;rfl'
 | succ i ih =>
  intro hi j hj;have ih:=ih (by rfl');by_cases e:j<i
  · refine Span.congr (λk=>?_) ((ih j e).smul (ent D i i));simp only[pt,pr];split
    · exact wO _ _
    · simp
  · have e:j=i:=by rfl'
    subst e;refine Span.congr (λk=>?_) (((Q5 (A:=D) (i:=j) (by rfl')).smul (pr D j)).sub (z08 (R:=λl=>pt l (pr D j)) (λl=>ent D j l) j ih));by_cases h1:k<j
    · rw[L5 h1 λl _ hn=>by simp only[pt];rw[if_neg (by rfl')];simp];simp only[pt,if_true];rw[if_neg (by rfl'),wO];rfl'
    · rw[A7 λl hl=>by simp only[pt];rw[if_neg (by rfl')];simp];by_cases h2:k=j
      · subst h2;simp[pt,pr]
      · rw[hl j k (by rfl')];simp[pt,h2]
theorem OD{A B:aA}:∀{k:Nat},(∀ i,i<k->ent A i i=ent B i i)->pr A k=pr B k
 | 0,_=>rfl
 | k+1,h=>by rw[pr,pr,OD λi hi=>h i (by rfl'),h k (by rfl')]
theorem Qr{A:aA}:∀{k:Nat},(∀ i,i<k->0<ent A i i)->0<pr A k
 | 0,_=>by show(0:Int)<1;decide
 | k+1,h=>by rw[pr];exact w1h (Qr λi hi=>h i (by rfl')) (h k (by rfl'))
variable {r n:Nat}{w:Int}{G K A W T S:aA}
theorem Sq.prod(q:Sq r A):Q6 r (pr A r) (trn r A):=λi hi=>by
 have:=OC (D:=trn r A) (λi j h=>by rw[J2 q.rows];exact q.low h) r (by rw[C8];exact wB _) i hi;rw[OD (B:=A) λi _=>by rw[J2 q.rows]]at this;exact this
theorem Sq.below(q:Sq r A)(h:Q6 r w (trn r A)):Below r r w (trn r A) where
 len:=C8 _ _
 wid:=wB _
 rows x hx:=by rw[V3 hx,q.len]
 pos i hi:=by rw[J2 q.rows];have:=q.pos hi;rfl'
 low i j h1 h2:=by rw[J2 q.rows];exact q.low h1
 whole i hi:=⟨_,h i hi,by simp[pt],λk _ hn=>by simp[pt,hn]⟩
theorem Sq.below_pair(t:Sq r T)(h:Q6 r w (trn r T))(wl:W.length=r)(wr:∀ x∈W,x.length=n):Below r (r+n) w (pair (trn r T) W):=by
 have B:=t.below h;have pl:(pair (trn r T) W).length=r:=by rw[Q7 (by rw[B.len,wl]),B.len]
 have e:∀ i k,i<r->k<r->ent (pair (trn r T) W) i k=ent (trn r T) i k:=λi k hi hk=>by
   rw[Cr (n:=n) B.rows (by rw[B.len];exact hi) (by rfl'),if_pos hk]
 refine⟨pl,by rfl',Li B.rows wr,λi hi=>by rw[e i i hi hi];exact B.pos i hi,λi j h1 h2=>by rw[e i j (by rfl') h2];exact B.low i j h1 h2,λi hi=>?_⟩;obtain⟨c,hc⟩:=E9.mp (h i hi);rw[C8]at hc;refine⟨λk=>sm r (λl=>c l*ent (pair (trn r T) W) l k),E9.mpr ⟨c,λk=>by rw[pl]⟩,?_,λk hk hn=>?_⟩
 · show sm r (λl=>c l*ent (pair (trn r T) W) l i)=w;rw[o9 (g:=λl=>c l*ent (trn r T) l i) λl hl=>by rw[e l i hl hi],←hc i];simp[pt]
 · show sm r (λl=>c l*ent (pair (trn r T) W) l k)=0;rw[o9 (g:=λl=>c l*ent (trn r T) l k) λl hl=>by rw[e l k hl hk],←hc k];simp[pt,hn]
theorem Qs:∀{R:aA} {cs:aH} (k:Nat),cs.length=R.length->mix R cs k=sm R.length (λi=>at0 cs i*ent R i k)
 | [],[],_,_=>rfl
 | x::R,c::cs,k,h=>by
  rw[mix,wu,sm];show c*at0 x k+mix R cs k=_;rw[Qs k (by simpa using h)];rfl
theorem Below.ind{N:Nat}{P:aA}(B:Below r N w P):Ind P:=λcs hl hz c hc=>by
 have z:=EK (m:=r) (a:=0) (c:=λi=>at0 cs i) (D:=λl j=>ent P l j) B.pos B.low λj _ _=>by
  have:=hz j;rw[Qs j hl,B.len]at this;exact this
 obtain⟨i,hi,rfl⟩:=wH hc;have e:=z (r-i) i (by rw[hl,B.len]at hi;rfl') (by rfl') (by rw[hl,B.len]at hi;exact hi);simpa[at0,List.getD,wa hi]using e
theorem Below.full{N:Nat}{P:aA}(B:Below r N w P)(As:Asc N 0 S)(ss:SameSpan (vecs S) (vecs P)):∀ x∈S,f8 x<r/\hd x∣w:=λx hx =>
 B.heads (wB r) As (by rw[show P.take r=P by rw[←B.len];exact w14];exact ss) hx
def units(n:Nat):aA:=(List.range n).map (o7 n)
theorem D7(n:Nat):(units n).length=n:=by simp[units]
theorem Lj(n:Nat):∀ x∈units n,x.length=n:=λx hx=>by obtain⟨i,_,rfl⟩:=wj.mp hx;exact K5 n i
theorem Gq{i k:Nat}(hi:i<n):ent (units n) i k=if k=i/\k<n then 1 else 0:=by
 unfold ent units;rw[show((List.range n).map (o7 n)).getD i []=o7 n i by simp[List.getD,hi],w8]
theorem Ym{f:Nat}(As:Asc r f T)(h:∀ i,i<r->∃ x∈T,f8 x=i):r<=T.length:=by
 have:=Ak (l:=List.range r) (m:=T.map f8) id List.nodup_range (λx _ y _ e=>e) λi hi=>by
  obtain⟨x,hx,e⟩:=h i (wM.mp hi);exact wj.mpr ⟨x,hx,e⟩
 simpa using this
theorem start(Ag:Asc n 0 G)(gl:G.length=r)(As:Asc (r+n) 0 S)(Fs:Form 0 (u5 S))(sl:S.length=n)(ss:SameSpan (vecs S) (vecs (pair (trn n G) (units n)))):
   ∃ W,S.filter (λx=>decide (f8 x<r))=S.take r/\W=(S.take r).map (·.drop r)/\(bots r S).length=n-r/\Mst r n (pr (tops r S) r) G (bots r S) (tops r S) W/\tops r S=(S.take r).map (·.take r)/\r<=n:=by
 have gr:∀ x∈G,x.length=n:=λx hx=>(Ag.mem hx).1;have rn:r<=n:=by have:=Z4 Ag (wU _);rfl'
 have cr:∀ x∈trn n G,x.length=r:=λx hx=>by rw[V3 hx,gl]
 have cl:(trn n G).length=n:=C8 _ _;obtain⟨a1,a2⟩:=EI As (show r<=r+n by rfl');have hs:=Dj (r:=r) ss;rw[Dk cr (by rw[cl,D7])]at hs;have cover:∀ i,i<r->∃ x∈tops r S,f8 x=i:=λi hi=>by
   let D:aA:=(List.range r).map λi=>(trn n G).getD (f8 (G.getD i [])) [];have dl:D.length=r:=by simp[D]
   have de:∀ i j,i<r->ent D i j=ent G j (f8 (G.getD i [])):=λi j hi=>by
     have:D.getD i []=(trn n G).getD (f8 (G.getD i [])) []:=by simp[D,List.getD,hi]
     rw[←J2 gr];unfold ent;rw[this]
   have low:∀ i j,i<j->ent D i j=0:=λi j h=>by
     by_cases hi:i<r
     · rw[de i j hi];by_cases hj:j<r
       · exact r9 _ _ (Qo Ag h (by rw[gl];exact hj))
       · exact C0 (by rw[gl];rfl') _
     · exact C0 (by rw[dl];rfl') _
   have sp:=OC low r (by rw[dl];exact wB _) i hi;have pos:0<pr D r:=Qr λi hi=>by
     rw[de i i hi];exact(EG Ag (k:=i) (by rw[gl];exact hi)).2.2.2
   have sp2:Span (vecs (trn n G)) (pt i (pr D r)):=Span.trans (λv hv=>by
     obtain⟨x,hx,rfl⟩:=wj.mp hv;obtain⟨j,hj,rfl⟩:=wj.mp hx;have hj:=wM.mp hj;exact n9 (E8 (by rw[cl];exact(EG Ag (k:=j) (by rw[gl];exact hj)).2.2.1))) sp
   have sp3:=hs.iff.mpr sp2;have sp4:Span (vecs (tops r S)) (pt i (pr D r)):=by
     refine Span.trans (λv hv=>?_) sp3;obtain⟨x,hx,rfl⟩:=wj.mp hv;obtain⟨y,hy,rfl⟩:=wj.mp hx;exact Span.congr (λk=>by simp only[vec];rw[G5]) (Go (n:=r) As (n9 hy))
   exact Asc.first a1 sp4 (λk hk=>by simp[pt];rfl') (by simp[pt];rfl')
 have tl:(tops r S).length=r:=by
   have h1:=Ym a1 cover;have h2:=Z4 a1 (wU _);rfl'
 have fl:(S.filter λx=>decide (f8 x<r)).length=r:=by rw[←a2];exact tl
 have sp:=Bp As (n:=r);have tk:S.filter (λx=>decide (f8 x<r))=S.take r:=by
   have:=congrArg (List.take r) sp;rw[w1o fl]at this;exact this.symm
 have dk:S.filter (λx=>!decide (f8 x<r))=S.drop r:=by
   have:=congrArg (List.drop r) sp;rw[List.drop_left' fl]at this;exact this.symm
 have te:tops r S=(S.take r).map (·.take r):=by unfold tops;rw[tk]
 have be:bots r S=(S.drop r).map (·.drop r):=by unfold bots;rw[dk]
 have bl:(bots r S).length=n-r:=by rw[be,wn,wZ,sl]
 have sq:Sq r (tops r S):=⟨a1,Gn As Fs (by rfl'),tl⟩;have hS:∀ i,i<r->∀ k,ent S i k=ent (pair (tops r S) ((S.take r).map (·.drop r))) i k:=λi hi k=>by
   rw[te,OB,IW hi]
 have wl:((S.take r).map (·.drop r)).length=r:=by rw[wn,vA,sl];rfl'
 have zl:∀ j,j<n-r->∀ k,k<r->ent S (r+j) k=0:=λj hj k hk=>by
   have m:S.getD (r+j) []∈S.filter (λx=>!decide (f8 x<r)):=by
     rw[dk,show S.getD (r+j) []=(S.drop r).getD j [] by simp[List.getD,uN]];exact E8 (by rw[wZ,sl];exact hj)
   have:=(wP.mp m).2;rw[Bool.not_eq_true',decide_eq_false_iff_not]at this;exact r9 _ _ (by rfl')
 have bk:∀ j,j<n-r->∀ k,ent S (r+j) (r+k)=ent (bots r S) j k:=λj hj k=>by
   rw[be];unfold ent;rw[show((S.drop r).map (·.drop r)).getD j []=(S.getD (r+j) []).drop r by simp[List.getD,uN,wa (show r+j<S.length by rfl')],A5]
 have fb:∀(c b:Vec) (j:Nat),j<n-r->fun_ r n c b (λk=>ent S (r+j) k)=wts n (bots r S) b j:=λc b j hj=>by
   unfold fun_ wts;rw[o9 (g:=λk=>ent (bots r S) j k*b k) λk _=>by show ent S (r+j) (r+k)*b k=_;rw[bk j hj],A7 (m:=r) λk hk=>by show c k*ent S (r+j) k=0;rw[zl j hj k hk];simp];rfl'
 have fa:∀(c b:Vec) (i:Nat),i<r->fun_ r n c b (λk=>ent S i k)=wts n ((S.take r).map (·.drop r)) b i-sm r (λj=>c j*ent (tops r S) i j):=λc b i hi=>by
   rw[show(λk=>ent S i k)=λk=>ent (pair (tops r S) ((S.take r).map (·.drop r))) i k from funext (hS i hi)];exact Ct sq.rows (by rw[tl,wl]) c i (by rw[tl];exact hi)
 have fp:∀(c b:Vec) (l:Nat),l<n->fun_ r n c b (λk=>ent (pair (trn n G) (units n)) l k)=b l-sm r (λj=>c j*ent G j l):=λc b l hl=>by
   rw[Ct cr (by rw[cl,D7]) c l (by rw[cl];exact hl)];congr 1
   · unfold wts;rw[L5 hl λk _ hn=>by rw[Gq hl,if_neg (by rfl')];simp,Gq hl,if_pos ⟨rfl,hl⟩];simp
   · exact o9 λj _=>by rw[J2 gr]
 have pl:(pair (trn n G) (units n)).length=n:=by rw[Q7 (by rw[cl,D7]),cl]
 refine⟨_,tk,rfl,bl,⟨sq,wl,λx hx=>?_,sq.prod,λb hb=>?_,λζ κ=>?_⟩,te,rn⟩
 · obtain⟨y,hy,rfl⟩:=wj.mp hx;rw[wZ,(As.mem (ug hy)).1];rfl'
 · have e1:Span (vecs G) b↔EqP r n (pair (trn n G) (units n)) b:=by
     rw[E9,gl];constructor
     · rintro⟨c,h⟩;exact⟨c,λl hl=>by rw[fp c b l (by rfl'),h l];rfl'⟩
     · rintro⟨c,h⟩;refine⟨c,λk=>?_⟩;by_cases hk:k<n
       · have:=h k (by rfl');rw[fp c b k hk]at this;rfl'
       · rw[hb k (by rfl')];exact(A7 λj _=>by rw[MP gr (by rfl')];simp).symm
   rw[e1,EqP.same ss.symm,bl,U1 sq.rows];constructor
   · rintro⟨c,h⟩;refine⟨λj hj=>by rw[←fb c b j hj];exact h _ (by rfl'),c,λk=>?_⟩;by_cases hk:k<r
     · have:=h k (by rfl');rw[fa c b k hk]at this;rfl'
     · rw[show wts n ((S.take r).map (·.drop r)) b k=0 from A7 λj _=>by rw[C0 (by rw[wl];rfl')];simp];exact(A7 λj _=>by rw[C0 (by rw[tl];rfl')];simp).symm
   · rintro⟨h1,c,h2⟩;refine⟨c,λl hl=>?_⟩;by_cases hk:l<r
     · rw[fa c b l hk,h2 l];rfl'
     · have:=h1 (l-r) (by rfl');rw[←fb c b (l-r) (by rfl'),show r+(l-r)=l by rfl']at this;exact this
 · obtain⟨z,hz⟩:=lift ss.symm As (λi=>if i<r then ζ i else κ (i-r));have:=hz (fun_ r n (λ_=>0) (λk=>if k<n then z k else 0)) (HR _ _ _ _) λl hl=>by
     rw[fp _ _ l (by rfl'),if_pos (by rfl'),A7 λj _=>by simp];rfl'
   refine⟨λk=>if k<n then z k else 0,λk hk=>if_neg (by rfl'),λj hj=>?_,?_⟩
   · have e:=this (r+j) (by rfl');rw[fb _ _ j (by rfl'),if_neg (by rfl'),show r+j-r=j by rfl']at e;exact e
   · refine Span.congr (λi=>?_) Span.zero;by_cases hi:i<r
     · have e:=this i (by rfl');rw[fa _ _ i hi,if_pos hi,A7 λj _=>by simp]at e;rw[if_pos hi];rfl'
     · rw[if_neg hi,show wts n ((S.take r).map (·.drop r)) _ i=0 from A7 λj _=>by rw[C0 (by rw[wl];rfl')];simp];rfl
end St

end
section
namespace St
open Lat
abbrev Meas:=List (Row×Int)
def mw(M:Meas)(i:Nat):Row:=(M.getD i ([],0)).1
def mp(M:Meas)(i:Nat):Int:=(M.getD i ([],0)).2
def dt(n:Nat)(w:Row)(b:Vec):Int:=sm n (λk=>at0 w k*b k)
structure Ms(n:Nat)(G:aA)(M:Meas):Prop where
 rows:∀ x∈M,x.1.length=n
 ker:∀ b:Vec,(∀ k,n<=k->b k=0)->(Span (vecs G) b↔∀ i,i<M.length->mp M i∣dt n (mw M i) b)
 onto:∀ ζ:Vec,∃ b:Vec,(∀ k,n<=k->b k=0)/\∀ i,i<M.length->mp M i∣dt n (mw M i) b-ζ i
variable {n:Nat}{G:aA}{M M':Meas}
theorem Ms.rest(m:Ms n G M)(hr:∀ x∈M',x.1.length=n)(hl:M'.length=M.length)(hp:∀ i,i<M.length->mp M' i=mp M i)(hd:∀ i,i<M.length->∀ b:Vec,mp M i∣dt n (mw M' i) b-dt n (mw M i) b):Ms n G M':=by
 refine⟨hr,λb hb=>?_,λζ=>?_⟩
 · rw[m.ker b hb,hl];refine forall_congr' λi=>forall_congr' λhi=>?_;rw[hp i hi];have:=hd i hi b;constructor
   · intro h;have:=uz this h;rwa [Int.sub_add_cancel]at this
   · intro h;have:=w1i h this;rwa [show dt n (mw M' i) b-(dt n (mw M' i) b-dt n (mw M i) b)=dt n (mw M i) b by rfl']at this
 · obtain⟨b,h1,h2⟩:=m.onto ζ;refine⟨b,h1,λi hi=>?_⟩;rw[hl]at hi;rw[hp i hi];have:=uz (hd i hi b) (h2 i hi)
   rwa [show dt n (mw M' i) b-dt n (mw M i) b+(dt n (mw M i) b-ζ i)=dt n (mw M' i) b-ζ i by rfl']at this
theorem Ms.link(m:Ms n G M){p q:Nat}{g f1 f2 a b:Int}(hp:p<M.length)(hq:q<M.length)(hn:p≠q)(ea:mp M p=g*a)(eb:mp M q=g*b)(hg:g≠0)(e1:f1*a+f2*b=1)
   (hr:∀ x∈M',x.1.length=n) (hl:M'.length=M.length) (ho:∀ i,i≠p->i≠q->mp M' i=mp M i/\mw M' i=mw M i) (hp1:mp M' p=g) (hq1:mp M' q=a*(g*b))
   (hp2:∀ v:Vec,g∣dt n (mw M' p) v-(dt n (mw M p) v+dt n (mw M q) v)) (hq2:∀ v:Vec,a*(g*b)∣dt n (mw M' q) v-(-(f2*b)*dt n (mw M p) v+f1*a*dt n (mw M q) v)):Ms n G M':=by
 have key:∀ X Y U V:Int,g∣U-(X+Y)->a*(g*b)∣V-(-(f2*b)*X+f1*a*Y)->((g*a∣X/\g*b∣Y)↔(g∣U/\a*(g*b)∣V)):=by
   rintro X Y U V ⟨u,hu⟩ ⟨v,hv⟩;constructor
   · rintro⟨⟨x,rfl⟩,⟨y,rfl⟩⟩;exact⟨⟨u+a*x+b*y,by grind⟩,⟨v-f2*x+f1*y,by grind⟩⟩
   · rintro⟨⟨x,rfl⟩,⟨y,rfl⟩⟩;refine⟨⟨f1*(x-u)-b*(y-v),?_⟩,⟨f2*(x-u)+a*(y-v),?_⟩⟩
     · grind
     · grind
 refine⟨hr,λb' hb=>?_,λζ=>?_⟩
 · rw[m.ker b' hb,hl];have k:=key (dt n (mw M p) b') (dt n (mw M q) b') (dt n (mw M' p) b') (dt n (mw M' q) b') (hp2 b') (hq2 b');constructor
   · intro h i hi;have:=k.mp ⟨by rw[←ea];exact h p hp,by rw[←eb];exact h q hq⟩;by_cases i1:i=p
     · subst i1;rw[hp1];exact this.1
     · by_cases i2:i=q
       · subst i2;rw[hq1];exact this.2
       · rw[(ho i i1 i2).1,(ho i i1 i2).2];exact h i hi
   · intro h i hi;have:=k.mpr ⟨by rw[←hp1];exact h p hp,by rw[←hq1];exact h q hq⟩;by_cases i1:i=p
     · subst i1;rw[ea];exact this.1
     · by_cases i2:i=q
       · subst i2;rw[eb];exact this.2
       · have:=h i hi;rw[(ho i i1 i2).1,(ho i i1 i2).2]at this;exact this
 · obtain⟨v,h1,h2⟩:=m.onto λi=>if i=p then f1*a*ζ p-ζ q else if i=q then f2*b*ζ p+ζ q else ζ i
   refine⟨v,h1,λi hi=>?_⟩;have x1:=h2 p hp;rw[if_pos rfl,ea]at x1;have x2:=h2 q hq;rw[if_neg (by rfl'),if_pos rfl,eb]at x2;have k:=(key (dt n (mw M p) v-(f1*a*ζ p-ζ q)) (dt n (mw M q) v-(f2*b*ζ p+ζ q)) (dt n (mw M' p) v-ζ p) (dt n (mw M' q) v-ζ q)
     (by have:=hp2 v;rwa [show dt n (mw M' p) v-ζ p-(dt n (mw M p) v-(f1*a*ζ p-ζ q)+(dt n (mw M q) v-(f2*b*ζ p+ζ q)))=dt n (mw M' p) v-(dt n (mw M p) v+dt n (mw M q) v) by grind])
     (by have:=hq2 v;rwa [show dt n (mw M' q) v-ζ q-(-(f2*b)*(dt n (mw M p) v-(f1*a*ζ p-ζ q))+f1*a*(dt n (mw M q) v-(f2*b*ζ p+ζ q)))=dt n (mw M' q) v-(-(f2*b)*dt n (mw M p) v+f1*a*dt n (mw M q) v) by grind])).mp ⟨x1,x2⟩
   by_cases i1:i=p
   · subst i1;rw[hp1];exact k.1
   · by_cases i2:i=q
     · subst i2;rw[hq1];exact k.2
     · have:=h2 i (by rfl');rw[if_neg i1,if_neg i2]at this;rw[(ho i i1 i2).1,(ho i i1 i2).2];exact this
theorem z40{g a b f1 f2 w:Int}(hg:g≠0)(e1:f1*a+f2*b=1)(h1:g*a∣w)(h2:g*b∣w):a*(g*b)∣w:=by
 obtain⟨s,hs⟩:=h1;obtain⟨t,ht⟩:=h2;exact⟨f1*t+f2*s,by grind⟩
theorem z41{p:Int}{x y:Row}{q:Nat->Int}(e:∀ k,at0 x k=at0 y k-p*q k)(b:Vec):p∣dt n x b-dt n y b:=by
 refine⟨- sm n (λk=>q k*b k),?_⟩;unfold dt;rw[←DY,o9 (g:=λk=>(-p)*(q k*b k)) λk _=>by rw[e k];grind,L4];grind
theorem Mst.meas{r:Nat}{w:Int}{K A W:aA}(m:Mst r n w G K A W)(hc:Clean r A)(kr:∀ x∈K,x.length=n)(M:Meas)(hl:M.length=r+K.length)(h1:∀ i,i<r->mw M i=W.getD i []/\mp M i=ent A i i)(h2:∀ j,j<K.length->mw M (r+j)=K.getD j []/\mp M (r+j)=0):Ms n G M:=by
 have sp:∀ y:Vec,(∀ k,r<=k->y k=0)->(Span (vecs (trn r A)) y↔∀ i,i<r->ent A i i∣y i):=λy hy=>by
   rw[U1 m.sq.rows];constructor
   · rintro⟨c,h⟩ i hi;rw[h i,L5 hi λk _ hn=>by rw[hc i hi k hn];simp];exact⟨c i,wO _ _⟩
   · intro h;refine⟨λi=>y i / ent A i i,λk=>?_⟩;by_cases hk:k<r
     · rw[L5 hk λj _ hn=>by rw[hc k hk j hn];simp];exact(Int.ediv_mul_cancel (h k hk)).symm
     · rw[hy k (by rfl')];exact(A7 λj _=>by rw[C0 (by rw[m.sq.len];rfl')];simp).symm
 have wz:∀ b k,r<=k->wts n W b k=0:=λb k hk=>A7 λj _=>by rw[C0 (by rw[m.wl];exact hk)];simp
 have d1:∀ b i,i<r->dt n (mw M i) b=wts n W b i:=λb i hi=>by rw[(h1 i hi).1];rfl
 have d2:∀ b j,j<K.length->dt n (mw M (r+j)) b=wts n K b j:=λb j hj=>by rw[(h2 j hj).1];rfl
 refine⟨λx hx=>?_,λb hb=>?_,λζ=>?_⟩
 · obtain⟨i,hi,rfl⟩:=wH hx;have e:M[i].1=mw M i:=by simp[mw,List.getD,wa hi]
   rw[e];by_cases q:i<r
   · rw[(h1 i q).1];exact m.wr _ (E8 (by rw[m.wl];exact q))
   · rw[show i=r+(i-r) by rfl',(h2 (i-r) (by rfl')).1];exact kr _ (E8 (by rfl'))
 · rw[m.ker b hb,sp _ (wz b),hl];constructor
   · rintro⟨a1,a2⟩ i hi;by_cases q:i<r
     · rw[(h1 i q).2,d1 b i q];exact a2 i q
     · rw[show i=r+(i-r) by rfl',(h2 (i-r) (by rfl')).2,d2 b _ (by rfl'),a1 _ (by rfl')];exact uW 0
   · intro h;refine⟨λj hj=>?_,λi hi=>?_⟩
     · have:=h (r+j) (by rfl');rw[(h2 j hj).2,d2 b j hj]at this;exact Int.zero_dvd.mp this
     · have:=h i (by rfl');rw[(h1 i hi).2,d1 b i hi]at this;exact this
 · obtain⟨b,b1,b2,b3⟩:=m.onto ζ (λj=>ζ (r+j));rw[sp _ λk hk=>by rw[wz b k hk,if_neg (by rfl')];rfl]at b3;refine⟨b,b1,λi hi=>?_⟩;by_cases q:i<r
   · have:=b3 i q;rw[if_pos q]at this;rw[(h1 i q).2,d1 b i q];exact this
   · have:=b2 (i-r) (by rfl');rw[show i=r+(i-r) by rfl',(h2 (i-r) (by rfl')).2,d2 b _ (by rfl'),this];simp
end St

end
section
namespace St
open Lat
theorem Dl:∀{n:Nat} {f:Nat->Nat} {t:aH},K1 ((List.range n).map f) t↔t.length=n/\∀ i,i<n->0<=at0 t i/\at0 t i<f i:=by
 have key:∀(ns:List Nat) (t:List Int),K1 ns t↔t.length=ns.length∧∀ i,i<ns.length→0≤at0 t i∧at0 t i<(ns.getD i 0:Int):=by
  intro ns
  induction ns with
  | nil =>
   intro t;cases t with
   | nil=>simp[K1]
   | cons x t=>simp[K1]
  | cons a ns ih =>
   intro t;cases t with
   | nil=>simp[K1]
   | cons x t =>
    rw[K1,ih];constructor
    · rintro⟨h0,h1,h2,h3⟩;refine⟨by simp[h2],λi hi=>?_⟩;cases i with
      | zero=>exact⟨h0,h1⟩
      | succ i=>exact h3 i (by simpa using hi)
    · rintro⟨h2,h3⟩;have a:=h3 0 (by simp);exact⟨a.1,a.2,by simpa using h2,λi hi=>h3 (i+1) (by simpa using hi)⟩
 intro n f t;rw[key];simp only[wn,vv];refine and_congr_right λ_=>forall_congr' λi=>forall_congr' λhi=>?_;rw[show((List.range n).map f).getD i 0=f i by simp[List.getD,hi]]
def mkr(n:Nat)(f:Nat->Int):Row:=(List.range n).map f
theorem WB(n:Nat)(f:Nat->Int):(mkr n f).length=n:=by simp[mkr]
theorem WD{n:Nat}{f:Nat->Int}{k:Nat}(h:k<n):at0 (mkr n f) k=f k:=by simp[at0,mkr,List.getD,h]
theorem OE{n:Nat}{f:Nat->Int}(hf:∀ k,n<=k->f k=0)(k:Nat):at0 (mkr n f) k=f k:=by
 by_cases h:k<n
 · exact WD h
 · rw[hf k (by rfl')];exact u7 (by rw[WB];rfl')
variable {n:Nat}{G:aA}{M:Meas}
end St

end
section
namespace St
open Lat
theorem OF(l:List Nat)(x:Nat):prod (l++[x])=prod l*x:=by
 induction l with
 | nil=>simp[prod]
 | cons a l ih=>rw[uY,prod,prod,ih,vP]
theorem WE{A:aA}:∀{r:Nat},(∀ i,i<r->0<ent A i i)->pr A r=(prod ((List.range r).map λi=>(ent A i i).toNat):Int)
 | 0,_=>rfl
 | r+1,h=>by
  have:=h r (by rfl');rw[pr,WE λi hi=>h i (by rfl'),w04,vm,wo,w0U,OF,Int.natCast_mul];congr 1;rfl'
theorem OG{f:Nat->Nat}{e:Nat}:∀{r:Nat},(∀ i,i<r->f i<=2 ^ e)->prod ((List.range r).map f)<=2 ^ (e*r)
 | 0,_=>by simp[prod]
 | r+1,h=>by
  rw[w04,vm,wo,w0U,OF,Nat.mul_succ,vt];exact vS (OG λi hi=>h i (by rfl')) (h r (by rfl'))
variable {r:Nat}{A D:aA}
theorem Yn(dl:D.length=r)(low:∀ i j,i<j->ent D i j=0)(pos:∀ i,i<r->0<ent D i i):∀ k,k<=r->∀ t:Vec,(∀ j,k<=j->t j=0) ->
  ∃ x:Vec,(∀ j,j<k->0<=x j/\x j<ent D j j)/\(∀ j,k<=j->x j=0)/\Span (vecs D) (λj=>t j-x j):=by
 intro k
 induction k with
 | zero=>intro _ t ht;exact⟨λ_=>0,λj hj=>by rfl',λ_ _=>rfl,Span.congr (λj=>by rw[ht j (by rfl')];rfl) Span.zero⟩
 | succ k ih =>
  intro hk t ht;have p:=pos k (by rfl');obtain⟨f0,f1⟩:=Gj (t k) p;have sd:Span (vecs D) (λj=>ent D k j):=Q5 (by rfl');obtain⟨x,x1,x2,x3⟩:=ih (by rfl') (λj=>if j<k then t j-(t k).fdiv (ent D k k)*ent D k j else 0) λj hj=>if_neg (by rfl');refine⟨λj=>if j=k then t k-(t k).fdiv (ent D k k)*ent D k k else x j,λj hj=>?_,λj hj=>?_,?_⟩
  · dsimp only;by_cases e:j=k
    · subst e;rw[if_pos rfl];exact⟨f0,f1⟩
    · rw[if_neg e];exact x1 j (by rfl')
  · dsimp only;rw[if_neg (by rfl')];exact x2 j (by rfl')
  · refine Span.congr (λj=>?_) (x3.add (sd.smul ((t k).fdiv (ent D k k))));dsimp only;by_cases e:j=k
    · subst e;rw[if_neg (by rfl'),if_pos rfl,x2 j (by rfl')];rfl'
    · rw[if_neg e];by_cases h:j<k
      · rw[if_pos h];rfl'
      · rw[if_neg h,low k j (by rfl'),ht j (by rfl')];simp
theorem Sq.prod_bound(q:Sq r A)(dl:D.length=r)(low:∀ i j,i<j->ent D i j=0)(pos:∀ i,i<r->0<ent D i i)(sp:∀ x∈D,Span (vecs A) (λk=>at0 x k)):
   Lat.prod ((List.range r).map λi=>(ent A i i).toNat)<=Lat.prod ((List.range r).map λi=>(ent D i i).toNat):=by
 have sub:∀ v,Span (vecs D) v->Span (vecs A) v:=λv hv=>Span.trans (λu hu=>by obtain⟨x,hx,rfl⟩:=wj.mp hu;exact sp x hx) hv;have ch:∀ t:Row,t.length=r->∃ x:Vec,(∀ j,j<r->0<=x j/\x j<ent D j j)/\(∀ j,r<=j->x j=0)/\Span (vecs D) (λj=>at0 t j-x j):=λt ht=>Yn dl low pos r (wB _) _ λj hj=>u7 (by rfl');have ch':∀ t:Row,∃ x:Vec,t.length=r->(∀ j,j<r->0<=x j/\x j<ent D j j)/\(∀ j,r<=j->x j=0)/\Span (vecs D) (λj=>at0 t j-x j):=λt=>by
   by_cases h:t.length=r
   · obtain⟨x,hx⟩:=ch t h;exact⟨x,λ_=>hx⟩
   · exact⟨λ_=>0,λh'=>absurd h' h⟩
 refine Wr (λt=>mkr r (vL (ch' t))) (λs t hs ht e=>?_) λs hs=>?_
 · obtain⟨sl,sb⟩:=Dl.mp hs;obtain⟨tl,tb⟩:=Dl.mp ht;obtain⟨s1,s2,s3⟩:=vh (ch' s) sl;obtain⟨t1,t2,t3⟩:=vh (ch' t) tl;generalize vL (ch' s)=b at e s1 s2 s3;generalize vL (ch' t)=c at e t1 t2 t3;have e:mkr r b=mkr r c:=e;have bc:∀ k,b k=c k:=λk=>by
     have:=congrArg (λx=>at0 x k) e;simp only[OE s2,OE t2]at this;exact this
   have d:Span (vecs A) (λk=>at0 s k-at0 t k):=sub _ (Span.congr (λk=>by have:=bc k;rfl') (s3.sub t3));refine ext0 (by rfl') λk=>?_;have z:=Asc.small q.asc d (λx hx=>by
     obtain⟨j,hj,rfl⟩:=wH hx;have ej:A[j]=A.getD j []:=by simp[List.getD,wa hj]
     rw[q.len]at hj;unfold hd;rw[ej,q.head hj];have a:=sb j hj;have b:=tb j hj;have p:=q.pos hj;show -(ent A j j)<at0 s j-at0 t j/\at0 s j-at0 t j<ent A j j;rfl') k
   rfl'
 · obtain⟨sl,sb⟩:=Dl.mp hs;obtain⟨s1,s2,s3⟩:=vh (ch' s) sl;refine Dl.mpr ⟨WB _ _,λi hi=>?_⟩;rw[WD hi];have:=s1 i hi;have p:=pos i hi;rfl'
theorem OH{n e:Nat}{G T:aA}(Ag:Asc n 0 G)(gl:G.length=r)(q:Sq r T)(s:∀ x∈trn n G,Span (vecs T) (λk=>at0 x k))(hb:∀ x∈G,hd x<2 ^ e):pr T r<=2 ^ (e*r):=by
 let D:aA:=(List.range r).map λi=>(trn n G).getD (f8 (G.getD i [])) [];have gr:∀ x∈G,x.length=n:=λx hx=>(Ag.mem hx).1;have dl:D.length=r:=by simp[D]
 have de:∀ i j,i<r->ent D i j=ent G j (f8 (G.getD i [])):=λi j hi=>by
  have:D.getD i []=(trn n G).getD (f8 (G.getD i [])) []:=by simp[D,List.getD,hi]
  rw[←J2 gr];unfold ent;rw[this]
 have low:∀ i j,i<j->ent D i j=0:=λi j h=>by
  by_cases hi:i<r
  · rw[de i j hi];by_cases hj:j<r
    · exact r9 _ _ (Qo Ag h (by rw[gl];exact hj))
    · exact C0 (by rw[gl];rfl') _
  · exact C0 (by rw[dl];rfl') _
 have pos:∀ i,i<r->0<ent D i i:=λi hi=>by
  rw[de i i hi];exact(EG Ag (k:=i) (by rw[gl];exact hi)).2.2.2
 have b:=q.prod_bound dl low pos λx hx=>by
  obtain⟨j,hj,rfl⟩:=wj.mp hx;have hj:=wM.mp hj;exact s _ (E8 (by rw[C8];exact(EG Ag (k:=j) (by rw[gl];exact hj)).2.2.1))
 have b2:=OG (f:=λi=>(ent D i i).toNat) (e:=e) (r:=r) λi hi=>by
  have h:ent D i i<2 ^ e:=by rw[de i i hi];exact hb _ (E8 (by rw[gl];exact hi))
  have p2:(0:Int)<2 ^ e:=Int.pow_pos (by decide);have:((2 ^ e:Nat):Int)=(2:Int) ^ e:=by norm_cast
  rfl'
 rw[WE λi hi=>q.pos hi];have:((2 ^ (e*r):Nat):Int)=(2:Int) ^ (e*r):=by norm_cast
 rfl'
theorem Sq.entry(q:Sq r A){w:Int}(h:Q6 r w A)(hw:0<w)(i j:Nat):0<=ent A i j/\ent A i j<=w:=by
 by_cases hj:j<r
 · have d:=vR hw (q.whole h hj);rcases w0l i j with x|x|x
   · have:=q.red x hj;rfl'
   · subst x;have:=q.pos hj;rfl'
   · rw[q.low x];rfl'
 · rw[q.far (by rfl')];rfl'
end St

end
section
namespace St
open Lat
variable {n:Nat}{G:aA}{M K0:Meas}
theorem U5{i:Nat}(h:i<M.length):mp (M++K0) i=mp M i/\mw (M++K0) i=mw M i:=by
 unfold mp mw;simp[List.getD,wW h]
theorem IX{p q i:Nat}{x y:Row×Int}(hpq:p≠q)(hp:p<M.length)(hq:q<M.length):((M.set p x).set q y).getD i ([],0)=if i=q then y else if i=p then x else M.getD i ([],0):=by
 by_cases h1:i=q
 · subst h1;simp[List.getD,hq]
 · rw[if_neg h1];by_cases h2:i=p
   · subst h2;simp[List.getD,vw,hp,Ne.symm h1,if_neg (Ne.symm h1)]
   · rw[if_neg h2];simp[List.getD,vw,Ne.symm h1,Ne.symm h2]
theorem Z5{i:Nat}:(M++K0).getD i ([],0)=if i<M.length then M.getD i ([],0) else K0.getD (i-M.length) ([],0):=by
 by_cases h:i<M.length
 · rw[if_pos h];simp[List.getD,wW h]
 · rw[if_neg h];simp[List.getD,vg (vK h)]
structure Bz(g f1 f2 a b a' b':Int):Prop where
 gp:0<g
 ea:a=g*a'
 eb:b=g*b'
 one:f1*a'+f2*b'=1
theorem Bz.of{g f1 f2 a b:Int}(gp:0<g)(ga:g∣a)(gb:g∣b)(h:f1*a+f2*b=g):Bz g f1 f2 a b (a / g) (b / g):=by
 obtain⟨a',rfl⟩:=ga;obtain⟨b',rfl⟩:=gb;rw[w0p _ (by rfl'),w0p _ (by rfl')];refine⟨gp,rfl,rfl,?_⟩;have:g*(f1*a'+f2*b')=g*1:=by grind
 exact w0d (by rfl') this
theorem z42{p q:Nat}{g f1 f2 a' b' lc:Int}{u l:Row}{qu ql:Nat->Int}(m:Ms n G (M++K0))(hlc:lc=a'*mp M q)(hpq:p≠q)(hp:p<M.length)(hq:q<M.length)(z:Bz g f1 f2 (mp M p) (mp M q) a' b')(hu:u.length=n)(hl:l.length=n)
   (eu:∀ k,at0 u k=(at0 (mw M p) k+at0 (mw M q) k)-g*qu k) (el:∀ k,at0 l k=((-(f2*b'))*at0 (mw M p) k+(f1*a')*at0 (mw M q) k)-lc*ql k) :
   Ms n G ((M.set p (u,g)).set q (l,lc)++K0):=by
 have len:((M.set p (u,g)).set q (l,lc)).length=M.length:=by simp
 have get:∀ i,((M.set p (u,g)).set q (l,lc)++K0).getD i ([],0)=if i=q then(l,lc) else if i=p then(u,g) else(M++K0).getD i ([],0):=λi=>by
   rw[Z5,len,IX hpq hp hq];by_cases h1:i=q
   · subst h1;rw[if_pos hq,if_pos rfl,if_pos rfl]
   · by_cases h2:i=p
     · subst h2;rw[if_pos hp,if_neg h1,if_neg h1,if_pos rfl,if_pos rfl]
     · rw[if_neg h1,if_neg h2,if_neg h1,if_neg h2,Z5]
 obtain⟨x1,x2⟩:=U5 (K0:=K0) hp;obtain⟨y1,y2⟩:=U5 (K0:=K0) hq;have dl:∀(x y:Row) (c d:Int) (w:Row) (s:Int) (t:Nat->Int) (v:Vec),(∀ k,at0 w k=(c*at0 x k+d*at0 y k)-s*t k)->s∣dt n w v-(c*dt n x v+d*dt n y v):=λx y c d w s t v h=>by
   refine⟨- sm n (λk=>t k*v k),?_⟩;unfold dt;rw[←L4,←L4,←Gp,←DY,o9 (g:=λk=>(-s)*(t k*v k)) λk _=>by rw[h k];grind,L4];grind
 have hg:=z.gp;refine m.link (p:=p) (q:=q) (g:=g) (f1:=f1) (f2:=f2) (a:=a') (b:=b') (by rw[wD];rfl') (by rw[wD];rfl') hpq (by rw[x1];exact z.ea) (by rw[y1];exact z.eb) (by rfl') z.one ?_ ?_ ?_ ?_ ?_ ?_ ?_
 · intro x hx;rcases wx.mp hx with hx|hx
   · rcases uc hx with hx|rfl
     · rcases uc hx with hx|rfl
       · exact m.rows x (wx.mpr (.inl hx))
       · exact hu
     · exact hl
   · exact m.rows x (wx.mpr (.inr hx))
 · rw[wD,wD,len]
 · intro i h1 h2;unfold mp mw;rw[get,if_neg h2,if_neg h1];exact⟨rfl,rfl⟩
 · unfold mp;rw[get,if_neg hpq,if_pos rfl]
 · have e:=z.eb;unfold mp;rw[get,if_pos rfl];show lc=_;rw[hlc,e]
 · intro v;rw[x2,y2];have h:=dl (mw M p) (mw M q) 1 1 u g qu v λk=>by rw[eu k];rfl'
   rw[show mw ((M.set p (u,g)).set q (l,lc)++K0) p=u by unfold mw;rw[get,if_neg hpq,if_pos rfl]];simpa using h
 · intro v;have e:=z.eb;rw[x2,y2,←e,←hlc];have h:=dl (mw M p) (mw M q) (-(f2*b')) (f1*a') l lc ql v el;rw[show mw ((M.set p (u,g)).set q (l,lc)++K0) q=l by unfold mw;rw[get,if_pos rfl]];exact h
structure Chn(w:Int)(t s:Nat)(M:Meas):Prop where
 pos:∀ i,i<M.length->0<mp M i
 whole:∀ i,i<M.length->mp M i∣w
 all:∀ i j,i<t->i<j->j<M.length->mp M i∣mp M j
 here:∀ j,t<j->j<s->j<M.length->mp M t∣mp M j
theorem Chn.link{w g f1 f2 a' b' lc:Int}{t s:Nat}{u l:Row}(c:Chn w t s M)(hts:t<s)(hs:s<M.length)(z:Bz g f1 f2 (mp M t) (mp M s) a' b')(hlc:lc=a'*mp M s):Chn w t (s+1) ((M.set t (u,g)).set s (l,lc)):=by
 have len:((M.set t (u,g)).set s (l,lc)).length=M.length:=by simp
 have get:∀ i,mp ((M.set t (u,g)).set s (l,lc)) i=if i=s then lc else if i=t then g else mp M i:=λi=>by
   unfold mp;rw[IX (by rfl') (by rfl') hs];split
   · rfl
   · split<;>rfl
 have hg:=z.gp;have pt:=c.pos t (by rfl');have ps:=c.pos s hs;have ap:0<a':=by
   have e:=z.ea;rcases w0i a' 0 with h|h|h
   · have:=Int.mul_neg_of_pos_of_neg hg h;rfl'
   · rw[h]at e;rfl'
   · exact h
 refine⟨λi hi=>?_,λi hi=>?_,λi j h1 h2 h3=>?_,λj h1 h2 h3=>?_⟩
 · rw[len]at hi;rw[get];split
   · rw[hlc];exact w1h ap ps
   · split
     · exact hg
     · exact c.pos i hi
 · rw[len]at hi;rw[get];split
   · have e:=z.eb;rw[hlc,e];exact z40 (by rfl') z.one (by rw[←z.ea];exact c.whole t (by rfl')) (by rw[←e];exact c.whole s hs)
   · split
     · exact vE ⟨a',z.ea⟩ (c.whole t (by rfl'))
     · exact c.whole i hi
 · rw[len]at h3;rw[get i,if_neg (by rfl'),if_neg (by rfl'),get j];split
   · rw[hlc];exact vE (c.all i s h1 (by rfl') hs) ⟨a',wO _ _⟩
   · split
     · have d1:=c.all i t h1 (by rfl') (by rfl');have d2:=c.all i s h1 (by rfl') hs;have e:g=f1*mp M t+f2*mp M s:=by
        rw[z.ea,z.eb];have:=z.one
        grind
       rw[e];exact uz (vE d1 ⟨f1,wO _ _⟩) (vE d2 ⟨f2,wO _ _⟩)
     · exact c.all i j h1 h2 h3
 · rw[len]at h3;rw[get t,if_neg (by rfl'),if_pos rfl,get j];split
   · rw[hlc,z.eb];exact⟨a'*b',by grind⟩
   · rw[if_neg (by rfl')];exact vE ⟨a',z.ea⟩ (c.here j h1 (by rfl') h3)
theorem Chn.next{w:Int}{t s:Nat}(c:Chn w t s M)(h:M.length<=s):Chn w (t+1) (t+2) M :=
 ⟨c.pos,c.whole,fun i j h1 h2 h3=>by
  by_cases e:i<t
  · exact c.all i j e h2 h3
  · have:i=t:=by rfl'
    subst this;exact c.here j h2 (by rfl') h3,λj h1 h2=>by rfl'⟩
theorem Chn.first{w:Int}(hp:∀ i,i<M.length->0<mp M i)(hw:∀ i,i<M.length->mp M i∣w):Chn w 0 1 M:=⟨hp,hw,λi j h=>by rfl',λj h1 h2=>by rfl'⟩
end St

end
section
namespace St
open Lat
theorem Sq.whole_col{r:Nat}{A:aA}{w:Int}(q:Sq r A)(h:Q6 r w (trn r A)){i:Nat}(hi:i<r):ent A i i∣w:=by
 obtain⟨c,hc⟩:=E9.mp (h i hi);rw[C8]at hc;have B:=q.below h;have z:=EK (m:=r) (a:=i+1) (c:=c) (D:=λl j=>ent (trn r A) l j) B.pos B.low λj h1 h2=>by rw[←hc j];simp only[pt];rw[if_neg (by rfl')]
 have e:=hc i;rw[L5 hi λk hk hn=>?_]at e
 · rw[J2 q.rows]at e;simp only[pt,if_true]at e;exact⟨c i,by rw[e];exact wO _ _⟩
 · rcases uq hn with x|x
   · rw[B.low k i x hi];simp
   · rw[z (r-k) k (by rfl') (by rfl') hk];simp
theorem Sq.entryC{r:Nat}{A:aA}(q:Sq r A){w:Int}(h:Q6 r w (trn r A))(hw:0<w)(i j:Nat):0<=ent A i j/\ent A i j<=w:=by
 by_cases hj:j<r
 · have d:=vR hw (q.whole_col h hj);rcases w0l i j with x|x|x
   · have:=q.red x hj;rfl'
   · subst x;have:=q.pos hj;rfl'
   · rw[q.low x];rfl'
 · rw[q.far (by rfl')];rfl'
theorem Good.sq{r N B:Nat}{w:Int}{P S:aA}(G:Good N B P S)(b:Below r N w P):S.length=r/\∀ x∈S,f8 x<r:=by
 refine⟨by rw[G.full b.ind,b.len],λx hx=>(b.full G.asc G.span x hx).1⟩
end St

end
section
set_option maxHeartbeats 1000000
namespace St
open Lat
theorem z09{n:Nat}{v:Vec}(h:∀ k,n<=k->v k=0):Span (vecs (units n)) v:=by
 have key:∀ m,m≤n→Span (vecs (units n)) (fun k=>if k<m then v k else 0):=by
   intro m
   induction m with
   | zero=>intro _;exact Span.congr (λk=>by simp) Span.zero
   | succ m ih =>
    intro hm;have hu:o7 n m∈units n:=wj.mpr ⟨m,wM.mpr (by rfl'),rfl⟩;refine Span.congr (λk=>?_) ((ih (by rfl')).add ((Y0 hu).smul (v m)));show(if k<m then v k else 0)+v m*at0 (o7 n m) k=if k<m+1 then v k else 0
    rw[w8];by_cases h1:k<m
    · rw[if_pos h1,if_neg (show ¬(k=m/\k<n) by rfl'),if_pos (show k<m+1 by rfl')];rfl'
    · by_cases h2:k=m
      · subst h2;rw[if_neg h1,if_pos (show k=k/\k<n from⟨rfl,by rfl'⟩),if_pos (show k<k+1 by rfl')];rfl'
      · rw[if_neg h1,if_neg (show ¬(k=m/\k<n) by rfl'),if_neg (show ¬k<m+1 by rfl')];rfl'
 refine Span.congr (λk=>?_) (key n (wB n));by_cases hk:k<n
 · simp only[if_pos hk]
 · simp only[if_neg hk];exact(h k (by rfl')).symm
theorem Yo(n:Nat):Asc n 0 (units n):=by
 have key:∀ m f,f+m=n->Asc n f ((w1j f m).map (o7 n)):=by
  intro m
  induction m with
  | zero=>intro f _;exact trivial
  | succ m ih =>
   intro f hf;rw[w0t,wo];have hh:f8 (o7 n f)=f:=K4 _ _ (λk hk=>by rw[w8,if_neg (by rfl')]) (by rw[w8,if_pos ⟨rfl,by rfl'⟩];decide);refine⟨K5 n f,by rw[hh];exact wB f,by rw[hh];rfl',?_,?_⟩
   · unfold hd;rw[hh,w8,if_pos ⟨rfl,by rfl'⟩];decide
   · rw[hh];exact ih (f+1) (by rfl')
 have:=key n 0 (by rfl');unfold units;rw[uA];exact this
theorem Qt(n:Nat):Form 0 (u5 (units n)):=by
 have key:∀ m f,f+m=n->Form f (u5 ((w1j f m).map (o7 n))):=by
  intro m
  induction m with
  | zero=>intro f _;exact trivial
  | succ m ih =>
   intro f hf;rw[w0t,wo];have hh:∀ j,j<n->f8 (o7 n j)=j:=λj hj=>K4 _ _ (λk hk=>by rw[w8,if_neg (by rfl')]) (by rw[w8,if_pos ⟨rfl,by rfl'⟩];decide);have h0:=hh f (by rfl');show Form f ((f8 (o7 n f),vec (o7 n f))::u5 _);rw[h0];refine⟨wB f,λk hk=>by show at0 (o7 n f) k=0;rw[w8,if_neg (by rfl')],by show 0<at0 (o7 n f) f;rw[w8,if_pos ⟨rfl,by rfl'⟩];decide,λp hp=>?_,ih (f+1) (by rfl')⟩;obtain⟨r,hr,rfl⟩:=wj.mp hp;obtain⟨j,hj,rfl⟩:=wj.mp hr;have hj:=List.mem_range'_1.mp hj;show 0<=at0 (o7 n f) (f8 (o7 n j))/\at0 (o7 n f) (f8 (o7 n j))<at0 (o7 n j) (f8 (o7 n j));rw[hh j (by rfl'),w8,w8,if_neg (by rfl'),if_pos ⟨rfl,by rfl'⟩];decide
 have:=key n 0 (by rfl');unfold units;rw[uA];exact this
theorem Yp{n:Nat}{P wr U:aA}(lP:P.length=n)(hP:∀ r∈P,r.length=n)(hw:∀ r∈wr,r.length=n)(A:Asc (n+n) 0 U)(F:Form 0 (u5 U))(ss:SameSpan (vecs U) (vecs (AF P wr)))(onto:∀ v:Vec,(∀ k,n<=k->v k=0)->Span (vecs (P++wr)) v):
   ((U.filter λr=>decide (f8 r<n)).map (·.drop n)).length=n/\∀ j,j<n->(((U.filter λr=>decide (f8 r<n)).map (·.drop n)).getD j []).length=n/\Span (vecs wr) (λk=>at0 (o7 n j) k-mix P (((U.filter λr=>decide (f8 r<n)).map (·.drop n)).getD j []) k):=by
 have vf:vecs (AF P wr)=vecs (N6 P++wr):=by
   unfold AF;show List.map vec _=List.map vec _;rw[vm,vm];congr 1;exact Lf _ _
 obtain⟨tA,tl⟩:=EI (n:=n) A (by rfl');have tF:=Gn (n:=n) A F (by rfl');have te:tops n U=units n:=by
   refine La tA tF (Yo n) (Qt n) ⟨λv hv=>?_,λv hv=>?_⟩
   · obtain⟨r,hr,rfl⟩:=wj.mp hv;exact z09 λk hk=>u7 (by rw[(tA.mem hr).1];exact hk)
   · obtain⟨r,hr,rfl⟩:=wj.mp hv;obtain⟨j,hj,rfl⟩:=wj.mp hr;have hj:=wM.mp hj;have uo:∀ k,n<=k->at0 (o7 n j) k=0:=λk hk=>u7 (by rw[K5];exact hk);obtain⟨x,y,sx,sy,e⟩:=(W4 _).mp (onto (vec (o7 n j)) uo);obtain⟨c,hc,ec⟩:=U0 sx;have u0:∀ k,at0 ((List.range n).map x++c) k=if k<n then x k else at0 c (k-n):=λk=>by
       rw[Bq (a:=(List.range n).map x) (n:=n) (by simp)];by_cases h:k<n
       · rw[if_pos h,if_pos h];unfold at0;simp[List.getD,h]
       · rw[if_neg h,if_neg h]
     have dr:((List.range n).map x++c).drop n=c:=by
       have:((List.range n).map x).length=n:=by simp
       rw[uF,this,w06,uT,vC (by rfl')];rfl
     have s1:Span (vecs (N6 P)) (λk=>at0 ((List.range n).map x++c) k):=(Cq hP (by rw[wD,wn,vv,hc])).mpr λk hk=>by
       rw[u0,if_pos hk,dr,ec k]
     have s2:Span (vecs (N6 P++wr)) (λk=>at0 ((List.range n).map x++c) k+y k):=(W4 _).mpr ⟨_,y,s1,sy,λ_=>rfl⟩;rw[←vf]at s2;refine Span.congr (λk=>?_) (Go (n:=n) A (ss.iff.mpr s2));show(if k<n then at0 ((List.range n).map x++c) k+y k else 0)=vec (o7 n j) k;by_cases h:k<n
     · rw[if_pos h,u0,if_pos h];exact(e k).symm
     · rw[if_neg h];exact(uo k (by rfl')).symm
 have fl:(U.filter λr=>decide (f8 r<n)).length=n:=by rw[←tl,te,D7]
 refine⟨by rw[wn,fl],λj hj=>?_⟩;have hj':j<(U.filter λr=>decide (f8 r<n)).length:=by rfl'
 have hm:=ve hj';have hU:=(wP.mp hm).1;have et:((U.filter λr=>decide (f8 r<n))[j]).take n=o7 n j:=by
   have q:(tops n U)[j]?=(units n)[j]?:=by rw[te]
   unfold tops units at q;rw[wv,wv,wa hj',vU hj]at q;exact Option.some.inj q
 have ed:(((U.filter λr=>decide (f8 r<n)).map (·.drop n)).getD j [])=((U.filter λr=>decide (f8 r<n))[j]).drop n:=by
   rw[List.getD,wv,wa hj'];rfl
 rw[ed];generalize (U.filter λr=>decide (f8 r<n))[j]=r at *;have lr:=(A.mem hU).1;have ld:(r.drop n).length=n:=by rw[wZ];rfl'
 refine⟨ld,?_⟩;have s1:=ss.iff.mp (Y0 hU);rw[vf]at s1;obtain⟨x,y,sx,sy,e⟩:=(W4 _).mp s1;have yo:=IV hw sy;have er:∀ k,at0 r k=if k<n then at0 (o7 n j) k else at0 (r.drop n) (k-n):=λk=>by
   by_cases h:k<n
   · rw[if_pos h,←et,G5,if_pos h]
   · rw[if_neg h,A5,show n+(k-n)=k by rfl']
 have u0:∀ k,at0 ((List.range n).map x++r.drop n) k=x k:=λk=>by
   rw[Bq (a:=(List.range n).map x) (n:=n) (by simp)];by_cases h:k<n
   · rw[if_pos h];unfold at0;simp[List.getD,h]
   · rw[if_neg h];have e:=e k;have e:at0 r k=x k+y k:=e;rw[er,if_neg h,yo k (by rfl')]at e;rfl'
 have dr:((List.range n).map x++r.drop n).drop n=r.drop n:=by
   have:((List.range n).map x).length=n:=by simp
   rw[uF,this,w06,uT,vC (by rfl')];rfl
 have q:=(Cq hP (by rw[wD,wn,vv,ld,lP])).mp (Span.congr (λk=>(u0 k).symm) sx);rw[dr]at q;refine Span.congr (λk=>?_) sy;by_cases h:k<n
 · have e:=e k;have e:at0 r k=x k+y k:=e;rw[er,if_pos h,←u0 k,q k h]at e;rfl'
 · rw[yo k (by rfl'),Bo hP k (by rfl'),u7 (r:=o7 n j) (by rw[K5];rfl')];rfl
end St
namespace St
open Lat
theorem MR(R:aA)(c:aH)(k:Nat)(h:c.length=R.length):mix R c k=sm R.length (λi=>at0 c i*at0 (R.getD i []) k):=Qs k h
theorem Qu{p:Int}:∀{m:Nat} {f:Nat->Int},(∀ i,i<m->p∣f i)->p∣sm m f
 | 0,f,_=>w0z _
 | m+1,f,h=>by
  rw[sm];exact uz (h 0 (by rfl')) (Qu λi hi=>h (i+1) (by rfl'))
def N5(n:Nat)(M:Meas):aA:=(List.range n).map λj=>(o7 n j).map (mp M j*·)
theorem IY(n:Nat)(c:Int)(j k:Nat):at0 ((o7 n j).map (c*·)) k=c*at0 (o7 n j) k:=by
 unfold at0;rw[List.getD,List.getD,wv];cases (o7 n j)[k]? with
 | none=>exact(uf _).symm
 | some x=>rfl
theorem EL(n:Nat)(M:Meas):∀ r∈N5 n M,r.length=n:=λr hr=>by
 obtain⟨j,_,rfl⟩:=wj.mp hr;rw[wn,K5]
theorem OI{n:Nat}{M:Meas}{y:Vec}(s:Span (vecs (N5 n M)) y):∀ k,k<n->mp M k∣y k:=by
 refine Span.least (P:=λy=>∀ k,k<n->mp M k∣y k) (λk _=>w0z _) (λv w a b k hk=>uz (a k hk) (b k hk)) (λc v a k hk=>vE (a k hk) (uG _ _)) (λg hg=>?_) s;obtain⟨r,hr,rfl⟩:=wj.mp hg;obtain⟨j,hj,rfl⟩:=wj.mp hr;intro k hk;show mp M k∣at0 ((o7 n j).map (mp M j*·)) k;rw[IY,w8];by_cases h:k=j
 · subst h;exact w0m _ _
 · rw[if_neg (by rfl'),uf];exact w0z _
theorem WG{n:Nat}{M:Meas}{y:Vec}(d:∀ k,k<n->mp M k∣y k)(h:∀ k,n<=k->y k=0):Span (vecs (N5 n M)) y:=by
 have key:∀ m,m≤n→Span (vecs (N5 n M)) (fun k=>if k<m then y k else 0):=by
   intro m
   induction m with
   | zero=>intro _;exact Span.congr (λk=>by simp) Span.zero
   | succ m ih =>
    intro hm;obtain⟨q,hq⟩:=d m (by rfl');have hu:(o7 n m).map (mp M m*·)∈N5 n M:=wj.mpr ⟨m,wM.mpr (by rfl'),rfl⟩;refine Span.congr (λk=>?_) ((ih (by rfl')).add ((Y0 hu).smul q));show(if k<m then y k else 0)+q*at0 ((o7 n m).map (mp M m*·)) k=if k<m+1 then y k else 0
    rw[IY,w8];by_cases h1:k<m
    · rw[if_pos h1,if_neg (show ¬(k=m/\k<n) by rfl'),if_pos (show k<m+1 by rfl')];simp
    · by_cases h2:k=m
      · subst h2;rw[if_neg h1,if_pos (show k=k/\k<n from⟨rfl,by rfl'⟩),if_pos (show k<k+1 by rfl'),hq,w0e,wO];rfl'
      · rw[if_neg h1,if_neg (show ¬(k=m/\k<n) by rfl'),if_neg (show ¬k<m+1 by rfl')];simp
 refine Span.congr (λk=>?_) (key n (wB n));by_cases hk:k<n
 · simp only[if_pos hk]
 · simp only[if_neg hk];exact(h k (by rfl')).symm
structure Plc(n:Nat)(M:Meas)(P:aA):Prop where
 len:P.length=n
 rows:∀ r∈P,r.length=n
 near:∀ i k,i<n->k<n->mp M k∣at0 (P.getD i []) k-at0 (mw M k) i
theorem Plc.mix{n:Nat}{M:Meas}{P:aA}(p:Plc n M P){t:aH}(ht:t.length=n){k:Nat}(hk:k<n):mp M k∣St.mix P t k-dt n (mw M k) (λi=>at0 t i):=by
 rw[MR P t k (by rw[ht,p.len]),p.len];unfold dt;rw[←DY];refine Qu λi hi=>?_;have e:at0 t i*at0 (P.getD i []) k-at0 (mw M k) i*at0 t i=at0 t i*(at0 (P.getD i []) k-at0 (mw M k) i):=by rw[uO,wO (at0 (mw M k) i)]
 show mp M k∣at0 t i*at0 (P.getD i []) k-at0 (mw M k) i*at0 t i;rw[e];exact vE (p.near i k hi hk) (uG _ _)
theorem Plc.onto{n:Nat}{G:aA}{M:Meas}{P:aA}(p:Plc n M P)(ms:Ms n G M)(lM:M.length=n):∀ v:Vec,(∀ k,n<=k->v k=0)->Span (vecs (P++N5 n M)) v:=λv hv=>by
 obtain⟨b,hb,d⟩:=ms.onto v;have lc:((List.range n).map b).length=n:=by simp
 have ac:∀ i,at0 ((List.range n).map b) i=b i:=λi=>by
   by_cases h:i<n
   · unfold at0;simp[List.getD,h]
   · rw[u7 (by rfl'),hb i (by rfl')]
 refine(W4 _).mpr ⟨St.mix P ((List.range n).map b),λk=>v k-St.mix P ((List.range n).map b) k,Qp _,WG (λk hk=>?_) (λk hk=>?_),λk=>by show v k=_+(v k-_);rfl'⟩
 · have a:=p.mix lc hk;have e:(λi=>at0 ((List.range n).map b) i)=b:=funext ac;rw[e]at a;have c:=d k (by rw[lM];exact hk);have:=Int.dvd_neg.mpr (uz a c)
   rwa [show -(St.mix P ((List.range n).map b) k-dt n (mw M k) b+(dt n (mw M k) b-v k))=v k-St.mix P ((List.range n).map b) k by rfl']at this
 · show v k-St.mix P ((List.range n).map b) k=0;rw[hv k hk,Bo p.rows k hk];rfl
theorem Qv{n:Nat}{G:aA}{M:Meas}{P U:aA}(p:Plc n M P)(ms:Ms n G M)(lM:M.length=n)(A:Asc (n+n) 0 U)(F:Form 0 (u5 U))(ss:SameSpan (vecs U) (vecs (AF P (N5 n M)))){T:aA}(hT:T=(U.filter λr=>decide (f8 r<n)).map (·.drop n)):
   T.length=n/\(∀ r∈T,r.length=n)/\∀ c:aH,c.length=n->∀ k,k<n->mp M k∣dt n (mw M k) (St.mix T c)-at0 c k:=by
 obtain⟨b1,b2⟩:=Yp p.len p.rows (EL n M) A F ss (p.onto ms lM);rw[←hT]at b1 b2;refine⟨b1,λr hr=>?_,λc hc k hk=>?_⟩
 · obtain⟨j,hj,rfl⟩:=wH hr;have:=(b2 j (by rfl')).1;rw[List.getD,wa hj]at this;exact this
 · have one:∀ j,j<n->mp M k∣at0 (o7 n j) k-dt n (mw M k) (λi=>at0 (T.getD j []) i):=λj hj=>by
    have a:=OI (b2 j hj).2 k hk;have b:=p.mix (b2 j hj).1 hk;have:=uz a b
    rwa [show at0 (o7 n j) k-St.mix P (T.getD j []) k+(St.mix P (T.getD j []) k-dt n (mw M k) (λi=>at0 (T.getD j []) i))=at0 (o7 n j) k-dt n (mw M k) (λi=>at0 (T.getD j []) i) by rfl']at this
   have e1:dt n (mw M k) (St.mix T c)=sm n (λj=>at0 c j*dt n (mw M k) (λi=>at0 (T.getD j []) i)):=by
    unfold dt;rw[o9 (g:=λi=>sm n (λj=>at0 c j*(at0 (mw M k) i*at0 (T.getD j []) i))) λi _=>by
     rw[MR T c i (by rw[hc,b1]),b1,←L4];exact o9 λj _=>vT _ _ _,EJ]
    exact o9 λj _=>by rw[L4]
   have e2:at0 c k=sm n (λj=>at0 c j*at0 (o7 n j) k):=by
    rw[L5 (i:=k) hk λj hj hne=>by rw[w8,if_neg (by rfl'),uf],w8,if_pos ⟨rfl,hk⟩,w0e]
   rw[e1,e2,←DY];refine Qu λj hj=>?_;show mp M k∣at0 c j*dt n (mw M k) (λi=>at0 (T.getD j []) i)-at0 c j*at0 (o7 n j) k;rw[←uO];have:=Int.dvd_neg.mpr (one j hj);rw[Int.neg_sub]at this;exact vE this (uG _ _)
end St

end
section
set_option maxHeartbeats 1000000
namespace St
open Lat
theorem Yq{n:Nat}{G:aA}{M:Meas}{P U:aA}(p:Plc n M P)(ms:Ms n G M)(lM:M.length=n)(aG:Asc n 0 G)(fG:Form 0 (u5 G))(A:Asc (n+n) 0 U)(F:Form 0 (u5 U))(ss:SameSpan (vecs U) (vecs (AF P (N5 n M)))):bots n U=G:=by
 have bA:Asc n 0 (bots n U):=IU A rfl;have key:∀ b:Row,b.length=n->(Span (vecs (bots n U)) (λk=>at0 b k)↔Span (vecs G) (λk=>at0 b k)):=λb hb=>by
   rw[Yk p.rows (EL n M) (by rw[hb,p.len]) (by rw[p.len];exact A) ss,ms.ker _ (λk hk=>u7 (by rfl'))];constructor
   · intro s i hi;have a:=OI s i (by rfl');have c:=p.mix hb (k:=i) (by rfl');have:=w1i a c
     rwa [show mix P b i-(mix P b i-dt n (mw M i) (λk=>at0 b k))=dt n (mw M i) (λk=>at0 b k) by rfl']at this
   · intro h;refine WG (λk hk=>?_) (λk hk=>Bo p.rows k hk);have a:=h k (by rfl');have c:=p.mix hb hk;have:=uz c a
     rwa [show mix P b k-dt n (mw M k) (λi=>at0 b i)+dt n (mw M k) (λi=>at0 b i)=mix P b k by rfl']at this
 refine La bA (Yi A F rfl) aG fG (Bn (λr hr=>?_) λr hr=>?_)
 · exact(key r (bA.mem hr).1).mp (Y0 hr)
 · exact(key r (aG.mem hr).1).mpr (Y0 hr)
theorem IZ:∀{S:List (Nat×Vec)} {f:Nat} {i j:Nat} {p q:Nat×Vec},Form f S->i<j->S[i]?=some p->S[j]?=some q->0<=p.2 q.1/\p.2 q.1<q.2 q.1
 | x::S,f,0,j+1,p,q,h,_,e1,e2=>by
  simp at e1 e2;subst e1;exact h.2.2.2.1 q (ud e2)
 | x::S,f,i+1,j+1,p,q,h,hij,e1,e2=>by
  simp at e1 e2;exact IZ h.2.2.2.2 (by rfl') e1 e2
 | [],_,_,_,_,_,_,_,e1,_=>by simp at e1
 | _::_,_,_,0,_,_,_,h,_,_=>by rfl'
theorem Yr{n:Nat}{U G:aA}(A:Asc (n+n) 0 U)(F:Form 0 (u5 U))(hb:bots n U=G){t:Row}(ht:t∈(U.filter λr=>decide (f8 r<n)).map (·.drop n)){g:Row}(hg:g∈G):0<=at0 t (f8 g)/\at0 t (f8 g)<hd g:=by
 obtain⟨r,hr,rfl⟩:=wj.mp ht;rw[←hb]at hg;unfold bots at hg;obtain⟨q,hq,rfl⟩:=wj.mp hg;have sp:=Bp (n:=n) A;obtain⟨i,hi,er⟩:=wH hr;obtain⟨j,hj,eq⟩:=wH hq;obtain⟨hqU,hqh⟩:=wP.mp hq;have hqh:n<=f8 q:=by simpa using hqh
 have lq:=A.mem hqU;have hh:f8 (q.drop n)=f8 q-n:=AD hqh (by rw[lq.1];exact lq.2.2.1);clear hr hq ht hg;generalize (U.filter λr=>decide (f8 r<n))=F1 at *;generalize (U.filter λr=>!decide (f8 r<n))=F2 at *;have e1:(u5 U)[i]?=some (f8 r,vec r):=by
  unfold u5;rw[wv,sp,wW hi,wa hi,er];rfl
 have e2:(u5 U)[F1.length+j]?=some (f8 q,vec q):=by
  unfold u5;rw[wv,sp];rw[vg (by rfl'),Nat.add_sub_cancel_left,wa hj,eq];rfl
 have:=IZ F (by rfl') e1 e2;have a1:at0 (r.drop n) (f8 (q.drop n))=at0 r (f8 q):=by rw[A5,hh];congr 1;rfl'
 have a2:hd (q.drop n)=at0 q (f8 q):=by unfold hd;rw[A5,hh];congr 1;rfl'
 rw[a1,a2];exact this
end St

end
section
local macro_rules|`(tactic|rfl')=>`(tactic|first|lia|omega +splitDisjunctions)
namespace L2
open PySem
theorem HS{a b:aH}(h:a.length=b.length)(k:Nat):St.at0 (addR a b) k=St.at0 a k+St.at0 b k:=by
 have e:addR a b=St.lin 1 a 1 b:=by unfold addR St.lin;congr 1;funext x y;rfl'
 rw[e,St.HQ h];rfl'
theorem Ja{a b:aH}(h:a.length=b.length)(k:Nat):St.at0 (subR a b) k=St.at0 a k-St.at0 b k:=by
 have e:subR a b=St.sub a 1 b:=by unfold subR St.sub;congr 1;funext x y;rfl'
 rw[e,St.M6 h];rfl'
theorem V4(q:Int)(a:aH)(k:Nat):St.at0 (sclR q a) k=q*St.at0 a k:=by
 simp only[St.at0,sclR,List.getD,wv];cases a[k]?<;>simp
theorem OJ(n:Nat):n8 n=St.Wx n:=by unfold n8 St.Wx;simp
theorem G6(n k:Nat):St.at0 (n8 n) k=0:=by rw[OJ];exact St.Yh n k
theorem OK{n:Nat}:∀(rows:aA) (cs:aH) (t:aH),t.length=n->(∀ r∈rows,r.length=n)->∀ k,St.at0 ((rows.zip cs).foldl (λt p=>addR t (sclR p.2 p.1)) t) k=St.at0 t k+St.mix rows cs k
 | [],cs,t,_,_,k=>by simp[St.mix]
 | r::rows,[],t,_,_,k=>by simp[St.mix]
 | r::rows,c::cs,t,ht,hw,k=>by
  have hr:=hw r wf;rw[ur,w0D,OK rows cs _ (by rw[X5 (by rw[A3,ht,hr])];exact ht) (λx hx=>hw x (wc _ hx)),HS (by rw[A3,ht,hr]),V4];show St.at0 t k+c*St.at0 r k+St.mix rows cs k=St.at0 t k+(c*St.at0 r k+St.mix rows cs k);rfl'
theorem Jb{n:Nat}{rows:aA}{cs:aH}(hw:∀ r∈rows,r.length=n)(k:Nat):St.at0 (mixR n rows cs) k=St.mix rows cs k:=by
 unfold mixR;rw[OK rows cs (n8 n) B3 hw,G6];rfl'
theorem z43(v:aH):sclR 1 v=v:=by unfold sclR;simp
theorem Cu{r:aH}{x:Int}(h:x∈r):∃ k,St.at0 r k=x:=by
 obtain⟨k,hk,e⟩:=w01.mp h;exact⟨k,by simp[St.at0,List.getD,wa hk,e]⟩
theorem Qw{r:aH}{B:Nat}(h:St.Lt B r):∀ x∈r,x.natAbs<B:=λx hx=>by
 obtain⟨k,rfl⟩:=Cu hx;exact h k
end L2
namespace L2
open PySem
theorem Jc{g:Tg}{F:FS}(P:Rho->Prop):∀(xs:List Dt) (ρ:Rho),P ρ->(∀ x∈xs,∀ ρ,P ρ->∃ ρ',(g.put x ρ).bind F=some (.nx ρ')/\P ρ')->∃ ρ',forF g F xs ρ=some (.nx ρ')/\P ρ'
 | [],ρ,p,_=>⟨ρ,rfl,p⟩
 | x::xs,ρ,p,h=>by
  obtain⟨ρ1,h1,p1⟩:=h x wf ρ p;obtain⟨ρ2,h2,p2⟩:=Jc P xs ρ1 p1 λy hy=>h y (wc _ hy);refine⟨ρ2,?_,p2⟩;rw[F9,h1];exact h2
theorem MS{n i:Nat}(h:i<n):ixN n (i:Int)=some i:=by
 unfold ixN;rw[if_pos (by rfl'),if_pos (by rfl')];simp
theorem Lk{i j:Int}(h:0<j):Ca i j=true:=by unfold Ca;rw[decide_eq_true (show j≠0 by rfl')]
end L2
namespace L2
open PySem
theorem Ll{α γ:Type}{g:Tg}{F:FS}(e:α->Dt)(bad:α->Prop)(R:γ->Rho)(f:Fl)(d:Dt):∀(xs:List α) (j:γ),(∀ x∈xs,∀ j,bad x->(g.put (e x) (R j)).bind F=some (.rt f d))->(∀ x∈xs,∀ j,¬bad x->∃ j',(g.put (e x) (R j)).bind F=some (.nx (R j'))) ->
  ((∃ x∈xs,bad x)->forF g F (xs.map e) (R j)=some (.rt f d))/\((∀ x∈xs,¬bad x)->∃ j',forF g F (xs.map e) (R j)=some (.nx (R j')))
 | [],j,_,_=>⟨λ⟨x,hx,_⟩=>(nomatch hx),λ_=>⟨j,rfl⟩⟩
 | x::xs,j,h1,h2=>by
  by_cases hb:bad x
  · have e1:=h1 x wf j hb;refine⟨λ_=>?_,λh=>absurd hb (h x wf)⟩;rw[wo,F9,e1];rfl
  · obtain⟨j1,e1⟩:=h2 x wf j hb;obtain⟨i1,i2⟩:=Ll e bad R f d xs j1 (λy hy=>h1 y (wc _ hy)) (λy hy=>h2 y (wc _ hy));rw[wo,F9,e1];refine⟨λ⟨y,hy,by_⟩=>?_,λh=>i2 λy hy=>h y (wc _ hy)⟩;rcases ww.mp hy with rfl|hy
    · exact absurd by_ hb
    · exact i1 ⟨y,hy,by_⟩
theorem us0{P:aF->Prop}(h:P []):∀ us:aF,us.length=0->P us:=λus hl=>(w0s.mp hl).symm ▸ h
theorem usS{P:aF->Prop}{n:Nat}(h:∀ a us,us.length=n->P (a::us)):∀ us:aF,us.length=n+1->P us:=λus hl=>by
 cases us with
 | nil=>cases hl
 | cons a us=>exact h a us (Nat.succ.inj hl)
theorem us1{P:aF->Prop}(h:∀ a,P [a]):∀ us:aF,us.length=1->P us:=usS λa=>us0 (h a)
theorem us2{P:aF->Prop}(h:∀ a b,P [a,b]):∀ us:aF,us.length=2->P us:=usS λa=>(usS λb=>us0 (h a b))
theorem us3{P:aF->Prop}(h:∀ a b c,P [a,b,c]):∀ us:aF,us.length=3->P us:=usS λa=>(usS λb=>(usS λc=>us0 (h a b c)))
theorem us4{P:aF->Prop}(h:∀ a b c d,P [a,b,c,d]):∀ us:aF,us.length=4->P us:=usS λa=>(usS λb=>(usS λc=>(usS λd=>us0 (h a b c d))))
end L2

end
section
set_option maxHeartbeats 1000000
namespace K21
open PySem L2
noncomputable section
def DZ:FS:=(sRet (vAnd (fIsi "int" (fN 0)) (vNot (fIsi "bool" (fN 0)))))
def R8:FC:=cOf 1 1 true DZ
def Jd:FS:=(sSeq (sIf (fOr (fNot (fTru (fIsi "list" (fN 0)))) (u9 (fOp opNe (fBlt bLen (f9 (fN 0) fNil)) (fN 1)))) (sRet (fC (.bl false))) A9)
 (sRet (fBlt bAll (f9 (j9 1 [] (iSeq (fN 0)) (Tg.one 0) fYes (i6 true R8 (f9 (fN 0) fNil))) fNil))))
def AG:FC:=cOf 2 2 true Jd
def Gr:FS:=(sRet (j9 1 [] (m9 (fN 0)) (Tg.one 0) fYes (fC (.int 0))))
def P2:FC:=cOf 1 1 true Gr
def Ea:FS:=(sRet (j9 1 [1] (m9 (fN 0)) (Tg.one 0) fYes (fIf (u9 (fOp opEq (fN 0) (fN 1))) (fC (.int 1)) (fC (.int 0)))))
def J3:FC:=cOf 2 2 true Ea
def MT:FS:=(sRet (j9 2 [] (iZip (fN 0) (fN 1)) (Tg.many [0,1]) fYes (fOp u6 (fN 0) (fN 1))))
def V5:FC:=cOf 2 2 true MT
def MU:FS:=(sRet (j9 2 [] (iZip (fN 0) (fN 1)) (Tg.many [0,1]) fYes (fOp DF (fN 0) (fN 1))))
def Bs:FC:=cOf 2 2 true MU
def Je:FS:=(sRet (j9 1 [1] (iSeq (fN 0)) (Tg.one 0) fYes (fOp D6 (fN 1) (fN 0))))
def C1:FC:=cOf 2 2 true Je
def Gs:FS:=(sRet (fBlt bSum (f9 (j9 2 [] (iZip (fN 0) (fN 1)) (Tg.many [0,1]) fYes (fOp D6 (fN 0) (fN 1))) fNil)))
def AH:FC:=cOf 2 2 true Gs
def MV:FS:=(sSeq (sSet [] 3 (i6 true P2 (f9 (fN 2) fNil)))
 (sSeq (sFor [] (iZip (fN 0) (fN 1)) (Tg.many [4,5])
 (sSet [] 3 (i6 true V5 (f9 (fN 3) (f9 (i6 true C1 (f9 (fN 4) (f9 (fN 5) fNil))) fNil)))))
 (sRet (fN 3))))
def HU:FC:=cOf 3 6 true MV
def Gu:FS:=(sSeq (sFor [] (X3 (fN 0)) (Tg.many [1,2])
 (sIf (u9 (fOp opNe (fN 2) (fC (.int 0)))) (sRet (fN 1)) A9))
 (sRet (fBlt bLen (f9 (fN 0) fNil))))
def o0:FC:=cOf 1 3 true Gu
def Cv:FS:=(sRet (vAnd (i6 true R8 (f9 (fN 0) fNil)) (Ir opLe opLe (fC (.int 1)) (fN 0) (fC (.int 6)))))
def Z6:FC:=cOf 1 1 true Cv
def Gv:FS:=(sRet (vAnd (i6 true AG (f9 (fN 0) (f9 (fN 1) fNil))) (fBlt bAll (f9 (j9 1 [] (iSeq (fN 0)) (Tg.one 0) fYes (fOp opLt (fBlt bAbs (f9 (fN 0) fNil)) (fOp KD (fC (.int 10)) (fC (.int 30))))) fNil))))
def Dm:FC:=cOf 2 2 true Gv
def Bt:FS:=(sIf (fNot (fTru (i6 true Z6 (f9 (fN 0) fNil)))) Cg A9)
def V6:FC:=cOf 1 1 true Bt
def Cw:FS:=(sIf (fNot (fTru (i6 true Dm (f9 (fN 0) (f9 (fN 1) fNil))))) Cg A9)
def P3:FC:=cOf 2 2 true Cw
def Gw:FS:=(sRet (fTup (f9 (fN 0) (f9 (fBlt bTup (f9 (j9 1 [] (iSeq (fN 1)) (Tg.one 0) fYes (fBlt bTup (f9 (fN 0) fNil))) fNil)) fNil))))
def Dn:FC:=cOf 2 2 true Gw
def Gx:FS:=(sSeq (Ay (i6 true V6 (f9 (fN 0) fNil)))
 (sSeq (sIf (fOr (fNot (fTru (fIsi "list" (fN 1)))) (u9 (fOp opGt (fBlt bLen (f9 (fN 1) fNil)) (fC (.int 8))))) Cg A9)
 (sSeq (sFor [] (iSeq (fN 1)) (Tg.one 2)
 (Ay (i6 true P3 (f9 (fN 2) (f9 (fN 0) fNil)))))
 (sRet (i6 true Dn (f9 (fN 0) (f9 (fN 1) fNil)))))))
def AI:FC:=cOf 2 3 true Gx
def R9:FS:=(sIf (fNot (fTru (i6 true AG (f9 (fN 1) (f9 (fN 0) fNil))))) Cg A9)
def M8:FC:=cOf 2 2 true R9
def Al:FS:=(Ay (i6 true M8 (f9 (fAt (fN 0) (fC (.int 0))) (f9 (fN 1) fNil))))
def F3:FC:=cOf 2 2 true Al
def Jf:FS:=(sRet (i6 true P2 (f9 (fAt (fN 0) (fC (.int 0))) fNil)))
def EM:FC:=cOf 1 1 true Jf
def MW:FS:=(sSeq (Ay (i6 true F3 (f9 (fN 0) (f9 (fN 1) fNil))))
 (sSeq (Ay (i6 true F3 (f9 (fN 0) (f9 (fN 2) fNil))))
 (sRet (i6 true Bs (f9 (fN 2) (f9 (fN 1) fNil))))))
def HV:FC:=cOf 3 3 true MW
def Jg:FS:=(sSeq (sSet [] 2 (fLst (f9 (fN 0) (f9 (fC (.int 1)) (f9 (fC (.int 0)) fNil)))))
 (sSeq (sSet [] 3 (fLst (f9 (fN 1) (f9 (fC (.int 0)) (f9 (fC (.int 1)) fNil)))))
 (sSeq (Ah (u9 (fOp opNe (fAt (fN 3) (fC (.int 0))) (fC (.int 0)))) (sSeq (sSet [] 4 (fOp Ap (fAt (fN 2) (fC (.int 0))) (fAt (fN 3) (fC (.int 0)))))
 (sSeq (sSet [] 5 (j9 1 [2,4,3] (m9 (fC (.int 3))) (Tg.one 0) fYes (fOp DF (fAt (fN 1) (fN 0)) (fOp D6 (fN 2) (fAt (fN 3) (fN 0))))))
 (sSeq (sSet [] 2 (fN 3))
 (sSet [] 3 (fN 5))))))
 (sSeq (sIf (u9 (fOp opLt (fAt (fN 2) (fC (.int 0))) (fC (.int 0)))) (sSet [] 2 (j9 1 [] (iSeq (fN 2)) (Tg.one 0) fYes (fNeg (fN 0)))) A9)
 (sRet (fBlt bTup (f9 (fN 2) fNil)))))))
def Cy:FC:=cOf 2 6 true Jg
def MX:FS:=(sSeq (sIf (u9 (fOp opEq (fN 1) (fC (.int 0)))) (sRet (fN 0)) A9)
 (sRet (fOp T5 (fN 0) (fN 1))))
def U6:FC:=cOf 2 2 true MX
def Gy:FS:=(sSeq (sSet [] 1 (fC (.int 1)))
 (sSeq (sFor [] (iSeq (fN 0)) (Tg.one 2)
 (sSet [] 1 (fOp D6 (fN 1) (fN 2))))
 (sRet (fN 1))))
def Dp:FC:=cOf 1 3 true Gy
def Eb:FS:=(sSeq (sSet [] 2 (fBlt bLst (f9 (fN 0) fNil)))
 (sSeq (sOwn 3 (fLst fNil))
 (sSeq (sFor [] (iSeq (fN 1)) (Tg.one 4)
 (sSeq (sSet [] 5 (i6 true o0 (f9 (fN 4) fNil)))
 (sSeq (sSet [] 6 (fOp Ap (fAt (fN 2) (fN 5)) (fAt (fN 4) (fN 5))))
 (sSeq (sIf (u9 (fOp opNe (fN 6) (fC (.int 0)))) (sSet [] 2 (i6 true Bs (f9 (fN 2) (f9 (i6 true C1 (f9 (fN 4) (f9 (fN 6) fNil))) fNil)))) A9)
 (sWr wApp 3 (fN 6))))))
 (sRet (fTup (f9 (fN 3) (f9 (fN 2) fNil)))))))
def Bu:FC:=cOf 2 7 true Eb
def Gz:FS:=(sRet (fAt (i6 true Bu (f9 (fN 0) (f9 (fN 1) fNil))) (fC (.int 1))))
def C9:FC:=cOf 2 2 true Gz
def GA:FS:=(sSeq (sSet [] 2 (i6 true o0 (f9 (fN 0) fNil)))
 (sSeq (sSet [] 3 (i6 true Cy (f9 (fAt (fN 0) (fN 2)) (f9 (fAt (fN 1) (fN 2)) fNil))))
 (sSeq (sSet [] 4 (i6 true V5 (f9 (i6 true C1 (f9 (fN 0) (f9 (fAt (fN 3) (fC (.int 1))) fNil))) (f9 (i6 true C1 (f9 (fN 1) (f9 (fAt (fN 3) (fC (.int 2))) fNil))) fNil))))
 (sSeq (sSet [] 5 (i6 true Bs (f9 (i6 true C1 (f9 (fN 1) (f9 (fOp Ap (fAt (fN 0) (fN 2)) (fAt (fN 3) (fC (.int 0)))) fNil))) (f9 (i6 true C1 (f9 (fN 0) (f9 (fOp Ap (fAt (fN 1) (fN 2)) (fAt (fN 3) (fC (.int 0)))) fNil))) fNil))))
 (sRet (fTup (f9 (fN 4) (f9 (fN 5) fNil))))))))
def W5:FC:=cOf 2 6 true GA
def Cz:FS:=(sRet (fIf (u9 (fOp opLt (fAt (fN 0) (i6 true o0 (f9 (fN 0) fNil))) (fC (.int 0)))) (i6 true C1 (f9 (fN 0) (f9 (fNeg (fC (.int 1))) fNil))) (fBlt bLst (f9 (fN 0) fNil))))
def F0:FC:=cOf 1 1 true Cz
def Y1:FS:=(sSeq (sOwn 2 (fBlt bLst (f9 (fN 0) fNil)))
 (sSeq (T6 3 (i6 true C9 (f9 (fN 1) (f9 (fN 2) fNil))))
 (sSeq (Ah (u9 (fOp opLt (i6 true o0 (f9 (fN 3) fNil)) (fBlt bLen (f9 (fN 3) fNil)))) (sSeq (T6 4 (j9 2 [3] (X3 (fN 2)) (Tg.many [0,1]) (u9 (fOp opEq (i6 true o0 (f9 (fN 1) fNil)) (i6 true o0 (f9 (fN 2) fNil)))) (fN 0)))
 (sSeq (sIf (u9 (fOp opEq (fBlt bLen (f9 (fN 4) fNil)) (fC (.int 0)))) (sRet (DU o0 (fOp u6 (fN 2) (fLst (f9 (i6 true F0 (f9 (fN 3) fNil)) fNil))))) A9)
 (sSeq (T6 5 (i6 true W5 (f9 (fAt (fN 2) (fAt (fN 4) (fC (.int 0)))) (f9 (fN 3) fNil))))
 (sSeq (sPut 2 (fAt (fN 4) (fC (.int 0))) (fAt (fN 5) (fC (.int 0))))
 (T6 3 (i6 true C9 (f9 (fAt (fN 5) (fC (.int 1))) (f9 (fN 2) fNil)))))))))
 (sRet (fN 2)))))
def S3:FC:=cOf 2 6 false Y1
def Jh:FS:=(sSeq (sOwn 1 (fLst fNil))
 (sSeq (sFor [] (iRev (fN 0)) (Tg.one 2)
 (sWrA ID 1 (i6 true C9 (f9 (fN 2) (f9 (fN 1) fNil)))))
 (sRet (fN 1))))
def CA:FC:=cOf 1 3 true Jh
def GB:FS:=(sSeq (sSet [] 1 (fLst fNil))
 (sSeq (sFor [] (iSeq (fN 0)) (Tg.one 2)
 (sSet [] 1 (i6 true CA (f9 (i6 false S3 (f9 (fN 1) (f9 (fN 2) fNil))) fNil))))
 (sRet (fN 1))))
def P4:FC:=cOf 1 3 true GB
def L6:FS:=(sRet (i6 true P4 (f9 (j9 2 [] (iZip (fN 0) (fN 1)) (Tg.many [0,1]) fYes (fOp u6 (fBlt bLst (f9 (fN 0) fNil)) (fBlt bLst (f9 (fN 1) fNil)))) fNil)))
def v4:FC:=cOf 2 2 true L6
def U7:FS:=(sRet (j9 1 [1] (iSeq (fN 0)) (Tg.one 0) (u9 (fOp opLt (i6 true o0 (f9 (fN 0) fNil)) (fN 1))) (fSl (fN 0) (J9 (fN 1)) A6)))
def O1:FC:=cOf 2 2 true U7
def S4:FS:=(sRet (j9 1 [1] (iSeq (fN 0)) (Tg.one 0) (u9 (fOp opGe (i6 true o0 (f9 (fN 0) fNil)) (fN 1))) (fSl (fN 0) (J9 (fN 1)) A6)))
def A4:FC:=cOf 2 2 true S4
def MY:FS:=(sRet (i6 true P4 (f9 (fAt (fN 0) (fC (.int 1))) fNil)))
def Dq:FC:=cOf 1 1 true MY
def Q8:FS:=(sSeq (sSet [] 1 (fBlt bLen (f9 (fAt (fN 0) (fC (.int 1))) fNil)))
 (sRet (i6 true v4 (f9 (fAt (fN 0) (fC (.int 1))) (f9 (j9 1 [1] (m9 (fN 1)) (Tg.one 0) fYes (i6 true J3 (f9 (fN 1) (f9 (fN 0) fNil)))) fNil)))))
def B7:FC:=cOf 1 2 true Q8
def Ji:FS:=(sRet (j9 1 [0] (m9 (fN 1)) (Tg.one 0) fYes (j9 1 [0] (iSeq (fN 1)) (Tg.one 0) fYes (fAt (fN 0) (fN 1)))))
def U2:FC:=cOf 2 2 true Ji
def Bv:FS:=(sSeq (sFor [] (X3 (fN 0)) (Tg.many [1,2])
 (sIf (fOr (u9 (fOp opNe (i6 true o0 (f9 (fN 2) fNil)) (fN 1))) (fTru (fBlt bAny (f9 (j9 1 [] (iSeq (fSl (fN 2) (J9 (fOp u6 (fN 1) (fC (.int 1)))) A6)) (Tg.one 0) fYes (fOp opNe (fN 0) (fC (.int 0)))) fNil)))) (sRet (fC (.bl false))) A9))
 (sRet (fC (.bl true))))
def O9:FC:=cOf 1 3 true Bv
def MZ:FS:=(sRet (j9 1 [1] (iSeq (fN 0)) (Tg.one 0) fYes (i6 true U6 (f9 (fN 0) (f9 (fN 1) fNil)))))
def T3:FC:=cOf 2 2 true MZ
def AJ:FS:=(sSeq (sSet [] 3 (fBlt bLen (f9 (fN 0) fNil)))
 (sSeq (sSet [] 4 (fN 0))
 (sSeq (sSet [] 5 (fN 1))
 (sSeq (Ah (fNot (fTru (i6 true O9 (f9 (fN 4) fNil)))) (sSeq (sSet [] 6 (i6 true U2 (f9 (i6 true P4 (f9 (i6 true U2 (f9 (fN 4) (f9 (fN 3) fNil))) fNil)) (f9 (fN 3) fNil))))
 (sSeq (sSet [] 7 (i6 true v4 (f9 (fN 6) (f9 (fN 5) fNil))))
 (sSeq (sSet [] 4 (j9 1 [3] (iSeq (fN 7)) (Tg.one 0) fYes (fSl (fN 0) A6 (J9 (fN 1)))))
 (sSet [] 5 (j9 1 [3,2] (iSeq (fN 7)) (Tg.one 0) fYes (i6 true T3 (f9 (fSl (fN 0) (J9 (fN 1)) A6) (f9 (fN 2) fNil)))))))))
 (sRet (j9 2 [4] (X3 (fN 5)) (Tg.many [0,1]) fYes (fTup (f9 (fN 1) (f9 (fAt (fAt (fN 2) (fN 0)) (fN 0)) fNil)))))))))
def Dr:FC:=cOf 3 8 false AJ
def CB:FS:=(sSeq (sSet [] 2 (i6 true Cy (f9 (fAt (fN 0) (fC (.int 1))) (f9 (fAt (fN 1) (fC (.int 1))) fNil))))
 (sSeq (sSet [] 3 (fAt (fN 2) (fC (.int 0))))
 (sSeq (sSet [] 4 (fOp D6 (fOp Ap (fAt (fN 0) (fC (.int 1))) (fN 3)) (fAt (fN 1) (fC (.int 1)))))
 (sSeq (sSet [] 5 (i6 true V5 (f9 (fAt (fN 0) (fC (.int 0))) (f9 (fAt (fN 1) (fC (.int 0))) fNil))))
 (sSeq (sSet [] 6 (i6 true V5 (f9 (i6 true C1 (f9 (fAt (fN 0) (fC (.int 0))) (f9 (fOp D6 (fNeg (fAt (fN 2) (fC (.int 2)))) (fOp Ap (fAt (fN 1) (fC (.int 1))) (fN 3))) fNil))) (f9 (i6 true C1 (f9 (fAt (fN 1) (fC (.int 0))) (f9 (fOp D6 (fAt (fN 2) (fC (.int 1))) (fOp Ap (fAt (fN 0) (fC (.int 1))) (fN 3))) fNil))) fNil))))
 (sRet (fTup (f9 (fTup (f9 (i6 true T3 (f9 (fN 5) (f9 (fN 3) fNil))) (f9 (fN 3) fNil))) (f9 (fTup (f9 (i6 true T3 (f9 (fN 6) (f9 (fN 4) fNil))) (f9 (fN 4) fNil))) fNil)))))))))
def Y2:FC:=cOf 2 7 true CB
def AK:FS:=(sSeq (sOwn 1 (fBlt bLst (f9 (fN 0) fNil)))
 (sSeq (Hk (m9 (fBlt bLen (f9 (fN 1) fNil))) (Tg.one 2)
 (Hk (HN (fOp u6 (fN 2) (fC (.int 1))) (fBlt bLen (f9 (fN 1) fNil))) (Tg.one 3)
 (sSeq (T6 4 (i6 true Y2 (f9 (fAt (fN 1) (fN 2)) (f9 (fAt (fN 1) (fN 3)) fNil))))
 (sSeq (sPut 1 (fN 2) (fAt (fN 4) (fC (.int 0))))
 (sPut 1 (fN 3) (fAt (fN 4) (fC (.int 1))))))))
 (sRet (j9 2 [] (iSeq (fN 1)) (Tg.many [0,1]) fYes (fTup (f9 (i6 true T3 (f9 (fN 0) (f9 (fN 1) fNil))) (f9 (fN 1) fNil)))))))
def W6:FC:=cOf 1 5 true AK
def Y3:FS:=(sSeq (sSet [] 1 (fAt (fN 0) (fC (.int 0))))
 (sSeq (sSet [] 2 (i6 true Dq (f9 (fN 0) fNil)))
 (sSeq (sSet [] 3 (fBlt bLen (f9 (fN 2) fNil)))
 (sSeq (sSet [] 4 (i6 true v4 (f9 (i6 true U2 (f9 (fN 2) (f9 (fN 1) fNil))) (f9 (j9 1 [1] (m9 (fN 1)) (Tg.one 0) fYes (i6 true J3 (f9 (fN 1) (f9 (fN 0) fNil)))) fNil))))
 (sSeq (sSet [] 5 (j9 1 [3] (iSeq (fSl (fN 4) A6 (J9 (fN 3)))) (Tg.one 0) fYes (fSl (fN 0) A6 (J9 (fN 1)))))
 (sSeq (sSet [] 6 (i6 true Dp (f9 (j9 2 [] (X3 (fN 5)) (Tg.many [0,1]) fYes (fAt (fN 1) (fN 0))) fNil)))
 (sSeq (sSet [] 7 (i6 false Dr (f9 (fN 5) (f9 (j9 1 [3] (iSeq (fSl (fN 4) A6 (J9 (fN 3)))) (Tg.one 0) fYes (fSl (fN 0) (J9 (fN 1)) A6)) (f9 (fN 6) fNil)))))
 (sRet (fOp u6 (i6 true W6 (f9 (fN 7) fNil)) (j9 1 [] (iSeq (i6 true A4 (f9 (fN 4) (f9 (fN 3) fNil)))) (Tg.one 0) fYes (fTup (f9 (fN 0) (f9 (fC (.int 0)) fNil)))))))))))))
def D3:FC:=cOf 1 8 false Y3
def Na:FS:=(sRet (j9 2 [] (iSeq (i6 false D3 (f9 (fN 0) fNil))) (Tg.many [0,1]) fYes (fN 1)))
def EN:FC:=cOf 1 1 true Na
def Ec:FS:=(sRet (j9 2 [1] (iSeq (fN 0)) (Tg.many [0,1]) fYes (i6 true U6 (f9 (i6 true AH (f9 (fN 2) (f9 (fN 0) fNil))) (f9 (fN 1) fNil)))))
def Y4:FC:=cOf 2 2 true Ec
def Q9:FS:=(sSeq (sIf (fNot (fTru (i6 true AG (f9 (fN 1) (f9 (fBlt bLen (f9 (fN 0) fNil)) fNil))))) Cg A9)
 (sFor [] (iZip (fN 1) (fN 0)) (Tg.many [2,3])
 (sIf (u9 (fOp opNe (i6 true U6 (f9 (fN 2) (f9 (fAt (fN 3) (fC (.int 1))) fNil))) (fN 2))) Cg A9)))
def M9:FC:=cOf 2 4 true Q9
def Bw:FS:=(sSeq (sSet [] 1 (fBlt bLen (f9 (fN 0) fNil)))
 (sSeq (sSet [] 2 (j9 1 [1] (m9 (fN 1)) (Tg.one 0) fYes (i6 true J3 (f9 (fN 1) (f9 (fN 0) fNil)))))
 (sSeq (sSet [] 3 (j9 1 [0] (iSeq (fN 2)) (Tg.one 0) fYes (i6 true Y4 (f9 (fN 1) (f9 (fN 0) fNil)))))
 (sSeq (sSet [] 4 (j9 1 [2,0] (m9 (fN 1)) (Tg.one 0) fYes (i6 true C1 (f9 (fAt (fN 1) (fN 0)) (f9 (fAt (fAt (fN 2) (fN 0)) (fC (.int 1))) fNil)))))
 (sSeq (sSet [] 5 (i6 true v4 (f9 (fOp u6 (fN 3) (fN 4)) (f9 (fOp u6 (fN 2) (j9 1 [1] (m9 (fN 1)) (Tg.one 0) fYes (i6 true P2 (f9 (fN 1) fNil)))) fNil))))
 (sRet (i6 true O1 (f9 (fN 5) (f9 (fN 1) fNil)))))))))
def V7:FC:=cOf 1 6 true Bw
def CC:FS:=(sSeq (sSet [] 2 (i6 false D3 (f9 (fN 0) fNil)))
 (sSeq (Ay (i6 true M9 (f9 (fN 2) (f9 (fN 1) fNil))))
 (sRet (i6 true HU (f9 (i6 true V7 (f9 (fN 2) fNil)) (f9 (fN 1) (f9 (fAt (fN 0) (fC (.int 0))) fNil)))))))
def Z7:FC:=cOf 2 3 true CC
def WH:FS:=(sSeq (Ay (i6 true F3 (f9 (fN 0) (f9 (fN 1) fNil))))
 (sSeq (sSet [] 2 (fOp u6 (fLst (f9 (fN 1) fNil)) (fBlt bLst (f9 (fAt (fN 0) (fC (.int 1))) fNil))))
 (sSeq (sSet [] 3 (i6 true A4 (f9 (i6 true v4 (f9 (fN 2) (f9 (fOp u6 (fLst (f9 (fLst (f9 (fC (.int 1)) fNil)) fNil)) (j9 1 [] (iSeq (fAt (fN 0) (fC (.int 1)))) (Tg.one 0) fYes (fLst (f9 (fC (.int 0)) fNil)))) fNil))) (f9 (fAt (fN 0) (fC (.int 0))) fNil))))
 (sRet (fIf (u9 (fOp opGt (fBlt bLen (f9 (fN 3) fNil)) (fC (.int 0)))) (fAt (fAt (fN 3) (fC (.int 0))) (fC (.int 0))) (fC .non))))))
def EO:FC:=cOf 2 4 true WH
def Jj:FS:=(sSeq (sSet [] 1 (fAt (i6 true EN (f9 (fN 0) fNil)) (fNeg (fC (.int 1)))))
 (sRet (fIf (u9 (fOp opNe (fN 1) (fC (.int 0)))) (fN 1) (fC .non))))
def EQ:FC:=cOf 1 2 true Jj
def GD:FS:=(sSeq (sSet [] 3 (i6 true C1 (f9 (i6 true HV (f9 (fN 0) (f9 (fN 1) (f9 (fN 2) fNil)))) (f9 (fNeg (fC (.int 1))) fNil))))
 (sSeq (sSet [] 4 (i6 true C9 (f9 (fOp u6 (fN 3) (i6 true P2 (f9 (fBlt bLen (f9 (fAt (fN 0) (fC (.int 1))) fNil)) fNil))) (f9 (i6 true B7 (f9 (fN 0) fNil)) fNil))))
 (sSeq (sIf (u9 (fOp opNe (fSl (fN 4) A6 (J9 (fAt (fN 0) (fC (.int 0))))) (i6 true EM (f9 (fN 0) fNil)))) (sRet (fC .non)) A9)
 (sRet (fSl (fN 4) (J9 (fAt (fN 0) (fC (.int 0)))) A6)))))
def Ds:FC:=cOf 3 5 true GD
def Nb:FS:=(sRet (i6 true Ds (f9 (fN 0) (f9 (fN 1) (f9 (fN 2) fNil)))))
def U8:FC:=cOf 3 3 true Nb
def CD:FS:=(sSeq (sIf (u9 (fOp opLt (fN 1) (fBlt bLen (f9 (fN 0) fNil)))) (sRet (fAt (fN 0) (fN 1))) A9)
 (sSeq (sIf (u9 (fOp opEq (fN 0) (fLst fNil))) (sRet (fC (.int 0))) A9)
 (sRet (fOp u6 (fOp D6 (fAt (fN 0) (fOp T5 (fN 1) (fBlt bLen (f9 (fN 0) fNil)))) (fC (.int 31))) (fN 1)))))
def B9:FC:=cOf 2 2 true CD
def GE:FS:=(sRet (vAnd (fIsi "int" (fN 0)) (vNot (fIsi "bool" (fN 0)))))
def P5:FC:=cOf 1 1 true GE
def Ed:FS:=(sSeq (sIf (fOr (fNot (fTru (fIsi "list" (fN 0)))) (u9 (fOp opNe (fBlt bLen (f9 (fN 0) fNil)) (fN 1)))) (sRet (fC (.bl false))) A9)
 (sSeq (sFor [] (iSeq (fN 0)) (Tg.one 2)
 (sIf (fNot (fTru (i6 true P5 (f9 (fN 2) fNil)))) (sRet (fC (.bl false))) A9))
 (sRet (fC (.bl true)))))
def Bx:FC:=cOf 2 3 true Ed
def Y5:FS:=(sSeq (sIf (u9 (fOp opEq (fN 1) (fC (.int 2)))) (sSeq (sSet [] 2 (fOp T5 (fN 0) (fOp KD (fC (.int 10)) (fC (.int 30)))))
 (sSeq (sIf (u9 (fOp opEq (fOp T5 (fOp Ap (fN 0) (fOp KD (fC (.int 10)) (fC (.int 30)))) (fC (.int 2))) (fC (.int 1)))) (sRet (fNeg (fN 2))) A9)
 (sRet (fN 2)))) A9)
 (sSeq (sSet [] 3 (fAt (fLst (f9 (fC (.int 9)) (f9 (fC (.int 61)) fNil))) (fN 1)))
 (sSeq (sSet [] 2 (fOp T5 (fN 0) (fN 3)))
 (sSeq (sIf (u9 (fOp opGt (fN 2) (fOp Ap (fN 3) (fC (.int 2))))) (sRet (fOp DF (fN 2) (fN 3))) A9)
 (sRet (fN 2))))))
def S5:FC:=cOf 2 4 true Y5
def Nc:FS:=(sRet (j9 1 [0,1,3] (m9 (fN 2)) (Tg.one 0) fYes (i6 true S5 (f9 (i6 true B9 (f9 (fN 1) (f9 (fOp u6 (fN 2) (fN 0)) fNil))) (f9 (fN 3) fNil)))))
def V8:FC:=cOf 4 4 true Nc
def Lm:FS:=(sSeq (sSet [] 1 (fAt (fLst (f9 (fC (.int 0)) (f9 (fC (.int 0)) (f9 (fC (.int 0)) (f9 (fC (.int 1)) (f9 (fC (.int 2)) fNil)))))) (fOp T5 (i6 true B9 (f9 (fN 0) (f9 (fC (.int 2)) fNil))) (fC (.int 5)))))
 (sSeq (sSet [] 2 (fOp u6 (fC (.int 1)) (fOp T5 (i6 true B9 (f9 (fN 0) (f9 (fC (.int 0)) fNil))) (fC (.int 4)))))
 (sSeq (sSet [] 3 (fOp T5 (i6 true B9 (f9 (fN 0) (f9 (fC (.int 1)) fNil))) (fC (.int 5))))
 (sSeq (sIf (u9 (fOp opEq (fOp T5 (i6 true B9 (f9 (fN 0) (f9 (fC (.int 3)) fNil))) (fC (.int 7))) (fC (.int 6)))) (sSeq (sSet [] 2 (fC (.int 6)))
 (sSeq (sSet [] 3 (fC (.int 8)))
 (sSet [] 1 (fC (.int 0))))) A9)
 (sSeq (sIf (u9 (fOp opEq (fN 1) (fC (.int 2)))) (sSeq (sSet [] 2 (fOp u6 (fC (.int 1)) (fOp T5 (fN 2) (fC (.int 2)))))
 (sSet [] 3 (fOp T5 (fN 3) (fC (.int 4))))) A9)
 (sRet (fTup (f9 (fN 2) (f9 (j9 1 [0,2,1] (m9 (fN 3)) (Tg.one 0) fYes (i6 true V8 (f9 (fN 1) (f9 (fOp u6 (fC (.int 8)) (fOp D6 (fN 2) (fN 0))) (f9 (fN 2) (f9 (fN 3) fNil)))))) fNil)))))))))
def GH:FC:=cOf 1 4 true Lm
def Nd:FS:=(sSeq (sSet [] 3 (j9 1 [] (m9 (fN 0)) (Tg.one 0) fYes (fC (.int 0))))
 (sSeq (sFor [] (m9 (fBlt bLen (f9 (fN 1) fNil))) (Tg.one 4)
 (sSet [] 3 (j9 1 [3,2,4,1] (m9 (fN 0)) (Tg.one 0) fYes (fOp u6 (fAt (fN 1) (fN 0)) (fOp D6 (fAt (fN 2) (fN 3)) (fAt (fAt (fN 4) (fN 3)) (fN 0)))))))
 (sRet (fN 3))))
def HW:FC:=cOf 3 5 true Nd
def Jk:FS:=(sRet (j9 1 [0,2,1] (m9 (fBlt bLen (f9 (fN 0) fNil))) (Tg.one 0) fYes (fOp u6 (fAt (fN 1) (fN 0)) (fOp D6 (fN 2) (fAt (fN 3) (fN 0))))))
def ER:FC:=cOf 3 3 true Jk
def GI:FS:=(sSeq (sIf (fNot (fTru (i6 true Bx (f9 (fN 3) (f9 (fBlt bLen (f9 (fN 0) fNil)) fNil))))) (sRet (fC (.bl false))) A9)
 (sRet (fOp opEq (i6 true ER (f9 (fN 1) (f9 (i6 true HW (f9 (fBlt bLen (f9 (fN 1) fNil)) (f9 (fN 0) (f9 (fN 3) fNil)))) (f9 (fC (.int 1)) fNil)))) (fN 2))))
def K6:FC:=cOf 4 4 true GI
def z0a:FS:=(sSeq (sSet [] 1 (i6 true GH (f9 (fN 0) fNil)))
 (sSeq (sSet [] 2 (fAt (fN 1) (fC (.int 0))))
 (sSeq (sSet [] 3 (fAt (fN 1) (fC (.int 1))))
 (sSeq (sSet [] 4 (i6 true AI (f9 (fN 2) (f9 (j9 1 [] (iSeq (fN 3)) (Tg.one 0) fYes (fBlt bLst (f9 (fN 0) fNil))) fNil))))
 (sSeq (sSet [] 5 (i6 true EQ (f9 (fN 4) fNil)))
 (sSeq (sSet [] 6 (i6 true EN (f9 (fN 4) fNil)))
 (sSeq (sIf (u9 (fOp opIn (fC (.int 0)) (fN 6))) (sRet (fOp Hf (fN 5) (fC .non))) A9)
 (sSeq (sIf (fOr (fNot (fTru (i6 true P5 (f9 (fN 5) fNil)))) (u9 (fOp opLt (fN 5) (fC (.int 1))))) (sRet (fC (.bl false))) A9)
 (sSeq (sSet [] 7 (j9 1 [] (m9 (fN 2)) (Tg.one 0) fYes (fC (.int 0))))
 (sSeq (sOwn 8 (j9 1 [2,5] (m9 (fN 2)) (Tg.one 0) fYes (j9 1 [2,0] (m9 (fN 1)) (Tg.one 0) fYes (fOp D6 (fN 1) (fBlt bInt (f9 (fOp opEq (fN 0) (fN 2)) fNil))))))
 (sSeq (sWr wApp 8 (j9 1 [5] (iSeq (i6 true V8 (f9 (fN 0) (f9 (fC (.int 40)) (f9 (fN 2) (f9 (fOp T5 (i6 true B9 (f9 (fN 0) (f9 (fC (.int 5)) fNil))) (fC (.int 2))) fNil)))))) (Tg.one 0) fYes (fOp D6 (fN 1) (fN 0))))
 (sSeq (sFor [8] (iSeq (fN 8)) (Tg.one 9)
 (sSeq (sSet [] 10 (i6 true U8 (f9 (fN 4) (f9 (fBlt bLst (f9 (fN 7) fNil)) (f9 (fBlt bLst (f9 (fN 9) fNil)) fNil)))))
 (sIf (fOr (u9 (fOp Hf (fN 10) (fC .non))) (fNot (fTru (i6 true K6 (f9 (fN 3) (f9 (fN 7) (f9 (fN 9) (f9 (fN 10) fNil)))))))) (sRet (fC (.bl false))) A9)))
 (sSeq (sOwn 11 (j9 1 [] (m9 (fN 2)) (Tg.one 0) fYes (fC (.int 0))))
 (sSeq (sPut 11 (fOp DF (fN 2) (fC (.int 1))) (fBlt bInt (f9 (fOp opGt (fAt (fN 6) (fOp DF (fN 2) (fC (.int 1)))) (fC (.int 1))) fNil)))
 (sRet (fOp opEq (i6 true EO (f9 (fN 4) (f9 (i6 true Z7 (f9 (fN 4) (f9 (fN 11) fNil))) fNil))) (fN 5)))))))))))))))))
def WI:FC:=cOf 1 12 true z0a
theorem N0(ns:aH)(k:Int)(h0:0<=k):B9 [.scr ns,.int k]=some (.int (v8 ns k)):=by
 unfold B9 CD v8;by_cases h:k<ns.length
 · have e:atI ns k=some (ns.getD k.toNat 0):=by
     rw[Wq h0,wa (by rfl')];simp[List.getD,wa (show k.toNat<ns.length by rfl')]
   simp[cOf,h,e]
 · by_cases h2:ns=[]
   · subst h2;simp[cOf,h,Oj [] [],show ¬k<0 by rfl'];rfl
   · have hp:0<ns.length:=List.length_pos_iff.mpr h2;obtain⟨f1,f2⟩:=C4 k (show(0:Int)<ns.length by rfl');have e:atI ns (k.fmod ns.length)=some (ns.getD (k.fmod ns.length).toNat 0):=by
      rw[Wq f1,wa (by rfl')];simp[List.getD,wa (show(k.fmod ns.length).toNat<ns.length by rfl')]
     have e2:opEq (.scr ns) (.lst [])=some (.nw,.bl false):=by have:=Oj ns [];rw[decide_eq_false h2]at this;exact this
     simp[cOf,h,h2,e,e2,Hm,Ca,show ¬((ns.length:Int)=0) by rfl']
theorem OL(c m:Int)(h0:0<=m)(h3:m<3):S5 [.int c,.int m]=some (.int (Ch c m)):=by
 unfold S5 Ch;have hm:m=0\/m=1\/m=2:=by rfl'
 have d30:P8 c 1000000000000000000000000000000=true:=by unfold P8;decide
 have d9:P8 9 2=true:=by unfold P8;decide
 have d61:P8 61 2=true:=by unfold P8;decide
 have p30:Iq 10 30=true:=by unfold Iq;decide
 have two:∀(m w v:Int),m≠2->atI [Dt.int 9,Dt.int 61] m=some (.int w)->0<w->P8 w 2=true->w.fdiv 2=v->cOf 2 4 true Y5 [.int c,.int m]=some (.int (if v<c.fmod w then c.fmod w-w else c.fmod w)):=λm w v hm2 ha hw hd hv=>by
   refine T2 (f := .nw) rfl (run (ρ':=[.sh false (.int c),.sh false (.int m),.no,.no]) (by simp[cOf,C7,hm2]) (run (ρ':=[.sh false (.int c),.sh false (.int m),.no,.sh true (.int w)]) (by simp[cOf,ha]) (run (ρ':=[.sh false (.int c),.sh false (.int m),.sh true (.int (c.fmod w)),.sh true (.int w)]) (by simp[cOf,Ca,show ¬w=0 by rfl']) ?_))) rfl;by_cases h:v<c.fmod w
   · simp[cOf,hd,hv,h]
   · simp[cOf,hd,hv,h]
 rcases hm with rfl|rfl|rfl
 · exact(two 0 9 4 (by decide) rfl (by decide) d9 rfl).trans (by simp)
 · exact(two 1 61 30 (by decide) rfl (by decide) d61 rfl).trans (by simp)
 · by_cases h:(c.fdiv 1000000000000000000000000000000).fmod 2=1
   · simp[cOf,Y5,C7,Ca,p30,d30,h]
   · simp[cOf,Y5,C7,Ca,p30,d30,h]
theorem OM(ns:aH)(a:Int)(n:Nat)(m:Int)(ha:0<=a)(hn:n<=1000)(h0:0<=m)(h3:m<3):V8 [.scr ns,.int a,.int n,.int m]=some (L (Z3 ns a n m)):=by
 unfold V8 Nc;have q:j9 1 [0,1,3] (m9 (fN 2)) (Tg.one 0) fYes (i6 true S5 (f9 (i6 true B9 (f9 (fN 1) (f9 (fOp u6 (fN 2) (fN 0)) fNil))) (f9 (fN 3) fNil))) (rho0 4 [.scr ns,.int a,.int n,.int m])=some (.nw,L (Z3 ns a n m)):=by
  have:=m6 (nt:=1) (js:=[0,1,3]) (Fi:=m9 (fN 2)) (g:=Tg.one 0) (Fe:=i6 true S5 (f9 (i6 true B9 (f9 (fN 1) (f9 (fOp u6 (fN 2) (fN 0)) fNil))) (f9 (fN 3) fNil))) (ρ:=rho0 4 [.scr ns,.int a,.int n,.int m]) (e:=λ(k:Nat) => .int (0+(k:Int))) (h:=λ(k:Nat) => .int (Ch (v8 ns (a+(k:Int))) m)) (xs:=List.range n)
   (by simp[cOf,m9,intD,V1,v7,show(n:Int)<=1000000 by rfl',show -1000000<=(n:Int) by rfl'])
   (λk hk=>by simp[cOf,Tg.put,sigD,Cf,N0 ns (a+(k:Int)) (by rfl'),OL _ m h0 h3])
  rw[this];simp[L,Z3]
 exact T2 rfl (f := .nw) (by unfold sRet;rw[q];rfl) rfl
theorem Nf(ns:aH)(m:Int)(k n:Nat)(f1 f2 f3:Bool)(h0:0<=m)(h3:m<3)(hk:k<=100)(hn:n<=100):
    (j9 1 [0,2,1] (m9 (fN 3)) (Tg.one 0) fYes (i6 true V8 (f9 (fN 1) (f9 (fOp u6 (fC (.int 8)) (fOp D6 (fN 2) (fN 0))) (f9 (fN 2) (f9 (fN 3) fNil)))))) [.sh false (.scr ns),.sh f1 (.int m),.sh f2 (.int k),.sh f3 (.int n)] =
      some (.nw,LL ((List.range n).map λ(j:Nat)=>Z3 ns (8+(k:Int)*(j:Int)) k m)):=by
  have:=m6 (nt:=1) (js:=[0,2,1]) (Fi:=m9 (fN 3)) (g:=Tg.one 0) (Fe:=i6 true V8 (f9 (fN 1) (f9 (fOp u6 (fC (.int 8)) (fOp D6 (fN 2) (fN 0))) (f9 (fN 2) (f9 (fN 3) fNil))))) (ρ:=[.sh false (.scr ns),.sh f1 (.int m),.sh f2 (.int k),.sh f3 (.int n)]) (e:=λ(j:Nat) => .int (0+(j:Int))) (h:=λ(j:Nat)=>L (Z3 ns (8+(k:Int)*(j:Int)) k m)) (xs:=List.range n)
    (by simp[cOf,m9,intD,V1,v7,show(n:Int)<=1000000 by rfl',show -1000000<=(n:Int) by rfl'])
    (λj hj=>by
      have hj:=wM.mp hj
      have hm:D9 (k:Int) (j:Int)=true:=Hm (by                       have:(j:Int).natAbs=j:=by omega
                                                                    rfl')
      have hp:(0:Int)<=8+(k:Int)*(j:Int):=by have:=w0I (show(0:Int)<=k by rfl') (show(0:Int)<=j by rfl');rfl'
      have e:=OM ns (8+(k:Int)*(j:Int)) k m hp (by rfl') h0 h3;simp[cOf,Tg.put,sigD,Cf,hm,e])
  rw[this];simp[LL]
theorem Qx(ns:aH):GH [.scr ns]=some (.tup [.int (E2 ns),LL (M5 ns)]):=by
 have c0:=N0 ns 0 (by decide);have c1:=N0 ns 1 (by decide);have c2:=N0 ns 2 (by decide);have c3:=N0 ns 3 (by decide);have r0:=C4 (v8 ns 0) (show(0:Int)<4 by decide);have r1:=C4 (v8 ns 1) (show(0:Int)<5 by decide);have r2:=C4 (v8 ns 2) (show(0:Int)<5 by decide);have kl:=DW ns;have ml:=KP ns;have mc:=Bk ns;have tl:=λf1 f2 f3=>Nf ns (D5 ns) (E2 ns) (Ai ns) f1 f2 f3 (by rfl') (by rfl') (by rfl') (by rfl');have fin:∀(m k n:Int) (f1 f2 f3:Bool),m=D5 ns->k=E2 ns->n=Ai ns->sRet (fTup (f9 (fN 2) (f9 (j9 1 [0,2,1] (m9 (fN 3)) (Tg.one 0) fYes (i6 true V8 (f9 (fN 1) (f9 (fOp u6 (fC (.int 8)) (fOp D6 (fN 2) (fN 0))) (f9 (fN 2) (f9 (fN 3) fNil)))))) fNil))) [.sh false (.scr ns),.sh f1 (.int m),.sh f2 (.int k),.sh f3 (.int n)]=some (.rt .nw (.tup [.int (E2 ns),LL (M5 ns)])):=by
   rintro m k n f1 f2 f3 rfl rfl rfl;simp[sRet,fTup,f9,fNil,fN,KC,Cell.val,z3V,v6,tl f1 f2 f3,Au,Fl.isNw,sndL,M5]
 have lk:∃ m0:Int,atI [Dt.int 0,Dt.int 0,Dt.int 0,Dt.int 1,Dt.int 2] ((v8 ns 2).fmod 5)=some (.int m0)/\(¬(v8 ns 3).fmod 7=6->m0=D5 ns)/\(m0=2↔(v8 ns 2).fmod 5=4):=by
   have hr2:(v8 ns 2).fmod 5=0\/(v8 ns 2).fmod 5=1\/(v8 ns 2).fmod 5=2\/(v8 ns 2).fmod 5=3\/(v8 ns 2).fmod 5=4:=by omega +splitDisjunctions
   rcases hr2 with h2|h2|h2|h2|h2<;>rw[h2]
   · exact⟨0,rfl,λh=>by simp[D5,h,h2],by decide⟩
   · exact⟨0,rfl,λh=>by simp[D5,h,h2],by decide⟩
   · exact⟨0,rfl,λh=>by simp[D5,h,h2],by decide⟩
   · exact⟨1,rfl,λh=>by simp[D5,h,h2],by decide⟩
   · exact⟨2,rfl,λh=>by simp[D5,h,h2],by decide⟩
 obtain⟨m0,lk,lm,l2⟩:=lk;have mo:∀(c:Int) (k:Nat),Ca c ((k+1:Nat):Int)=true:=λc k=>by unfold Ca;exact decide_eq_true (by rfl')
 have mo2:=λc=>mo c 1;have mo4:=λc=>mo c 3;have mo5:=λc=>mo c 4;have mo7:=λc=>mo c 6;simp only[Nat.reduceAdd,Int.cast_ofNat_Int]at mo2 mo4 mo5 mo7;have t3:∀(m k n:Int),m=D5 ns->k=E2 ns->n=Ai ns->m≠2->_:=λm k n a b c d=>run (F:=sIf (u9 (fOp opEq (fN 1) (fC (.int 2)))) (sSeq (sSet [] 2 (fOp u6 (fC (.int 1)) (fOp T5 (fN 2) (fC (.int 2))))) (sSet [] 3 (fOp T5 (fN 3) (fC (.int 4))))) A9) (ρ:=[.sh false (.scr ns),.sh true (.int m),.sh true (.int k),.sh true (.int n)]) (ρ':=[.sh false (.scr ns),.sh true (.int m),.sh true (.int k),.sh true (.int n)]) (by simp[cOf,C7,d]) (fin m k n true true true a b c);refine T2 (f := .nw) rfl (run (ρ':=[.sh false (.scr ns),.sh true (.int m0),.no,.no]) (by simp[cOf,c2,lk,mo5]) (run (ρ':=[.sh false (.scr ns),.sh true (.int m0),.sh true (.int (1+(v8 ns 0).fmod 4)),.no]) (by simp[cOf,c0,mo4]) (run (ρ':=[.sh false (.scr ns),.sh true (.int m0),.sh true (.int (1+(v8 ns 0).fmod 4)),.sh true (.int ((v8 ns 1).fmod 5))]) (by simp[cOf,c1,mo5]) ?_))) rfl;by_cases h3:(v8 ns 3).fmod 7=6
 · exact run (ρ':=[.sh false (.scr ns),.sh true (.int 0),.sh true (.int 6),.sh true (.int 8)]) (by simp[cOf,c3,h3,C7,mo7]) (t3 0 6 8 (by simp[D5,h3]) (by simp[E2,D5,Ci,h3]) (by simp[Ai,D5,IJ,h3]) (by decide))
 · have lm:=lm h3;refine run (by simp[cOf,c3,h3,C7,mo7];rfl) ?_;by_cases h2:m0=2
   · have h4:=l2.mp h2;refine run (ρ':=[.sh false (.scr ns),.sh true (.int m0),.sh true (.int (1+(1+(v8 ns 0).fmod 4).fmod 2)),.sh true (.int (((v8 ns 1).fmod 5).fmod 4))]) (by simp[cOf,h2,C7,mo2,mo4]) (fin m0 _ _ true true true lm ?_ ?_)
     · have:=C4 (1+(v8 ns 0).fmod 4) (show(0:Int)<2 by decide);simp[E2,D5,Ci,h3,h4];omega +splitDisjunctions
     · have:=C4 ((v8 ns 1).fmod 5) (show(0:Int)<4 by decide);simp[Ai,D5,IJ,h3,h4];omega +splitDisjunctions
   · have h4:¬(v8 ns 2).fmod 5=4:=λh=>h2 (l2.mpr h);exact t3 m0 _ _ lm (by simp[E2,D5,Ci,h3,h4];omega +splitDisjunctions) (by simp[Ai,D5,IJ,h3,h4];omega +splitDisjunctions) h2
theorem Ho(d:Dt):R8 [d]=some (.bl (isWh d)):=by
 unfold R8 DZ;cases d<;>simp[cOf,isWh,Dt.flat,nrm]
theorem GJ(a:aH)(n:Int):AG [L a,.int n]=some (.bl (decide ((a.length:Int)=n))):=by
 unfold AG Jd;have q:j9 1 [] (iSeq (fN 0)) (Tg.one 0) fYes (i6 true R8 (f9 (fN 0) fNil)) [.sh false (L a),.sh false (.int n)]=some (.nw,.lst (a.map λ_ => .bl true)) :=
   m6 (e:=Dt.int) (h:=λ_ => .bl true) (xs:=a) (by simp[cOf]) (λx _=>by simp[cOf,Tg.put,sigD,Ho,isWh])
 by_cases h:(a.length:Int)=n
 · simp[cOf,D4,h,q,bAll,Dg (λ_=>true) a]
 · simp[cOf,D4,h]
theorem BA(n:Nat)(h:n<=1000):P2 [.int n]=some (L (n8 n)):=by
 unfold P2 Gr;have q:j9 1 [] (m9 (fN 0)) (Tg.one 0) fYes (fC (.int 0)) [.sh false (.int n)]=some (.nw,L (n8 n)):=by
  rw[m6 (e:=λ(k:Nat) => .int (0+(k:Int))) (h:=λ_ => .int 0) (xs:=List.range n) (by simp[cOf,m9,intD,V1,v7,show(n:Int)<=1000000 by rfl',show -1000000<=(n:Int) by rfl']) (λx _=>by simp[cOf,Tg.put])];simp[L,n8,w0E]
 simp[cOf,q]
theorem ES(a b:aH)(h:a.length=b.length):V5 [L a,L b]=some (L (addR a b)):=by
 unfold V5 MT;have q:j9 2 [] (iZip (fN 0) (fN 1)) (Tg.many [0,1]) fYes (fOp u6 (fN 0) (fN 1)) [.sh false (L a),.sh false (L b)]=some (.nw,L (addR a b)):=by
  rw[m6 (e:=λp:Int×Int => .tup [.int p.1,.int p.2]) (h:=λp => .int (p.1+p.2)) (xs:=a.zip b) (by simp[cOf,iZip,h,T9]) (λp _=>by simp[cOf,Tg.put,Q2,sigD]),ZS]
 simp[cOf,q]
theorem Jl(a b:aH)(h:a.length=b.length):Bs [L a,L b]=some (L (subR a b)):=by
 unfold Bs MU;have q:j9 2 [] (iZip (fN 0) (fN 1)) (Tg.many [0,1]) fYes (fOp DF (fN 0) (fN 1)) [.sh false (L a),.sh false (L b)]=some (.nw,L (subR a b)):=by
  rw[m6 (e:=λp:Int×Int => .tup [.int p.1,.int p.2]) (h:=λp => .int (p.1-p.2)) (xs:=a.zip b) (by simp[cOf,iZip,h,T9]) (λp _=>by simp[cOf,Tg.put,Q2,sigD]),Yc]
 simp[cOf,q]
theorem G7(a:aH)(k:Int)(h:∀ x∈a,D9 k x=true):C1 [L a,.int k]=some (L (sclR k a)):=by
 unfold C1 Je;have q:j9 1 [1] (iSeq (fN 0)) (Tg.one 0) fYes (fOp D6 (fN 1) (fN 0)) [.sh false (L a),.sh false (.int k)]=some (.nw,L (sclR k a)):=by
  rw[m6 (e:=Dt.int) (h:=λx => .int (k*x)) (xs:=a) (by simp[cOf]) (λx hx=>by simp[cOf,Tg.put,sigD,Cf,h x hx])];simp[L,sclR]
 simp[cOf,q]
theorem Ng(n:Nat)(h1:1<=n)(h2:n<=6):Z6 [.int n]=some (.bl true):=by
 unfold Z6 Cv;have e:=Ho (.int n);simp[cOf,e,isWh,Ir,show(1:Int)<=n by rfl',show(n:Int)<=6 by rfl']
theorem Kj(n:Nat)(h1:1<=n)(h2:n<=6):V6 [.int n]=some .non:=by
 unfold V6 Bt;simp[cOf,Ng n h1 h2]
theorem Qy(a:aH)(n:Nat)(hl:a.length=n)(h:∀ x∈a,x.natAbs<10 ^ 30):Dm [L a,.int n]=some (.bl true):=by
 unfold Dm Gv;have e:=GJ a n;have p30:Iq 10 30=true:=by unfold Iq;decide
 have q:j9 1 [] (iSeq (fN 0)) (Tg.one 0) fYes (fOp opLt (fBlt bAbs (f9 (fN 0) fNil)) (fOp KD (fC (.int 10)) (fC (.int 30)))) [.sh false (L a),.sh false (.int n)]=some (.nw,.lst (a.map λ_ => .bl true)) :=
  m6 (e:=Dt.int) (h:=λ_ => .bl true) (xs:=a) (by simp[cOf]) (λx hx=>by
   have:=h x hx;have:(if x<0 then -x else x)<1000000000000000000000000000000:=by split<;>rfl'
   simp[cOf,Tg.put,sigD,bAbs,p30,this])
 simp[cOf,e,hl,q,bAll,Dg (λ_=>true) a]
theorem Nh(a:aH)(n:Nat)(hl:a.length=n)(h:∀ x∈a,x.natAbs<10 ^ 30):P3 [L a,.int n]=some .non:=by
 unfold P3 Cw;simp[cOf,Qy a n hl h]
theorem Qz(k:Int)(rows:aA):Dn [.int k,LL rows]=some (v5 k rows):=by
 unfold Dn Gw;have q:j9 1 [] (iSeq (fN 1)) (Tg.one 0) fYes (fBlt bTup (f9 (fN 0) fNil)) [.sh false (.int k),.sh false (LL rows)]=some (.nw,.lst (rows.map T)) :=
  m6 (e:=L) (h:=T) (xs:=rows) (by simp[cOf]) (λx hx=>by simp[cOf,Tg.put,sigD,bTup,X4])
 simp[cOf,q,bTup,Gg]
theorem QA(n:Nat)(bills:aA)(h1:1<=n)(h2:n<=6)(hm:bills.length<=8)(hw:Wide n bills)(hb:∀ r∈bills,∀ x∈r,x.natAbs<10 ^ 30):AI [.int n,LL bills]=some (v5 n bills):=by
 unfold AI Gx;obtain⟨j,q⟩:=Gf (g:=Tg.one 2) (F:=Ay (i6 true P3 (f9 (fN 2) (f9 (fN 0) fNil)))) (e:=L) (R:=λ(_:Unit) (c:Cell)=>[.sh false (.int n),.sh false (LL bills),c]) (step:=λ_ _=>()) bills () .no
  (λb x j hx=>⟨.sh false (L x),by simp[cOf,Tg.put,Nh x n (hw x hx) (hb x hx)]⟩)
 have q:forF (Tg.one 2) (Ay (i6 true P3 (f9 (fN 2) (f9 (fN 0) fNil)))) (bills.map L) [.sh false (.int n),.sh false (LL bills),.no]=some (.nx [.sh false (.int n),.sh false (LL bills),j]):=q;simp[cOf,Kj n h1 h2,show ¬(8<(bills.length:Int)) by rfl',q,Qz]
theorem Y6(n:Nat)(bills:aA)(b:aH)(h:b.length=n):F3 [v5 n bills,L b]=some .non:=by
 have e:M8 [.int n,L b]=some .non:=by
  unfold M8 R9;simp[cOf,GJ,h]
 unfold F3 Al;simp[cOf,atI,ixN,e]
theorem Ys(n:Nat)(bills:aA)(h:n<=1000):EM [v5 n bills]=some (L (n8 n)):=by
 unfold EM Jf;simp[cOf,atI,ixN,BA n h]
theorem z0b(n:Nat)(bills:aA)(a b:aH)(ha:a.length=n)(hb:b.length=n):HV [v5 n bills,L a,L b]=some (L (subR b a)):=by
 unfold HV MW;have e:=Jl b a (by rw[ha,hb]);simp[cOf,Y6 n bills a ha,Y6 n bills b hb,e]
abbrev HF:FS:=sIf (u9 (fOp opNe (fN 2) (fC (.int 0)))) (sRet (fN 1)) A9
theorem Ln(c0:Cell):∀(r:aH) (j:Nat) (c1 c2:Cell),(St.f8 r<r.length->forF (Tg.many [1,2]) HF (V2 j (r.map .int)) [c0,c1,c2]=some (.rt .nw (.int ((j+St.f8 r:Nat):Int)))) /\
  (¬St.f8 r<r.length->∃ c1' c2',forF (Tg.many [1,2]) HF (V2 j (r.map .int)) [c0,c1,c2]=some (.nx [c0,c1',c2']))
 | [],j,c1,c2=>⟨λh=>by simp[St.f8]at h,λ_=>⟨c1,c2,rfl⟩⟩
 | x::r,j,c1,c2=>by
  obtain⟨i1,i2⟩:=Ln c0 r (j+1) (.sh false (.int j)) (.sh false (.int x));rw[wo,V2,F9];by_cases hx:x=0
  · have e:(Tg.put (Tg.many [1,2]) (.tup [.int j,.int x]) [c0,c1,c2]).bind HF=some (.nx [c0,.sh false (.int j),.sh false (.int x)]):=by simp[cOf,D4,hx]
    have eh:St.f8 (x::r)=St.f8 r+1:=by simp[St.f8,hx]
    rw[e,eh,wu];refine⟨λh=>?_,λh=>i2 (by rfl')⟩;have:=i1 (by rfl');rw[show j+(St.f8 r+1)=j+1+St.f8 r by rfl'];exact this
  · have e:(Tg.put (Tg.many [1,2]) (.tup [.int j,.int x]) [c0,c1,c2]).bind HF=some (.rt .nw (.int j)):=by simp[cOf,D4,hx]
    have eh:St.f8 (x::r)=0:=by simp[St.f8,hx]
    rw[e,eh,wu];exact⟨λ_=>rfl,λh=>absurd (Nat.succ_pos _) h⟩
theorem C5(r:aH):o0 [L r]=some (.int (St.f8 r)):=by
 unfold o0 Gu;obtain⟨h1,h2⟩:=Ln (.sh false (L r)) r 0 .no .no;have hl:=St.Gi r;by_cases h:St.f8 r<r.length
 · have h1:=h1 h;simp only[ul]at h1;simp[cOf,h1]
 · obtain⟨c1,c2,h2⟩:=h2 h;simp[cOf,h2,show St.f8 r=r.length by rfl']
theorem Jm{r:aH}{k:Nat}(h:k<r.length):atI (r.map Dt.int) (k:Int)=some (.int (St.at0 r k)):=by
 rw[X7,ZT h];simp[St.at0,List.getD,wa h]
theorem z44(a b:aH)(q:Int):subR a (sclR q b)=St.sub a q b:=by
 unfold subR sclR St.sub;rw[w0x]
theorem WJ{r:aH}{x:Int}(h:x∈r):∃ k,St.at0 r k=x:=by
 obtain⟨k,hk,e⟩:=w01.mp h;exact⟨k,by simp[St.at0,List.getD,wa hk,e]⟩
theorem WK{x:Int}{m:Nat}(h:x.natAbs<2 ^ m):Builtin.Int.intBits x<=m:=MF h
theorem N1{i j:Int}{m k:Nat}(h1:i.natAbs<2 ^ m)(h2:j.natAbs<2 ^ k)(h:m+k<=134217728):D9 i j=true:=by
 unfold D9;rw[decide_eq_true (show Builtin.Int.intBits i+Builtin.Int.intBits j<=134217728 from by have:=WK h1;have:=WK h2;rfl')];rfl
theorem AL{i j:Int}(h0:0<j)(h:j<2 ^ 9000):P8 i j=true:=by
 unfold P8;rw[decide_eq_true (show j≠0 by rfl'),decide_eq_true (show j.natAbs.log2<9000 from ?_)]
 · rfl
 · rw[w1d (by rfl')];have:((2 ^ 9000:Nat):Int)=(2:Int) ^ 9000:=by norm_cast
   rfl'
abbrev LF:FS:=(sSeq (sSet [] 5 (i6 true o0 (f9 (fN 4) fNil)))
 (sSeq (sSet [] 6 (fOp Ap (fAt (fN 2) (fN 5)) (fAt (fN 4) (fN 5))))
 (sSeq (sIf (u9 (fOp opNe (fN 6) (fC (.int 0)))) (sSet [] 2 (i6 true Bs (f9 (fN 2) (f9 (i6 true C1 (f9 (fN 4) (f9 (fN 6) fNil))) fNil)))) A9)
 (sWr wApp 3 (fN 6)))))
theorem Jn{n m:Nat}(hm:2*m<=134217728)(c0 c1:Cell):∀(S:aA) (left:aH) (cs:aH) (c4 c5 c6:Cell),(∀ r∈S,r.length=n/\St.f8 r<n/\0<St.hd r/\St.hd r<2 ^ 9000)->left.length=n->St.LowB m left S->cs.length+S.length<=1000 ->
  ∃ c4' c5' c6',forF (Tg.one 4) LF (S.map L) [c0,c1,.sh true (L left),.ow true (cs.map .int),c4,c5,c6]=some (.nx [c0,c1,.sh true (L (St.n4 left S)),.ow true ((cs++St.IM left S).map .int),c4',c5',c6'])
 | [],left,cs,c4,c5,c6,_,_,_,_=>⟨c4,c5,c6,by simp[ZO,St.n4,St.IM]⟩
 | r::S,left,cs,c4,c5,c6,hr,hl,hb,hc=>by
  obtain⟨r1,r2,r3,r4⟩:=hr r wf;have hs:(St.sub left (St.B8 left r) r).length=n:=by rw[St.O0 (by rfl')];exact hl
  obtain⟨d4,d5,d6,ih⟩:=Jn hm c0 c1 S (St.sub left (St.B8 left r) r) (cs++[St.B8 left r]) (.sh false (L r)) (.sh true (.int (St.f8 r))) (.sh true (.int (St.B8 left r))) (λx hx=>hr x (wc _ hx)) hs hb.2 (by simp at hc ⊢;rfl');refine⟨d4,d5,d6,?_⟩;rw[wo,F9];have a1:=Jm (r:=left) (k:=St.f8 r) (by rfl');have a2:=Jm (r:=r) (k:=St.f8 r) (by rfl');have dv:P8 (St.at0 left (St.f8 r)) (St.at0 r (St.f8 r))=true:=AL r3 r4;have ef:(St.at0 left (St.f8 r)).fdiv (St.at0 r (St.f8 r))=St.B8 left r:=rfl;have hcs:cs.length<1000000:=by simp at hc;rfl'
  have e:(Tg.put (Tg.one 4) (L r) [c0,c1,.sh true (L left),.ow true (cs.map .int),c4,c5,c6]).bind LF=some (.nx [c0,c1,.sh true (L (St.sub left (St.B8 left r) r)),.ow true ((cs++[St.B8 left r]).map .int),.sh false (L r),.sh true (.int (St.f8 r)),.sh true (.int (St.B8 left r))]):=by
   refine(show LF [c0,c1,.sh true (L left),.ow true (cs.map .int),.sh false (L r),c5,c6]=_ from run (ρ':=[c0,c1,.sh true (L left),.ow true (cs.map .int),.sh false (L r),.sh true (.int (St.f8 r)),c6]) (by simp[cOf,C5]) (run (ρ':=[c0,c1,.sh true (L left),.ow true (cs.map .int),.sh false (L r),.sh true (.int (St.f8 r)),.sh true (.int (St.B8 left r))]) (by simp[cOf,a1,a2,dv,ef]) (run (ρ':=[c0,c1,.sh true (L (St.sub left (St.B8 left r) r)),.ow true (cs.map .int),.sh false (L r),.sh true (.int (St.f8 r)),.sh true (.int (St.B8 left r))]) ?_ (by simp[cOf,hcs]))));by_cases ho:St.B8 left r=0
   · have es:St.sub left (St.B8 left r) r=left:=by rw[ho];exact St.sub_zero (by rfl')
     rw[es];simp[cOf,ho,D4]
   · have mo:∀ x∈r,D9 (St.B8 left r) x=true:=λx hx=>by
      obtain⟨k,rfl⟩:=WJ hx;rcases hb.1 with h|⟨h1,h2⟩
      · exact absurd h ho
      · exact N1 h1 (h2 k) (by rfl')
     have e1:=G7 r (St.B8 left r) mo;have e2:=Jl left (sclR (St.B8 left r) r) (by rw[A3];rfl');rw[z44]at e2;simp[cOf,ho,D4,e1,e2]
  rw[e];show forF (Tg.one 4) LF (S.map L) _=_;rw[ih,St.n4,St.IM];simp
def RowD(d:Dt)(v:aH):Prop:=d=L v\/d=T v
theorem ON{n m:Nat}(d:Dt)(v:aH)(S:aA)(hd:RowD d v)(hm:2*m<=134217728)(hr:∀ r∈S,r.length=n/\St.f8 r<n/\0<St.hd r/\St.hd r<2 ^ 9000)(hl:v.length=n)(hb:St.LowB m v S)(hc:S.length<=1000):
   Bu [d,LL S]=some (.tup [L (St.IM v S),L (St.n4 v S)]):=by
 unfold Bu Eb;rcases hd with rfl|rfl
 · obtain⟨d4,d5,d6,q⟩:=Jn hm (.sh false (L v)) (.sh false (LL S)) S v [] .no .no .no hr hl hb (by simpa using hc);simp[cOf]at q ⊢;simp[q]
 · obtain⟨d4,d5,d6,q⟩:=Jn hm (.sh false (T v)) (.sh false (LL S)) S v [] .no .no .no hr hl hb (by simpa using hc);simp[cOf]at q ⊢;simp[q]
theorem BB{n m:Nat}(d:Dt)(v:aH)(S:aA)(hd:RowD d v)(hm:2*m<=134217728)(hr:∀ r∈S,r.length=n/\St.f8 r<n/\0<St.hd r/\St.hd r<2 ^ 9000)(hl:v.length=n)(hb:St.LowB m v S)(hc:S.length<=1000):
  C9 [d,LL S]=some (L (St.n4 v S)):=by
 have e:=ON d v S hd hm hr hl hb hc;have hn:nrm (flOf false) d=(if d.flat then .nw else .sh,d):=rfl;unfold C9 Gz;rcases hd with rfl|rfl<;>simp[cOf,e,ZU]
theorem Yt{i j:Int}(h0:j≠0)(h:j.natAbs<2 ^ 9000):P8 i j=true:=by
 unfold P8;rw[decide_eq_true h0,decide_eq_true (show j.natAbs.log2<9000 from(w1d (by rfl')).mpr h)];rfl
abbrev BC:FT:=u9 (fOp opNe (fAt (fN 3) (fC (.int 0))) (fC (.int 0)))
abbrev BF:FS:=(sSeq (sSet [] 4 (fOp Ap (fAt (fN 2) (fC (.int 0))) (fAt (fN 3) (fC (.int 0)))))
 (sSeq (sSet [] 5 (j9 1 [2,4,3] (m9 (fC (.int 3))) (Tg.one 0) fYes (fOp DF (fAt (fN 1) (fN 0)) (fOp D6 (fN 2) (fAt (fN 3) (fN 0))))))
 (sSeq (sSet [] 2 (fN 3))
 (sSet [] 3 (fN 5)))))
theorem OO(c0 c1 c4 c5:Cell)(u0 u1 u2 l0 l1 l2:Int)(hl:l0≠0)(h:l0.natAbs<2 ^ 9000)(m0:D9 (u0.fdiv l0) l0=true)(m1:D9 (u0.fdiv l0) l1=true)(m2:D9 (u0.fdiv l0) l2=true):
  BF [c0,c1,.sh true (L [u0,u1,u2]),.sh true (L [l0,l1,l2]),c4,c5]=some (.nx [c0,c1,.sh true (L [l0,l1,l2]),.sh true (L [u0-u0.fdiv l0*l0,u1-u0.fdiv l0*l1,u2-u0.fdiv l0*l2]),.sh true (.int (u0.fdiv l0)),.sh true (L [u0-u0.fdiv l0*l0,u1-u0.fdiv l0*l1,u2-u0.fdiv l0*l2])]):=by
 have dv:=Yt (i:=u0) hl h;have q:j9 1 [2,4,3] (m9 (fC (.int 3))) (Tg.one 0) fYes (fOp DF (fAt (fN 1) (fN 0)) (fOp D6 (fN 2) (fAt (fN 3) (fN 0)))) [Aw c0,Aw c1,.sh true (L [u0,u1,u2]),.sh true (L [l0,l1,l2]),.sh true (.int (u0.fdiv l0)),Aw c5]=some (.nw,L [u0-u0.fdiv l0*l0,u1-u0.fdiv l0*l1,u2-u0.fdiv l0*l2]):=by
  rw[m6 (e:=λ(k:Nat) => .int (0+(k:Int))) (h:=λ(k:Nat) => .int ([u0,u1,u2].getD k 0-u0.fdiv l0*[l0,l1,l2].getD k 0)) (xs:=List.range 3) (by simp[cOf,show V1 3=true from Bl (n:=3) (by decide),v7]) (λk hk=>by
   have hk:k<3:=wM.mp hk;have a1:=L1 (xs:=[u0,u1,u2]) (i:=k) 0 hk;have a2:=L1 (xs:=[l0,l1,l2]) (i:=k) 0 hk;have mk:D9 (u0.fdiv l0) ([l0,l1,l2].getD k 0)=true:=by
    have:k=0\/k=1\/k=2:=by rfl'
    rcases this with rfl|rfl|rfl
    · exact m0
    · exact m1
    · exact m2
   generalize [u0,u1,u2].getD k 0=uk at *;generalize [l0,l1,l2].getD k 0=lk at *;generalize [u0,u1,u2]=us at *;generalize [l0,l1,l2]=ls at *;simp[cOf,X7,a1,a2,mk])]
  rfl
 exact run (ρ':=[c0,c1,.sh true (L [u0,u1,u2]),.sh true (L [l0,l1,l2]),.sh true (.int (u0.fdiv l0)),c5]) (by simp[cOf,dv]) (run (ρ':=[c0,c1,.sh true (L [u0,u1,u2]),.sh true (L [l0,l1,l2]),.sh true (.int (u0.fdiv l0)),.sh true (L [u0-u0.fdiv l0*l0,u1-u0.fdiv l0*l1,u2-u0.fdiv l0*l2])]) (by simp[cOf,q]) (run (ρ':=[c0,c1,.sh true (L [l0,l1,l2]),.sh true (L [l0,l1,l2]),.sh true (.int (u0.fdiv l0)),.sh true (L [u0-u0.fdiv l0*l0,u1-u0.fdiv l0*l1,u2-u0.fdiv l0*l2])]) (by simp[cOf]) (by simp[cOf])))
theorem OP{a b:Int}{e:Nat}(he:e<=9000)(ha:a.natAbs<2 ^ e)(hb:b.natAbs<2 ^ e)(c0 c1:Cell):∀(k:Nat) (u0 u1 u2 l0 l1 l2:Int) (c4 c5:Cell),Br.BI a b u0 u1 u2 l0 l1 l2->l0.natAbs<=k ->
 ∃ v0 v1 v2 w1 w2 d4 d5,E4 BC BF (k+1) [c0,c1,.sh true (L [u0,u1,u2]),.sh true (L [l0,l1,l2]),c4,c5]=some (.nx [c0,c1,.sh true (L [v0,v1,v2]),.sh true (L [0,w1,w2]),d4,d5])/\Br.BI a b v0 v1 v2 0 w1 w2:=by
 intro k
 induction k using ut with
 | _ k IH =>
 intro u0 u1 u2 l0 l1 l2 c4 c5 B hk;have hc:BC [c0,c1,.sh true (L [u0,u1,u2]),.sh true (L [l0,l1,l2]),c4,c5]=some (!decide (l0=0)):=by simp[cOf,D4]
 rw[E4,hc,v6];by_cases hl:l0=0
 · subst hl;exact⟨u0,u1,u2,l1,l2,c4,c5,by simp,B⟩
 · have p3:2 ^ (e+3)=8*2 ^ e:=by rw[vt];rfl'
   obtain⟨z1,z2,z3,z4⟩:=Br.Ws u0 l0 hl;have c1':=B.c1;have c2':=B.c2;have b3:=B.b3;have b4:=B.b4;have hq:(u0.fdiv l0).natAbs<2 ^ (e+3):=by
    have:1*(u0.fdiv l0).natAbs<=l0.natAbs*(u0.fdiv l0).natAbs:=wI _ (by rfl');rw[uE l0.natAbs]at this;rfl'
   have h9:(2:Nat) ^ e<=2 ^ 9000:=wq (by decide) he;have st:=OO c0 c1 c4 c5 u0 u1 u2 l0 l1 l2 hl (by rfl') (N1 hq (show l0.natAbs<2 ^ (e+3) by rfl') (by rfl')) (N1 hq (show l1.natAbs<2 ^ (e+3) by rfl') (by rfl')) (N1 hq (show l2.natAbs<2 ^ (e+3) by rfl') (by rfl'));cases k with
   | zero=>rfl'
   | succ k =>
    obtain⟨v0,v1,v2,w1,w2,d4,d5,ih,B'⟩:=IH k (vB k) _ _ _ _ _ _ (.sh true (.int (u0.fdiv l0))) (.sh true (L [u0-u0.fdiv l0*l0,u1-u0.fdiv l0*l1,u2-u0.fdiv l0*l2])) (B.turn hl) (by rfl');refine⟨v0,v1,v2,w1,w2,d4,d5,?_,B'⟩;rw[st];simp only[hl,decide_false,w1t,if_true,v6];exact ih
theorem Lo(a b:Int)(e:Nat)(he:e<=9000)(ha:a.natAbs<2 ^ e)(hb:b.natAbs<2 ^ e):∃ x y,Cy [.int a,.int b]=some (T [(uu a b:Int),x,y])/\a*x+b*y=uu a b/\x.natAbs<=a.natAbs+2*b.natAbs+1/\y.natAbs<=a.natAbs+2*b.natAbs+1:=by
 obtain⟨v0,v1,v2,w1,w2,d4,d5,lp,B⟩:=OP he ha hb (.sh false (.int a)) (.sh false (.int b)) b.natAbs a 1 0 b 0 1 .no .no (Br.BI.start a b) (wB _);have lp:=Dd lp;have fin:=B.fin;have up:=B.up;have b1:=B.b1;have b2:=B.b2;have pre:∀{r:Option Oc},(sSeq (sIf (u9 (fOp opLt (fAt (fN 2) (fC (.int 0))) (fC (.int 0)))) (sSet [] 2 (j9 1 [] (iSeq (fN 2)) (Tg.one 0) fYes (fNeg (fN 0)))) A9) (sRet (fBlt bTup (f9 (fN 2) fNil)))) [.sh false (.int a),.sh false (.int b),.sh true (L [v0,v1,v2]),.sh true (L [0,w1,w2]),d4,d5]=r->Jg (rho0 6 [.int a,.int b])=r:=λh=>run (ρ':=[.sh false (.int a),.sh false (.int b),.sh true (L [a,1,0]),.no,.no,.no]) (by simp[cOf,L]) (run (ρ':=[.sh false (.int a),.sh false (.int b),.sh true (L [a,1,0]),.sh true (L [b,0,1]),.no,.no]) (by simp[cOf,L]) (run lp h));have at0:atI ([v0,v1,v2].map Dt.int) 0=some (.int v0):=rfl;by_cases h0:v0<0
 · refine⟨-v1,-v2,?_,by rw[w0J,w0J];rfl',by rfl',by rfl'⟩;have q:j9 1 [] (iSeq (fN 2)) (Tg.one 0) fYes (fNeg (fN 0)) [.sh false (.int a),.sh false (.int b),.sh true (L [v0,v1,v2]),.sh true (L [0,w1,w2]),Aw d4,Aw d5]=some (.nw,L [-v0,-v1,-v2]):=by
    rw[m6 (e:=Dt.int) (h:=λx => .int (-x)) (xs:=[v0,v1,v2]) (by simp[cOf,L]) (λx hx=>by simp[cOf])];rfl
   have e0:(uu a b:Int) = -v0:=by rfl'
   rw[e0];refine T2 (f := .nw) rfl (pre (run (ρ':=[.sh false (.int a),.sh false (.int b),.sh true (L [-v0,-v1,-v2]),.sh true (L [0,w1,w2]),d4,d5]) ?_ (by simp[cOf,T]))) rfl;generalize [v0,v1,v2]=vs at *;simp[cOf,at0,h0,q]
 · refine⟨v1,v2,?_,by rfl',by rfl',by rfl'⟩;have e0:(uu a b:Int)=v0:=by rfl'
   rw[e0];refine T2 (f := .nw) rfl (pre (run (ρ':=[.sh false (.int a),.sh false (.int b),.sh true (L [v0,v1,v2]),.sh true (L [0,w1,w2]),d4,d5]) ?_ (by simp[cOf,T]))) rfl;generalize [v0,v1,v2]=vs at *;simp[cOf,at0,h0]
theorem z45(a b:aH)(x y:Int):addR (sclR x a) (sclR y b)=St.lin x a y b:=by
 unfold addR sclR St.lin;rw[w1b]
theorem z0c(a b:aH)(x y:Int):subR (sclR x a) (sclR y b)=St.lin x a (-y) b:=by
 unfold subR sclR St.lin;rw[w1b];congr 1
 funext p q
 rw[w00];rfl'
theorem Du{q:Int}{r:aH}{m k:Nat}(h1:q.natAbs<2 ^ m)(h2:St.Lt (2 ^ k) r)(h:m+k<=134217728):∀ x∈r,D9 q x=true:=λx hx=>by
 obtain⟨i,rfl⟩:=WJ hx;exact N1 h1 (h2 i) h
theorem QB{n e q:Nat}(r left:aH)(hr:r.length=n)(hl:left.length=n)(hh:St.f8 r<n)(hp:0<St.hd r)(h1:St.hd r<2 ^ e)(h2:0<=St.at0 left (St.f8 r))(h3:St.at0 left (St.f8 r)<St.hd r)(he:e<=8990)(s1:St.Lt (2 ^ q) r)(s2:St.Lt (2 ^ q) left)(hq:q<=100000000):
  ∃ g x y,W5 [L r,L left]=some (.tup [L (St.B4 r left x y),L (St.F6 r left g)])/\0<g/\g∣St.hd r/\g∣St.at0 left (St.f8 r)/\St.hd r*x+St.at0 left (St.f8 r)*y=g/\x.natAbs<2 ^ (e+2)/\y.natAbs<2 ^ (e+2):=by
 have cast:((2 ^ e:Nat):Int)=(2:Int) ^ e:=by norm_cast
 have a1:(St.hd r).natAbs<2 ^ e:=by rfl'
 have a2:(St.at0 left (St.f8 r)).natAbs<2 ^ e:=by rfl'
 obtain⟨x,y,eb,exy,bx,bY⟩:=Lo (St.hd r) (St.at0 left (St.f8 r)) e (by rfl') a1 a2;have g0:0<uu (St.hd r) (St.at0 left (St.f8 r)):=w07 _ (by rfl');have d1:(uu (St.hd r) (St.at0 left (St.f8 r)):Int)∣St.hd r:=w1c _ _;have d2:(uu (St.hd r) (St.at0 left (St.f8 r)):Int)∣St.at0 left (St.f8 r):=w0Z _ _;generalize eg:(uu (St.hd r) (St.at0 left (St.f8 r)):Int)=g at *;have g0:0<g:=by rfl'
 have p2:2 ^ (e+2)=4*2 ^ e:=by rw[vt];rfl'
 have x1:x.natAbs<2 ^ (e+2):=by rfl'
 have y1:y.natAbs<2 ^ (e+2):=by rfl'
 refine⟨g,x,y,?_,g0,d1,d2,exy,x1,y1⟩;have gle:g<=St.hd r:=vR hp d1;have g9:g<2 ^ 9000:=by
  have h9:(2:Nat) ^ e<=2 ^ 9000:=wq (by decide) (by rfl');have:((2 ^ 9000:Nat):Int)=(2:Int) ^ 9000:=by norm_cast
  rfl'
 have dv1:P8 (St.hd r) g=true:=AL g0 g9;have dv2:P8 (St.at0 left (St.f8 r)) g=true:=AL g0 g9;have k1:((St.hd r).fdiv g).natAbs<2 ^ (e+2):=by have:=St.AB (St.hd r) g0;rfl'
 have k2:((St.at0 left (St.f8 r)).fdiv g).natAbs<2 ^ (e+2):=by have:=St.AB (St.at0 left (St.f8 r)) g0;rfl'
 have t1:=Jm (r:=r) (k:=St.f8 r) (by rfl');have t2:=Jm (r:=left) (k:=St.f8 r) (by rfl');have t1:atI (r.map Dt.int) (St.f8 r:Int)=some (.int (St.hd r)):=t1;have e1:=G7 r x (Du x1 s1 (by rfl'));have e2:=G7 left y (Du y1 s2 (by rfl'));have e3:=G7 left ((St.hd r).fdiv g) (Du k1 s2 (by rfl'));have e4:=G7 r ((St.at0 left (St.f8 r)).fdiv g) (Du k2 s1 (by rfl'));have e5:=ES (sclR x r) (sclR y left) (by rw[A3,A3];rfl');have e6:=Jl (sclR ((St.hd r).fdiv g) left) (sclR ((St.at0 left (St.f8 r)).fdiv g) r) (by rw[A3,A3];rfl');rw[z45]at e5;rw[z0c]at e6;have hT:T [g,x,y] = .tup [.int g,.int x,.int y]:=rfl;have nT:∀ f,nrm f (.tup [.int g,.int x,.int y])=(.nw,.tup [.int g,.int x,.int y]):=λf=>nrm_T f [g,x,y];rw[hT]at eb;unfold W5 GA;have eL:St.F6 r left g=St.lin ((St.hd r).fdiv g) left (-((St.at0 left (St.f8 r)).fdiv g)) r:=rfl;simp[cOf,C5,t1,t2,eb,nT,dv1,dv2,e1,e2,e3,e4,e5,e6,St.B4,eL]
theorem Ni{n q:Nat}(left:aH)(hl:left.length=n)(hh:St.f8 left<n):F0 [L left]=some (L (if St.at0 left (St.f8 left)<0 then sclR (-1) left else left)):=by
 have t2:=Jm (r:=left) (k:=St.f8 left) (by rfl');have e1:=G7 left (-1) (λx _=>Bi (by decide));unfold F0 Cz;by_cases h:St.at0 left (St.f8 left)<0
 · simp[cOf,C5,t2,h,e1]
 · simp[cOf,C5,t2,h,R7]
def N2(S:aA):aA:=(T8 (S.map λr=>((St.f8 r:Int),r))).map (·.2)
theorem ET(S:aA):(N2 S).Perm S:=by
 have:=(O8 (S.map λr=>((St.f8 r:Int),r))).map (·.2);rw[wS]at this;have e:S.map ((λx:Int×aH=>x.2)∘λr=>((St.f8 r:Int),r))=S:=by
  have:((λx:Int×aH=>x.2)∘λr:aH=>((St.f8 r:Int),r))=id:=rfl;rw[this,List.map_id]
 rw[e]at this;exact this
theorem Jo(S:aA)(hn:(S.map St.f8).Nodup):((N2 S).map St.f8).Pairwise (·<·):=by
 have h1:((N2 S).map St.f8).Pairwise (·<=·):=by
  have q:=Bh (S.map λr=>((St.f8 r:Int),r));have mem:∀ p∈T8 (S.map λr=>((St.f8 r:Int),r)),p.1=(St.f8 p.2:Int):=λp hp=>by
   obtain⟨r,_,rfl⟩:=wj.mp ((O8 _).mem_iff.mp hp);rfl
  unfold N2;rw[wS,uv];refine List.Pairwise.imp_of_mem (λ{a b} ha hb hab=>?_) q;have e1:=mem a ha;have e2:=mem b hb;show St.f8 a.2<=St.f8 b.2;have hab:a.1<=b.1:=hab;rfl'
 have h2:((N2 S).map St.f8).Nodup:=((ET S).map St.f8).nodup_iff.mpr hn;exact(List.pairwise_and_iff.mpr ⟨h1,h2⟩).imp λ{a b} ⟨p,q⟩=>by rfl'
theorem Jp:∀ S:aA,R6 o0 (S.map L)=some (S.map λr=>(St.f8 r:Int))
 | []=>rfl
 | r::S=>by rw[wo,R6,C5,Jp S];rfl
theorem Yu(S:aA):(T8 ((S.map λr=>(St.f8 r:Int)).zip (S.map L))).map (·.2)=(N2 S).map L:=by
 have e:(S.map λr=>(St.f8 r:Int)).zip (S.map L)=(S.map λr=>((St.f8 r:Int),r)).map λq=>(q.1,L q.2):=by
  rw[List.zip_map,wS];have:S.zip S=S.map λr=>(r,r):=by
   induction S with
   | nil=>rfl
   | cons r S ih=>rw[ur,ih];rfl
  rw[this,wS];rfl
 rw[e,De];unfold N2;rw[wS,wS];rfl
def G8:Nat->aA->List (Nat×aH)
 | _,[]=>[]
 | j,r::S=>(j,r)::G8 (j+1) S
theorem AM:∀(j:Nat) (S:aA),V2 j (S.map L)=(G8 j S).map λp => .tup [.int p.1,L p.2]
 | j,[]=>rfl
 | j,r::S=>by rw[wo,V2,G8,wo,AM (j+1) S]
theorem Ee(h:Nat):∀(j:Nat) (S:aA),(∀ r∈S,St.f8 r≠h)->(G8 j S).filter (λp=>decide (St.f8 p.2=h))=[]
 | j,[],_=>rfl
 | j,r::S,q=>by
  rw[G8,vX,Ee h (j+1) S λx hx=>q x (wc _ hx)];simp[q r wf]
theorem Lp(h:Nat):∀(j:Nat) (S1:aA) (r:aH) (S2:aA),St.f8 r=h->((S1++r::S2).map St.f8).Pairwise (·<·)->(G8 j (S1++r::S2)).filter (λp=>decide (St.f8 p.2=h))=[(j+S1.length,r)]
 | j,[],r,S2,hr,pw=>by
  rw[w0C]at pw ⊢;rw[wo,vj]at pw;rw[G8,vX,Ee h (j+1) S2 λx hx=>by have:=pw.1 _ (wj.mpr ⟨x,hx,rfl⟩);rfl'];simp[hr]
 | j,x::S1,r,S2,hr,pw=>by
  rw[uY]at pw ⊢;rw[wo,vj]at pw;have hx:=pw.1 (St.f8 r) (wj.mpr ⟨r,by simp,rfl⟩);rw[G8,vX,Lp h (j+1) S1 r S2 hr pw.2];simp[show St.f8 x≠h by rfl'];rfl'
theorem Lq(S:aA)(left:aH)(c0 c1 c4 c5:Cell)(f:Bool):j9 2 [3] (X3 (fN 2)) (Tg.many [0,1]) (u9 (fOp opEq (i6 true o0 (f9 (fN 1) fNil)) (i6 true o0 (f9 (fN 2) fNil)))) (fN 0) [c0,c1,.ow f (S.map L),.sh true (L left),c4,c5] =
   some (.nw,.lst (((G8 0 S).filter λp=>decide (St.f8 p.2=St.f8 left)).map λp => .int (p.1:Int))):=by
 refine Bj (e:=λp:Nat×aH => .tup [.int p.1,L p.2]) (h:=λp => .int (p.1:Int)) (p:=λp=>decide (St.f8 p.2=St.f8 left)) (xs:=G8 0 S) ?_ (λx hx=>?_) (λx hx _=>?_)
 · cases f<;>simp[cOf,AM]
 · simp[cOf,C5,C7];rfl'
 · simp[cOf]
abbrev WC:FT:=u9 (fOp opLt (i6 true o0 (f9 (fN 3) fNil)) (fBlt bLen (f9 (fN 3) fNil)))
abbrev WF:FS:=(sSeq (T6 4 (j9 2 [3] (X3 (fN 2)) (Tg.many [0,1]) (u9 (fOp opEq (i6 true o0 (f9 (fN 1) fNil)) (i6 true o0 (f9 (fN 2) fNil)))) (fN 0)))
 (sSeq (sIf (u9 (fOp opEq (fBlt bLen (f9 (fN 4) fNil)) (fC (.int 0)))) (sRet (DU o0 (fOp u6 (fN 2) (fLst (f9 (i6 true F0 (f9 (fN 3) fNil)) fNil))))) A9)
 (sSeq (T6 5 (i6 true W5 (f9 (fAt (fN 2) (fAt (fN 4) (fC (.int 0)))) (f9 (fN 3) fNil))))
 (sSeq (sPut 2 (fAt (fN 4) (fC (.int 0))) (fAt (fN 5) (fC (.int 0))))
 (T6 3 (i6 true C9 (f9 (fAt (fN 5) (fC (.int 1))) (f9 (fN 2) fNil))))))))
theorem z0d(S:aA)(t:aH)(h:S.length<60):u6 (.lst (S.map L)) (.lst [L t])=some (newL ((S++[t]).map L)):=by
 have:u6 (.lst (S.map L)) (.lst [L t])=Cb (.lst (S.map L)) (.lst [L t]):=rfl;rw[this,Cb,if_pos (by simp;rfl')];simp
theorem z0e(S:aA)(left t:aH)(c0 c1 c4 c5:Cell)(f:Bool)(hn:∀ r∈S,St.f8 r≠St.f8 left)(ht:F0 [L left]=some (L t))(hh:((S++[t]).map St.f8).Nodup)(h60:S.length<60):
  ∃ fl,WF [c0,c1,.ow f (S.map L),.sh true (L left),c4,c5]=some (.rt fl (LL (N2 (S++[t])))):=by
 have pl:=Lq S left c0 c1 c4 c5 f;rw[Ee _ 0 S hn]at pl;have st:DU o0 (fOp u6 (fN 2) (fLst (f9 (i6 true F0 (f9 (fN 3) fNil)) fNil))) [c0,c1,.ow f (S.map L),.sh true (L left),.sh true (.lst []),c5]=some (newL ((N2 (S++[t])).map L)):=by
  have e1:fOp u6 (fN 2) (fLst (f9 (i6 true F0 (f9 (fN 3) fNil)) fNil)) [c0,c1,.ow f (S.map L),.sh true (L left),.sh true (.lst []),c5]=some (newL ((S++[t]).map L)):=by
   have:=z0d S t h60;simp[cOf,ht,this]
  unfold DU;rw[e1];have k1:=Jp (S++[t]);have nd:((S++[t]).map λr=>(St.f8 r:Int)).Nodup:=by
   have:((S++[t]).map λr=>(St.f8 r:Int))=((S++[t]).map St.f8).map (λn:Nat=>(n:Int)):=by rw[wS];rfl
   rw[this];exact List.Pairwise.map _ (λa b hab e=>hab (by rfl')) hh
  show(R6 o0 ((S++[t]).map L)).bind _=_;rw[k1,v6,if_pos ⟨by simp;rfl',nd⟩,Yu]
 refine⟨lfl ((N2 (S++[t])).map L),?_⟩;have e1:T6 4 (j9 2 [3] (X3 (fN 2)) (Tg.many [0,1]) (u9 (fOp opEq (i6 true o0 (f9 (fN 1) fNil)) (i6 true o0 (f9 (fN 2) fNil)))) (fN 0)) [c0,c1,.ow f (S.map L),.sh true (L left),c4,c5]=some (.nx [c0,c1,.ow f (S.map L),.sh true (L left),.sh true (.lst []),c5]):=by
  unfold T6;rw[pl];rfl
 refine run e1 ?_;have e2:sIf (u9 (fOp opEq (fBlt bLen (f9 (fN 4) fNil)) (fC (.int 0)))) (sRet (DU o0 (fOp u6 (fN 2) (fLst (f9 (i6 true F0 (f9 (fN 3) fNil)) fNil))))) A9 [c0,c1,.ow f (S.map L),.sh true (L left),.sh true (.lst []),c5]=some (.rt (lfl ((N2 (S++[t])).map L)) (LL (N2 (S++[t])))):=by
  have c:u9 (fOp opEq (fBlt bLen (f9 (fN 4) fNil)) (fC (.int 0))) [c0,c1,.ow f (S.map L),.sh true (L left),.sh true (.lst []),c5]=some true:=by simp[cOf,C7]
  unfold sIf;rw[c,v6,if_pos rfl,sRet,st];rfl
 unfold sSeq;rw[e2];rfl
theorem QC(S1 S2:aA)(r left up lo:aH)(c0 c1 c4 c5:Cell)(f:Bool)(hh:St.f8 r=St.f8 left)(pw:((S1++r::S2).map St.f8).Pairwise (·<·))(hc:W5 [L r,L left]=some (.tup [L up,L lo]))(res:aH)(hl:C9 [L lo,LL (S1++up::S2)]=some (L res)):
   ∃ d4 d5,WF [c0,c1,.ow f ((S1++r::S2).map L),.sh true (L left),c4,c5]=some (.nx [c0,c1,.ow f ((S1++up::S2).map L),.sh true (L res),d4,d5]):=by
 have pl:=Lq (S1++r::S2) left c0 c1 c4 c5 f;rw[Lp _ 0 S1 r S2 hh pw]at pl;have pl:j9 2 [3] (X3 (fN 2)) (Tg.many [0,1]) (u9 (fOp opEq (i6 true o0 (f9 (fN 1) fNil)) (i6 true o0 (f9 (fN 2) fNil)))) (fN 0) [c0,c1,.ow f ((S1++r::S2).map L),.sh true (L left),c4,c5]=some (.nw,.lst [.int (S1.length:Int)]):=by rw[pl];simp
 refine⟨.sh true (.lst [.int (S1.length:Int)]),.sh true (.tup [L up,L lo]),?_⟩;have at1:atI ((S1++r::S2).map L) (S1.length:Int)=some (L r):=S9 (by simp);have ix:ixN ((S1++r::S2).map L).length (S1.length:Int)=some S1.length:=by
   unfold ixN;rw[if_pos (by rfl'),if_pos (by simp;rfl')];simp
 have set1:((S1++r::S2).map L).set S1.length (L up)=(S1++up::S2).map L:=by
   rw[vm,vm,List.set_append];simp
 have hl:C9 [L lo,.lst ((S1++up::S2).map L)]=some (L res):=hl;generalize (S1++r::S2).map L=D at *;generalize (S1++up::S2).map L=D' at *;have e1:T6 4 (j9 2 [3] (X3 (fN 2)) (Tg.many [0,1]) (u9 (fOp opEq (i6 true o0 (f9 (fN 1) fNil)) (i6 true o0 (f9 (fN 2) fNil)))) (fN 0)) [c0,c1,.ow f D,.sh true (L left),c4,c5]=some (.nx [c0,c1,.ow f D,.sh true (L left),.sh true (.lst [.int (S1.length:Int)]),c5]):=by
   unfold T6;rw[pl];rfl
 refine run e1 (run (ρ':=[c0,c1,.ow f D,.sh true (L left),.sh true (.lst [.int (S1.length:Int)]),c5]) ?_ (run (ρ':=[c0,c1,.ow f D,.sh true (L left),.sh true (.lst [.int (S1.length:Int)]),.sh true (.tup [L up,L lo])]) ?_ (run (ρ':=[c0,c1,.ow f D',.sh true (L left),.sh true (.lst [.int (S1.length:Int)]),.sh true (.tup [L up,L lo])]) ?_ ?_)))
 · simp[cOf,C7]
 · simp[cOf,at1,hc]
 · simp[cOf,ix,set1]
 · simp[cOf,hl]
theorem Yv(S:aA)(h:Nat):(∀ r∈S,St.f8 r≠h)\/∃ S1 r S2,S=S1++r::S2/\St.f8 r=h:=by
 by_cases q:∃ r∈S,St.f8 r=h
 · obtain⟨r,hr,e⟩:=q;obtain⟨S1,S2,rfl⟩:=w0R hr;exact .inr ⟨S1,r,S2,rfl,e⟩
 · exact .inl λr hr e=>q ⟨r,hr,e⟩
theorem EU{n e:Nat}{S:aA}(A:St.Asc n 0 S)(hd:∀ r∈S,St.hd r<2 ^ e)(he:e<=8990):∀ r∈S,r.length=n/\St.f8 r<n/\0<St.hd r/\St.hd r<2 ^ 9000:=λr hr=>by
 have q:=A.mem hr;refine⟨q.1,q.2.2.1,q.2.2.2,?_⟩;have h1:=hd r hr;have h9:(2:Nat) ^ e<=2 ^ 9000:=wq (by decide) (by rfl');have c1:((2 ^ 9000:Nat):Int)=(2:Int) ^ 9000:=by norm_cast
 have c2:((2 ^ e:Nat):Int)=(2:Int) ^ e:=by norm_cast
 rfl'
structure Sz(n e eh m0 kk:Nat):Prop where
 n20:n<=20
 e90:eh<=8990
 ehe:eh<=e
 e33:e<=33000
 m0e:m0=e+20*(e+1)
 kke:kk=2*e+3+20*(e+1)
theorem Sz.lim{n e eh m0 kk:Nat}(z:Sz n e eh m0 kk):m0+n*kk<=16000000:=by
 have h1:=z.n20;have h2:=z.e33;have h3:=z.m0e;have h4:=z.kke;have:n*kk<=20*kk:=wI _ h1;rfl'
theorem z46{n e eh m0 kk:Nat}(z:Sz n e eh m0 kk)(S0:aA)(v:aH)(h20:S0.length<=20)(c0 c1:Cell)(f:Bool):∀(k:Nat) (S:aA) (left:aH) (c4 c5:Cell),St.Wi n e eh m0 kk S0 v S left->n-St.f8 left<=k ->
 (∃ S' left' c4' c5',E4 WC WF (k+1) [c0,c1,.ow f (S.map L),.sh true (L left),c4,c5]=some (.nx [c0,c1,.ow f (S'.map L),.sh true (L left'),c4',c5'])/\St.Post n (e+3+(m0+n*kk)) S0 v S') \/
 (∃ S' fl,E4 WC WF (k+1) [c0,c1,.ow f (S.map L),.sh true (L left),c4,c5]=some (.rt fl (LL S'))/\St.Post n (e+3+(m0+n*kk)) S0 v S'):=by
 intro k
 induction k using ut with
 | _ k IH =>
 intro S left c4 c5 I hk;have lim:=z.lim;have hlen:S.length=S0.length:=by have:=congrArg List.length I.heads;simpa using this
 have hc:WC [c0,c1,.ow f (S.map L),.sh true (L left),c4,c5]=some (decide (St.f8 left<n)):=by
   have:(decide ((St.f8 left:Int)<(left.length:Int)))=decide (St.f8 left<n):=by
     have:=I.len;by_cases h:St.f8 left<n
     · rw[decide_eq_true h,decide_eq_true (by rfl')]
     · rw[decide_eq_false h,decide_eq_false (by rfl')]
   simp[cOf,C5,this];have:=I.len;rfl'
 rw[E4,hc,v6];by_cases hn:St.f8 left<n
 · rw[decide_eq_true hn,if_pos rfl];rcases Yv S (St.f8 left)with no|⟨S1,r,S2,rfl,hr⟩
   · right;have ht:=Ni (n:=n) (q:=0) left I.len hn;generalize et:(if St.at0 left (St.f8 left)<0 then sclR (-1) left else left)=t at ht;have hne:St.at0 left (St.f8 left)≠0:=St.Ck left (by rw[I.len];exact hn)
     have tc:∃ c:Int,(c=1∨c = -1)∧(∀ k,St.at0 t k=c*St.at0 left k)∧0<St.at0 t (St.f8 left)∧t.length=n:=by
       by_cases h:St.at0 left (St.f8 left)<0
       · rw[if_pos h]at et;subst et;have e1:∀ k,St.at0 (sclR (-1) left) k = -1*St.at0 left k:=λk=>by
          simp only[St.at0,sclR,List.getD,wv];cases left[k]?<;>simp
         exact⟨-1,.inr rfl,e1,by rw[e1];rfl',by rw[A3];exact I.len⟩
       · rw[if_neg h]at et;subst et;exact⟨1,.inl rfl,λk=>by rfl',by rfl',I.len⟩
     obtain⟨c,hc1,hc2,hc3,hc4⟩:=tc;have th:St.f8 t=St.f8 left:=St.K4 _ _ (λk hk=>by rw[hc2,St.r9 left k hk];simp) (by rfl');have nd:((S++[t]).map St.f8).Nodup:=by
       rw[vm,w0Y];refine⟨(St.Asc.iff.mp I.asc).2.imp λ{a b} h=>by rfl',by simp,λa ha b hb=>?_⟩;obtain⟨x,hx,rfl⟩:=wj.mp ha;have:=no x hx;have hb:b=St.f8 t:=by simpa using hb
       rfl'
     obtain⟨fl,ew⟩:=z0e S left t c0 c1 c4 c5 f no ht nd (by rfl');refine⟨N2 (S++[t]),fl,by rw[ew];rfl,?_⟩;refine I.new hn no hc4 c hc1 hc2 hc3 ?_ (Jo _ nd);exact(ET _).trans (List.perm_append_comm)
   · have hm:r∈S1++r::S2:=by simp
     have q:=I.asc.mem hm;have hcast:((2 ^ e:Nat):Int)=(2:Int) ^ e:=by norm_cast
     have hle:m0+St.f8 left*kk<=m0+n*kk:=by have:=wI kk (vV hn);rfl'
     obtain⟨g,x,y,ec,hg,ga,gb,hxy,hx,hy⟩:=QB (n:=n) (e:=eh) (q:=e+3+(m0+St.f8 left*kk)) r left q.1 I.len q.2.2.1 q.2.2.2 (I.hds r hm) (I.low r hm).1 (I.low r hm).2 z.e90 (I.all r hm) (I.size.mono (wq (by decide) (by rfl'))) (by have:=z.e33;rfl');have hl2:S1.length+S2.length+1<=20:=by simp at hlen;rfl'
     obtain⟨I',hlt,lb,hds'⟩:=I.step hr hn hg ga gb hxy (wE hx (wq (by decide) (by have:=z.ehe;rfl'))) (wE hy (wq (by decide) (by have:=z.ehe;rfl'))) (by have:=z.m0e;rfl') (by
       have:=z.kke;have:(S1.length+S2.length+1)*(e+1)<=20*(e+1):=wI _ hl2;rfl')
     have el:=BB (n:=n) (m:=m0+n*kk) (L (St.F6 r left g)) (St.F6 r left g) (S1++St.B4 r left x y::S2) (.inl rfl) (by rfl') (EU I'.asc hds' z.e90) (by
       unfold St.F6;rw[St.HP (by rw[I.len,q.1])];exact I.len) lb (by simp;rfl')
     obtain⟨d4,d5,ew⟩:=QC S1 S2 r left _ _ c0 c1 c4 c5 f hr (St.Asc.iff.mp I.asc).2 ec _ el;cases k with
     | zero=>rfl'
     | succ k =>
       rcases IH k (vB k) _ _ d4 d5 I' (by rfl') with⟨S',l',d4',d5',h1,h2⟩|⟨S',fl,h1,h2⟩
       · exact .inl ⟨S',l',d4',d5',by rw[ew];exact h1,h2⟩
       · exact .inr ⟨S',fl,by rw[ew];exact h1,h2⟩
 · rw[decide_eq_false hn];exact .inl ⟨S,left,c4,c5,rfl,I.done hn⟩
theorem OQ{n e eh m0 kk:Nat}(z:Sz n e eh m0 kk)(S:aA)(d:Dt)(v:aH)(hd:RowD d v)(A:St.Asc n 0 S)(hv:v.length=n)(h0:∀ r∈S,St.Lt (2 ^ e) r)(hh:∀ r∈S,St.hd r<2 ^ eh)(hs:St.Lt (2 ^ e) v)(h20:S.length<=20):
   ∃ S',S3 [LL S,d]=some (LL S')/\St.Post n (e+3+(m0+n*kk)) S v S':=by
 have lim:=z.lim;have hm0:=z.m0e;have hml:e+S.length*(e+1)<=m0:=by have:S.length*(e+1)<=20*(e+1):=wI _ h20;rfl'
 obtain⟨I,lb⟩:=St.Wi.start (n:=n) (e:=e) (eh:=eh) (s:=e) (m0:=m0) (kk:=kk) A hv h0 hh hs hml (by rfl');have el:=BB (n:=n) (m:=m0) d v S hd (by rfl') (EU A I.hds z.e90) hv lb (by rfl');have el:C9 [d,.lst (S.map L)]=some (L (St.n4 v S)):=el;have fl:∃ f:Bool,∀ d0:Dt,sOwn 2 (fBlt bLst (f9 (fN 0) fNil)) [.sh false (LL S),.sh false d0,.no,.no,.no,.no]=some (.nx [.sh false (LL S),.sh false d0,.ow f (S.map L),.no,.no,.no]):=by
   cases S with
   | nil=>exact⟨true,λd0=>by simp[cOf]⟩
   | cons r S=>exact⟨false,λd0=>by simp[cOf,newL,lfl]⟩
 obtain⟨f,hf⟩:=fl;have hb:∀ o,Ah WC WF [.sh false (LL S),.sh false d,.ow f (S.map L),.sh true (L (St.n4 v S)),.no,.no]=some o->(∃ S' fl,seqO (sRet (fN 2)) o=some (.rt fl (LL S'))/\St.Post n (e+3+(m0+n*kk)) S v S')->∃ S',S3 [LL S,d]=some (LL S')/\St.Post n (e+3+(m0+n*kk)) S v S':=by
   rintro o ho ⟨S',fl,h1,h2⟩;refine⟨S',?_,h2⟩;have e2:T6 3 (i6 true C9 (f9 (fN 1) (f9 (fN 2) fNil))) [.sh false (LL S),.sh false d,.ow f (S.map L),.no,.no,.no]=some (.nx [.sh false (LL S),.sh false d,.ow f (S.map L),.sh true (L (St.n4 v S)),.no,.no]):=by
    rcases hd with rfl|rfl<;>simp[cOf,el]
   have q:Y1 [.sh false (LL S),.sh false d,.no,.no,.no,.no]=some (.rt fl (LL S')):=by
    unfold Y1;refine run (hf d) (run e2 ?_);show(Ah WC WF _).bind (seqO (sRet (fN 2)))=_;rw[ho];exact h1
   unfold S3 cOf;rw[if_pos (show[LL S,d].length=2 from rfl)];show(Y1 [.sh false (LL S),.sh false d,.no,.no,.no,.no]).bind _=_;rw[q];rfl
 rcases z46 z S v h20 (.sh false (LL S)) (.sh false d) f (n-St.f8 (St.n4 v S)) S (St.n4 v S) .no .no I (wB _) with⟨S',l',d4',d5',h1,h2⟩|⟨S',fl,h1,h2⟩
 · exact hb _ (Dd h1) ⟨S',flOf f,rfl,h2⟩
 · exact hb _ (Dd h1) ⟨S',fl,rfl,h2⟩
theorem Hq:∀(A T:aA),∃ A',St.even (A++T)=A'++St.even T
 | [],T=>⟨[],rfl⟩
 | r::A,T=>by
  obtain⟨A',e⟩:=Hq A T;exact⟨St.n4 r (St.even (A++T))::A',by rw[uY,St.even,e];rfl⟩
theorem Jq{n:Nat}:∀{f:Nat} {A T:aA},St.Asc n f (A++T)->St.Asc n 0 T
 | f,[],T,h=>h.weak (wU _)
 | f,r::A,T,h=>Jq (A:=A) h.2.2.2.2
abbrev EF:FS:=sWrA ID 1 (i6 true C9 (f9 (fN 2) (f9 (fN 1) fNil)))
theorem WL{n e eh u:Nat}(he:eh<=8990)(he3:e<=33000)(hu:u<=17000000)(c0:Cell)(S:aA)(A:St.Asc n 0 S)(hs:∀ r∈S,St.Lt (2 ^ u) r)(hE:∀ r∈St.even S,St.Lt (2 ^ e) r)(hH:∀ r∈St.even S,St.hd r<2 ^ eh)(h20:S.length<=21)(heu:e<=u):
  ∀(R T:aA) (c2:Cell),S=R.reverse++T->∃ c2',forF (Tg.one 2) EF (R.map L) [c0,.ow true ((St.even T).map L),c2]=some (.nx [c0,.ow true ((St.even S).map L),c2'])
 | [],T,c2,h=>⟨c2,by rw[h];rfl⟩
 | r::R,T,c2,h=>by
  have h':S=R.reverse++(r::T):=by rw[h];simp
  obtain⟨c2',ih⟩:=WL he he3 hu c0 S A hs hE hH h20 heu R (r::T) (.sh false (L r)) h';refine⟨c2',?_⟩;rw[wo,F9];have hlen:T.length+1<=21:=by have:=congrArg List.length h';simp at this;rfl'
  have rm:r∈S:=by rw[h'];simp
  have AT:St.Asc n 0 T:=Jq (A:=R.reverse++[r]) (by rw[ue];show St.Asc n 0 (R.reverse++(r::T));rw[←h'];exact A);have AE:=(St.W3 AT).1;obtain⟨A',ea⟩:=Hq (R.reverse++[r]) T;have sub:∀ x∈St.even T,x∈St.even S:=λx hx=>by
   rw[h',show R.reverse++(r::T)=(R.reverse++[r])++T by simp,ea];exact wx.mpr (.inr hx)
  have hE':∀ x∈St.even T,St.Lt (2 ^ e) x:=λx hx=>hE x (sub x hx);have hel:(St.even T).length<=20:=by rw[St.X9];rfl'
  have hmul:(St.even T).length*(e+1)<=20*(e+1):=wI _ hel;obtain⟨_,lb⟩:=St.P1 (n:=n) (t:=0) (s:=u) (e:=e) (m:=u+20*(e+1)) (S:=St.even T) (left:=r) (λx hx=>⟨(AE.mem hx).1,(AE.mem hx).2.2.2⟩) (A.mem rm).1 (λk hk=>by rfl') (λx hx _=>hE' x hx) (hs r rm) (by rfl') (by rfl');have el:=BB (n:=n) (m:=u+20*(e+1)) (L r) r (St.even T) (.inl rfl) (by rfl') (EU AE (λx hx=>hH x (sub x hx)) he) (A.mem rm).1 lb (by rfl');have el:C9 [L r,.lst ((St.even T).map L)]=some (L (St.n4 r (St.even T))):=el;have e1:(Tg.put (Tg.one 2) (L r) [c0,.ow true ((St.even T).map L),c2]).bind EF=some (.nx [c0,.ow true (L (St.n4 r (St.even T))::(St.even T).map L),.sh false (L r)]):=by
   simp[cOf,el,show(St.even T).length<1000000 by rfl']
  rw[e1];exact ih
theorem Yw{n e eh u:Nat}(S:aA)(he:eh<=8990)(he3:e<=33000)(hu:u<=17000000)(A:St.Asc n 0 S)(hs:∀ r∈S,St.Lt (2 ^ u) r)(hE:∀ r∈St.even S,St.Lt (2 ^ e) r)(hH:∀ r∈St.even S,St.hd r<2 ^ eh)(h20:S.length<=21)(heu:e<=u):CA [LL S]=some (LL (St.even S)):=by
 obtain⟨c2,q⟩:=WL he he3 hu (.sh false (LL S)) S A hs hE hH h20 heu S.reverse [] .no (by simp);have q:forF (Tg.one 2) EF (S.map L).reverse [.sh false (LL S),.ow true [],.no]=some (.nx [.sh false (LL S),.ow true ((St.even S).map L),c2]):=by rw[←List.map_reverse];exact q
 unfold CA Jh;simp[cOf,q]
abbrev CF:FS:=sSet [] 1 (i6 true CA (f9 (i6 false S3 (f9 (fN 1) (f9 (fN 2) fNil))) fNil))
theorem Jr{n e eh B:Nat}(ed:aH->Dt)(hed:∀ r,RowD (ed r) r)(hn:n<=20)(he:eh<=8990)(hee:eh<=e)(he3:e<=33000)(all:aA)(hl:∀ r∈all,r.length=n)(hb:∀ r∈all,St.Lt B r)(hB:0<B)(hBe:B<=2 ^ e)(hbn:∀ k,k<=all.length->St.bnd k B+1<=2 ^ e)(hH:∀ k S,k<=all.length->St.Good n B (all.take k) S->∀ r∈S,St.hd r<2 ^ eh)(h20:all.length<=20)(c0:Cell):
  ∀(todo done:aA) (S:aA) (c2:Cell),all=done++todo->St.Good n B done S->∃ S' c2',forF (Tg.one 2) CF (todo.map ed) [c0,.sh true (LL S),c2]=some (.nx [c0,.sh true (LL S'),c2'])/\St.Good n B all S'
 | [],done,S,c2,h,G=>⟨S,c2,rfl,by rw[h,uL];exact G⟩
 | v::todo,done,S,c2,h,G=>by
  have z:Sz n e eh (e+20*(e+1)) (2*e+3+20*(e+1)):=⟨hn,he,hee,he3,rfl,rfl⟩;have hdn:all.take done.length=done:=by rw[h];simp
  have hdv:all.take (done.length+1)=done++[v]:=by rw[h,List.take_append,vW (by rfl')];simp
  have hld:done.length+1+todo.length=all.length:=by rw[h];simp;rfl'
  have hv:v∈all:=by rw[h];simp
  have sub:∀ r∈done,r∈all:=λr hr=>by rw[h];exact wx.mpr (.inl hr)
  have small:=G.small (λr hr=>hb r (sub r hr)) hB;have len:=G.len;have small:∀ r∈S,St.Lt (2 ^ e) r:=λr hr=>(small r hr).mono (hbn _ (by rfl'));obtain⟨S1,e1,P⟩:=OQ z S (ed v) v (hed v) G.asc (hl v hv) small (hH done.length S (by rfl') (by rw[hdn];exact G)) ((hb v hv).mono hBe) (by rfl');have G':=G.step P;have small':=G'.small (λr hr=>by
   rcases wx.mp hr with hr|hr
   · exact hb r (sub r hr)
   · rw[wV.mp hr];exact hb v hv) hB
  have len':=G'.len;have len2:(done++[v]).length=done.length+1:=by simp
  have small':∀ r∈St.even S1,St.Lt (2 ^ e) r:=λr hr=>(small' r hr).mono (hbn _ (by rfl'));have lim:=z.lim;have e2:=Yw (n:=n) (e:=e) (u:=e+3+(e+20*(e+1)+n*(2*e+3+20*(e+1)))) S1 he he3 (by rfl') P.asc P.size small' (hH (done.length+1) _ (by rfl') (by rw[hdv];exact G')) (by rw[←St.X9];rfl') (by rfl');obtain⟨S',c2',ih,GG⟩:=Jr ed hed hn he hee he3 all hl hb hB hBe hbn hH h20 c0 todo (done++[v]) (St.even S1) (.sh false (ed v)) (by rw[h];simp) G';refine⟨S',c2',?_,GG⟩;rw[wo,F9];have st:(Tg.put (Tg.one 2) (ed v) [c0,.sh true (LL S),c2]).bind CF=some (.nx [c0,.sh true (LL (St.even S1)),.sh false (ed v)]):=by
   have sn:∀ f,(nrm f (ed v)).2=ed v:=λf=>rfl;simp[cOf,sn,e1,e2]
  rw[st];exact ih
theorem CG{n e eh B:Nat}(ed:aH->Dt)(hed:∀ r,RowD (ed r) r)(hn:n<=20)(he:eh<=8990)(hee:eh<=e)(he3:e<=33000)(rows:aA)(d:Dt)(hd:d = .lst (rows.map ed)\/d = .tup (rows.map ed))(hl:∀ r∈rows,r.length=n)(hb:∀ r∈rows,St.Lt B r)(hB:0<B)(hBe:B<=2 ^ e)(hbn:∀ k,k<=rows.length->St.bnd k B+1<=2 ^ e)(hH:∀ k S,k<=rows.length->St.Good n B (rows.take k) S->∀ r∈S,St.hd r<2 ^ eh)(h20:rows.length<=20):
   ∃ S,P4 [d]=some (LL S)/\St.Good n B rows S:=by
 obtain⟨S,c2,q,G⟩:=Jr ed hed hn he hee he3 rows hl hb hB hBe hbn hH h20 (.sh false d) rows [] [] .no rfl St.Good.nil;refine⟨S,?_,G⟩;have q:forF (Tg.one 2) CF (rows.map ed) [.sh false d,.sh true (.lst []),.no]=some (.nx [.sh false d,.sh true (LL S),c2]):=q;unfold P4 GB;rcases hd with rfl|rfl
 · simp[cOf,q]
 · simp[cOf,q]
theorem Ef{n e B:Nat}(ed:aH->Dt)(hed:∀ r,RowD (ed r) r)(hn:n<=20)(he:e<=8990)(rows:aA)(d:Dt)(hd:d = .lst (rows.map ed)\/d = .tup (rows.map ed))(hl:∀ r∈rows,r.length=n)(hb:∀ r∈rows,St.Lt B r)(hB:0<B)(hBe:B<=2 ^ e)(hbn:∀ k,k<=rows.length->St.bnd k B+1<=2 ^ e)(h20:rows.length<=20):
 ∃ S,P4 [d]=some (LL S)/\St.Good n B rows S:=CG (eh:=e) ed hed hn he (wB _) (by rfl') rows d hd hl hb hB hBe hbn (λk S hk G r hr=>by
 have q:=G.small (λr hr=>hb r (ug hr)) hB r hr (St.f8 r);have l:=G.len;have b:=hbn S.length (by rw[vA]at l;rfl');have q:(St.hd r).natAbs<St.bnd S.length B+1:=q;have c2:((2 ^ e:Nat):Int)=(2:Int) ^ e:=by norm_cast
 rfl') h20
theorem z0f{n e B:Nat}(k:Int)(bills:aA)(hn:n<=20)(he:e<=8990)(hl:∀ r∈bills,r.length=n)(hb:∀ r∈bills,St.Lt B r)(hB:0<B)(hBe:B<=2 ^ e)(hbn:∀ k,k<=bills.length->St.bnd k B+1<=2 ^ e)(h20:bills.length<=20):
  ∃ S,Dq [v5 k bills]=some (LL S)/\St.Good n B bills S:=by
 obtain⟨S,q,G⟩:=Ef (n:=n) (e:=e) (B:=B) T (λr => .inr rfl) hn he bills (TTu bills) (.inr rfl) hl hb hB hBe hbn h20;refine⟨S,?_,G⟩;unfold Dq MY;simp[cOf,q]
theorem Js(d:Dt):P5 [d]=some (.bl (isWh d)):=by
 unfold P5 GE;cases d<;>simp[cOf,isWh,Dt.flat,nrm]
theorem OR(a:aH)(n:Int):Bx [L a,.int n]=some (.bl (decide ((a.length:Int)=n))):=by
 unfold Bx Ed;obtain⟨j,q⟩:=Gf (g:=Tg.one 2) (F:=sIf (fNot (fTru (i6 true P5 (f9 (fN 2) fNil)))) (sRet (fC (.bl false))) A9) (e:=Dt.int) (R:=λ(_:Unit) (c:Cell)=>[.sh false (L a),.sh false (.int n),c]) (step:=λ_ _=>()) a () .no
   (λb x j hx=>⟨.sh false (.int x),by simp[cOf,Tg.put,Js,isWh]⟩)
 have q:forF (Tg.one 2) (sIf (fNot (fTru (i6 true P5 (f9 (fN 2) fNil)))) (sRet (fC (.bl false))) A9) (a.map Dt.int) [.sh false (L a),.sh false (.int n),.no]=some (.nx [.sh false (L a),.sh false (.int n),j]):=q;by_cases h:(a.length:Int)=n
 · simp[cOf,D4,h,q]
 · simp[cOf,D4,h]
theorem Yx(a b:aH)(k:Int)(hl:a.length=b.length)(hs:a.length<=1000)(h:∀ x∈b,D9 k x=true):ER [L a,L b,.int k]=some (L (addR a (sclR k b))):=by
 unfold ER Jk;have q:j9 1 [0,2,1] (m9 (fBlt bLen (f9 (fN 0) fNil))) (Tg.one 0) fYes (fOp u6 (fAt (fN 1) (fN 0)) (fOp D6 (fN 2) (fAt (fN 3) (fN 0)))) [.sh false (L a),.sh false (L b),.sh false (.int k)]=some (.nw,L (addR a (sclR k b))):=by
  rw[m6 (e:=λ(j:Nat) => .int (0+(j:Int))) (h:=λ(j:Nat) => .int (a.getD j 0+k*b.getD j 0)) (xs:=List.range a.length) (by simp[cOf,m9,intD,Bl (show a.length<=1000000 by rfl'),v7]) (λj hj=>by
   have hj:=wM.mp hj;have e1:=L1 (xs:=a) 0 hj;have e2:=L1 (xs:=b) (i:=j) 0 (by rfl');have e3:=h _ (EC 0 (show j<b.length by rfl'));simp[cOf,Tg.put,sigD,Cf,X7,e1,e2,e3,-uB]),ZW (λj=>a.getD j 0+k*b.getD j 0),ZV a b k hl]
 simp[cOf,q]
theorem z0g(n:Nat)(rows:aA)(cs:aH)(hn:n<=1000)(hm:rows.length<=1000)(hw:Wide n rows)(hl:rows.length=cs.length)(h:∀ r∈rows,∀ c∈cs,∀ x∈r,D9 c x=true):HW [.int n,LL rows,L cs]=some (L (mixR n rows cs)):=by
 unfold HW Nd;have z:j9 1 [] (m9 (fN 0)) (Tg.one 0) fYes (fC (.int 0)) [.sh false (.int n),.sh false (LL rows),.sh false (L cs),.no,.no]=some (.nw,L (n8 n)):=by
  rw[m6 (e:=λ(k:Nat) => .int (0+(k:Int))) (h:=λ_ => .int 0) (xs:=List.range n) (by simp[cOf,m9,intD,Bl (show n<=1000000 by rfl'),v7]) (λx _=>by simp[cOf,Tg.put])];simp[L,n8,w0E]
 obtain⟨hl2,j,q⟩:=DV (g:=Tg.one 4) (F:=sSet [] 3 (j9 1 [3,2,4,1] (m9 (fN 0)) (Tg.one 0) fYes (fOp u6 (fAt (fN 1) (fN 0)) (fOp D6 (fAt (fN 2) (fN 3)) (fAt (fAt (fN 4) (fN 3)) (fN 0))))))
  (e:=λ(j:Nat) => .int (0+(j:Int))) (R:=λ(t:aH) (c:Cell)=>[.sh false (.int n),.sh false (LL rows),.sh false (L cs),.sh true (L t),c]) (step:=λt j=>addR t (sclR (cs.getD j 0) (rows.getD j []))) (P:=λt=>t.length=n) (List.range rows.length) (n8 n) .no B3
  (fun t j c hj ht=>by
   have hj:=wM.mp hj;have hr:=EC [] hj;have hlr:=hw _ hr;refine⟨by rw[X5 (by rw[A3,ht,hlr])];exact ht,.sh false (.int (0+(j:Int))),?_⟩;have q:j9 1 [3,2,4,1] (m9 (fN 0)) (Tg.one 0) fYes (fOp u6 (fAt (fN 1) (fN 0)) (fOp D6 (fAt (fN 2) (fN 3)) (fAt (fAt (fN 4) (fN 3)) (fN 0)))) [.sh false (.int n),.sh false (LL rows),.sh false (L cs),.sh true (L t),.sh false (.int (0+(j:Int)))]=some (.nw,L (addR t (sclR (cs.getD j 0) (rows.getD j [])))):=by
    rw[m6 (e:=λ(k:Nat) => .int (0+(k:Int))) (h:=λ(k:Nat) => .int (t.getD k 0+cs.getD j 0*(rows.getD j []).getD k 0)) (xs:=List.range n) (by simp[cOf,m9,intD,Bl (show n<=1000000 by rfl'),v7]) (λk hk=>by
     have hk:=wM.mp hk;have e1:=L1 (xs:=t) (i:=k) 0 (by rfl');have e2:=L1 (xs:=cs) (i:=j) 0 (by rfl');have e3:=L1 (xs:=rows) (i:=j) [] hj;have e4:=L1 (xs:=rows.getD j []) (i:=k) 0 (by rfl');have e5:=h _ hr _ (EC 0 (show j<cs.length by rfl')) _ (EC 0 (show k<(rows.getD j []).length by rfl'));simp only[w0y]at *;simp[cOf,Tg.put,sigD,Cf,X7,e1,e2,e3,e4,e5,-uB]),ZW (λk=>t.getD k 0+cs.getD j 0*(rows.getD j []).getD k 0),←ht,ZV t _ _ (by rw[ht,hlr])]
   simp only[w0y]at *;simp[cOf,Tg.put,q,-uB])
 have q:forF (Tg.one 4) (sSet [] 3 (j9 1 [3,2,4,1] (m9 (fN 0)) (Tg.one 0) fYes (fOp u6 (fAt (fN 1) (fN 0)) (fOp D6 (fAt (fN 2) (fN 3)) (fAt (fAt (fN 4) (fN 3)) (fN 0)))))) (Q0 0 rows.length) [.sh false (.int n),.sh false (LL rows),.sh false (L cs),.sh true (L (n8 n)),.no]=some (.nx [.sh false (.int n),.sh false (LL rows),.sh false (L cs),.sh true (L (mixR n rows cs)),j]):=by
  rw[v7,←Ql n rows cs hl];exact q
 simp[cOf,z,m9,intD,Bl (show rows.length<=1000000 by rfl'),q]
theorem CH(m j:Nat)(hm:m<=1000):J3 [.int m,.int j]=some (L (St.o7 m j)):=by
 unfold J3 Ea;have q:j9 1 [1] (m9 (fN 0)) (Tg.one 0) fYes (fIf (u9 (fOp opEq (fN 0) (fN 1))) (fC (.int 1)) (fC (.int 0))) [.sh false (.int m),.sh false (.int j)]=some (.nw,L (St.o7 m j)):=by
  rw[m6 (e:=λ(k:Nat) => .int (0+(k:Int))) (h:=λk => .int (if k=j then 1 else 0)) (xs:=List.range m) (by simp[cOf,y13 m (by rfl'),v7]) (λk _=>by
   by_cases h:k=j
   · simp[cOf,C7,h]
   · simp[cOf,C7,h,show ¬(k:Int)=(j:Int) by rfl'])]
  rw[ZW (λk=>if k=j then 1 else 0)];rfl
 simp[cOf,q]
theorem Nj(m:Nat):∀(s:Nat) (bs:aA),(bs.zip ((w1j s bs.length).map (St.o7 m))).map (λp=>p.1++p.2)=St.tagF m s bs
 | s,[]=>rfl
 | s,b::bs=>by rw[wu,w0t,wo,ur,wo,Nj m (s+1) bs,St.tagF]
theorem HL{n e B:Nat}(hn:n<=20)(he:e<=8990)(bills tags:aA)(hlt:bills.length=tags.length)(hl:∀ p∈bills.zip tags,(p.1++p.2).length=n)(hb:∀ p∈bills.zip tags,St.Lt B (p.1++p.2))(hB:0<B)(hBe:B<=2 ^ e)(hbn:∀ k,k<=bills.length->St.bnd k B+1<=2 ^ e)(h20:bills.length<=20):
  ∃ S,v4 [TTu bills,LL tags]=some (LL S)/\St.Good n B ((bills.zip tags).map λp=>p.1++p.2) S:=by
 have hlz:((bills.zip tags).map λp=>p.1++p.2).length=bills.length:=by simp;rfl'
 obtain⟨S,q,G⟩:=Ef (n:=n) (e:=e) (B:=B) L (λr => .inl rfl) hn he ((bills.zip tags).map λp=>p.1++p.2) (LL ((bills.zip tags).map λp=>p.1++p.2)) (.inl rfl) (λr hr=>by
  obtain⟨p,hp,rfl⟩:=wj.mp hr;exact hl p hp) (λr hr=>by
  obtain⟨p,hp,rfl⟩:=wj.mp hr;exact hb p hp) hB hBe (λk hk=>hbn k (by rfl')) (by rfl')
 refine⟨S,?_,G⟩;unfold v4 L6;have z:j9 2 [] (iZip (fN 0) (fN 1)) (Tg.many [0,1]) fYes (fOp u6 (fBlt bLst (f9 (fN 0) fNil)) (fBlt bLst (f9 (fN 1) fNil))) [.sh false (TTu bills),.sh false (LL tags)]=some (.nw,LL ((bills.zip tags).map λp=>p.1++p.2)):=by
  rw[m6 (e:=λp:aH×aH => .tup [T p.1,L p.2]) (h:=λp=>L (p.1++p.2)) (xs:=bills.zip tags) (by simp[cOf,hlt,T9]) (λp hp=>by
   have h1:=hl p hp;have c:=Cj p.1 p.2 (by simp at h1;rfl');simp[cOf,c])]
  simp[LL]
 simp[cOf,z,q]
theorem Eg{n e B:Nat}(k:Int)(bills:aA)(hn:n+bills.length<=20)(he:e<=8990)(hl:∀ r∈bills,r.length=n)(hb:∀ r∈bills,St.Lt B r)(hB:1<B)(hBe:B<=2 ^ e)(hbn:∀ k,k<=bills.length->St.bnd k B+1<=2 ^ e):
  ∃ S,B7 [v5 k bills]=some (LL S)/\St.Good (n+bills.length) B (St.N6 bills) S:=by
 have ht:((List.range bills.length).map (St.o7 bills.length)).length=bills.length:=by simp
 have hz:∀ p∈bills.zip ((List.range bills.length).map (St.o7 bills.length)),p.1∈bills/\∃ j,p.2=St.o7 bills.length j:=λp hp=>by
  refine⟨(vz hp).1,?_⟩;obtain⟨j,_,e⟩:=wj.mp (vz hp).2;exact⟨j,e.symm⟩
 obtain⟨S,q,G⟩:=HL (n:=n+bills.length) (e:=e) (B:=B) hn he bills ((List.range bills.length).map (St.o7 bills.length)) ht.symm (λp hp=>by
  obtain⟨h1,j,h2⟩:=hz p hp;rw[wD,h2,St.K5,hl _ h1]) (λp hp=>by
  obtain⟨h1,j,h2⟩:=hz p hp;intro i;rw[St.M7 (hl _ h1),h2,St.w8];split
  · exact hb _ h1 i
  · split<;>simp<;>rfl') (by rfl') hBe hbn (by rfl')
 have e0:=Nj bills.length 0 bills;rw[←uA]at e0;rw[e0]at G;refine⟨S,?_,G⟩;have z:j9 1 [1] (m9 (fN 1)) (Tg.one 0) fYes (i6 true J3 (f9 (fN 1) (f9 (fN 0) fNil))) [.sh false (v5 k bills),.sh true (.int bills.length)]=some (.nw,LL ((List.range bills.length).map (St.o7 bills.length))):=by
  rw[m6 (e:=λ(k:Nat) => .int (0+(k:Int))) (h:=λk=>L (St.o7 bills.length k)) (xs:=List.range bills.length) (by simp[cOf,y13 bills.length (by rfl'),v7]) (λj _=>by
    have u:=CH bills.length j (by rfl');simp[cOf,u])]
  simp[LL]
 unfold B7 Q8;simp[cOf,z,q]
theorem GK(S:aA)(n:Nat):O1 [LL S,.int n]=some (LL ((S.filter λr=>decide (St.f8 r<n)).map (·.drop n))):=by
 have q:j9 1 [1] (iSeq (fN 0)) (Tg.one 0) (u9 (fOp opLt (i6 true o0 (f9 (fN 0) fNil)) (fN 1))) (fSl (fN 0) (J9 (fN 1)) A6) [.sh false (LL S),.sh false (.int n)]=some (.nw,.lst ((S.filter λr=>decide (St.f8 r<n)).map λr=>L (r.drop n))) :=
  Bj (e:=L) (h:=λr=>L (r.drop n)) (p:=λr=>decide (St.f8 r<n)) (xs:=S) (by simp[cOf]) (λr hr=>by
   simp[cOf,C5]) (λr hr _=>by
   simp[cOf,AA,G4])
 unfold O1 U7;simp[cOf,q]
theorem Z8(S:aA)(n:Nat):A4 [LL S,.int n]=some (LL (St.bots n S)):=by
 have q:j9 1 [1] (iSeq (fN 0)) (Tg.one 0) (u9 (fOp opGe (i6 true o0 (f9 (fN 0) fNil)) (fN 1))) (fSl (fN 0) (J9 (fN 1)) A6) [.sh false (LL S),.sh false (.int n)]=some (.nw,.lst ((S.filter λr=>!decide (St.f8 r<n)).map λr=>L (r.drop n))) :=
  Bj (e:=L) (h:=λr=>L (r.drop n)) (p:=λr=>!decide (St.f8 r<n)) (xs:=S) (by simp[cOf]) (λr hr=>by
   by_cases h:St.f8 r<n
   · simp[cOf,C5,h]
   · simp[cOf,C5,h];rfl') (λr hr _=>by
   simp[cOf,AA,G4])
 unfold A4 S4;simp[cOf,q,St.bots]
structure Hall(n:Nat)(bills:aA):Prop where
 n1:1<=n
 n6:n<=6
 m8:bills.length<=8
 wide:∀ r∈bills,r.length=n
 small:∀ r∈bills,∀ x∈r,x.natAbs<10 ^ 30
theorem Hall.lt{n:Nat}{bills:aA}(H:Hall n bills):∀ r∈bills,St.Lt (10 ^ 30) r:=λr hr=>St.KZ (by decide) (H.small r hr)
theorem QD{n:Nat}{bills:aA}(H:Hall n bills):∃ S,Dq [v5 n bills]=some (LL S)/\St.Good n (10 ^ 30) bills S/\∀ r∈S,St.Lt (2 ^ 900) r:=by
 have m8:=H.m8;have n6:=H.n6;obtain⟨S,es,G⟩:=z0f (n:=n) (e:=900) (B:=10 ^ 30) n bills (by rfl') (by rfl') H.wide H.lt (by decide) (by decide) (λk hk=>St.Ww k (by rfl')) (by rfl');have:=G.len;exact⟨S,es,G,λr hr=>(G.small H.lt (by decide) r hr).mono (St.Ww _ (by rfl'))⟩
theorem tag_lt{n:Nat}{bills:aA}(H:Hall n bills):∀ r∈St.N6 bills,St.Lt (10 ^ 30) r:=λr hr=>by
 obtain⟨b,hb,j,rfl⟩:=St.IR _ hr;intro i;rw[St.M7 (H.wide b hb),St.w8];split
 · exact H.lt b hb i
 · split<;>simp
theorem Yy{n:Nat}{bills:aA}(H:Hall n bills):∃ S,B7 [v5 n bills]=some (LL S)/\St.Tag n bills S/\∀ r∈S,St.Lt (2 ^ 900) r:=by
 have m8:=H.m8;have n6:=H.n6;obtain⟨S,es,G⟩:=Eg (n:=n) (e:=900) (B:=10 ^ 30) n bills (by rfl') (by rfl') H.wide H.lt (by decide) (by decide) (λk hk=>St.Ww k (by rfl'));have:=G.len;rw[St.AC]at this;exact⟨S,es,G.tag H.wide,λr hr=>(G.small (tag_lt H) (by decide) r hr).mono (St.Ww _ (by rfl'))⟩
theorem z0h{n e:Nat}{S:aA}(A:St.Asc n 0 S)(h:∀ r∈S,St.Lt (2 ^ e) r):∀ r∈S,St.hd r<2 ^ e:=λr hr=>by
 have h1:=h r hr (St.f8 r);have h3:(St.hd r).natAbs<2 ^ e:=h1;have:((2 ^ e:Nat):Int)=(2:Int) ^ e:=by norm_cast
 rfl'
theorem z0i{n e s:Nat}{S:aA}{v:aH}(A:St.Asc n 0 S)(h:∀ r∈S,St.Lt (2 ^ e) r)(he:e<=8990)(hv:v.length=n)(hs:St.Lt (2 ^ s) v)(h20:S.length<=20)(hsl:s<=1000000):
  (∀ r∈S,r.length=n/\St.f8 r<n/\0<St.hd r/\St.hd r<2 ^ 9000)/\St.LowB (s+20*(e+1)) v S/\2*(s+20*(e+1))<=134217728/\S.length<=1000/\St.Lt (2 ^ (s+20*(e+1))) (St.n4 v S):=by
 have hm:S.length*(e+1)<=20*(e+1):=wI _ h20;obtain⟨z1,z2⟩:=St.P1 (n:=n) (t:=0) (s:=s) (e:=e) (m:=s+20*(e+1)) (S:=S) (left:=v) (λr hr=>⟨(A.mem hr).1,(A.mem hr).2.2.2⟩) hv (λk hk=>by rfl') (λr hr _=>h r hr) hs (by rfl') (by rfl');exact⟨EU A (z0h A h) he,z2,by rfl',by rfl',z1.mono (wq (by decide) (by rfl'))⟩
theorem QE(n:Nat)(bills:aA)(one other uses:aH)(hn:n<=1000)(hm:bills.length<=1000)(h1:one.length=n)(hw:Wide n bills)(hl:bills.length=uses.length)(h:∀ r∈bills,∀ c∈uses,∀ x∈r,D9 c x=true):K6 [LL bills,L one,L other,L uses]=some (.bl (decide (addR one (mixR n bills uses)=other))):=by
 have e1:=OR uses uses.length;have e2:=z0g n bills uses hn hm hw hl h;have hml:(mixR n bills uses).length=n:=EB hw;have e3:=Yx one (mixR n bills uses) 1 (by rfl') (by rfl') (λx _=>Bi (by decide));rw[z43]at e3;have e4:=XY (addR one (mixR n bills uses)) other;unfold K6 GI;simp[cOf,e1,hl,h1,e2,e3,e4]
theorem copies(bills:aA)(ρ:Rho)(F:FE)(f:Fl)(h:F ρ=some (f,LL bills)):j9 1 [] (iSeq F) (Tg.one 0) fYes (fBlt bLst (f9 (fN 0) fNil)) ρ=some (.nw,LL bills) :=
 m6 (e:=L) (h:=L) (xs:=bills) (by unfold iSeq;rw[h];rfl) (λx hx=>by simp[cOf])
theorem z0j(n:Nat)(hn:n<=1000)(ρ:Rho)(F:FE)(f:Fl)(h:F ρ=some (f,.int n)):j9 1 [] (m9 F) (Tg.one 0) fYes (fC (.int 0)) ρ=some (.nw,L (n8 n)):=by
 rw[m6 (e:=λ(k:Nat) => .int (0+(k:Int))) (h:=λ_ => .int 0) (xs:=List.range n) (by unfold m9;rw[h];simp[cOf,y13 n (by rfl'),v7]) (λx _=>by simp[cOf])];simp[L,n8,w0E]
theorem QF(ns:aH):Hall (E2 ns) (M5 ns):=⟨(DW ns).1,(DW ns).2,by rw[Oq];exact KP ns,MM ns,Qm ns⟩
theorem Hall.made{n:Nat}{bills:aA}(H:Hall n bills):AI [.int n,LL bills]=some (v5 n bills):=QA n bills H.n1 H.n6 H.m8 H.wide H.small
theorem Nk:∀(R:aA) (c:aH) (k:Nat),St.mix R (sclR (-1) c) k = -(St.mix R c k)
 | [],c,k=>by simp[St.mix]
 | r::R,[],k=>by simp[St.mix,sclR]
 | r::R,x::c,k=>by
  have ih:=Nk R c k;show(-1*x)*St.at0 r k+St.mix R (sclR (-1) c) k = -(x*St.at0 r k+St.mix R c k);rw[ih,w00,Int.one_mul,w00];rfl'
theorem BD{n:Nat}{a b:aH}(h:a.length=n)(k:Nat):St.at0 (a++b) k=if k<n then St.at0 a k else St.at0 b (k-n):=St.M7 h k
theorem z0k{n:Nat}{bills U:aA}(t:St.Tag n bills U){u c:aH}(hu:u.length=n+bills.length)(hc:u.drop n=sclR (-1) c):Lat.Span (St.vecs U) (λk=>St.at0 u k)↔∀ k,k<n->St.at0 u k = -(St.mix bills c k):=by
 rw[t.span.iff,St.Cq t.wide hu,hc];constructor
 · intro h k hk;rw[h k hk,Nk]
 · intro h k hk;rw[h k hk,Nk]
theorem OS{n m:Nat}{back w:aH}(hb:back.length=n)(hw:w.length=n+m):(St.sub (back++n8 m) 1 w).drop n=sclR (-1) (w.drop n):=by
 have hv:(back++n8 m).length=n+m:=by rw[wD,hb,B3]
 refine St.ext0 (by rw[wZ,St.O0 (by rfl'),A3,wZ];rfl') λk=>?_;rw[St.A5,St.M6 (by rfl'),V4,St.A5,BD hb,if_neg (by rfl'),G6];rfl'
theorem Yz{n:Nat}{bills U:aA}(t:St.Tag n bills U){back:aH}(hb:back.length=n)(hz:(St.n4 (back++n8 bills.length) U).take n=n8 n):∀ k,k<n->St.at0 back k = -(St.mix bills ((St.n4 (back++n8 bills.length) U).drop n) k):=by
 have hv:(back++n8 bills.length).length=n+bills.length:=by rw[wD,hb,B3]
 have hw:=St.L3 t.asc hv;have sp:=St.J0 t.asc hv;generalize St.n4 (back++n8 bills.length) U=w at *;have hs:(St.sub (back++n8 bills.length) 1 w).length=n+bills.length:=by rw[St.O0 (by rfl')];exact hv
 have q:=(z0k t hs (OS hb hw)).mp (Lat.Span.congr (λk=>by rw[St.M6 (by rfl')];rfl') sp);intro k hk;have h1:=q k hk;have h2:St.at0 w k=0:=by
  have:=congrArg (λr=>St.at0 r k) hz;simp only[St.G5,if_pos hk,G6]at this;exact this
 rw[St.M6 (by rfl'),BD hb,if_pos hk,h2]at h1;rfl'
theorem z0l{n:Nat}{bills U:aA}(t:St.Tag n bills U){back:aH}(hb:back.length=n)(hs:Lat.Span (St.vecs bills) (λk => -(St.at0 back k))):(St.n4 (back++n8 bills.length) U).take n=n8 n:=by
 have hv:(back++n8 bills.length).length=n+bills.length:=by rw[wD,hb,B3]
 obtain⟨c,hc,ec⟩:=St.U0 hs;have hzl:(n8 n:aH).length=n:=B3;have hz:(n8 n++c).length=n+bills.length:=by rw[wD,hzl,hc]
 have hd:(St.sub (back++n8 bills.length) 1 (n8 n++c)).drop n=sclR (-1) c:=by
   rw[OS hb hz];congr 1;rw[uF,hzl];simp[uS (show(n8 n).length<=n by rw[B3];exact wB n)]
 have hl:(St.sub (back++n8 bills.length) 1 (n8 n++c)).length=n+bills.length:=by rw[St.O0 (by rfl')];exact hv
 have sp:=(z0k t hl hd).mpr (λk hk=>by
   have:=ec k;rw[St.M6 (by rfl'),BD hb,if_pos hk,BD hzl,if_pos hk,G6];rfl')
 have e:=St.Oy t.asc hv hz (Lat.Span.congr (λk=>by rw[St.M6 (by rfl')];rfl') sp);have z:=(St.Cm (n:=n+bills.length) (t:=n) (S:=U) (left:=n8 n++c) (λr hr=>(t.asc.mem hr).1) hz (λk hk=>by rw[BD hzl,if_pos hk,G6])).1;rw[e];refine St.ext0 (by rw[vA,St.L3 t.asc hz,B3];rfl') λk=>?_;rw[St.G5,G6];split
 · exact z k ‹_›
 · rfl
theorem OT{n s e:Nat}{bills U:aA}(n6:n<=6)(m8:bills.length<=8)(eu:B7 [v5 n bills]=some (LL U))(t:St.Tag n bills U)(sU:∀ r∈U,St.Lt (2 ^ e) r)(he:e<=8990)(one other:aH)(h1:one.length=n)(h2:other.length=n)(s1:St.Lt (2 ^ s) one)(s2:St.Lt (2 ^ s) other)(hs:s<=100000):
   Ds [v5 n bills,L one,L other]=some (if(St.n4 (sclR (-1) (subR other one)++n8 bills.length) U).take n=n8 n then L ((St.n4 (sclR (-1) (subR other one)++n8 bills.length) U).drop n) else .non):=by
 have hsb:(subR other one).length=n:=by rw[Om (by rfl')];exact h2
 have ap:=z0b n bills one other h1 h2;have sc:=G7 (subR other one) (-1) (λx _=>Bi (by decide));have hb:(sclR (-1) (subR other one)).length=n:=by rw[A3];exact hsb
 have sb:St.Lt (2 ^ (s+1)) (sclR (-1) (subR other one)):=λk=>by
   rw[V4,Ja (by rfl'),vQ];have:=s1 k;have:=s2 k;rfl'
 generalize sclR (-1) (subR other one)=back at *;have hv:(back++n8 bills.length).length=n+bills.length:=by rw[wD,hb,B3]
 have sv:St.Lt (2 ^ (s+1)) (back++n8 bills.length):=λk=>by
   rw[BD hb];split
   · exact sb k
   · rw[G6];exact w1g (by decide)
 have full:=t.full;obtain⟨o1,o2,o3,o4,_⟩:=z0i t.asc sU he hv sv (by rfl') (by rfl');have lw:=BB (L (back++n8 bills.length)) (back++n8 bills.length) U (.inl rfl) o3 o1 hv o2 o4;have no:=BA bills.length (by rfl');have nt:=Ys n bills (by rfl');have cat:u6 (L back) (L (n8 bills.length))=some (.nw,L (back++n8 bills.length)):=Cj back (n8 bills.length) (by rw[hb,B3];rfl');generalize St.n4 (back++n8 bills.length) U=w at *;have ct:=IK (w.map Dt.int) n;have cf:=AA (w.map Dt.int) n;have ne:=XZ (w.take n) (n8 n);have t1:newL ((w.map Dt.int).take n)=(.nw,L (w.take n)):=X8 w n;have t2:newL ((w.map Dt.int).drop n)=(.nw,L (w.drop n)):=G4 w n;unfold Ds GD;by_cases h:w.take n=n8 n
 · rw[h]at ne t1;simp[cOf,ap,sc,no,cat,eu,lw,nt,ct,cf,t1,t2,ne,h]
 · rw[decide_eq_false h]at ne;simp[cOf,ap,sc,no,cat,eu,lw,nt,ct,cf,t1,t2,ne,h]
theorem OU{n s e:Nat}{bills U:aA}{one other:aH}(n6:n<=6)(m8:bills.length<=8)(wd:Wide n bills)(lt:∀ r∈bills,∀ x∈r,x.natAbs<2 ^ 900)(eu:B7 [v5 n bills]=some (LL U))(t:St.Tag n bills U)(sU:∀ r∈U,St.Lt (2 ^ e) r)(he:e<=8990)(l1:one.length=n)(l2:other.length=n)(s1:St.Lt (2 ^ s) one)(s2:St.Lt (2 ^ s) other)(hs:s<=100000):
   (∃ us,U8 [v5 n bills,L one,L other]=some (L us)/\K6 [LL bills,L one,L other,L us]=some (.bl true)/\Lat.Span (St.vecs bills) (λk=>St.at0 other k-St.at0 one k)) \/
   (U8 [v5 n bills,L one,L other]=some .non/\¬Lat.Span (St.vecs bills) (λk=>St.at0 other k-St.at0 one k)):=by
 have se:=OT (s:=s) n6 m8 eu t sU he one other l1 l2 s1 s2 hs;have hsb:(subR other one).length=n:=by rw[Om (by rfl')];exact l2
 have hb:(sclR (-1) (subR other one)).length=n:=by rw[A3];exact hsb
 have hv:(sclR (-1) (subR other one)++n8 bills.length).length=n+bills.length:=by rw[wD,hb,B3]
 have hw:=St.L3 t.asc hv;have full:=t.full;have sv:St.Lt (2 ^ (s+1)) (sclR (-1) (subR other one)++n8 bills.length):=λk=>by
   rw[BD hb];split
   · rw[V4,Ja (by rfl'),vQ];have:=s1 k;have:=s2 k;rfl'
   · rw[G6];exact w1g (by decide)
 obtain⟨_,_,_,_,o5⟩:=z0i t.asc sU he hv sv (by rfl') (by rfl');have ld0:=λhz=>Yz t hb hz;have so:=λhs=>z0l t hb hs;have hk:∀ k,St.at0 (sclR (-1) (subR other one)) k = -(St.at0 other k-St.at0 one k):=λk=>by rw[V4,Ja (by rfl')];rfl'
 generalize sclR (-1) (subR other one)=back at *;generalize St.n4 (back++n8 bills.length) U=w at *;by_cases hz:w.take n=n8 n
 · rw[if_pos hz]at se;have lu:(w.drop n).length=bills.length:=by rw[wZ];rfl'
   have su:St.Lt (2 ^ (s+1+20*(e+1))) (w.drop n):=λk=>by rw[St.A5];exact o5 _
   have ld:=QE n bills one other (w.drop n) (by rfl') (by rfl') l1 wd lu.symm (λr hr c hc x hx=>N1 (Qw su c hc) (lt r hr x hx) (by rfl'));have hml:(mixR n bills (w.drop n)).length=n:=EB wd;have sp:∀ k,k<n->St.at0 other k-St.at0 one k=St.mix bills (w.drop n) k:=λk hkn=>by
     have:=ld0 hz k hkn;rw[hk]at this;rfl'
   have ho:addR one (mixR n bills (w.drop n))=other:=St.ext0 (by rw[X5 (by rfl')];rfl') λk=>by
     rw[HS (by rfl'),Jb wd];by_cases hkn:k<n
     · have:=sp k hkn;rfl'
     · rw[St.Bo wd k (by rfl'),St.u7 (by rfl'),St.u7 (by rfl')];rfl
   rw[decide_eq_true ho]at ld;refine .inl ⟨w.drop n,?_,ld,Lat.Span.congr (λk=>?_) (St.Qp (w.drop n))⟩
   · generalize w.drop n=us at *;unfold U8 Nb;simp[cOf,se]
   · by_cases hkn:k<n
     · exact(sp k hkn).symm
     · rw[St.Bo wd k (by rfl'),St.u7 (by rfl'),St.u7 (by rfl')];rfl
 · rw[if_neg hz]at se;refine .inr ⟨?_,λhs=>hz (so (Lat.Span.congr (λk=>by rw[hk];rfl') hs))⟩;unfold U8 Nb;simp[cOf,se]
theorem OV{n s:Nat}{bills:aA}{one other:aH}(H:Hall n bills)(l1:one.length=n)(l2:other.length=n)(s1:St.Lt (2 ^ s) one)(s2:St.Lt (2 ^ s) other)(hs:s<=100000):
  (∃ us,U8 [v5 n bills,L one,L other]=some (L us)/\K6 [LL bills,L one,L other,L us]=some (.bl true)/\Lat.Span (St.vecs bills) (λk=>St.at0 other k-St.at0 one k)) \/
  (U8 [v5 n bills,L one,L other]=some .non/\¬Lat.Span (St.vecs bills) (λk=>St.at0 other k-St.at0 one k)):=by
 obtain⟨U,eu,t,sU⟩:=Yy H;exact OU (e:=900) H.n6 H.m8 H.wide (λr hr x hx=>w0w (lt30 (H.small r hr x hx)) (uC (by decide) (by decide))) eu t sU (by decide) l1 l2 s1 s2 hs
theorem Nl(a p:Int)(hp:0<p):U6 [.int a,.int p]=some (.int (a.fmod p)):=by
 unfold U6 MX;simp[cOf,C7,show ¬p=0 by rfl',Lk hp]
def rstR(p:Int)(r:aH):aH:=r.map (·.fmod p)
theorem EV(p:Int)(r:aH):(rstR p r).length=r.length:=by simp[rstR]
theorem HX(p:Int)(r:aH)(k:Nat):St.at0 (rstR p r) k=St.at0 r k-p*(St.at0 r k).fdiv p:=by
 have e:St.at0 (rstR p r) k=(St.at0 r k).fmod p:=by
  unfold St.at0 rstR;by_cases h:k<r.length
  · simp[List.getD,wa h]
  · simp[List.getD,wR (vK h)]
 rw[e,Int.fmod_def]
theorem QG{p:Int}(hp:0<p){r:aH}:∀ x∈rstR p r,0<=x/\x<p:=λx hx=>by
 obtain⟨y,_,rfl⟩:=wj.mp hx;exact⟨vp y hp,vG y hp⟩
theorem EW(r:aH)(p:Int)(hp:0<p):T3 [L r,.int p]=some (L (rstR p r)):=by
 unfold T3 MZ;have q:j9 1 [1] (iSeq (fN 0)) (Tg.one 0) fYes (i6 true U6 (f9 (fN 0) (f9 (fN 1) fNil))) [.sh false (L r),.sh false (.int p)]=some (.nw,L (rstR p r)):=by
  rw[m6 (e:=Dt.int) (h:=λx => .int (x.fmod p)) (xs:=r) (by simp[cOf]) (λx _=>by
   have:=Nl x p hp;simp[cOf,this])]
  simp[rstR,L]
 simp[cOf,q]
theorem GL(A:aA)(m:Nat)(h:∀ r∈A,r.length=m)(hm:m<=1000):U2 [LL A,.int m]=some (LL (St.trn m A)):=by
 unfold U2 Ji
 have q:j9 1 [0] (m9 (fN 1)) (Tg.one 0) fYes (j9 1 [0] (iSeq (fN 1)) (Tg.one 0) fYes (fAt (fN 0) (fN 1))) [.sh false (LL A),.sh false (.int m)]=some (.nw,LL (St.trn m A)):=by
  rw[m6 (e:=λ(k:Nat) => .int (0+(k:Int))) (h:=λk=>L (A.map λr=>St.at0 r k)) (xs:=List.range m) (by simp[cOf,y13 m (by rfl'),v7]) (λk hk=>by
   have hk:=wM.mp hk;have i:j9 1 [0] (iSeq (fN 1)) (Tg.one 0) fYes (fAt (fN 0) (fN 1)) [.sh false (.int (k:Int)),.sh false (LL A)]=some (.nw,L (A.map λr=>St.at0 r k)):=by
    rw[m6 (e:=L) (h:=λr => .int (St.at0 r k)) (xs:=A) (by simp[cOf]) (λr hr=>by
     have e:atI (r.map Dt.int) ((k:Nat):Int)=some (.int (St.at0 r k)):=by
      rw[X7,L1 0 (by rw[h r hr];exact hk)];rfl
     simp[cOf,e])]
    simp[L]
   simp[cOf,i])]
  simp[St.trn,LL]
 simp[cOf,q]
abbrev SF:FS:=(sIf (fOr (u9 (fOp opNe (i6 true o0 (f9 (fN 2) fNil)) (fN 1))) (fTru (fBlt bAny (f9 (j9 1 [] (iSeq (fSl (fN 2) (J9 (fOp u6 (fN 1) (fC (.int 1)))) A6)) (Tg.one 0) fYes (fOp opNe (fN 0) (fC (.int 0)))) fNil)))) (sRet (fC (.bl false))) A9)
def DK(p:Nat×aH):Prop:=St.f8 p.2=p.1/\∀ x∈p.2.drop (p.1+1),x=0
theorem cut1{α:Type}(xs:List α)(j:Nat):cutD xs (some ((j:Int)+1)) none=xs.drop (j+1):=by
 have:=AA xs (j+1)
 rwa [show(((j+1:Nat)):Int)=(j:Int)+1 by rfl']at this
theorem Jt(c0 c1 c2:Cell)(p:Nat×aH):(¬DK p->(Tg.put (Tg.many [1,2]) (.tup [.int p.1,L p.2]) [c0,c1,c2]).bind SF=some (.rt .nw (.bl false)))/\(DK p->(Tg.put (Tg.many [1,2]) (.tup [.int p.1,L p.2]) [c0,c1,c2]).bind SF=some (.nx [c0,.sh false (.int p.1),.sh false (L p.2)])):=by
 obtain⟨j,r⟩:=p;have cm:j9 1 [] (iSeq (fSl (fN 2) (J9 (fOp u6 (fN 1) (fC (.int 1)))) A6)) (Tg.one 0) fYes (fOp opNe (fN 0) (fC (.int 0))) [c0,.sh false (.int j),.sh false (L r)]=some (.nw,.lst ((r.drop (j+1)).map λx => .bl (!decide (x=0)))):=by
   rw[m6 (e:=Dt.int) (h:=λx => .bl (!decide (x=0))) (xs:=r.drop (j+1)) (by
    simp[cOf,cut1,G4,List.map_drop]) (λx _=>by simp[cOf,D4])]
 have e:=Dg (λx:Int=>!decide (x=0)) (r.drop (j+1));have q:DK (j,r)↔St.f8 r=j/\((r.drop (j+1)).map λx=>!decide (x=0)).any id=false:=by
   unfold DK;refine and_congr_right λ_=>?_;rw[List.any_map,w0f];simp
 generalize (r.drop (j+1)).map (λx=>Dt.bl (!decide (x=0)))=D at cm e;generalize (r.drop (j+1)).map (λx=>!decide (x=0))=bs at e q;rw[q];by_cases hh:St.f8 r=j
 · cases hb:bs.any id with
   | true=>exact⟨λ_=>by simp[cOf,C5,D4,hh,cm,bAny,e,hb],λh=>by cases h.2⟩
   | false=>exact⟨λh=>absurd ⟨hh,rfl⟩ h,λ_=>by simp[cOf,C5,D4,hh,cm,bAny,e,hb]⟩
 · exact⟨λ_=>by simp[cOf,C5,D4,show ¬((St.f8 r:Int)=(j:Int)) by rfl'],λh=>absurd h.1 hh⟩
theorem CI(A:aA):((∀ p∈G8 0 A,DK p)->O9 [LL A]=some (.bl true))/\((∃ p∈G8 0 A,¬DK p)->O9 [LL A]=some (.bl false)):=by
 have key:=Ll (g:=Tg.many [1,2]) (F:=SF) (λp:Nat×aH => .tup [.int p.1,L p.2]) (λp=>¬DK p) (λj:Cell×Cell=>[.sh false (LL A),j.1,j.2]) .nw (.bl false) (G8 0 A) (.no,.no)
   (λp _ j hb=>(Jt _ _ _ p).1 hb) (λp _ j hb=>⟨(.sh false (.int p.1),.sh false (L p.2)),(Jt _ _ _ p).2 (Classical.not_not.mp hb)⟩)
 rw[←AM]at key;constructor
 · intro h;obtain⟨j,e⟩:=key.2 λp hp (k:¬DK p)=>k (h p hp);unfold O9 Bv;simp[cOf,e]
 · intro h;have e:=key.1 h;unfold O9 Bv;simp[cOf,e]
theorem Ju(A W:aA):St.pair A W=(A.zip W).map λp=>p.1++p.2:=by
 unfold St.pair
 induction A generalizing W with
 | nil=>rfl
 | cons a A ih =>
  cases W with
  | nil=>rfl
  | cons b W=>rw[List.zipWith_cons_cons,ur,wo,ih]
theorem Eh{n e eh B:Nat}(hn:n<=20)(he:eh<=8990)(hee:eh<=e)(he3:e<=33000)(A W:aA)(hlt:A.length=W.length)(hl:∀ x∈St.pair A W,x.length=n)(hb:∀ x∈St.pair A W,St.Lt B x)(hB:0<B)(hBe:B<=2 ^ e)(hbn:∀ k,k<=A.length->St.bnd k B+1<=2 ^ e)
  (hH:∀ k S,k<=A.length->St.Good n B ((St.pair A W).take k) S->∀ r∈S,St.hd r<2 ^ eh) (h20:A.length<=20):∃ S,v4 [LL A,LL W]=some (LL S)/\St.Good n B (St.pair A W) S:=by
 have hlz:(St.pair A W).length=A.length:=St.Q7 hlt;obtain⟨S,q,G⟩:=CG (n:=n) (e:=e) (eh:=eh) (B:=B) L (λr => .inl rfl) hn he hee he3 (St.pair A W) (LL (St.pair A W)) (.inl rfl) hl hb hB hBe (λk hk=>hbn k (by rfl')) (λk S hk=>hH k S (by rfl')) (by rfl');refine⟨S,?_,G⟩;unfold v4 L6;have z:j9 2 [] (iZip (fN 0) (fN 1)) (Tg.many [0,1]) fYes (fOp u6 (fBlt bLst (f9 (fN 0) fNil)) (fBlt bLst (f9 (fN 1) fNil))) [.sh false (LL A),.sh false (LL W)]=some (.nw,LL (St.pair A W)):=by
  rw[m6 (e:=λp:aH×aH => .tup [L p.1,L p.2]) (h:=λp=>L (p.1++p.2)) (xs:=A.zip W) (by simp[cOf,hlt,T9]) (λp hp=>by
   have h1:=hl (p.1++p.2) (by rw[Ju];exact wj.mpr ⟨p,hp,rfl⟩);have c:=Cj p.1 p.2 (by simp at h1;rfl');simp[cOf,c])]
  rw[Ju];simp[LL]
 simp[cOf,z,q]
theorem W7:∀{j:Nat} {A:aA} {p:Nat×aH},p∈G8 j A↔∃ i,i<A.length/\p=(j+i,A.getD i [])
 | j,[],p=>by simp[G8]
 | j,r::A,p=>by
  rw[G8,ww,W7];constructor
  · rintro(rfl|⟨i,hi,rfl⟩)
    · exact⟨0,by simp,rfl⟩
    · exact⟨i+1,by simpa using hi,by rw[show j+1+i=j+(i+1) by rfl'];rfl⟩
  · rintro⟨i,hi,rfl⟩;cases i with
    | zero=>exact .inl rfl
    | succ i=>exact .inr ⟨i,by simpa using hi,by rw[show j+1+i=j+(i+1) by rfl'];rfl⟩
theorem GM{r:Nat}{A:aA}(q:St.Sq r A):(∀ p∈G8 0 A,DK p)↔St.Clean r A:=by
 constructor
 · intro h i hi k hn;have:=(h (0+i,A.getD i []) (W7.mpr ⟨i,by rw[q.len];exact hi,rfl⟩)).2;rcases uq hn with x|x
   · exact q.low x
   · by_cases hk:k<r
     · have hl:(A.getD i []).length=r:=q.rows _ (St.E8 (by rw[q.len];exact hi));refine this (St.ent A i k) (ud (i:=k-(0+i+1)) ?_);show((A.getD i []).drop (0+i+1))[k-(0+i+1)]?=_;rw[uN,show 0+i+1+(k-(0+i+1))=k by rfl',wa (show k<(A.getD i []).length by rw[hl];exact hk)];have e:St.ent A i k=(A.getD i []).getD k 0:=rfl;rw[e];simp[List.getD,wa (show k<((A[i]?).getD []).length by have:=hl;simp only[List.getD]at this;rw[this];exact hk)]
     · exact q.far (by rfl')
 · intro c p hp;obtain⟨i,hi,rfl⟩:=W7.mp hp;rw[q.len]at hi;refine⟨by show St.f8 (A.getD i [])=0+i;rw[q.head hi];rfl',λx hx=>?_⟩;obtain⟨j,hj,rfl⟩:=wH hx;rw[List.getElem_drop];have:=c i hi (0+i+1+j) (by rfl');unfold St.ent St.at0 at this;rw[wZ]at hj;have hj:0+i+1+j<(A.getD i []).length:=by have hj:j<(A.getD i []).length-(0+i+1):=hj;rfl'
   rw[List.getD,wa hj]at this;exact this
theorem bnd6(k:Nat)(h:k<=6):St.bnd k (2 ^ 5461)+1<=2 ^ 32900:=by
 have h1:=St.Cn (r:=k) (s:=6) (B:=2 ^ 5461) h (wJ _) (by decide);have h2:St.bnd 6 (2 ^ 5461)<=2 ^ 32826:=by
  unfold St.bnd;have a:2*6*2 ^ 5461<=2 ^ 5465:=by
   rw[show(5465:Nat)=4+5461 from rfl,vt];exact wI _ (by decide)
  have b:=uI a 6;rw[←Nat.pow_mul]at b;have c:(2:Nat) ^ 32826=2 ^ (5465*6)*2 ^ (6*6):=by rw[←vt]
  rw[c];exact wI _ b
 have h3:(2:Nat) ^ 32826<2 ^ 32900:=uC (by decide) (by decide);rfl'
structure Mb(r n:Nat)(w:Int):Prop where
 r6:r<=6
 n6:n<=6
 wp:0<w
 wb:w<2 ^ 5400
theorem Mb.lt{r n:Nat}{w x:Int}(b:Mb r n w)(h0:0<=x)(h1:x<=w):x.natAbs<2 ^ 5461:=by
 have:=b.wb;have h:(2:Nat) ^ 5400<=2 ^ 5461:=wq (by decide) (by decide);have c:((2 ^ 5400:Nat):Int)=(2:Int) ^ 5400:=by norm_cast
 rfl'
theorem Mb.hd{r n:Nat}{w x:Int}(b:Mb r n w)(h:x∣w):x<2 ^ 5400:=by
 have:=vR b.wp h;have:=b.wb;rfl'
abbrev GC:FT:=fNot (fTru (i6 true O9 (f9 (fN 4) fNil)))
abbrev GF:FS:=(sSeq (sSet [] 6 (i6 true U2 (f9 (i6 true P4 (f9 (i6 true U2 (f9 (fN 4) (f9 (fN 3) fNil))) fNil)) (f9 (fN 3) fNil))))
 (sSeq (sSet [] 7 (i6 true v4 (f9 (fN 6) (f9 (fN 5) fNil))))
 (sSeq (sSet [] 4 (j9 1 [3] (iSeq (fN 7)) (Tg.one 0) fYes (fSl (fN 0) A6 (J9 (fN 1)))))
 (sSet [] 5 (j9 1 [3,2] (iSeq (fN 7)) (Tg.one 0) fYes (i6 true T3 (f9 (fSl (fN 0) (J9 (fN 1)) A6) (f9 (fN 2) fNil))))))))
structure Mw(r n:Nat)(w:Int)(G K A W:aA):Prop where
 m:St.Mst r n w G K A W
 wb:∀ x∈W,St.Lt (2 ^ 5461) x
theorem QH{r n:Nat}{w:Int}{G K A W:aA}(b:Mb r n w)(I:Mw r n w G K A W)(c0 c1 c6 c7:Cell)(f2 f3 f4 f5:Bool):
   ∃ T A' W' f4' f5' c6' c7',GF [c0,c1,.sh f2 (.int w),.sh f3 (.int r),.sh f4 (LL A),.sh f5 (LL W),c6,c7]=some (.nx [c0,c1,.sh f2 (.int w),.sh f3 (.int r),.sh f4' (LL A'),.sh f5' (LL W'),c6',c7'])/\Mw r n w G K A' W'/\St.Sq r T/\Lat.SameSpan (St.vecs T) (St.vecs (St.trn r A))/\Lat.SameSpan (St.vecs A') (St.vecs (St.trn r T)):=by
 have r6:=b.r6;have n6:=b.n6;have q:=I.m.sq;have wC:=I.m.whole;have eA:=λi k=>q.entryC wC b.wp i k;have tl:(St.trn r A).length=r:=St.C8 _ _;have tr:∀ x∈St.trn r A,x.length=r:=λx hx=>by rw[St.V3 hx,q.len]
 have B1:=q.below wC;have mem_lt:∀{P:aA} {E:Nat},(∀ i k,(St.ent P i k).natAbs<E)->∀ x∈P,St.Lt E x:=λ{P E} h x hx k=>by
   obtain⟨i,hi,rfl⟩:=wH hx;have:=h i k;unfold St.ent at this
   rwa [show P.getD i []=P[i] by simp[List.getD,wa hi]]at this
 have t1:=GL A r q.rows (by rfl');obtain⟨T,e1,G1⟩:=CG (n:=r) (e:=32900) (eh:=5400) (B:=2 ^ 5461) L (λr => .inl rfl) (by rfl') (by decide) (by decide) (by decide) (St.trn r A) (LL (St.trn r A)) (.inl rfl) tr
   (mem_lt λi k=>by rw[St.J2 q.rows];exact b.lt (eA k i).1 (eA k i).2) (wJ _) (wq (by decide) (by decide)) (λk hk=>bnd6 k (by rfl'))
   (λk S hk G x hx=>b.hd (B1.heads (by rfl') G.asc G.span hx).2) (by rfl')
 obtain⟨l1,_⟩:=G1.sq B1;have sT:St.Sq r T:=⟨G1.asc,G1.form,l1⟩;have wT:St.Q6 r w T:=λi hi=>G1.span.iff.mpr (wC i hi);have eT:=λi k=>sT.entry wT b.wp i k;have t2:=GL T r sT.rows (by rfl');have wT2:=sT.comm wT;have B2:=sT.below_pair wT2 I.m.wl I.m.wr;obtain⟨S,e2,G2⟩:=Eh (n:=r+n) (e:=32900) (eh:=5400) (B:=2 ^ 5461) (by rfl') (by decide) (by decide) (by decide) (St.trn r T) W (by rw[St.C8,I.m.wl]) B2.rows
   (λx hx k=>by
     obtain⟨i,hi,rfl⟩:=wH hx;have hi':i<r:=by rw[B2.len]at hi;exact hi
     have e:St.at0 ((St.pair (St.trn r T) W)[i]) k=St.ent (St.pair (St.trn r T) W) i k:=by unfold St.ent;simp[List.getD,wa hi]
     rw[e,St.Cr (n:=n) (r:=r) (λx hx=>by rw[St.V3 hx,sT.len]) (by rw[St.C8];exact hi') (by rw[I.m.wl];exact hi')];split
     · rw[St.J2 sT.rows];exact b.lt (eT k i).1 (eT k i).2
     · exact I.wb _ (St.E8 (by rw[I.m.wl];exact hi')) _)
   (wJ _) (wq (by decide) (by decide)) (λk hk=>bnd6 k (by rw[St.C8]at hk;rfl'))
   (λk S hk G x hx=>b.hd (B2.heads (by rw[St.C8]at hk;rfl') G.asc G.span hx).2) (by rw[St.C8];rfl')
 obtain⟨l2,h2⟩:=G2.sq B2;have M':=I.m.step sT G1.span G2.asc G2.form l2 h2 G2.span;have hs:=St.Dj (r:=r) G2.span;rw[St.Dk (λx hx=>by rw[St.V3 hx,sT.len]) (by rw[St.C8,I.m.wl])]at hs;have len:∀ x∈S,x.length=r+n:=λx hx=>(G2.asc.mem hx).1;have k3:∀ d0 d1:Cell,j9 1 [3] (iSeq (fN 7)) (Tg.one 0) fYes (fSl (fN 0) A6 (J9 (fN 1))) [d0,d1,.sh f2 (.int w),.sh f3 (.int r),.sh f4 (LL A),.sh f5 (LL W),.sh true (LL (St.trn r T)),.sh true (LL S)]=some (.nw,LL (S.map (·.take r))):=λd0 d1=>by
   rw[m6 (e:=L) (h:=λx=>L (x.take r)) (xs:=S) (by simp[cOf]) (λx hx=>by simp[cOf,IK,X8])];simp[LL]
 have k4:∀ d0 d1:Cell,j9 1 [3,2] (iSeq (fN 7)) (Tg.one 0) fYes (i6 true T3 (f9 (fSl (fN 0) (J9 (fN 1)) A6) (f9 (fN 2) fNil))) [d0,d1,.sh f2 (.int w),.sh f3 (.int r),.sh true (LL (S.map (·.take r))),.sh f5 (LL W),.sh true (LL (St.trn r T)),.sh true (LL S)]=some (.nw,LL (S.map λx=>rstR w (x.drop r))):=λd0 d1=>by
   rw[m6 (e:=L) (h:=λx=>L (rstR w (x.drop r))) (xs:=S) (by simp[cOf]) (λx hx=>by
     have:=EW (x.drop r) w b.wp;simp[cOf,AA,G4,this])]
   simp[LL]
 refine⟨T,S.map (·.take r),S.map λx=>rstR w (x.drop r),true,true,.sh true (LL (St.trn r T)),.sh true (LL S),?_,⟨?_,?_⟩,sT,G1.span,hs⟩
 · refine run (ρ':=[c0,c1,.sh f2 (.int w),.sh f3 (.int r),.sh f4 (LL A),.sh f5 (LL W),.sh true (LL (St.trn r T)),c7]) ?_ (run (ρ':=[c0,c1,.sh f2 (.int w),.sh f3 (.int r),.sh f4 (LL A),.sh f5 (LL W),.sh true (LL (St.trn r T)),.sh true (LL S)]) ?_ (run (ρ':=[c0,c1,.sh f2 (.int w),.sh f3 (.int r),.sh true (LL (S.map (·.take r))),.sh f5 (LL W),.sh true (LL (St.trn r T)),.sh true (LL S)]) ?_ ?_))
   · simp[cOf,t1,e1,t2]
   · simp[cOf,e2]
   · simp[cOf,k3]
   · simp[cOf,k4]
 · refine M'.rest (W':=S.map λx=>rstR w (x.drop r)) (by rw[wn,l2]) (λx hx=>?_) (λi k=>(St.ent (S.map (·.drop r)) i k).fdiv w) λi k hi=>?_
   · obtain⟨y,hy,rfl⟩:=wj.mp hx;rw[EV,wZ,len y hy];rfl'
   · have hi:i<S.length:=by rfl'
     have x1:St.ent (S.map λx=>rstR w (x.drop r)) i k=St.at0 (rstR w ((S.getD i []).drop r)) k:=by unfold St.ent;simp[List.getD,wa hi]
     have x2:St.ent (S.map (·.drop r)) i k=St.at0 ((S.getD i []).drop r) k:=by unfold St.ent;simp[List.getD,wa hi]
     rw[x1,x2,HX]
 · intro x hx k;obtain⟨y,hy,rfl⟩:=wj.mp hx;by_cases hk:k<(rstR w (y.drop r)).length
   · have:=QG b.wp (r:=y.drop r) (St.at0 (rstR w (y.drop r)) k) (by unfold St.at0;rw[List.getD,wa hk];exact ve _);exact b.lt this.1 (by rfl')
   · rw[St.u7 (by rfl')];exact wJ _
theorem QI{r n:Nat}{w:Int}{G K:List (List Int)}(b:Mb r n w)(c0 c1:Cell)(f2 f3:Bool):∀(d t:Nat),t+d=r→∀(a:Nat) (A W:List (List Int)) (f4 f5:Bool) (c6 c7:Cell),Mw r n w G K A W→St.Clean t A→(t<r→St.ent A t t=(a:Int)) →
  ∃ k A' W' f4' f5' c6' c7',E4 GC GF k [c0,c1,.sh f2 (.int w),.sh f3 (.int r),.sh f4 (LL A),.sh f5 (LL W),c6,c7]=some (.nx [c0,c1,.sh f2 (.int w),.sh f3 (.int r),.sh f4' (LL A'),.sh f5' (LL W'),c6',c7'])/\Mw r n w G K A' W'/\St.Clean r A':=by
 intro d
 induction d with
 | zero =>
  intro t ht a A W f4 f5 c6 c7 I c _;have hc:St.Clean r A:=by rw[←ht];exact c
  have:=(CI A).1 ((GM I.m.sq).mpr hc);refine⟨1,A,W,f4,f5,c6,c7,?_,I,hc⟩;have hc:GC [c0,c1,.sh f2 (.int w),.sh f3 (.int r),.sh f4 (LL A),.sh f5 (LL W),c6,c7]=some false:=by simp[cOf,this]
  rw[E4,hc];rfl
 | succ d ihd =>
  intro t ht a
  induction a using ut with
  | ind a iha =>
   intro A W f4 f5 c6 c7 I c ha;have htr:t<r:=by rfl'
   by_cases hc:St.Clean r A
   · have:=(CI A).1 ((GM I.m.sq).mpr hc);refine⟨1,A,W,f4,f5,c6,c7,?_,I,hc⟩;have hc:GC [c0,c1,.sh f2 (.int w),.sh f3 (.int r),.sh f4 (LL A),.sh f5 (LL W),c6,c7]=some false:=by simp[cOf,this]
     rw[E4,hc];rfl
   · have no:∃ p∈G8 0 A,¬DK p:=Classical.byContradiction fun k=>hc ((GM I.m.sq).mp fun p hp=>Classical.byContradiction fun q=>k ⟨p,hp,q⟩)
     have:=(CI A).2 no;have hl:GC [c0,c1,.sh f2 (.int w),.sh f3 (.int r),.sh f4 (LL A),.sh f5 (LL W),c6,c7]=some true:=by simp[cOf,this]
     obtain⟨T,A',W',f4',f5',c6',c7',e,I',sT,s1,s2⟩:=QH b I c0 c1 c6 c7 f2 f3 f4 f5;obtain⟨cl,alt⟩:=St.OA I.m.sq sT I'.m.sq s1 s2 c htr
     have fin:(∃ k A'' W'' f4'' f5'' c6'' c7'',E4 GC GF k [c0,c1,.sh f2 (.int w),.sh f3 (.int r),.sh f4' (LL A'),.sh f5' (LL W'),c6',c7']=some (.nx [c0,c1,.sh f2 (.int w),.sh f3 (.int r),.sh f4'' (LL A''),.sh f5'' (LL W''),c6'',c7''])∧Mw r n w G K A'' W''∧St.Clean r A''):=by
      rcases alt with h|h
      · by_cases ht2:t+1<r
        · have p:=I'.m.sq.pos ht2;exact ihd (t+1) (by rfl') (St.ent A' (t+1) (t+1)).toNat A' W' f4' f5' c6' c7' I' h λ_=>by rfl'
        · exact ihd (t+1) (by rfl') 0 A' W' f4' f5' c6' c7' I' h λh=>absurd h ht2
      · have p:=I'.m.sq.pos htr;have ha:=ha htr;exact iha (St.ent A' t t).toNat (by rfl') A' W' f4' f5' c6' c7' I' cl λ_=>by rfl'
     obtain⟨k,A2,W2,f42,f52,c62,c72,e2,I2,h2⟩:=fin;refine⟨k+1,A2,W2,f42,f52,c62,c72,?_,I2,h2⟩;rw[E4,hl,v6,if_pos rfl,e];exact e2
def MD(M:St.Meas):Dt := .lst (M.map λx => .tup [L x.1,.int x.2])
def N8(A W:aA):St.Meas:=(G8 0 W).map λp=>(p.2,St.ent A p.1 p.1)
theorem GN:∀(j:Nat) (A:aA),(G8 j A).length=A.length
 | j,[]=>rfl
 | j,r::A=>by rw[G8,wu,wu,GN]
theorem GO:∀(j:Nat) (A:aA) (i:Nat),i<A.length->(G8 j A)[i]?=some (j+i,A.getD i [])
 | j,r::A,0,_=>rfl
 | j,r::A,i+1,h=>by
  rw[G8,List.getElem?_cons_succ,GO (j+1) A i (by simpa using h),show j+1+i=j+(i+1) by rfl'];rfl
theorem Jv(A W:aA){i:Nat}(h:i<W.length):St.mw (N8 A W) i=W.getD i []/\St.mp (N8 A W) i=St.ent A i i:=by
 unfold St.mw St.mp N8;rw[List.getD,wv,GO 0 W i h,ul];exact⟨rfl,rfl⟩
theorem z0m{r:aH}{k:Nat}(h:k<r.length):atI (r.map Dt.int) (k:Int)=some (.int (St.at0 r k)):=by
 rw[X7,L1 0 h];rfl
theorem QJ{r n:Nat}{w:Int}{G K A W:aA}(b:Mb r n w)(I:Mw r n w G K A W):∃ A' W',Dr [LL A,LL W,.int w]=some (MD (N8 A' W'))/\Mw r n w G K A' W'/\St.Clean r A':=by
 have al:=I.m.sq.len;obtain⟨k,A',W',f4,f5,c6,c7,e,I',hc⟩:=QI b (.sh false (LL A)) (.sh false (LL W)) false true r 0 (by rfl') (St.ent A 0 0).toNat A W false false .no .no I (λi hi=>by rfl') λh=>by have:=I.m.sq.pos h;rfl'
 have e:=Dd e;refine⟨A',W',?_,I',hc⟩;have cm:∀ d0 d1 d2 d3 d6 d7:Cell,∃ f,j9 2 [4] (X3 (fN 5)) (Tg.many [0,1]) fYes (fTup (f9 (fN 1) (f9 (fAt (fAt (fN 2) (fN 0)) (fN 0)) fNil))) [d0,d1,d2,d3,.sh f4 (LL A'),.sh f5 (LL W'),d6,d7]=some (f,MD (N8 A' W')):=λd0 d1 d2 d3 d6 d7=>by
  have key:=II (nt:=2) (js:=[4]) (Fi:=X3 (fN 5)) (g:=Tg.many [0,1]) (Fe:=fTup (f9 (fN 1) (f9 (fAt (fAt (fN 2) (fN 0)) (fN 0)) fNil))) (ρ:=[d0,d1,d2,d3,.sh f4 (LL A'),.sh f5 (LL W'),d6,d7]) (e:=λp:Nat×aH => .tup [.int p.1,L p.2]) (h:=λp=>(.sh,.tup [L p.2,.int (St.ent A' p.1 p.1)])) (xs:=G8 0 W') (by simp[cOf,AM]) (λp hp=>by
   obtain⟨i,hi,rfl⟩:=W7.mp hp;rw[I'.m.wl]at hi;rw[ul];have h1:=getD_L A' (k:=i) (by rw[I'.m.sq.len];rfl');have h2:=z0m (r:=A'.getD i []) (k:=i) (by rw[I'.m.sq.rows _ (St.E8 (by rw[I'.m.sq.len];rfl'))];rfl');have x:St.ent A' i i=St.at0 (A'.getD i []) i:=rfl;rw[x];generalize A'.getD i []=ra at h1 h2 ⊢;generalize W'.getD i []=rb;simp[cOf,h1,h2];rfl)
  have x:MD (N8 A' W') = .lst ((G8 0 W').map λp => .tup [L p.2,.int (St.ent A' p.1 p.1)]):=by
   unfold MD N8;rw[wS];rfl
  rw[x];exact⟨_,key⟩
 obtain⟨f,cm⟩:=cm (.sh false (LL A)) (.sh false (LL W)) (.sh false (.int w)) (.sh true (.int r)) c6 c7;have q:AJ [.sh false (LL A),.sh false (LL W),.sh false (.int w),.no,.no,.no,.no,.no]=some (.rt f (MD (N8 A' W'))):=by
  unfold AJ;refine run (ρ':=[.sh false (LL A),.sh false (LL W),.sh false (.int w),.sh true (.int r),.no,.no,.no,.no]) (by simp[cOf,al]) (run (ρ':=[.sh false (LL A),.sh false (LL W),.sh false (.int w),.sh true (.int r),.sh false (LL A),.no,.no,.no]) (by simp[cOf];rfl) (run (ρ':=[.sh false (LL A),.sh false (LL W),.sh false (.int w),.sh true (.int r),.sh false (LL A),.sh false (LL W),.no,.no]) (by simp[cOf];rfl) (run e ?_)));unfold sRet;rw[cm];rfl
 unfold Dr cOf;rw[if_pos (show[LL A,LL W,Dt.int w].length=3 from rfl)];show(AJ [.sh false (LL A),.sh false (LL W),.sh false (.int w),.no,.no,.no,.no,.no]).bind _=_;rw[q];rfl
theorem YA{n:Nat}(w1 w2:aH)(a b:Int)(h1:w1.length=n)(h2:w2.length=n)(ha:0<a)(hb:0<b)(ba:a<2 ^ 5400)(bb:b<2 ^ 5400)(l1:St.Lt (2 ^ 5461) w1)(l2:St.Lt (2 ^ 5461) w2):
  ∃ g x y a' b' lc,Y2 [.tup [L w1,.int a],.tup [L w2,.int b]]=some (.tup [.tup [L (rstR g (addR w1 w2)),.int g],.tup [L (rstR lc (addR (sclR (-y*b') w1) (sclR (x*a') w2))),.int lc]])/\St.Bz g x y a b a' b'/\lc=a'*b/\0<lc/\g∣a:=by
 have cast:((2 ^ 5400:Nat):Int)=(2:Int) ^ 5400:=by norm_cast
 have a1:a.natAbs<2 ^ 5400:=by rfl'
 have a2:b.natAbs<2 ^ 5400:=by rfl'
 obtain⟨x,y,eb,exy,bx,bY⟩:=Lo a b 5400 (by decide) a1 a2;have g0:0<uu a b:=w07 _ (by rfl');have d1:(uu a b:Int)∣a:=w1c _ _;have d2:(uu a b:Int)∣b:=w0Z _ _;generalize eg:(uu a b:Int)=g at *;have g0:0<g:=by rfl'
 have z:=St.Bz.of (f1:=x) (f2:=y) g0 d1 d2 (by rw[wO x,wO y];exact exy);have p2:2 ^ 5403=8*2 ^ 5400:=by rw[show(5403:Nat)=3+5400 from rfl,vt]
 have x1:x.natAbs<2 ^ 5403:=by rfl'
 have y1:y.natAbs<2 ^ 5403:=by rfl'
 have gle:g<=a:=vR ha d1;have g9:g<2 ^ 9000:=by
  have h9:(2:Nat) ^ 5400<=2 ^ 9000:=wq (by decide) (by decide);have:((2 ^ 9000:Nat):Int)=(2:Int) ^ 9000:=by norm_cast
  rfl'
 have dv1:P8 a g=true:=AL g0 g9;have dv2:P8 b g=true:=AL g0 g9;have f1:a.fdiv g=a / g:=w0b _ (by rfl');have f2:b.fdiv g=b / g:=w0b _ (by rfl');have k1:(a / g).natAbs<2 ^ 5400:=by rw[←f1];have:=St.AB a g0;rfl'
 have k2:(b / g).natAbs<2 ^ 5400:=by rw[←f2];have:=St.AB b g0;rfl'
 have ap:0<a / g:=Int.ediv_pos_of_pos_of_dvd ha (by rfl') d1;have lp:0<a / g*b:=w1h ap hb;refine⟨g,x,y,a / g,b / g,a / g*b,?_,z,rfl,lp,d1⟩;have m1:D9 (a / g) b=true:=X6 k1 a2 (by decide);have m2:D9 (-y) (b / g)=true:=X6 (by rw[uV];exact y1) k2 (by decide);have m3:D9 x (a / g)=true:=X6 x1 k1 (by decide);have s1:(-y*(b / g)).natAbs<2 ^ (5403+5400):=by
  rw[vd,vt,uV];exact uj y1 k2
 have s2:(x*(a / g)).natAbs<2 ^ (5403+5400):=by
  rw[vd,vt];exact uj x1 k1
 have e1:=G7 w1 (-y*(b / g)) (Du s1 l1 (by decide));have e2:=G7 w2 (x*(a / g)) (Du s2 l2 (by decide));have e3:=ES (sclR (-y*(b / g)) w1) (sclR (x*(a / g)) w2) (by rw[A3,A3,h1,h2]);have e4:=ES w1 w2 (by rw[h1,h2]);have e5:=EW (addR w1 w2) g g0;have e6:=EW (addR (sclR (-y*(b / g)) w1) (sclR (x*(a / g)) w2)) (a / g*b) lp;have eb:Cy [.int a,.int b]=some (.tup [.int g,.int x,.int y]):=eb;generalize addR (sclR (-y*(b / g)) w1) (sclR (x*(a / g)) w2)=u at *;generalize sclR (-y*(b / g)) w1=u1 at *;generalize sclR (x*(a / g)) w2=u2 at *;generalize addR w1 w2=u3 at *;have q:CB [.sh false (.tup [L w1,.int a]),.sh false (.tup [L w2,.int b]),.no,.no,.no,.no,.no]=some (.rt .nw (.tup [.tup [L (rstR g u3),.int g],.tup [L (rstR (a / g*b) u),.int (a / g*b)]])):=by
  unfold CB;refine run (by simp[cOf,eb];rfl) ?_;refine run (by simp[cOf];rfl) ?_;refine run (by simp[cOf,dv1,f1,m1];rfl) ?_;refine run (by simp[cOf,e4];rfl) ?_;refine run (by simp[cOf,dv1,dv2,f1,f2,m2,m3,e1,e2,e3];rfl) ?_;simp[cOf,e5,e6]
 unfold Y2 cOf;rw[if_pos (show[Dt.tup [L w1,.int a],.tup [L w2,.int b]].length=2 from rfl)];show(CB [.sh false (.tup [L w1,.int a]),.sh false (.tup [L w2,.int b]),.no,.no,.no,.no,.no]).bind _=_;rw[q];rfl
theorem CJ{γ:Type}{g:Tg}{F:FS}(R:γ->Rho)(P:Nat->γ->Prop):∀(n k:Nat) (j:γ),P k j->(∀ i j,k<=i->i<k+n->P i j->∃ j',(g.put (.int (i:Int)) (R j)).bind F=some (.nx (R j'))/\P (i+1) j')->∃ j',forF g F (Q0 (k:Int) n) (R j)=some (.nx (R j'))/\P (k+n) j'
 | 0,k,j,p,_=>⟨j,rfl,p⟩
 | n+1,k,j,p,h=>by
  obtain⟨j1,h1,p1⟩:=h k j (wB _) (by rfl') p;obtain⟨j2,h2,p2⟩:=CJ R P n (k+1) j1 p1 λi j hi hl=>h i j (by rfl') (by rfl');refine⟨j2,?_,by rw[show k+(n+1)=k+1+n by rfl'];exact p2⟩;rw[v7,w0A,wo,F9,show Dt.int ((k:Int)+((0:Nat):Int)) = .int (k:Int) by simp,h1,wS];rw[←h2,v7];show forF g F _ (R j1)=forF g F _ (R j1);congr 1;apply uJ;intro i _;show Dt.int ((k:Int)+((i+1:Nat):Int))=Dt.int (((k+1:Nat):Int)+(i:Int));congr 1;rfl'
structure Cs(n r:Nat)(w:Int)(G:aA)(K0:St.Meas)(t s:Nat)(M:St.Meas):Prop where
 ms:St.Ms n G (M++K0)
 ch:St.Chn w t s M
 len:M.length=r
 lt:∀ x∈M,St.Lt (2 ^ 5461) x.1
theorem QK{p:Int}(hp:0<p)(hb:p<2 ^ 5400)(r:aH):St.Lt (2 ^ 5461) (rstR p r):=λk=>by
 have c:((2 ^ 5400:Nat):Int)=(2:Int) ^ 5400:=by norm_cast
 have h:(2:Nat) ^ 5400<=2 ^ 5461:=wq (by decide) (by decide);by_cases hk:k<(rstR p r).length
 · have:=QG hp (r:=r) (St.at0 (rstR p r) k) (by unfold St.at0;rw[List.getD,wa hk];exact ve _);rfl'
 · rw[St.u7 (by rfl')];exact wJ _
abbrev KF:FS:=(sSeq (T6 4 (i6 true Y2 (f9 (fAt (fN 1) (fN 2)) (f9 (fAt (fN 1) (fN 3)) fNil))))
 (sSeq (sPut 1 (fN 2) (fAt (fN 4) (fC (.int 0))))
 (sPut 1 (fN 3) (fAt (fN 4) (fC (.int 1))))))
abbrev tD(x:aH×Int):Dt := .tup [L x.1,.int x.2]
theorem YB{n r:Nat}{w:Int}{G:aA}{K0:St.Meas}{t s:Nat}{M:St.Meas}(b:Mb r n w)(I:Cs n r w G K0 t s M)(hts:t<s)(hs:s<r)(c0 c4:Cell)(f:Bool):
   ∃ M' c4' f',KF [c0,.ow f (M.map tD),.sh false (.int t),.sh false (.int s),c4]=some (.nx [c0,.ow f' (M'.map tD),.sh false (.int t),.sh false (.int s),c4'])/\Cs n r w G K0 t (s+1) M':=by
 have lM:=I.len;have get:∀ i,i<r->M[i]?=some (St.mw M i,St.mp M i):=λi hi=>by
   unfold St.mw St.mp;rw[List.getD,wa (show i<M.length by rfl')];rfl
 have mem:∀ i,i<r->(St.mw M i,St.mp M i)∈M:=λi hi=>ud (get i hi);have rows:∀ i,i<r->(St.mw M i).length=n:=λi hi=>I.ms.rows _ (wx.mpr (.inl (mem i hi)));have bd:∀ i,i<r->St.mp M i<2 ^ 5400:=λi hi=>b.hd (I.ch.whole i (by rfl'));obtain⟨g,x,y,a',b',lc,e,z,hlc,lp,gd⟩:=YA (n:=n) (St.mw M t) (St.mw M s) (St.mp M t) (St.mp M s) (rows t (by rfl')) (rows s hs) (I.ch.pos t (by rfl')) (I.ch.pos s (by rfl')) (bd t (by rfl')) (bd s hs) (I.lt _ (mem t (by rfl'))) (I.lt _ (mem s hs));have ch':=I.ch.link (u:=rstR g (addR (St.mw M t) (St.mw M s))) (l:=rstR lc (addR (sclR (-y*b') (St.mw M t)) (sclR (x*a') (St.mw M s)))) hts (by rfl') z hlc;have lu:(rstR g (addR (St.mw M t) (St.mw M s))).length=n:=by rw[EV,X5 (by rw[rows t (by rfl'),rows s hs]),rows t (by rfl')]
 have ll:(rstR lc (addR (sclR (-y*b') (St.mw M t)) (sclR (x*a') (St.mw M s)))).length=n:=by rw[EV,X5 (by rw[A3,A3,rows t (by rfl'),rows s hs]),A3,rows t (by rfl')]
 have ms':=St.z42 (u:=rstR g (addR (St.mw M t) (St.mw M s))) (l:=rstR lc (addR (sclR (-y*b') (St.mw M t)) (sclR (x*a') (St.mw M s)))) I.ms hlc (by rfl') (by rfl') (by rfl') z lu ll
   (λk=>by rw[HX,HS (by rw[rows t (by rfl'),rows s hs])]) (λk=>by rw[HX,HS (by rw[A3,A3,rows t (by rfl'),rows s hs]),V4,V4,w00])
 have gb:g<2 ^ 5400:=by have:=vR (I.ch.pos t (by rfl')) gd;have:=bd t (by rfl');rfl'
 have lb:lc<2 ^ 5400:=b.hd (by
   have:=ch'.whole s (by simp;rfl');unfold St.mp at this;rw[St.IX (by rfl') (by rfl') (by rfl'),if_pos rfl]at this;exact this)
 have u2:=QK z.gp gb (addR (St.mw M t) (St.mw M s));have l2:=QK lp lb (addR (sclR (-y*b') (St.mw M t)) (sclR (x*a') (St.mw M s)));generalize rstR g (addR (St.mw M t) (St.mw M s))=u at *;generalize rstR lc (addR (sclR (-y*b') (St.mw M t)) (sclR (x*a') (St.mw M s)))=l at *;have at1:atI (M.map tD) (t:Int)=some (tD (St.mw M t,St.mp M t)):=S9 (by rw[wv,get t (by rfl')];rfl);have at2:atI (M.map tD) (s:Int)=some (tD (St.mw M s,St.mp M s)):=S9 (by rw[wv,get s hs];rfl);have mlen:(M.map tD).length=r:=by rw[wn,lM]
 have st:((M.set t (u,g)).set s (l,lc)).map tD=((M.map tD).set t (tD (u,g))).set s (tD (l,lc)):=by rw[w12,w12]
 generalize M.map tD=D at *;have x1:ixN D.length (t:Int)=some t:=MS (by rfl');have x2:ixN D.length (s:Int)=some s:=MS (by rfl');have e1:T6 4 (i6 true Y2 (f9 (fAt (fN 1) (fN 2)) (f9 (fAt (fN 1) (fN 3)) fNil))) [c0,.ow f D,.sh false (.int t),.sh false (.int s),c4]=some (.nx [c0,.ow f D,.sh false (.int t),.sh false (.int s),.sh true (.tup [tD (u,g),tD (l,lc)])]):=by
   have e:Y2 [tD (St.mw M t,St.mp M t),tD (St.mw M s,St.mp M s)]=some (.tup [tD (u,g),tD (l,lc)]):=e;generalize tD (St.mw M t,St.mp M t)=y1 at *;generalize tD (St.mw M s,St.mp M s)=y2 at *;have sn:∀(f:Fl) (d:Dt),(nrm f d).2=d:=λ_ _=>rfl;simp[cOf,at1,at2,sn,e]
 have e2:∃ f1,sPut 1 (fN 2) (fAt (fN 4) (fC (.int 0))) [c0,.ow f D,.sh false (.int t),.sh false (.int s),.sh true (.tup [tD (u,g),tD (l,lc)])]=some (.nx [c0,.ow f1 (D.set t (tD (u,g))),.sh false (.int t),.sh false (.int s),.sh true (.tup [tD (u,g),tD (l,lc)])]):=by
   generalize tD (u,g)=y1;generalize tD (l,lc)=y2;have sn:∀(f:Fl) (d:Dt),(nrm f d).2=d:=λ_ _=>rfl;refine⟨f&&(nrm (if y1.flat=true/\y2.flat=true then Fl.nw else Fl.fr).item y1).1.isFr,?_⟩;simp[cOf,x1,sn]
 obtain⟨f1,e2⟩:=e2;have e3:∃ f2,sPut 1 (fN 3) (fAt (fN 4) (fC (.int 1))) [c0,.ow f1 (D.set t (tD (u,g))),.sh false (.int t),.sh false (.int s),.sh true (.tup [tD (u,g),tD (l,lc)])]=some (.nx [c0,.ow f2 ((D.set t (tD (u,g))).set s (tD (l,lc))),.sh false (.int t),.sh false (.int s),.sh true (.tup [tD (u,g),tD (l,lc)])]):=by
   have x2:ixN (D.set t (tD (u,g))).length (s:Int)=some s:=by rw[vq];exact x2
   generalize D.set t (tD (u,g))=E at *;generalize tD (u,g)=y1;generalize tD (l,lc)=y2;have sn:∀(f:Fl) (d:Dt),(nrm f d).2=d:=λ_ _=>rfl;refine⟨f1&&(nrm (if y1.flat=true/\y2.flat=true then Fl.nw else Fl.fr).item y2).1.isFr,?_⟩;simp[cOf,x2,sn]
 obtain⟨f2,e3⟩:=e3;refine⟨(M.set t (u,g)).set s (l,lc),.sh true (.tup [tD (u,g),tD (l,lc)]),f2,run e1 (run e2 (by rw[st];exact e3)),⟨ms',ch',by simp[lM],λx hx=>?_⟩⟩;rcases uc hx with hx|rfl
 · rcases uc hx with hx|rfl
   · exact I.lt x hx
   · exact u2
 · exact l2
theorem QL{n r:Nat}{w:Int}{G:aA}{K0:St.Meas}{t:Nat}{M:St.Meas}(b:Mb r n w)(I:Cs n r w G K0 t (t+1) M)(ht:t<r)(c0 c3 c4:Cell)(f:Bool):
  ∃ M' c3' c4' f',forF (Tg.one 3) KF (Q0 ((t+1:Nat):Int) (r-(t+1))) [c0,.ow f (M.map tD),.sh false (.int t),c3,c4]=some (.nx [c0,.ow f' (M'.map tD),.sh false (.int t),c3',c4'])/\Cs n r w G K0 (t+1) (t+2) M':=by
 obtain⟨j,e,p⟩:=CJ (g:=Tg.one 3) (F:=KF) (λj:St.Meas×Cell×Cell×Bool=>[c0,.ow j.2.2.2 (j.1.map tD),.sh false (.int t),j.2.1,j.2.2.1]) (λs j=>Cs n r w G K0 t s j.1) (r-(t+1)) (t+1) (M,c3,c4,f) I λs j h1 h2 p=>by
  obtain⟨M',c4',f',e,p'⟩:=YB b p (by rfl') (by rfl') c0 j.2.2.1 j.2.2.2;exact⟨(M',.sh false (.int s),c4',f'),e,p'⟩
 exact⟨j.1,j.2.1,j.2.2.1,j.2.2.2,e,⟨p.ms,p.ch.next (by rw[p.len];rfl'),p.len,p.lt⟩⟩
theorem ch_own(M:St.Meas):∃ f,sOwn 1 (fBlt bLst (f9 (fN 0) fNil)) [.sh false (MD M),.no,.no,.no,.no]=some (.nx [.sh false (MD M),.ow f (M.map tD),.no,.no,.no]):=by
 cases M with
 | nil=>exact⟨true,by simp[cOf,MD]⟩
 | cons x M=>exact⟨false,by simp[cOf,MD,newL,lfl,Dt.flat,J8]⟩
abbrev RA:FI:=m9 (fBlt bLen (f9 (fN 1) fNil))
abbrev RB:FI:=HN (fOp u6 (fN 2) (fC (.int 1))) (fBlt bLen (f9 (fN 1) fNil))
theorem ch_ra(c0:Cell)(D:List Dt)(f:Bool)(h:D.length<=1000):RA [c0,.ow f D,.no,.no,.no]=some (Q0 0 D.length):=by
 have ok2:V1 (D.length:Int)=true:=Bl (by rfl');cases f<;>simp[cOf,ok2]
theorem ch_rb(c0 d3 d4:Cell)(D:List Dt)(f:Bool)(t:Nat)(h:D.length<=1000)(ht:t<=1000):RB [c0,.ow f D,.sh false (.int t),d3,d4]=some (Q0 ((t+1:Nat):Int) (D.length-(t+1))):=by
 have ok1:V1 ((t:Int)+1)=true:=by have:=Bl (n:=t+1) (by rfl');rwa [show((t+1:Nat):Int)=(t:Int)+1 by rfl']at this
 have ok2:V1 (D.length:Int)=true:=Bl (by rfl');have rg:((D.length:Int)-((t:Int)+1)).toNat=D.length-(t+1):=by rfl'
 have h1:fOp u6 (fN 2) (fC (.int 1)) [c0,.ow f D,.sh false (.int t),d3,d4]=some (.nw,.int ((t:Int)+1)):=by simp[cOf]
 have h2:fBlt bLen (f9 (fN 1) fNil) [c0,.ow f D,.sh false (.int t),d3,d4]=some (.nw,.int (D.length:Int)):=by cases f<;>simp[cOf]
 rw[show((t+1:Nat):Int)=(t:Int)+1 by rfl'];unfold RB HN;rw[h1,v6,h2,v6];have i1:intD ((Fl.nw,Dt.int ((t:Int)+1)):Dv).2=some ((t:Int)+1):=rfl;have i2:intD ((Fl.nw,Dt.int (D.length:Int)):Dv).2=some (D.length:Int):=rfl;rw[i1,v6,i2,v6,ok1,ok2,rg];rfl
theorem z47{n r:Nat}{w:Int}{G:aA}{K0:St.Meas}{M:St.Meas}{t:Nat}(b:Mb r n w)(I:Cs n r w G K0 t (t+1) M)(ht:t<r)(c0 d2 d3 d4:Cell)(f:Bool):
  ∃ M' c3' c4' f',(Tg.put (Tg.one 2) (.int t) [c0,.ow f (M.map tD),d2,d3,d4]).bind (Hk RB (Tg.one 3) KF)=some (.nx [c0,.ow f' (M'.map tD),.sh false (.int t),c3',c4'])/\Cs n r w G K0 (t+1) (t+2) M':=by
 have r6:=b.r6;obtain⟨M',c3',c4',f',e,p'⟩:=QL b I ht c0 d3 d4 f;refine⟨M',c3',c4',f',?_,p'⟩;have pl:(M.map tD).length=r:=by rw[wn,I.len]
 have it:=ch_rb c0 d3 d4 (M.map tD) f t (by rfl') (by rfl');rw[pl]at it;have pt:Tg.put (Tg.one 2) (.int t) [c0,.ow f (M.map tD),d2,d3,d4]=some [c0,.ow f (M.map tD),.sh false (.int t),d3,d4]:=rfl;rw[pt,v6,ZM,it,v6];exact e
theorem z48{n r:Nat}{w:Int}{G:aA}{K0:St.Meas}{M:St.Meas}(b:Mb r n w)(I:Cs n r w G K0 0 1 M)(c0:Cell)(f:Bool):∃ M' f' c2 c3 c4,Hk RA (Tg.one 2) (Hk RB (Tg.one 3) KF) [c0,.ow f (M.map tD),.no,.no,.no]=some (.nx [c0,.ow f' (M'.map tD),c2,c3,c4])/\Cs n r w G K0 r (r+1) M':=by
 have r6:=b.r6;generalize hF:Hk RB (Tg.one 3) KF=F;obtain⟨j,e,p⟩:=CJ (g:=Tg.one 2) (F:=F) (λj:St.Meas×Cell×Cell×Cell×Bool=>[c0,.ow j.2.2.2.2 (j.1.map tD),j.2.1,j.2.2.1,j.2.2.2.1]) (λs j=>Cs n r w G K0 s (s+1) j.1) r 0 (M,.no,.no,.no,f) I λt j h1 h2 p=>by
  obtain⟨M',c3',c4',f',e,p'⟩:=z47 b p (by rfl') c0 j.2.1 j.2.2.1 j.2.2.2.1 j.2.2.2.2;rw[hF]at e;exact⟨(M',.sh false (.int t),c3',c4',f'),e,p'⟩
 have pl:(M.map tD).length=r:=by rw[wn,I.len]
 have it:=ch_ra c0 (M.map tD) f (by rfl');rw[pl]at it;refine⟨j.1,j.2.2.2.2,j.2.1,j.2.2.1,j.2.2.2.1,?_,by rw[ul]at p;exact p⟩;rw[ZM,it,v6];exact e
theorem z49(M1:St.Meas)(pos:∀ x∈M1,0<x.2)(c0 c2 c3 c4:Cell)(f1:Bool):j9 2 [] (iSeq (fN 1)) (Tg.many [0,1]) fYes (fTup (f9 (i6 true T3 (f9 (fN 0) (f9 (fN 1) fNil))) (f9 (fN 1) fNil))) [c0,.ow f1 (M1.map tD),c2,c3,c4]=some (.nw,MD (M1.map λx=>(rstR x.2 x.1,x.2))):=by
 rw[m6 (e:=tD) (h:=λx=>tD (rstR x.2 x.1,x.2)) (xs:=M1) (by cases f1<;>simp[cOf]) (λx hx=>by
  have:=EW x.1 x.2 (pos x hx);simp[cOf,tD,this])]
 unfold MD;rw[wS];rfl
theorem z4a{n r:Nat}{w:Int}{G:aA}{K0 M1:St.Meas}(b:Mb r n w)(p:Cs n r w G K0 r (r+1) M1)(pos:∀ x∈M1,0<x.2):Cs n r w G K0 r (r+1) (M1.map λx=>(rstR x.2 x.1,x.2)):=by
 have get:∀ i,i<r->M1[i]?=some (St.mw M1 i,St.mp M1 i):=λi hi=>by
   have hi:i<M1.length:=by rw[p.len];exact hi
   unfold St.mw St.mp;rw[List.getD,wa hi];rfl
 have gm:∀ i,i<r->St.mp (M1.map λx=>(rstR x.2 x.1,x.2)) i=St.mp M1 i/\St.mw (M1.map λx=>(rstR x.2 x.1,x.2)) i=rstR (St.mp M1 i) (St.mw M1 i):=λi hi=>by
   have e:=get i hi;unfold St.mp St.mw at e ⊢;rw[List.getD,wv,e];exact⟨rfl,rfl⟩
 have lm:(M1.map λx=>(rstR x.2 x.1,x.2)).length=r:=by rw[wn,p.len]
 have pl:=p.len;refine⟨p.ms.rest (λx hx=>?_) (by rw[wD,wD,lm,pl]) (λi hi=>?_) (λi hi v=>?_),⟨λi hi=>?_,λi hi=>?_,λi j h1 h2 h3=>?_,λj h1 h2 h3=>?_⟩,lm,λx hx=>?_⟩
 · rcases wx.mp hx with hx|hx
   · obtain⟨y,hy,rfl⟩:=wj.mp hx;show(rstR y.2 y.1).length=n;rw[EV];exact p.ms.rows y (wx.mpr (.inl hy))
   · exact p.ms.rows x (wx.mpr (.inr hx))
 · by_cases h:i<r
   · rw[(St.U5 (by rfl')).1,(St.U5 (by rfl')).1,(gm i h).1]
   · unfold St.mp;rw[St.Z5,St.Z5,lm,pl,if_neg h,if_neg h]
 · by_cases h:i<r
   · rw[(St.U5 (by rfl')).1,(St.U5 (by rfl')).2,(St.U5 (by rfl')).2,(gm i h).2];exact St.z41 (q:=λk=>(St.at0 (St.mw M1 i) k).fdiv (St.mp M1 i)) (λk=>HX _ _ k) v
   · unfold St.mw;rw[St.Z5,St.Z5,lm,pl,if_neg h,if_neg h];exact⟨0,by rfl'⟩
 · rw[(gm i (by rfl')).1];exact p.ch.pos i (by rfl')
 · rw[(gm i (by rfl')).1];exact p.ch.whole i (by rfl')
 · rw[(gm i (by rfl')).1,(gm j (by rfl')).1];exact p.ch.all i j h1 h2 (by rfl')
 · rfl'
 · obtain⟨y,hy,rfl⟩:=wj.mp hx;obtain⟨i,hi,rfl⟩:=wH hy;have w1:=p.ch.whole i hi;unfold St.mp at w1;rw[List.getD,wa hi]at w1;exact QK (pos _ hy) (b.hd w1) _
theorem QM{n r:Nat}{w:Int}{G:aA}{K0:St.Meas}{M:St.Meas}(b:Mb r n w)(I:Cs n r w G K0 0 1 M):
   ∃ M',W6 [MD M]=some (MD M')/\Cs n r w G K0 r (r+1) M'/\∀ x∈M',∀ y∈x.1,0<=y/\y<x.2:=by
 obtain⟨f,own⟩:=ch_own M;obtain⟨M1,f1,c2,c3,c4,e1,p⟩:=z48 b I (.sh false (MD M)) f;have pos:∀ x∈M1,0<x.2:=λx hx=>by
   obtain⟨i,hi,rfl⟩:=wH hx;have:=p.ch.pos i hi;unfold St.mp at this;rw[List.getD,wa hi]at this;exact this
 have cm:=z49 M1 pos (.sh false (MD M)) c2 c3 c4 f1;have cr:=z4a b p pos;refine⟨M1.map λx=>(rstR x.2 x.1,x.2),?_,cr,λx hx=>?_⟩
 · generalize M1.map (λx=>(rstR x.2 x.1,x.2))=M2 at *;generalize M1.map tD=D1 at *;generalize M.map tD=D at *;have q:AK [.sh false (MD M),.no,.no,.no,.no]=some (.rt .nw (MD M2)):=by
    unfold AK;refine run own (run e1 ?_);unfold sRet;rw[cm];rfl
   unfold W6 cOf;rw[if_pos (show[MD M].length=1 from rfl)];show(AK [.sh false (MD M),.no,.no,.no,.no]).bind _=_;rw[q];rfl
 · obtain⟨y,hy,rfl⟩:=wj.mp hx;exact QG (pos y hy)
theorem Nm(k:Nat)(h:k<=6):St.bnd k (2 ^ 900)+1<=2 ^ 5461:=by
 have h1:=St.Cn (r:=k) (s:=6) (B:=2 ^ 900) h (wJ _) (by decide);have h2:St.bnd 6 (2 ^ 900)<=2 ^ 5460:=by
  unfold St.bnd;have a:2*6*2 ^ 900<=2 ^ 904:=by
   rw[show(904:Nat)=4+900 from rfl,vt];exact wI _ (by decide)
  have b:=uI a 6;rw[←Nat.pow_mul]at b;have c:(2:Nat) ^ 5460=2 ^ (904*6)*2 ^ (6*6):=by rw[←vt]
  rw[c];exact wI _ b
 have h3:(2:Nat) ^ 5460<2 ^ 5461:=uC (by decide) (by decide);rfl'
def WM(xs:aH):Int:=xs.foldl (λt x=>t*x) 1
theorem QN{e:Nat}(xs:aH)(h:∀ x∈xs,x.natAbs<2 ^ e)(he:e*(xs.length+1)<=1000000):Dp [L xs]=some (.int (WM xs)):=by
 have key:∀(ys:aH) (t:Int) (k:Nat) (c0 c2:Cell) (f:Bool),(∀ x∈ys,x.natAbs<2 ^ e)->t.natAbs<2 ^ k->k+e*(ys.length+1)<=2000000->∃ f' c2',forF (Tg.one 2) (sSet [] 1 (fOp D6 (fN 1) (fN 2))) (ys.map Dt.int) [c0,.sh f (.int t),c2]=some (.nx [c0,.sh f' (.int (ys.foldl (λt x=>t*x) t)),c2']):=by
  intro ys
  induction ys with
  | nil=>intro t k c0 c2 f _ _ _;exact⟨f,c2,rfl⟩
  | cons y ys ih =>
   intro t k c0 c2 f hy ht hk;have e1:e*(ys.length+1+1)=e*(ys.length+1)+e:=Nat.mul_succ _ _;rw[wu,e1]at hk;have m:D9 t y=true:=X6 ht (hy y wf) (by rfl');have b:(t*y).natAbs<2 ^ (k+e):=by rw[vd,vt];exact uj ht (hy y wf)
   obtain⟨f',c2',q⟩:=ih (t*y) (k+e) c0 (.sh false (.int y)) true (λx hx=>hy x (wc _ hx)) b (by rfl');refine⟨f',c2',?_⟩;rw[wo,F9,w0D,←q];have s:(Tg.put (Tg.one 2) (.int y) [c0,.sh f (.int t),c2]).bind (sSet [] 1 (fOp D6 (fN 1) (fN 2)))=some (.nx [c0,.sh true (.int (t*y)),.sh false (.int y)]):=by
    simp[cOf,m]
   rw[s];rfl
 obtain⟨f',c2',q⟩:=key xs 1 1 (.sh false (L xs)) .no true h (by decide) (by rfl');unfold Dp Gy;have q:forF (Tg.one 2) (sSet [] 1 (fOp D6 (fN 1) (fN 2))) (xs.map Dt.int) [.sh false (L xs),.sh true (.int 1),.no]=some (.nx [.sh false (L xs),.sh f' (.int (WM xs)),c2']):=q;simp[cOf,q]
theorem z0n(A:aA)(r:Nat):WM ((List.range r).map λi=>St.ent A i i)=St.pr A r:=by
 unfold WM
 induction r with
 | zero=>rfl
 | succ r ih=>rw[w04,vm,List.foldl_append,ih];rfl
theorem Jw(P:aA){n:Nat}(h:P.length=n):St.pair P (St.units n)=St.N6 P:=by
 have e0:=Nj P.length 0 P;rw[←uA]at e0;rw[Ju];unfold St.units;rw[←h];exact e0
structure Mz(n r:Nat)(G:aA)(M:St.Meas):Prop where
 ms:St.Ms n G M
 len:M.length=n
 rn:r<=n
 pos:∀ i,i<r->0<St.mp M i
 dvd:∀ i j,i<j->j<r->St.mp M i∣St.mp M j
 zero:∀ i,r<=i->i<n->St.mp M i=0
 big:∀ x∈M,x.2<2 ^ 5400/\∀ y∈x.1,y.natAbs<2 ^ 5461
theorem Nn{n g:Nat}{bills G:aA}(n6:n<=6)(hg:g<=899)(es:Dq [v5 n bills]=some (LL G))(Ga:St.Asc n 0 G)(gg:∀ x∈G,St.Lt (2 ^ g) x):∃ M,D3 [v5 n bills]=some (MD M)/\Mz n G.length G M/\∀ x∈M,(0<x.2->x.2<=2 ^ (g*G.length)/\∀ y∈x.1,0<=y/\y<x.2)/\(x.2=0->∀ y∈x.1,y.natAbs<St.bnd n (2 ^ (g+1))+1):=by
 have g899:∀ x∈G,St.Lt (2 ^ 899) x:=λx hx=>(gg x hx).mono (wq (by decide) hg);have gl:=St.Z4 Ga (wU _);generalize hr:G.length=r at *;have rn:r<=n:=by rfl'
 have gr:∀ x∈G,x.length=n:=λx hx=>(Ga.mem hx).1;have t1:=GL G n gr (by rfl');have pl:(St.trn n G).length=n:=St.C8 _ _;have tr:∀ x∈St.trn n G,x.length=r:=λx hx=>by rw[St.V3 hx,hr]
 have pltq:∀ q:Nat,(∀ x∈G,St.Lt (2 ^ q) x)->∀ x∈St.pair (St.trn n G) (St.units n),St.Lt (2 ^ (q+1)) x:=λq hq x hx k=>by
   obtain⟨i,hi,rfl⟩:=wH hx;have hi':i<n:=by rw[St.Q7 (by rw[pl,St.D7]),pl]at hi;exact hi
   have e:St.at0 ((St.pair (St.trn n G) (St.units n))[i]) k=St.ent (St.pair (St.trn n G) (St.units n)) i k:=by unfold St.ent;simp[List.getD,wa hi]
   rw[e,St.Cr (n:=n) (r:=r) tr (by rw[pl];exact hi') (by rw[St.D7];exact hi')];have p2:(1:Nat)<2 ^ (q+1):=w0T (by rfl');split
   · rw[St.J2 gr];by_cases hi:k<G.length
     · have:=hq _ (St.E8 hi) i;have:(St.ent G k i).natAbs<2 ^ q:=this;rw[vQ];rfl'
     · rw[St.C0 (by rfl')];simp only[Int.natAbs_zero];rfl'
   · rw[St.Gq hi'];split<;>simp<;>rfl'
 have plt:∀ x∈St.pair (St.trn n G) (St.units n),St.Lt (2 ^ 900) x:=pltq 899 g899;obtain⟨S,e2,G2⟩:=Eh (n:=r+n) (e:=5461) (eh:=5461) (B:=2 ^ 900) (by rfl') (by decide) (wB _) (by decide) (St.trn n G) (St.units n) (by rw[pl,St.D7]) (St.Li tr (St.Lj n)) plt (wJ _) (wq (by decide) (by decide)) (λk hk=>Nm k (by rfl'))
   (λk S hk G0 x hx=>by
     have q:=G0.small (λr hr=>plt r (ug hr)) (wJ _) x hx (St.f8 x);have l:=G0.len;have b:=Nm S.length (by rw[vA]at l;rfl');have q:(St.hd x).natAbs<St.bnd S.length (2 ^ 900)+1:=q;have c2:((2 ^ 5461:Nat):Int)=(2:Int) ^ 5461:=by norm_cast
     rfl') (by rfl')
 have sl:S.length=n:=by
   have:=G2.full (by rw[Jw _ pl];exact St.IT tr);rw[this,St.Q7 (by rw[pl,St.D7]),pl]
 have s5461:∀ x∈S,St.Lt (2 ^ 5461) x:=λx hx=>(G2.small plt (wJ _) x hx).mono (Nm _ (by rfl'));obtain⟨W,tk,eW,bl,m0,te,_⟩:=St.start Ga hr G2.asc G2.form sl G2.span;have sq:=m0.sq;have wp:0<St.pr (St.tops r S) r:=St.Qr λi hi=>sq.pos hi;have hs:=St.Dj (r:=r) G2.span;rw[St.Dk tr (by rw[pl,St.D7])]at hs;have sb:∀ e,(∀ x∈G,St.hd x<2 ^ e)->St.pr (St.tops r S) r<=2 ^ (e*r):=λe he=>St.OH Ga hr sq (λx hx=>by
   have:=hs.iff.mpr (St.n9 hx);refine Lat.Span.trans (λv hv=>?_) this;obtain⟨y,hy,rfl⟩:=wj.mp hv;obtain⟨z,hz,rfl⟩:=wj.mp hy;exact Lat.Span.congr (λk=>by simp only[St.vec];rw[St.G5]) (St.Go (n:=r) G2.asc (St.n9 hz))) he
 have wb:=sb 899 (z0h Ga g899);have wg:=sb g (z0h Ga gg);have b:Mb r n (St.pr (St.tops r S) r):=⟨by rfl',n6,wp,by
   have h1:(2:Nat) ^ (899*r)<=2 ^ 5394:=wq (by decide) (by rfl');have h2:(2:Nat) ^ 5394<2 ^ 5400:=uC (by decide) (by decide);have c1:((2 ^ (899*r):Nat):Int)=(2:Int) ^ (899*r):=by norm_cast
   have c2:((2 ^ 5400:Nat):Int)=(2:Int) ^ 5400:=by norm_cast
   rfl'⟩
 generalize hw:St.pr (St.tops r S) r=w at *;have wl:=m0.wl;have mw0:Mw r n w G (St.bots r S) (St.tops r S) W:=⟨m0,λx hx k=>by
   rw[eW]at hx;obtain⟨y,hy,rfl⟩:=wj.mp hx;rw[St.A5];exact s5461 y (ug hy) _⟩
 obtain⟨A',W',e3,I',hc⟩:=QJ b mw0;have br:∀ x∈St.bots r S,x.length=n:=λx hx=>by
   unfold St.bots at hx;obtain⟨y,hy,rfl⟩:=wj.mp hx;rw[wZ,(G2.asc.mem (wP.mp hy).1).1];rfl'
 have dl:(N8 A' W').length=r:=by unfold N8;rw[wn,GN,I'.m.wl]
 have kl:((St.bots r S).map λx=>(x,(0:Int))).length=n-r:=by rw[wn,bl]
 have k0:∀ j,j<n-r->((St.bots r S).map λx=>(x,(0:Int))).getD j ([],0)=((St.bots r S).getD j [],0):=λj hj=>by
   simp[List.getD,wv,wa (show j<(St.bots r S).length by rfl')]
 have ms0:St.Ms n G (N8 A' W'++(St.bots r S).map λx=>(x,(0:Int))):=I'.m.meas hc br _ (by rw[wD,dl,kl,bl])
   (λi hi=>by
     have:=Jv A' W' (i:=i) (by rw[I'.m.wl];exact hi);rw[(St.U5 (by rfl')).1,(St.U5 (by rfl')).2];exact this)
   (λj hj=>by
     unfold St.mw St.mp;rw[St.Z5,dl,if_neg (by rfl'),show r+j-r=j by rfl',k0 j (by rfl')];exact⟨rfl,rfl⟩)
 have cs:Cs n r w G ((St.bots r S).map λx=>(x,(0:Int))) 0 1 (N8 A' W'):=⟨ms0,St.Chn.first (λi hi=>by
     rw[(Jv A' W' (i:=i) (by rw[I'.m.wl];rfl')).2];exact I'.m.sq.pos (by rfl')) (λi hi=>by
     rw[(Jv A' W' (i:=i) (by rw[I'.m.wl];rfl')).2];exact I'.m.sq.whole_col I'.m.whole (by rfl')),dl,λx hx=>by
     unfold N8 at hx;obtain⟨q,hq,rfl⟩:=wj.mp hx;obtain⟨i,hi,rfl⟩:=W7.mp hq;exact I'.wb _ (St.E8 hi)⟩
 obtain⟨M',e4,c',lt'⟩:=QM b cs;have e5:=Z8 S r;refine⟨M'++(St.bots r S).map λx=>(x,(0:Int)),?_,⟨c'.ms,by rw[wD,c'.len,kl];rfl',rn,λi hi=>?_,λi j h1 h2=>?_,λi h1 h2=>?_,λx hx=>?_⟩,λx hx=>?_⟩
 · have u1:∀ d0 d2 d3 d4 d5 d6 d7:Cell,∀ f1,j9 1 [1] (m9 (fN 1)) (Tg.one 0) fYes (i6 true J3 (f9 (fN 1) (f9 (fN 0) fNil))) [d0,.sh f1 (.int n),d2,d3,d4,d5,d6,d7]=some (.nw,LL (St.units n)):=λd0 d2 d3 d4 d5 d6 d7 f1=>by
     rw[m6 (e:=λ(k:Nat) => .int (0+(k:Int))) (h:=λk=>L (St.o7 n k)) (xs:=List.range n) (by simp[cOf,y13 n (by rfl'),v7]) (λj _=>by
       have u:=CH n j (by rfl');simp[cOf,u])]
     simp[LL,St.units]
   have ntk:newL ((S.map L).take r)=newL ((S.take r).map L):=by rw[w0n]
   have c1:∀ d0 d1 d2 d5 d6 d7:Cell,∀ f3 f4,j9 1 [3] (iSeq (fSl (fN 4) A6 (J9 (fN 3)))) (Tg.one 0) fYes (fSl (fN 0) A6 (J9 (fN 1))) [d0,d1,d2,.sh f3 (.int r),.sh f4 (LL S),d5,d6,d7]=some (.nw,LL (St.tops r S)):=λd0 d1 d2 d5 d6 d7 f3 f4=>by
     rw[te,m6 (e:=L) (h:=λx=>L (x.take r)) (xs:=S.take r) (by cases f4<;>simp[cOf,IK,newL,w0n]) (λx hx=>by simp[cOf,IK,X8])];unfold LL;rw[wS];rfl
   have c2:∀ d0 d1 d2 d5 d6 d7:Cell,∀ f3 f4,j9 1 [3] (iSeq (fSl (fN 4) A6 (J9 (fN 3)))) (Tg.one 0) fYes (fSl (fN 0) (J9 (fN 1)) A6) [d0,d1,d2,.sh f3 (.int r),.sh f4 (LL S),d5,d6,d7]=some (.nw,LL W):=λd0 d1 d2 d5 d6 d7 f3 f4=>by
     rw[eW,m6 (e:=L) (h:=λx=>L (x.drop r)) (xs:=S.take r) (by cases f4<;>simp[cOf,IK,newL,w0n]) (λx hx=>by simp[cOf,AA,G4])];unfold LL;rw[wS];rfl
   have tl:=sq.len;have c3:∀ d0 d1 d2 d3 d4 d6 d7:Cell,∀ f5,j9 2 [] (X3 (fN 5)) (Tg.many [0,1]) fYes (fAt (fN 1) (fN 0)) [d0,d1,d2,d3,d4,.sh f5 (LL (St.tops r S)),d6,d7]=some (.nw,L ((List.range r).map λi=>St.ent (St.tops r S) i i)):=λd0 d1 d2 d3 d4 d6 d7 f5=>by
     rw[m6 (e:=λp:Nat×aH => .tup [.int p.1,L p.2]) (h:=λp => .int (St.ent (St.tops r S) p.1 p.1)) (xs:=G8 0 (St.tops r S)) (by simp[cOf,AM]) (λp hp=>by
       obtain⟨i,hi,rfl⟩:=W7.mp hp;rw[ul];have h2:=z0m (r:=(St.tops r S).getD i []) (k:=i) (by rw[sq.rows _ (St.E8 hi)];rfl');have x:St.ent (St.tops r S) i i=St.at0 ((St.tops r S).getD i []) i:=rfl;rw[x];generalize (St.tops r S).getD i []=ra at h2 ⊢;simp[cOf,h2])]
     have x:(G8 0 (St.tops r S)).map (λp=>Dt.int (St.ent (St.tops r S) p.1 p.1))=((List.range r).map λi=>St.ent (St.tops r S) i i).map Dt.int:=by
       refine List.ext_getElem? λi=>?_;rw[wv,wv,wv];by_cases hi:i<r
       · rw[GO 0 _ i (by rfl'),vU hi,ul];rfl
       · rw[wR (by rw[GN];rfl'),wR (by simp;rfl')];rfl
     rw[x]
   have pe:=QN (e:=5400) ((List.range r).map λi=>St.ent (St.tops r S) i i) (λx hx=>by
     obtain⟨i,hi,rfl⟩:=wj.mp hx;have hi:=wM.mp hi;have h1:=b.hd (sq.whole_col m0.whole hi);have h2:=sq.pos hi;have c2:((2 ^ 5400:Nat):Int)=(2:Int) ^ 5400:=by norm_cast
     rfl') (by rw[wn,vv];have:=b.r6;rfl')
   rw[z0n,hw]at pe;have k1:∀ d0 d1 d2 d5 d6 d7:Cell,∀ f3 f4,∃ fl,j9 1 [] (iSeq (i6 true A4 (f9 (fN 4) (f9 (fN 3) fNil)))) (Tg.one 0) fYes (fTup (f9 (fN 0) (f9 (fC (.int 0)) fNil))) [d0,d1,d2,.sh f3 (.int r),.sh f4 (LL S),d5,d6,d7]=some (fl,MD ((St.bots r S).map λx=>(x,(0:Int)))):=λd0 d1 d2 d5 d6 d7 f3 f4=>by
     have key:=II (nt:=1) (js:=[]) (Fi:=iSeq (i6 true A4 (f9 (fN 4) (f9 (fN 3) fNil)))) (g:=Tg.one 0) (Fe:=fTup (f9 (fN 0) (f9 (fC (.int 0)) fNil))) (ρ:=[d0,d1,d2,.sh f3 (.int r),.sh f4 (LL S),d5,d6,d7]) (e:=L) (h:=λx=>(.sh,.tup [L x,.int 0])) (xs:=St.bots r S) (by simp[cOf,e5]) (λx hx=>by simp[cOf];rfl);have x:MD ((St.bots r S).map λx=>(x,(0:Int))) = .lst ((St.bots r S).map λx => .tup [L x,.int 0]):=by
       unfold MD;rw[wS];rfl
     rw[x];exact⟨_,key⟩
   have cat:∀ fa fb,∃ fl,fOp u6 (λ_=>some (fa,MD M')) (λ_=>some (fb,MD ((St.bots r S).map λx=>(x,(0:Int))))) []=some (fl,MD (M'++(St.bots r S).map λx=>(x,(0:Int)))):=λfa fb=>by
     have l1:(M'.map λx=>Dt.tup [L x.1,.int x.2]).length<=6:=by rw[wn,c'.len];exact b.r6
     have l2:(((St.bots r S).map λx=>(x,(0:Int))).map λx=>Dt.tup [L x.1,.int x.2]).length<=6:=by rw[wn,kl];rfl'
     have x:MD (M'++(St.bots r S).map λx=>(x,(0:Int))) = .lst ((M'.map λx=>Dt.tup [L x.1,.int x.2])++(((St.bots r S).map λx=>(x,(0:Int))).map λx=>Dt.tup [L x.1,.int x.2])):=by unfold MD;rw[vm]
     rw[x];unfold MD;generalize M'.map (λx=>Dt.tup [L x.1,.int x.2])=D1 at *;generalize ((St.bots r S).map λx=>(x,(0:Int))).map (λx=>Dt.tup [L x.1,.int x.2])=D2 at *;have y:u6 (.lst D1) (.lst D2)=Cb (.lst D1) (.lst D2):=rfl;refine⟨lfl (D1++D2),?_⟩;show u6 (.lst D1) (.lst D2)=_;rw[y,Cb,if_pos (by rfl')];rfl
   have fin:∀ d0 d1 d2 d5 d6:Cell,∀ f3 f4 f7,∃ fl,fOp u6 (i6 true W6 (f9 (fN 7) fNil)) (j9 1 [] (iSeq (i6 true A4 (f9 (fN 4) (f9 (fN 3) fNil)))) (Tg.one 0) fYes (fTup (f9 (fN 0) (f9 (fC (.int 0)) fNil)))) [d0,d1,d2,.sh f3 (.int r),.sh f4 (LL S),d5,d6,.sh f7 (MD (N8 A' W'))]=some (fl,MD (M'++(St.bots r S).map λx=>(x,(0:Int)))):=λd0 d1 d2 d5 d6 f3 f4 f7=>by
     obtain⟨fb,k1⟩:=k1 d0 d1 d2 d5 d6 (.sh f7 (MD (N8 A' W'))) f3 f4;have k2:∃ fa,i6 true W6 (f9 (fN 7) fNil) [d0,d1,d2,.sh f3 (.int r),.sh f4 (LL S),d5,d6,.sh f7 (MD (N8 A' W'))]=some (fa,MD M'):=by
       generalize MD (N8 A' W')=Y at *;generalize MD M'=Z at *;have sn:∀(f:Fl) (d:Dt),(nrm f d).2=d:=λ_ _=>rfl;refine⟨(nrm .nw Z).1,?_⟩;simp[cOf,sn,e4]
     obtain⟨fa,k2⟩:=k2;obtain⟨fl,q⟩:=cat fa fb;refine⟨fl,?_⟩;unfold fOp at q ⊢;rw[k1,k2];exact q
   obtain⟨fl,fin⟩:=fin (.sh false (v5 n bills)) (.sh true (.int n)) (.sh true (LL G)) (.sh true (LL (St.tops r S))) (.sh true (.int w)) true true false;have q:Y3 [.sh false (v5 n bills),.no,.no,.no,.no,.no,.no,.no]=some (.rt fl (MD (M'++(St.bots r S).map λx=>(x,(0:Int))))):=by
     unfold Y3;refine run (by simp[cOf];rfl) ?_;refine run (by simp[cOf,es];rfl) ?_;refine run (by simp[cOf,hr];rfl) ?_;refine run (ρ':=[.sh false (v5 n bills),.sh true (.int n),.sh true (LL G),.sh true (.int r),.sh true (LL S),.no,.no,.no]) (by
       have:=u1 (.sh false (v5 n bills)) (.sh true (LL G)) (.sh true (.int r)) .no .no .no .no true;simp[cOf,t1,this,e2]) ?_
     refine run (ρ':=[.sh false (v5 n bills),.sh true (.int n),.sh true (LL G),.sh true (.int r),.sh true (LL S),.sh true (LL (St.tops r S)),.no,.no]) (by
       have:=c1 (.sh false (v5 n bills)) (.sh true (.int n)) (.sh true (LL G)) .no .no .no true true;simp[cOf,this]) ?_
     refine run (ρ':=[.sh false (v5 n bills),.sh true (.int n),.sh true (LL G),.sh true (.int r),.sh true (LL S),.sh true (LL (St.tops r S)),.sh true (.int w),.no]) (by
       have:=c3 (.sh false (v5 n bills)) (.sh true (.int n)) (.sh true (LL G)) (.sh true (.int r)) (.sh true (LL S)) .no .no true;generalize (List.range r).map (λi=>St.ent (St.tops r S) i i)=xs at *;simp[cOf,this,pe]) ?_
     refine run (ρ':=[.sh false (v5 n bills),.sh true (.int n),.sh true (LL G),.sh true (.int r),.sh true (LL S),.sh true (LL (St.tops r S)),.sh true (.int w),.sh false (MD (N8 A' W'))]) (by
       have:=c2 (.sh false (v5 n bills)) (.sh true (.int n)) (.sh true (LL G)) (.sh true (LL (St.tops r S))) (.sh true (.int w)) .no true true;have nf:∀ f,nrm f (MD (N8 A' W'))=(f,MD (N8 A' W')):=λf=>rfl;generalize MD (N8 A' W')=Y at *;simp[cOf,this,e3,nf]
       try rfl) ?_
     unfold sRet;rw[fin];rfl
   unfold D3 cOf;rw[if_pos (show[v5 n bills].length=1 from rfl)];show(Y3 [.sh false (v5 n bills),.no,.no,.no,.no,.no,.no,.no]).bind _=_;rw[q];rfl
 · rw[(St.U5 (by rw[c'.len];exact hi)).1];exact c'.ch.pos i (by rw[c'.len];exact hi)
 · rw[(St.U5 (by rw[c'.len];rfl')).1,(St.U5 (by rw[c'.len];rfl')).1];exact c'.ch.all i j (by rfl') h1 (by rw[c'.len];rfl')
 · unfold St.mp;rw[St.Z5,c'.len,if_neg (by rfl'),k0 _ (by rfl')]
 · rcases wx.mp hx with hx|hx
   · obtain⟨i,hi,rfl⟩:=wH hx;have w1:=c'.ch.whole i hi;unfold St.mp at w1;rw[List.getD,wa hi]at w1;have h1:=b.hd w1;refine⟨h1,λy hy=>?_⟩;have h2:=lt' _ hx y hy;have h3:(2:Nat) ^ 5400<=2 ^ 5461:=wq (by decide) (by decide);have c2:((2 ^ 5400:Nat):Int)=(2:Int) ^ 5400:=by norm_cast
     have h1:M'[i].2<2 ^ 5400:=h1;rfl'
   · obtain⟨z,hz,rfl⟩:=wj.mp hx;refine⟨Int.pow_pos (by decide),λy hy=>?_⟩;unfold St.bots at hz;obtain⟨u,hu,rfl⟩:=wj.mp hz;obtain⟨k,hk⟩:=Cu hy;rw[←hk];show(St.at0 (u.drop r) k).natAbs<_;rw[St.A5];exact s5461 u (wP.mp hu).1 _
 · rcases wx.mp hx with hx|hx
   · refine⟨λ_=>⟨?_,lt' x hx⟩,λz=>?_⟩
     · obtain⟨i,hi,rfl⟩:=wH hx;have w1:=c'.ch.whole i hi;unfold St.mp at w1;rw[List.getD,wa hi]at w1;have:=vR wp w1;have:M'[i].2<=w:=this;rfl'
     · obtain⟨i,hi,rfl⟩:=wH hx;have:=c'.ch.pos i hi;unfold St.mp at this;rw[List.getD,wa hi]at this;have:0<M'[i].2:=this;rfl'
   · obtain⟨z,hz,rfl⟩:=wj.mp hx;refine⟨λq=>absurd q (by simp),λ_ y hy=>?_⟩;unfold St.bots at hz;obtain⟨u,hu,rfl⟩:=wj.mp hz;obtain⟨k,hk⟩:=Cu hy;rw[←hk];show(St.at0 (u.drop r) k).natAbs<_;rw[St.A5];have G3:St.Good (r+n) (2 ^ (g+1)) (St.pair (St.trn n G) (St.units n)) S:=⟨G2.asc,G2.form,G2.span,G2.ind,G2.len,G2.full⟩;have q:=G3.small (pltq g gg) (wJ _) u (wP.mp hu).1 (r+k);rw[sl]at q;exact q
def dotL(w r:aH):Int:=(List.range r.length).foldl (λt k=>t+St.at0 w k*St.at0 r k) 0
theorem WN(w r:aH):dotL w r=St.dt r.length w (St.vec r):=by
 unfold dotL St.dt;have key:∀(n:Nat) (f:Nat->Int) (t:Int),(List.range n).foldl (λt k=>t+f k) t=t+St.sm n f:=by
  intro n
  induction n with
  | zero=>intro f t;simp[St.sm]
  | succ n ih =>
   intro f t;rw[w0A,w0D,w1s,St.sm];have:=ih (λk=>f (k+1)) (t+f 0);rw[this];rfl'
 rw[key r.length (λk=>St.at0 w k*St.at0 r k) 0,w0y]
theorem z0o(a:Int):U6 [.int a,.int 0]=some (.int a):=by
 unfold U6 MX;simp[cOf,C7]
theorem z4b(w r:aH)(h:r.length=w.length):((r.zip w).map λp=>p.1*p.2).sum=dotL w r:=by
 rw[WN];unfold St.dt
 induction r generalizing w with
 | nil=>cases w with
  | nil=>rfl
  | cons x w=>cases h
 | cons y r ih=>cases w with
  | nil=>cases h
  | cons x w =>
   rw[ur,wo,List.sum_cons,wu,St.sm,ih w (by simpa using h),wO];rfl
theorem QO{e:Nat}(dd:Dt)(r w:aH)(hdd:RowD dd r)(h:r.length=w.length)(h1:∀ x∈w,x.natAbs<2 ^ e)(h2:∀ x∈r,x.natAbs<2 ^ e)(he:e<=60000000):AH [dd,L w]=some (.int (dotL w r)):=by
 have q:j9 2 [] (iZip (fN 0) (fN 1)) (Tg.many [0,1]) fYes (fOp D6 (fN 0) (fN 1)) [.sh false dd,.sh false (L w)]=some (.nw,.lst ((r.zip w).map λp => .int (p.1*p.2))):=by
  rw[m6 (e:=λp:Int×Int => .tup [.int p.1,.int p.2]) (h:=λp => .int (p.1*p.2)) (xs:=r.zip w) (by rcases hdd with rfl|rfl<;>simp[cOf,h,T9]) (λp hp=>by
   have m:D9 p.1 p.2=true:=X6 (h2 _ (vz hp).1) (h1 _ (vz hp).2) (by rfl');simp[cOf,m])]
 have e2:Bf ((r.zip w).map λp=>Dt.int (p.1*p.2))=some ((r.zip w).map λp=>p.1*p.2):=by
  have:=Hn ((r.zip w).map λp=>p.1*p.2);rw[wS]at this;exact this
 have s:=z4b w r h;unfold AH Gs;generalize (r.zip w).map (λp=>Dt.int (p.1*p.2))=D at *;generalize (r.zip w).map (λp=>p.1*p.2)=D2 at *;rcases hdd with rfl|rfl<;>simp[cOf,q,bSum,e2,s]
theorem OW{n:Nat}{bills:aA}{M:St.Meas}(h:D3 [v5 n bills]=some (MD M)):EN [v5 n bills]=some (L (M.map (·.2))):=by
 have it:iSeq (i6 false D3 (f9 (fN 0) fNil)) [.sh false (v5 n bills)]=some (M.map tD):=by
  have nf:nrm .sh (MD M)=(.sh,MD M):=rfl;have e:seqD (MD M)=some (M.map tD):=rfl;generalize MD M=Y at *;simp[cOf,h,nf,e]
 have key:j9 2 [] (iSeq (i6 false D3 (f9 (fN 0) fNil))) (Tg.many [0,1]) fYes (fN 1) [.sh false (v5 n bills)]=some (.nw,L (M.map (·.2))):=by
  rw[m6 (e:=tD) (h:=λx => .int x.2) (xs:=M) it (λx _=>by simp[cOf,tD])];simp[L]
 unfold EN Na;simp[cOf,key]
def plN(b:aH)(x:aH×Int):Int:=if x.2=0 then dotL x.1 b else(dotL x.1 b).fmod x.2
theorem OX{n e:Nat}{M:St.Meas}{b:aH}{dd:Dt}(hdd:RowD dd b)(hb:b.length=n)(hr:∀ x∈M,x.1.length=n)(hp:∀ x∈M,0<=x.2)(h1:∀ x∈M,∀ y∈x.1,y.natAbs<2 ^ e)(h2:∀ y∈b,y.natAbs<2 ^ e)(he:e<=60000000):Y4 [MD M,dd]=some (L (M.map (plN b))):=by
 have it:iSeq (fN 0) [.sh false (MD M),.sh false dd]=some (M.map tD):=by
  have nf:nrm .sh (MD M)=(.sh,MD M):=rfl;have e:seqD (MD M)=some (M.map tD):=rfl;generalize MD M=Y at *;simp[cOf,nf,e]
 have key:j9 2 [1] (iSeq (fN 0)) (Tg.many [0,1]) fYes (i6 true U6 (f9 (i6 true AH (f9 (fN 2) (f9 (fN 0) fNil))) (f9 (fN 1) fNil))) [.sh false (MD M),.sh false dd]=some (.nw,L (M.map (plN b))):=by
  rw[m6 (e:=tD) (h:=λx => .int (plN b x)) (xs:=M) it (λx hx=>by
   have w:=QO (e:=e) dd b x.1 hdd (by rw[hb,hr x hx]) (h1 x hx) h2 he;have p0:=hp x hx;obtain⟨w0,p⟩:=x;have sn:∀(f:Fl) (d:Dt),(nrm f d).2=d:=λ_ _=>rfl;unfold plN tD;dsimp only at *;clear hdd;by_cases hp0:p=0
   · subst hp0;have:=z0o (dotL w0 b);simp[cOf,sn,w,this]
   · have:=Nl (dotL w0 b) p (by rfl');simp[cOf,sn,w,this,hp0])]
  simp[L]
 unfold Y4 Ec;generalize MD M=Y at *;simp[cOf,key]
theorem Mz.nn{n r:Nat}{G:aA}{M:St.Meas}(Z:Mz n r G M):∀ x∈M,0<=x.2:=λx hx=>by
 obtain⟨i,hi,rfl⟩:=wH hx;have e:M[i].2=St.mp M i:=by unfold St.mp;rw[List.getD,wa hi];rfl
 rw[e];by_cases q:i<r
 · have:=Z.pos i q;rfl'
 · rw[Z.zero i (by rfl') (by rw[←Z.len];exact hi)];rfl'
theorem OY{n r:Nat}{G:aA}{M:St.Meas}{b:aH}(Z:Mz n r G M)(hb:b.length=n){k:Nat}(hk:k<n):St.at0 (M.map (plN b)) k=if St.mp M k=0 then St.dt n (St.mw M k) (St.vec b) else(St.dt n (St.mw M k) (St.vec b)).fmod (St.mp M k):=by
 have hk':k<M.length:=by rw[Z.len];exact hk
 unfold St.at0 St.mp St.mw;rw[List.getD,List.getD,wa hk',wv,wa hk'];show plN b M[k]=_;unfold plN;rw[WN,hb];rfl
def ordD:Option Int->Dt
 | none => .non
 | some m => .int m
theorem bnd40(k:Nat)(h:k<=9):St.bnd k (2 ^ 210)+1<=2 ^ 2010:=by
 have:=St.Cn (B:=2 ^ 210) h (by decide) (by decide);have e:St.bnd 9 (2 ^ 210)+1<=2 ^ 2010:=by unfold St.bnd;decide
 rfl'
theorem OZ:∀ bills:aA,zipD (bills.map T) (bills.map λ_=>L [0])=bills.map λr => .tup [T r,L [0]]
 | []=>rfl
 | r::bills=>by rw[wo,wo,wo,zipD,OZ bills]
theorem Np(x:Int)(k:Nat)(h:x.natAbs<2 ^ 210):(St.at0 [x] k).natAbs<2 ^ 210:=by
 cases k with
 | zero=>exact h
 | succ k=>rw[St.u7 (by simp)];decide
theorem WO(xs ys:List Dt)(h:xs.length+ys.length<=1000000):u6 (.lst xs) (.lst ys)=some (newL (xs++ys)):=by
 show(if xs.length+ys.length<=1000000 then some (newL (xs++ys)) else none)=_;rw[if_pos h]
theorem z0p(r:aH)(xs:List Dt):newL (L r::xs)=(.tn,.lst (L r::xs)):=by
 unfold newL lfl;rw[if_neg (by rw[y9];show ¬(false&&_)=true;exact wL)]
theorem QP{n:Nat}{bills:aA}{b:aH}(H:Hall n bills)(hb:b.length=n)(sb:St.Lt (2 ^ 210) b):
  ∃ S,v4 [.lst (L b::bills.map T),.lst (L [1]::bills.map λ_=>L [0])]=some (LL S)/\St.Good (n+1) (2 ^ 210) (St.ordR b bills) S:=by
 have n6:=H.n6;have m8:=H.m8;have wd:∀ r∈St.ordR b bills,r.length=n+1/\St.Lt (2 ^ 210) r:=λr hr=>by
  rcases ww.mp hr with rfl|hr
  · refine⟨by rw[wD,hb];rfl,λk=>?_⟩;rw[St.M7 hb];split
    · exact sb k
    · exact Np _ _ (by decide)
  · obtain⟨x,hx,rfl⟩:=wj.mp hr;refine⟨by rw[wD,H.wide x hx];rfl,λk=>?_⟩;rw[St.M7 (H.wide x hx)];split
    · exact wE (H.lt x hx k) (by decide)
    · exact Np _ _ (by decide)
 have ln:(St.ordR b bills).length=bills.length+1:=by unfold St.ordR;rw[wu,wn]
 obtain⟨S,q,G⟩:=Ef (n:=n+1) (e:=2010) (B:=2 ^ 210) L (λr => .inl rfl) (by rfl') (by decide) (St.ordR b bills) (LL (St.ordR b bills)) (.inl rfl) (λr hr=>(wd r hr).1) (λr hr=>(wd r hr).2) (by decide) (by decide) (λk hk=>bnd40 k (by rfl')) (by rfl');refine⟨S,?_,G⟩;have c1:=Cj b [1] (by rw[hb,vZ];rfl');have c0:∀ r∈bills,u6 (.lst (r.map Dt.int)) (.lst [Dt.int 0])=some (.nw,L (r++[0])):=λr hr=>Cj r [0] (by rw[H.wide r hr,vZ];rfl')
 have z:j9 2 [] (iZip (fN 0) (fN 1)) (Tg.many [0,1]) fYes (fOp u6 (fBlt bLst (f9 (fN 0) fNil)) (fBlt bLst (f9 (fN 1) fNil))) [.sh false (.lst (L b::bills.map T)),.sh false (.lst (L [1]::bills.map fun _=>L [0]))]=some (.nw,LL (St.ordR b bills)):=by
  rw[m6 (e:=λo:Option (aH)=>match o with|none => .tup [L b,L [1]]|some r => .tup [T r,L [0]]) (h:=λo=>match o with|none=>L (b++[1])|some r=>L (r++[0])) (xs:=none::bills.map some) (by
    have zz:zipD (L b::bills.map T) (L [1]::bills.map λ_=>L [0]) = .tup [L b,L [1]]::bills.map λr => .tup [T r,L [0]]:=by rw[zipD,OZ]
    have ll:(L b::bills.map T).length=(L [1]::bills.map λ_=>L [0]).length:=by simp
    unfold iZip;show(if(L b::bills.map T).length=(L [1]::bills.map λ_=>L [0]).length then some (zipD (L b::bills.map T) (L [1]::bills.map λ_=>L [0])) else none)=_;rw[if_pos ll,zz,wo,wS];rfl) (λo ho=>by
    rcases ww.mp ho with rfl|ho
    · have c1:u6 (.lst (b.map Dt.int)) (.lst [Dt.int 1])=some (.nw,L (b++[1])):=c1;have n1:newL [Dt.int 1]=(.nw,.lst [.int 1]):=R7 [1];simp[cOf,n1,c1]
    · obtain⟨r,hr,rfl⟩:=wj.mp ho;have c:=c0 r hr;have n0:newL [Dt.int 0]=(.nw,.lst [.int 0]):=R7 [0];simp[cOf,n0,c])]
  unfold LL St.ordR;rw[wo,wS,wo,wS];rfl
 unfold v4 L6;generalize St.ordR b bills=R at *;simp[cOf,z,q]
theorem YC{n:Nat}{bills:List (List Int)}{b:List Int}(H:Hall n bills)(hb:b.length=n)(sb:St.Lt (2 ^ 210) b):∃ o,EO [v5 n bills,L b]=some (ordD o)∧St.IsOrd bills b o∧∀ m,o=some m→m.natAbs<2 ^ 2010:=by
 have n6:=H.n6;have m8:=H.m8;obtain⟨S,es,G⟩:=QP H hb sb;have tn:=Z8 S n;have nb:=Y6 n bills b hb;have tg:j9 1 [] (iSeq (fAt (fN 0) (fC (.int 1)))) (Tg.one 0) fYes (fLst (f9 (fC (.int 0)) fNil)) [.sh false (v5 n bills),.sh false (L b),.sh false (.lst (L b::bills.map T)),.no]=some (.nw,.lst (bills.map λ_=>L [0])) :=
   m6 (e:=T) (h:=λ_=>L [0]) (xs:=bills) (by simp[cOf]) (λr _=>by simp[cOf])
 have ca:u6 (.lst [.lst (b.map Dt.int)]) (.lst (bills.map T))=some (.tn,.lst (L b::bills.map T)):=by
   rw[WO _ _ (by rw[wn,vZ];rfl')];exact congrArg some (z0p b _)
 have cb:u6 (.lst [.lst [Dt.int 1]]) (.lst (bills.map λ_=>L [0]))=some (.tn,.lst (L [1]::bills.map λ_=>L [0])):=by
   rw[WO _ _ (by rw[wn,vZ];rfl')];exact congrArg some (z0p [1] _)
 have nt:newL (bills.map T)=(.nw,.lst (bills.map T)):=by unfold newL lfl;rw[Gg,if_pos rfl]
 have start:∀{G:FS} {r:Option Oc},G [.sh false (v5 n bills),.sh false (L b),.sh false (.lst (L b::bills.map T)),.sh true (LL (St.bots n S))]=r->(sSeq (Ay (i6 true F3 (f9 (fN 0) (f9 (fN 1) fNil)))) (sSeq (sSet [] 2 (fOp u6 (fLst (f9 (fN 1) fNil)) (fBlt bLst (f9 (fAt (fN 0) (fC (.int 1))) fNil)))) (sSeq (sSet [] 3 (i6 true A4 (f9 (i6 true v4 (f9 (fN 2) (f9 (fOp u6 (fLst (f9 (fLst (f9 (fC (.int 1)) fNil)) fNil)) (j9 1 [] (iSeq (fAt (fN 0) (fC (.int 1)))) (Tg.one 0) fYes (fLst (f9 (fC (.int 0)) fNil)))) fNil))) (f9 (fAt (fN 0) (fC (.int 0))) fNil)))) G))) [.sh false (v5 n bills),.sh false (L b),.no,.no]=r:=λ{G r} hG=>by
   refine run (by simp[cOf,nb];rfl) ?_;refine run (ρ':=[.sh false (v5 n bills),.sh false (L b),.sh false (.lst (L b::bills.map T)),.no]) (by simp[cOf,nt,ca];rfl) ?_;refine run (ρ':=[.sh false (v5 n bills),.sh false (L b),.sh false (.lst (L b::bills.map T)),.sh true (LL (St.bots n S))]) (by
     generalize j9 1 [] (iSeq (fAt (fN 0) (fC (.int 1)))) (Tg.one 0) fYes (fLst (f9 (fC (.int 0)) fNil))=F at *;generalize (L b::bills.map T)=Y at *;simp[cOf,tg,cb,es,tn]) ?_
   exact hG
 rcases St.z02 hb H.wide G.asc G.span with⟨h,o⟩|⟨m,h,o⟩
 · refine⟨none,T2 (f := .nw) rfl (start ?_) rfl,o,λm h=>by cases h⟩;rw[h];simp[cOf,ordD]
 · refine⟨some m,T2 (f := .nw) rfl (start ?_) rfl,o,λm' e=>?_⟩
   rotate_left
   · cases e;have mm:[m]∈St.bots n S:=by rw[h];exact wV.mpr rfl
     unfold St.bots at mm;obtain⟨r,hr,er⟩:=wj.mp mm;have hS:=(wP.mp hr).1;have wd:∀ r∈St.ordR b bills,St.Lt (2 ^ 210) r:=λr hr=>by
      rcases ww.mp hr with rfl|hr
      · intro k;rw[St.M7 hb];split
        · exact sb k
        · exact Np _ _ (by decide)
      · obtain⟨x,hx,rfl⟩:=wj.mp hr;intro k;rw[St.M7 (H.wide x hx)];split
        · exact wE (H.lt x hx k) (by decide)
        · exact Np _ _ (by decide)
     have ln:(St.ordR b bills).length=bills.length+1:=by unfold St.ordR;rw[wu,wn]
     have gl:=G.len;have q:=((G.small wd (by decide) r hS).mono (bnd40 _ (by rfl'))) n;have e0:St.at0 r n=St.at0 (r.drop n) 0:=by rw[St.A5,Nat.add_zero]
     rw[e0,er]at q;exact q
   rw[h];simp[cOf,ordD]
theorem z0q{n:Nat}{bills:aA}{b:aH}(H:Hall n bills)(hb:b.length=n)(sb:St.Lt (2 ^ 210) b):∃ o,EO [v5 n bills,L b]=some (ordD o)/\St.IsOrd bills b o:=by
 obtain⟨o,h1,h2,_⟩:=YC H hb sb;exact⟨o,h1,h2⟩
theorem YD(n:Nat)(rows:aA)(cs:aH)(d:Dt)(hd:RowD d cs)(hn:n<=1000)(hw:Wide n rows)(hl:rows.length=cs.length)(h:∀ r∈rows,∀ c∈cs,∀ x∈r,D9 c x=true):HU [LL rows,d,.int n]=some (L (mixR n rows cs)):=by
 unfold HU MV;have z:=BA n hn;obtain⟨hl2,j,q⟩:=DV (g:=Tg.many [4,5]) (F:=sSet [] 3 (i6 true V5 (f9 (fN 3) (f9 (i6 true C1 (f9 (fN 4) (f9 (fN 5) fNil))) fNil))))
   (e:=λp:aH×Int => .tup [L p.1,.int p.2]) (R:=λ(t:aH) (j:Cell×Cell)=>[.sh false (LL rows),.sh false d,.sh false (.int n),.sh true (L t),j.1,j.2]) (step:=λt p=>addR t (sclR p.2 p.1)) (P:=λt=>t.length=n) (rows.zip cs) (n8 n) (.no,.no) B3
   (fun b p j hp hb=>by
    have h1:=hw _ (vz hp).1;have e1:=G7 p.1 p.2 (λx hx=>h _ (vz hp).1 _ (vz hp).2 x hx);have e2:=ES b (sclR p.2 p.1) (by rw[A3,hb,h1]);refine⟨by rw[X5 (by rw[A3,hb,h1])];exact hb,(.sh false (L p.1),.sh false (.int p.2)),?_⟩;simp[cOf,Tg.put,Q2,e1,e2])
 have q2:forF (Tg.many [4,5]) (sSet [] 3 (i6 true V5 (f9 (fN 3) (f9 (i6 true C1 (f9 (fN 4) (f9 (fN 5) fNil))) fNil)))) (zipD (rows.map L) (cs.map .int)) [.sh false (LL rows),.sh false d,.sh false (.int n),.sh true (L (n8 n)),.no,.no]=some (.nx [.sh false (LL rows),.sh false d,.sh false (.int n),.sh true (L (mixR n rows cs)),j.1,j.2]):=by
   rw[T9];exact q
 rcases hd with rfl|rfl
 · simp[cOf,z,iZip,hl,q2]
 · simp[cOf,z,iZip,hl,q2]
theorem row_31(ns:aH)(a:Int)(k:Nat)(m:Int)(h0:0<=m)(h:m<2):St.Lt 31 (Z3 ns a k m):=λi=>by
 by_cases hi:i<k
 · have e:St.at0 (Z3 ns a k m) i=Ch (v8 ns (a+(i:Int))) m:=by unfold Z3 St.at0;simp[List.getD,hi]
   rw[e];rcases(show m=0\/m=1 by rfl')with h|h
   · have:=Ol (v8 ns (a+(i:Int))) m h;rfl'
   · have:=Yb (v8 ns (a+(i:Int))) m h;rfl'
 · rw[St.u7 (by rw[Gh];rfl')];decide
theorem z0r(a b:aA)(h:a.length+b.length<=1000):∃ f,u6 (LL a) (LL b)=some (f,LL (a++b)):=by
 have e1:(a.map L).length+(b.map L).length<=1000000:=by simp;rfl'
 have:u6 (.lst (a.map L)) (.lst (b.map L))=Cb (.lst (a.map L)) (.lst (b.map L)):=rfl;show ∃ f,u6 (.lst (a.map L)) (.lst (b.map L))=_;rw[this];unfold Cb;simp only[if_pos e1,←vm];exact⟨_,rfl⟩
theorem Dw{k j B e:Nat}(h:k<=j)(hj:0<j)(hB:0<B)(he:St.bnd j B+1<=2 ^ e):St.bnd k B+1<=2 ^ e:=by
 have m:=St.Cn (B:=B) h (by rfl') (by rfl');rfl'
theorem Jx{M:St.Meas}{i:Nat}(h:i<M.length):(St.mw M i,St.mp M i)∈M:=by
 unfold St.mw St.mp;rw[List.getD,wa h];exact ve h
theorem WP{n i:Nat}(w:aH)(hi:i<n):St.dt n w (St.vec (St.o7 n i))=St.at0 w i:=by
 unfold St.dt;rw[St.L5 (i:=i) hi λk _ hne=>by show St.at0 w k*St.at0 (St.o7 n i) k=0;rw[St.w8,if_neg (by rfl'),uf]];show St.at0 w i*St.at0 (St.o7 n i) i=_;rw[St.w8,if_pos ⟨rfl,hi⟩,w0e]
def plcR(n:Nat)(M:St.Meas):aA:=(St.units n).map λu=>M.map (plN u)
theorem plc_ok{n r:Nat}{G:aA}{M:St.Meas}(Z:Mz n r G M):St.Plc n M (plcR n M):=by
 refine⟨by unfold plcR;rw[wn,St.D7],λx hx=>?_,λi k hi hk=>?_⟩
 · obtain⟨u,_,rfl⟩:=wj.mp hx;rw[wn,Z.len]
 · have e:(plcR n M).getD i []=M.map (plN (St.o7 n i)):=by
     unfold plcR St.units;rw[List.getD,wv,wv,vU hi];rfl
   rw[e,OY Z (St.K5 n i) hk,WP _ hi];split
   · rename_i h;rw[h];rw[Int.sub_self];exact w0z _
   · rename_i h;have hp:0<St.mp M k:=by
      by_cases q:k<r
      · exact Z.pos k q
      · exact absurd (Z.zero k (by rfl') hk) h
     have:=w0H (St.at0 (St.mw M k) i) (St.mp M k);exact⟨-(St.at0 (St.mw M k) i).fdiv (St.mp M k),by rw[w0J];rfl'⟩
structure Ml(n w:Nat)(M:St.Meas):Prop where
 part:∀ x∈M,0<=x.2/\x.2<2 ^ w
 row:∀ x∈M,∀ y∈x.1,y.natAbs<2 ^ w
 rest:∀ x∈M,0<x.2->∀ y∈x.1,0<=y/\y<x.2
theorem plc_lt{n r w:Nat}{G:aA}{M:St.Meas}(Z:Mz n r G M)(l:Ml n w M):∀ x∈plcR n M,St.Lt (2 ^ w) x:=λx hx k=>by
 obtain⟨u,hu,rfl⟩:=wj.mp hx;obtain⟨i,hi,rfl⟩:=wj.mp hu;have hi:=wM.mp hi;by_cases hk:k<n
 · rw[OY Z (St.K5 n i) hk,WP _ hi];have mm:=Jx (M:=M) (i:=k) (by rw[Z.len];exact hk);have pp:=l.part _ mm;have pp:0<=St.mp M k/\St.mp M k<2 ^ w:=pp;split
   · by_cases hi':i<(St.mw M k).length
     · refine l.row _ mm _ ?_;unfold St.at0;rw[List.getD,wa hi'];exact ve hi'
     · rw[St.u7 (by rfl')];exact wJ _
   · rename_i h;obtain⟨a,b⟩:=C4 (St.at0 (St.mw M k) i) (show 0<St.mp M k by rfl');have c2:((2 ^ w:Nat):Int)=(2:Int) ^ w:=by norm_cast
     rfl'
 · rw[St.u7 (by rw[wn,Z.len];rfl')];exact wJ _
theorem z4c{n w:Nat}{M:St.Meas}(lM:M.length=n)(l:Ml n w M):∀ x∈St.N5 n M,St.Lt (2 ^ w) x:=λx hx k=>by
 obtain⟨j,hj,rfl⟩:=wj.mp hx;have hj:=wM.mp hj;have pp:=l.part _ (Jx (M:=M) (i:=j) (by rfl'));have pp:0<=St.mp M j/\St.mp M j<2 ^ w:=pp;rw[St.IY,St.w8];have c2:((2 ^ w:Nat):Int)=(2:Int) ^ w:=by norm_cast
 split
 · rw[w0e];rfl'
 · rw[uf];exact wJ _
theorem Kk{n r w e:Nat}{G:List (List Int)}{M:St.Meas}(n1:1≤n)(n6:n≤6)(Z:Mz n r G M)(l:Ml n w M)(w0:0<w)(hwe:w≤e)(he:e≤8990)(hb:St.bnd (n+n) (2 ^ w)+1≤2 ^ e):
   ∃ T,V7 [MD M]=some (LL T)/\T.length=n/\(∀ x∈T,x.length=n/\St.Lt (2 ^ e) x)/\(∀ c:aH,c.length=n->∀ k,k<n->St.mp M k∣St.dt n (St.mw M k) (St.mix T c)-St.at0 c k)/\(St.Asc n 0 G->Lat.Form 0 (St.u5 G)->∀ t∈T,∀ g∈G,0<=St.at0 t (St.f8 g)/\St.at0 t (St.f8 g)<St.hd g):=by
 have lM:=Z.len;have pk:=plc_ok Z;have lP:=pk.len;have one2:1<2 ^ w:=w0T (by rfl');have bP:=plc_lt Z l;have bW:=z4c lM l;have wlen:(St.N5 n M).length=n:=by unfold St.N5;rw[wn,vv]
 have hp:St.pair (plcR n M++St.N5 n M) (St.units n++(List.range n).map λ_=>n8 n)=St.AF (plcR n M) (St.N5 n M):=by
   unfold St.AF St.pair;rw[List.zipWith_append (by rw[lP,St.D7])];congr 1
   · exact Jw _ lP
   · rw[lP];refine vM (by rw[vI,wn,wn,vv,wlen];rfl') λi h1 h2=>?_;simp[n8]
 have rows:∀ x∈St.AF (plcR n M) (St.N5 n M),x.length=n+n/\St.Lt (2 ^ w) x:=λx hx=>by
   unfold St.AF at hx;rcases wx.mp hx with h|h
   · obtain⟨r,hr,j,rfl⟩:=St.IR _ h;refine⟨by rw[wD,pk.rows r hr,St.K5,lP],λk=>?_⟩;rw[St.Bq (pk.rows r hr),St.w8];split
     · exact bP r hr k
     · split<;>simp<;>rfl'
   · obtain⟨r,hr,rfl⟩:=wj.mp h;refine⟨by rw[wD,St.EL n M r hr,vD,lP],λk=>?_⟩;rw[St.Bq (St.EL n M r hr)];split
     · exact bW r hr k
     · rw[St.Wz];rfl'
 have bm:∀ k,k<=n+n->St.bnd k (2 ^ w)+1<=2 ^ e:=λk hk=>Dw hk (by rfl') (wJ _) hb;obtain⟨U,eU,GU⟩:=Eh (n:=n+n) (e:=e) (eh:=e) (B:=2 ^ w) (by rfl') he (wB _) (by rfl') (plcR n M++St.N5 n M) (St.units n++(List.range n).map λ_=>n8 n) (by simp[St.D7,lP,wlen]) (λx hx=>(rows x (by rw[←hp];exact hx)).1) (λx hx=>(rows x (by rw[←hp];exact hx)).2) (wJ _) (wq (by decide) hwe) (λk hk=>bm k (by simpa[lP,wlen]using hk))
   (λk S hk G r hr=>by
     have q:=G.small (λr hr=>(rows r (by rw[←hp];exact ug hr)).2) (wJ _) r hr (St.f8 r);have l:=G.len;have b:=bm S.length (by rw[vA]at l;simp[lP,wlen]at hk;rfl');have q:(St.hd r).natAbs<St.bnd S.length (2 ^ w)+1:=q;have c2:((2 ^ e:Nat):Int)=(2:Int) ^ e:=by norm_cast
     rfl') (by simp[lP,wlen];rfl')
 rw[hp]at GU;have lU:U.length<=n+n:=by have:=GU.len;unfold St.AF at this;rw[wD,St.AC,wn,lP,wlen]at this;exact this
 have sU:=GU.small (λr hr=>(rows r hr).2) (wJ _);obtain⟨t1,t2,t3⟩:=St.Qv pk Z.ms lM GU.asc GU.form GU.span (T:=(U.filter λr=>decide (St.f8 r<n)).map (·.drop n)) rfl;refine⟨_,?_,t1,λx hx=>⟨t2 x hx,λk=>?_⟩,t3,λaG fG t ht g hg=>St.Yr GU.asc GU.form (St.Yq pk Z.ms lM aG fG GU.asc GU.form GU.span) ht hg⟩
 · have tg:=GK U n
   have ng:=BA n (by rfl');obtain⟨f1,k1⟩:=z0r (plcR n M) (St.N5 n M) (by rfl');obtain⟨f2,k2⟩:=z0r (St.units n) ((List.range n).map λ_=>n8 n) (by rw[St.D7];simp;rfl');have nf:∀ f,nrm f (MD M)=(f,MD M):=λf=>rfl;have bl:bLen [MD M]=some (.nw,.int n):=by
     have:bLen [MD M]=some (.nw,.int ((M.map tD).length:Int)):=rfl;rw[this,wn,lM]
   have at_:∀ j,j<n->atI (M.map tD) (j:Int)=some (tD (St.mw M j,St.mp M j)):=λj hj=>S9 (by
     rw[wv];unfold St.mw St.mp;rw[List.getD,wa (show j<M.length by rfl')];rfl)
   have mdl:MD M = .lst (M.map tD):=rfl;have u1:j9 1 [1] (m9 (fN 1)) (Tg.one 0) fYes (i6 true J3 (f9 (fN 1) (f9 (fN 0) fNil))) [.sh false (MD M),.sh true (.int n),.no,.no,.no,.no]=some (.nw,LL (St.units n)):=by
     rw[m6 (e:=λ(k:Nat) => .int (0+(k:Int))) (h:=λk=>L (St.o7 n k)) (xs:=List.range n) (by simp[cOf,y13 n (by rfl'),v7]) (λj _=>by
       have u:=CH n j (by rfl');simp[cOf,u])]
     simp[LL,St.units]
   have u2:j9 1 [0] (iSeq (fN 2)) (Tg.one 0) fYes (i6 true Y4 (f9 (fN 1) (f9 (fN 0) fNil))) [.sh false (MD M),.sh true (.int n),.sh true (LL (St.units n)),.no,.no,.no]=some (.nw,LL (plcR n M)):=by
     rw[m6 (e:=L) (h:=λu=>L (M.map (plN u))) (xs:=St.units n) (by simp[cOf]) (λu hu=>by
       have pe:=OX (e:=w) (dd:=L u) (.inl rfl) (St.Lj n u hu) Z.ms.rows (λx hx=>(l.part x hx).1) l.row (λy hy=>by
        obtain⟨i,_,rfl⟩:=wj.mp hu;obtain⟨k,hk⟩:=Cu hy;rw[←hk,St.w8];split<;>simp<;>rfl') (by rfl')
       have sn:∀(f:Fl) (d:Dt),(nrm f d).2=d:=λ_ _=>rfl;generalize MD M=Y at *;simp[cOf,sn,pe])]
     unfold plcR LL;rw[wS];rfl
   have u3:j9 1 [2,0] (m9 (fN 1)) (Tg.one 0) fYes (i6 true C1 (f9 (fAt (fN 1) (fN 0)) (f9 (fAt (fAt (fN 2) (fN 0)) (fC (.int 1))) fNil))) [.sh false (MD M),.sh true (.int n),.sh true (LL (St.units n)),.sh true (LL (plcR n M)),.no,.no]=some (.nw,LL (St.N5 n M)):=by
     rw[m6 (e:=λ(k:Nat) => .int (0+(k:Int))) (h:=λj=>L (sclR (St.mp M j) (St.o7 n j))) (xs:=List.range n) (by simp[cOf,y13 n (by rfl'),v7]) (λj hj=>by
       have hj:=wM.mp hj;have a1:=at_ j hj;have a2:atI ((St.units n).map L) (j:Int)=some (L (St.o7 n j)):=S9 (by
        rw[wv];unfold St.units;rw[wv,vU hj];rfl)
       have pp:=l.part _ (Jx (M:=M) (i:=j) (by rfl'));have pp:0<=St.mp M j/\St.mp M j<2 ^ w:=pp;have c2:((2 ^ w:Nat):Int)=(2:Int) ^ w:=by norm_cast
       have sc:=G7 (St.o7 n j) (St.mp M j) (λx hx=>by
        obtain⟨k,hk⟩:=Cu hx;rw[←hk,St.w8];exact N1 (m:=w) (k:=1) (by rfl') (by split<;>simp) (by rfl'))
       have sn:∀(f:Fl) (d:Dt),(nrm f d).2=d:=λ_ _=>rfl;rw[mdl];generalize M.map tD=D at *;have b1:atI [L (St.mw M j),Dt.int (St.mp M j)] 1=some (.int (St.mp M j)):=rfl;unfold tD at a1;dsimp only at a1;simp[cOf,sn,a1,a2,b1,sc])]
     unfold St.N5 LL;rw[wS];rfl
   have u4:j9 1 [1] (m9 (fN 1)) (Tg.one 0) fYes (i6 true P2 (f9 (fN 1) fNil)) [.sh false (MD M),.sh true (.int n),.sh true (LL (St.units n)),.sh true (LL (plcR n M)),.sh true (LL (St.N5 n M)),.no]=some (.nw,LL ((List.range n).map λ_=>n8 n)):=by
     rw[m6 (e:=λ(k:Nat) => .int (0+(k:Int))) (h:=λ_=>L (n8 n)) (xs:=List.range n) (by simp[cOf,y13 n (by rfl'),v7]) (λj _=>by simp[cOf,ng])];simp[LL]
   have sn:∀(f:Fl) (d:Dt),(nrm f d).2=d:=λ_ _=>rfl;refine T2 (f := .nw) rfl ?_ rfl;unfold Bw;refine run (ρ':=[.sh false (MD M),.sh true (.int n),.no,.no,.no,.no]) (by
     generalize MD M=Y at *;simp[cOf,sn,bl]) ?_
   refine run (ρ':=[.sh false (MD M),.sh true (.int n),.sh true (LL (St.units n)),.no,.no,.no]) (by
     generalize MD M=Y at *;simp[cOf,u1]) ?_
   refine run (ρ':=[.sh false (MD M),.sh true (.int n),.sh true (LL (St.units n)),.sh true (LL (plcR n M)),.no,.no]) (by
     generalize MD M=Y at *;simp[cOf,u2]) ?_
   refine run (ρ':=[.sh false (MD M),.sh true (.int n),.sh true (LL (St.units n)),.sh true (LL (plcR n M)),.sh true (LL (St.N5 n M)),.no]) (by
     generalize MD M=Y at *;simp[cOf,u3]) ?_
   refine run (ρ':=[.sh false (MD M),.sh true (.int n),.sh true (LL (St.units n)),.sh true (LL (plcR n M)),.sh true (LL (St.N5 n M)),.sh true (LL U)]) (by
     generalize MD M=Y at *;generalize (List.range n).map (λ_=>n8 n)=Zs at *;generalize St.units n=V at *;generalize plcR n M=Q at *;generalize St.N5 n M=W at *;have k1:u6 (.lst (Q.map L)) (.lst (W.map L))=some (f1,LL (Q++W)):=k1;have k2:u6 (.lst (V.map L)) (.lst (Zs.map L))=some (f2,LL (V++Zs)):=k2;simp[cOf,k1,u4,k2,eU]) ?_
   generalize MD M=Y at *;generalize (U.filter λr=>decide (St.f8 r<n)).map (·.drop n)=T at *;simp[cOf,tg]
 · obtain⟨u,hu,rfl⟩:=wj.mp hx;have hu:=(wP.mp hu).1;have:=(sU u hu).mono (bm U.length lU) (n+k);rw[St.A5];exact this
theorem Kl{n:Nat}{M:St.Meas}{c:aH}(lM:M.length=n)(lc:c.length=n)(n6:n<=6)(h:∀ p∈c.zip M,U6 [.int p.1,.int p.2.2]=some (.int p.1)):M9 [MD M,L c]=some .non:=by
 have ir:=GJ c n;rw[decide_eq_true (by rw[lc])]at ir;have bl:bLen [MD M]=some (.nw,.int n):=by
  have:bLen [MD M]=some (.nw,.int ((M.map tD).length:Int)):=rfl;rw[this,wn,lM]
 have sn:∀(f:Fl) (d:Dt),(nrm f d).2=d:=λ_ _=>rfl;have it:iZip (fN 1) (fN 0) [.sh false (MD M),.sh false (L c),.no,.no]=some ((c.zip M).map λp => .tup [.int p.1,tD p.2]):=by
  have z:zipD (c.map Dt.int) (M.map tD)=(c.zip M).map λp => .tup [.int p.1,tD p.2]:=T9 _ _ _ _;have ll:(c.map Dt.int).length=(M.map tD).length:=by simp[lM,lc]
  have:iZip (fN 1) (fN 0) [.sh false (MD M),.sh false (L c),.no,.no]=(if(c.map Dt.int).length=(M.map tD).length then some (zipD (c.map Dt.int) (M.map tD)) else none):=rfl;rw[this,if_pos ll,z]
 obtain⟨ρ',q,c2,c3,e⟩:=Jc (g:=Tg.many [2,3]) (F:=sIf (u9 (fOp opNe (i6 true U6 (f9 (fN 2) (f9 (fAt (fN 3) (fC (.int 1))) fNil))) (fN 2))) Cg A9) (λρ=>∃ c2 c3,ρ=[.sh false (MD M),.sh false (L c),c2,c3]) ((c.zip M).map λp => .tup [.int p.1,tD p.2]) [.sh false (MD M),.sh false (L c),.no,.no] ⟨.no,.no,rfl⟩ (λx hx ρ hρ=>by
  obtain⟨c2,c3,rfl⟩:=hρ;obtain⟨p,hp,rfl⟩:=wj.mp hx;have r:=h p hp;obtain⟨v,wt,pt⟩:=p;refine⟨[.sh false (MD M),.sh false (L c),.sh false (.int v),.sh false (tD (wt,pt))],?_,_,_,rfl⟩;dsimp only at r;generalize MD M=Y at *;unfold tD;simp[cOf,r,D4])
 subst e;have bq:Q9 [.sh false (MD M),.sh false (L c),.no,.no]=some (.nx [.sh false (MD M),.sh false (L c),c2,c3]):=by
  unfold Q9;refine run (ρ':=[.sh false (MD M),.sh false (L c),.no,.no]) (by
   generalize MD M=Y at *;simp[cOf,sn,bl,ir]) ?_
  show(iZip (fN 1) (fN 0) [.sh false (MD M),.sh false (L c),.no,.no]).bind _=_;rw[it];exact q
 unfold M9 cOf;rw[if_pos (show[MD M,L c].length=2 from rfl)];show(Q9 [.sh false (MD M),.sh false (L c),.no,.no]).bind _=_;rw[bq];rfl
theorem Nq{n r w e:Nat}{bills G T:aA}{M:St.Meas}{c:aH}(n6:n<=6)(em:D3 [v5 n bills]=some (MD M))(np:M9 [MD M,L c]=some .non)(eb:V7 [MD M]=some (LL T))(lT:T.length=n)(hT:∀ x∈T,x.length=n)(lc:c.length=n)(mk:∀ r∈T,∀ x∈c,∀ y∈r,D9 x y=true):Z7 [v5 n bills,L c]=some (L (mixR n T c)):=by
 have mx:=YD n T c (L c) (.inl rfl) (by rfl') hT (by rfl') mk;have sn:∀(f:Fl) (d:Dt),(nrm f d).2=d:=λ_ _=>rfl;have nf:nrm .sh (MD M)=(.sh,MD M):=rfl;refine T2 (f := .nw) rfl ?_ rfl;unfold CC;refine run (ρ':=[.sh false (v5 n bills),.sh false (L c),.sh false (MD M)]) (by
  generalize MD M=Y at *;simp[cOf,em,nf];rfl) ?_
 refine run (ρ':=[.sh false (v5 n bills),.sh false (L c),.sh false (MD M)]) (by
  generalize MD M=Y at *;simp[cOf,sn,np]) ?_
 generalize MD M=Y at *;simp[cOf,sn,eb,mx]
theorem Pa(ns:aH):E2 ns<=2\/∀ r∈M5 ns,St.Lt 31 r:=by
 by_cases h:D5 ns=2
 · left;unfold E2;rw[if_pos h];have:=C4 (Ci ns) (show(0:Int)<2 by decide);rfl'
 · right;intro r hr;unfold M5 at hr;obtain⟨k,_,rfl⟩:=wj.mp hr;exact row_31 _ _ _ _ (by rcases Bk ns with h|h|h<;>rfl') (by rcases Bk ns with h|h|h<;>rfl')
theorem QQ{n:Nat}{bills:aA}(H:Hall n bills)(hc:n<=2\/∀ r∈bills,St.Lt 31 r):∃(M:St.Meas) (G:aA) (w e:Nat),D3 [v5 n bills]=some (MD M)/\Mz n G.length G M/\Ml n w M/\0<w/\w<=620/\w<=e/\e<=8990/\St.bnd (n+n) (2 ^ w)+1<=2 ^ e/\St.Asc n 0 G/\Lat.Form 0 (St.u5 G)/\Lat.SameSpan (St.vecs G) (St.vecs bills)/\∀ x∈G,St.Lt (2 ^ 209) x:=by
 obtain⟨G,es,Gd,_⟩:=QD H;have n1:=H.n1;have n6:=H.n6;have gl:=St.Z4 Gd.asc (wU _);have core:∀(B j g w e:Nat),(∀ r∈bills,St.Lt B r)->0<B->n<=j->0<j->j<=6->St.bnd j B+1<=2 ^ g->g<=209->g*j<=w->St.bnd j (2 ^ (g+1))+1<=2 ^ w->0<w->w<=619->w+1<=e->e<=8990->St.bnd (j+j) (2 ^ (w+1))+1<=2 ^ e->∃(M:St.Meas) (G:aA) (w e:Nat),D3 [v5 n bills]=some (MD M)/\Mz n G.length G M/\Ml n w M/\0<w/\w<=620/\w<=e/\e<=8990/\St.bnd (n+n) (2 ^ w)+1<=2 ^ e/\St.Asc n 0 G/\Lat.Form 0 (St.u5 G)/\Lat.SameSpan (St.vecs G) (St.vecs bills)/\∀ x∈G,St.Lt (2 ^ 209) x:=by
   intro B j g w e bb B0 nj j0 j6 c1 g9 gw c2 w0 w6 we e9 c3;have gg:∀ x∈G,St.Lt (2 ^ g) x:=λx hx=>((⟨Gd.asc,Gd.form,Gd.span,Gd.ind,Gd.len,Gd.full⟩:St.Good n B bills G).small bb B0 x hx).mono (Dw (by rfl') j0 B0 c1);obtain⟨M,em,Z,hx⟩:=Nn n6 (by rfl') es Gd.asc gg;have pw:(2:Nat) ^ (g*G.length)<=2 ^ w:=wq (by decide) (wK (vc _ (by rfl')) gw);have pc:((2 ^ (g*G.length):Nat):Int)=(2:Int) ^ (g*G.length):=by norm_cast
   have pd:((2 ^ w:Nat):Int)=(2:Int) ^ w:=by norm_cast
   have pe:((2 ^ (w+1):Nat):Int)=(2:Int) ^ (w+1):=by norm_cast
   have p2:(2:Nat) ^ (w+1)=2 ^ w*2:=vQ _ _;have p1:=wJ w;have nn:=Z.nn;refine⟨M,G,w+1,e,em,Z,⟨λx h=>⟨nn x h,?_⟩,λx h y hy=>?_,λx h p=>((hx x h).1 p).2⟩,by rfl',by rfl',by rfl',e9,?_,Gd.asc,Gd.form,Gd.span,λx hx=>(gg x hx).mono (wq (by decide) g9)⟩
   · by_cases q:x.2=0
     · rw[q];rfl'
     · have:=((hx x h).1 (by have:=nn x h;rfl')).1;rfl'
   · by_cases q:x.2=0
     · have a:=(hx x h).2 q y hy;have:=Dw (k:=n) nj j0 (wJ _) c2;rfl'
     · have p0:0<x.2:=by have:=nn x h;rfl'
       have a:=((hx x h).1 p0).1;have b:=((hx x h).1 p0).2 y hy;rfl'
   · exact Dw (show n+n<=j+j by rfl') (by rfl') (wJ _) c3
 rcases hc with h|h
 · exact core (10 ^ 30) 2 209 430 2000 H.lt (by decide) h (by decide) (by decide) (by unfold St.bnd;decide) (by decide) (by decide) (by unfold St.bnd;decide) (by decide) (by decide) (by decide) (by decide) (by unfold St.bnd;decide)
 · exact core 31 6 90 610 7700 h (by decide) n6 (by decide) (by decide) (by unfold St.bnd;decide) (by decide) (by decide) (by unfold St.bnd;decide) (by decide) (by decide) (by decide) (by decide) (by unfold St.bnd;decide)
theorem WQ{n:Nat}:∀{S:aA} {f:Nat},St.Asc n f S->f+S.length=n->∀ k,f<=k->k<n->∃ g∈S,St.f8 g=k
 | [],f,_,h,k,h1,h2=>by simp at h;rfl'
 | r::S,f,A,h,k,h1,h2=>by
  have l:=St.Z4 A.2.2.2.2 (show St.f8 r+1<=n from A.2.2.1);have e:St.f8 r=f:=by have:=A.2.1;have:=A.2.2.1;simp at h;rfl'
  by_cases q:k=f
  · exact⟨r,wf,by rfl'⟩
  · obtain⟨g,hg,eg⟩:=WQ A.2.2.2.2 (by simp at h;rfl') k (by rfl') h2;exact⟨g,wc _ hg,eg⟩
theorem YE{n:Nat}{bills:aA}{M:St.Meas}(n1:1<=n)(em:D3 [v5 n bills]=some (MD M))(lM:M.length=n):EQ [v5 n bills]=some (if St.mp M (n-1)=0 then .non else .int (St.mp M (n-1))):=by
 have ep:=OW em;have a1:atI ((M.map (·.2)).map Dt.int) (-1)=some (.int (St.mp M (n-1))):=by
   have ll:((M.map (·.2)).map Dt.int).length=n:=by simp[lM]
   have gx:((M.map (·.2)).map Dt.int)[n-1]?=some (.int (St.mp M (n-1))):=by
    rw[wv,wv];unfold St.mp;rw[List.getD,wa (show n-1<M.length by rfl')];rfl
   unfold atI ixN;rw[if_neg (by decide),if_pos (by rfl'),ll];show((M.map (·.2)).map Dt.int)[((-1:Int)+(n:Int)).toNat]?=_;rw[show((-1:Int)+(n:Int)).toNat=n-1 by rfl'];exact gx
 generalize M.map (·.2)=Q at *;generalize St.mp M (n-1)=p at *;unfold EQ Jj;by_cases h:p=0
 · simp[cOf,ep,a1,h,D4]
 · simp[cOf,ep,a1,h,D4]
theorem z0s{n:Nat}{bills G:aA}{M:St.Meas}(Z:Mz n G.length G M)(sp:Lat.SameSpan (St.vecs G) (St.vecs bills)){m:Int}(hm:∀ i,i<n->St.mp M i∣m){v:Lat.Vec}(hv:∀ k,n<=k->v k=0):Lat.Span (St.vecs bills) (λk=>m*v k):=by
 refine sp.iff.mp ((Z.ms.ker _ (λk hk=>by rw[hv k hk,uf])).mpr λi hi=>?_);have e:St.dt n (St.mw M i) (λk=>m*v k)=m*St.dt n (St.mw M i) v:=by
  unfold St.dt;rw[←St.L4];exact St.o9 λk _=>vT _ _ _
 rw[e];exact vE (hm i (by rw[←Z.len];exact hi)) (w0m _ _)
theorem z0t{n:Nat}{bills G T:aA}{M:St.Meas}{c:aH}(n1:1<=n)(Z:Mz n G.length G M)(sp:Lat.SameSpan (St.vecs G) (St.vecs bills))(wT:Wide n T)(lc:c.length=n)(hm:0<St.mp M (n-1))(hp:∀ k,k<n->St.mp M k∣St.dt n (St.mw M k) (St.mix T c)-St.at0 c k)(c0:∀ k,k<n-1->St.at0 c k=0)(c1:St.mp M (n-1)=1\/St.at0 c (n-1)=1):St.IsOrd bills (mixR n T c) (some (St.mp M (n-1))):=by
 refine⟨hm,λt=>?_⟩;unfold St.Ty;have ml:(mixR n T c).length=n:=EB wT;have mv:(λk=>t*St.at0 (mixR n T c) k)=λk=>t*St.mix T c k:=funext λk=>by rw[Jb wT]
 rw[←sp.iff,Z.ms.ker _ (λk hk=>by rw[St.u7 (by rfl'),uf]),mv];have e:∀ i,St.dt n (St.mw M i) (λk=>t*St.mix T c k)=t*St.dt n (St.mw M i) (St.mix T c):=λi=>by
   unfold St.dt;rw[←St.L4];exact St.o9 λk _=>vT _ _ _
 constructor
 · intro h;rcases c1 with q|q
   · rw[q];exact Int.one_dvd _
   · have a:=h (n-1) (by rw[Z.len];rfl');rw[e]at a;have b:=hp (n-1) (by rfl');rw[q]at b;have b:=vE b (uG t _);have:=w1i a b
     rwa [show t*St.dt n (St.mw M (n-1)) (St.mix T c)-t*(St.dt n (St.mw M (n-1)) (St.mix T c)-1)=t by rw[uO];rfl']at this
 · intro h i hi;rw[Z.len]at hi;rw[e];by_cases q:i=n-1
   · rw[q];exact vE h (w0m _ _)
   · have b:=hp i hi;rw[c0 i (by rfl'),Int.sub_zero]at b;exact vE b (uG _ _)
abbrev P21:FS:=(sSeq (sSet [] 10 (i6 true U8 (f9 (fN 4) (f9 (fBlt bLst (f9 (fN 7) fNil)) (f9 (fBlt bLst (f9 (fN 9) fNil)) fNil)))))
 (sIf (fOr (u9 (fOp Hf (fN 10) (fC .non))) (fNot (fTru (i6 true K6 (f9 (fN 3) (f9 (fN 7) (f9 (fN 9) (f9 (fN 10) fNil)))))))) (sRet (fC (.bl false))) A9))
theorem YF{bills:aA}{z b us:aH}{hd:Dt}(pl:U8 [hd,L z,L b]=some (L us))(ld:K6 [LL bills,L z,L b,L us]=some (.bl true))(c0 c1 c2 c5 c6 c8 c9 c10 c11:Cell):
  (Tg.put (Tg.one 9) (L b) [c0,c1,c2,.sh true (LL bills),.sh true hd,c5,c6,.sh true (L z),c8,c9,c10,c11]).bind P21=some (.nx [c0,c1,c2,.sh true (LL bills),.sh true hd,c5,c6,.sh true (L z),c8,.sh false (L b),.sh true (L us),c11]):=by
 show P21 [c0,c1,c2,.sh true (LL bills),.sh true hd,c5,c6,.sh true (L z),c8,.sh false (L b),c10,c11]=_;have sn:∀(f:Fl) (d:Dt),(nrm f d).2=d:=λ_ _=>rfl;have i1:Hf (L us) .non=some (.nw,.bl false):=rfl;refine run (by simp[cOf,sn,pl];rfl) ?_;simp[cOf,i1,ld]
theorem z0u(ns:List Int)(h:ns.length≤63):WI [.scr ns]=some (.bl true):=by
  have H:=QF ns;have eb:=Qx ns;have hc:=Pa ns;generalize M5 ns=bills at *;generalize E2 ns=n at *;have n1:=H.n1;have n6:=H.n6;have eh:=H.made;obtain⟨M,G,w,e,em,Z,l,w0,w6,we,e9,hb,aG,fG,sp,gG⟩:=QQ H hc;have lM:=Z.len;have nn:=Z.nn;have ep:=OW em;have epd:=YE n1 em lM;have mp0:∀ i,i<n->0<=St.mp M i/\St.mp M i<2 ^ w:=λi hi=>l.part _ (Jx (by rfl'));have c2:((2 ^ w:Nat):Int)=(2:Int) ^ w:=by norm_cast
  have sn:∀(f:Fl) (d:Dt),(nrm f d).2=d:=λ_ _=>rfl;have cp:=copies bills [.sh false (.scr ns),.sh true (.tup [.int n,LL bills]),.sh true (.int n),.sh true (LL bills),.no,.no,.no,.no,.no,.no,.no,.no] (fN 3) .fr (by simp[cOf]);have il:opIn (.int 0) (L (M.map (·.2)))=some (.nw,.bl ((M.map (·.2)).any λy=>decide (y=0))):=by
    show(DJ ((M.map (·.2)).map Dt.int)).map _=_;rw[KO];rfl
  have last0:((M.map (·.2)).any λy=>decide (y=0))=decide (St.mp M (n-1)=0):=by
    by_cases q:St.mp M (n-1)=0
    · rw[decide_eq_true q,w0q];exact⟨_,wj.mpr ⟨_,Jx (M:=M) (i:=n-1) (by rfl'),rfl⟩,decide_eq_true q⟩
    · rw[decide_eq_false q,w0f];intro y hy;obtain⟨x,hx,rfl⟩:=wj.mp hy;obtain⟨i,hi,rfl⟩:=wH hx;have e1:M[i].2=St.mp M i:=by unfold St.mp;rw[List.getD,wa hi];rfl
      rw[e1,decide_eq_true_iff];intro z;have hr:¬i<G.length:=λq2=>by have:=Z.pos i q2;rfl'
      exact q (Z.zero (n-1) (by rfl') (by rfl'))
  rw[last0]at il;have alast:atI ((M.map (·.2)).map Dt.int) ((n:Int)-1)=some (.int (St.mp M (n-1))):=by
    rw[show(n:Int)-1=((n-1:Nat):Int) by rfl'];refine S9 ?_;rw[wv,wv];unfold St.mp;rw[List.getD,wa (show n-1<M.length by rfl')];rfl
  have tail:St.mp M (n-1)≠0->∃(z:aH) (T:aA) (c:aH),z=n8 n/\c=(n8 n).set (n-1) (if 1<St.mp M (n-1) then 1 else 0)/\Z7 [v5 n bills,L c]=some (L (mixR n T c))/\EO [v5 n bills,L (mixR n T c)]=some (.int (St.mp M (n-1)))/\(∀ v:aH,v.length=n->St.Lt (2 ^ 100) v->∃ us,U8 [v5 n bills,L (n8 n),L (sclR (St.mp M (n-1)) v)]=some (L us)/\K6 [LL bills,L (n8 n),L (sclR (St.mp M (n-1)) v),L us]=some (.bl true)):=λhne=>by
    have hp:0<St.mp M (n-1):=by have:=mp0 (n-1) (by rfl');rfl'
    have rn:G.length=n:=by
      have:=Z.rn;by_cases q:G.length=n
      · exact q
      · exact absurd (Z.zero (n-1) (by rfl') (by rfl')) hne
    have dv:∀ i,i<n->St.mp M i∣St.mp M (n-1):=λi hi=>by
      by_cases q:i=n-1
      · rw[q];exact uW _
      · exact Z.dvd i _ (by rfl') (by rfl')
    obtain⟨T,et,lT,hT,tp,ts⟩:=Kk n1 n6 Z l w0 we e9 hb;have wT:Wide n T:=λx hx=>(hT x hx).1;generalize hcc:(n8 n).set (n-1) (if 1<St.mp M (n-1) then(1:Int) else 0)=c;have lc:c.length=n:=by rw[←hcc,vq,B3]
    have ac:∀ k,St.at0 c k=if k=n-1 then(if 1<St.mp M (n-1) then 1 else 0) else 0:=λk=>by
      rw[←hcc];by_cases q:k=n-1
      · rw[if_pos q,q];unfold St.at0;rw[List.getD,vw,if_pos rfl,if_pos (by rw[B3];rfl')];rfl
      · rw[if_neg q];have:=G6 n k;unfold St.at0 at this ⊢;rw[List.getD,vo (by rfl')];exact this
    have sc:St.Lt (2 ^ 1) c:=λk=>by rw[ac];split<;>(try split)<;>decide
    have np:M9 [MD M,L c]=some .non:=Kl lM lc n6 λp hp'=>by
      obtain⟨k,hk,rfl⟩:=wH hp';have hk':k<n:=by simp at hk;rfl'
      have e2:((c.zip M)[k]).1=St.at0 c k:=by
        unfold St.at0;rw[List.getD,wa (show k<c.length by rfl')];simp
      have e3:((c.zip M)[k]).2.2=St.mp M k:=by
        unfold St.mp;rw[List.getD,wa (show k<M.length by rfl')];simp
      rw[e2,e3];have p0:0<St.mp M k:=Z.pos k (by rfl');rw[Nl _ _ p0,Int.fmod_eq_of_lt (by rw[ac];split<;>(try split)<;>decide) (by
        rw[ac];split
        · rename_i q;rw[q]at p0 ⊢;split<;>rfl'
        · exact p0)]
    have ba:=Nq (r:=0) (w:=0) (e:=0) (G:=[]) n6 em np et lT wT lc (λr hr x hx y hy=>N1 (Qw sc x hx) (Qw (hT r hr).2 y hy) (by rfl'));have ml:(mixR n T c).length=n:=EB wT;have sT:∀ t∈T,St.Lt (2 ^ 209) t:=λt ht k=>by
      by_cases hk:k<n
      · obtain⟨g,hg,eg⟩:=WQ aG (by rfl') k (wU _) hk;have a:=ts aG fG t ht g hg;rw[eg]at a;have b:(St.hd g).natAbs<2 ^ 209:=gG g hg _;rfl'
      · rw[St.u7 (by rw[wT t ht];rfl')];exact wJ _
    have sb:St.Lt (2 ^ 210) (mixR n T c):=λk=>by
      rw[Jb wT,St.MR T c k (by rfl'),St.L5 (i:=n-1) (by rfl') λj hj hne=>by rw[ac,if_neg hne,Int.zero_mul],ac,if_pos rfl];have a:(St.at0 (T.getD (n-1) []) k).natAbs<2 ^ 209:=sT _ (by rw[List.getD,wa (show n-1<T.length by rfl')];exact ve _) k;have:(2:Nat) ^ 209<=2 ^ 210:=by decide
      split
      · rw[Int.one_mul];rfl'
      · rw[Int.zero_mul];exact wJ _
    obtain⟨o,eo,io⟩:=z0q H ml sb;have lo:=z0t n1 Z sp wT lc hp (tp c lc) (λk hk=>by rw[ac,if_neg (by rfl')]) (by
      by_cases q:1<St.mp M (n-1)
      · right;rw[ac,if_pos rfl,if_pos q]
      · left;rfl')
    have:=io.one lo;subst this;refine⟨_,T,c,rfl,rfl,ba,eo,λv lv sv=>?_⟩;have lm:(sclR (St.mp M (n-1)) v).length=n:=by rw[A3];exact lv
    have pm:=mp0 (n-1) (by rfl');have sm:St.Lt (2 ^ (621+100)) (sclR (St.mp M (n-1)) v):=λk=>by
      rw[V4,vd,vt];refine uj ?_ (sv k);have:(2:Nat) ^ w<=2 ^ 621:=wq (by decide) (by rfl');rfl'
    rcases OV (s:=721) H B3 lm (λk=>by rw[G6];exact wJ _) sm (by decide) with⟨us,pl,ld,_⟩|⟨_,no⟩
    · exact⟨us,pl,ld⟩
    · refine absurd (Lat.Span.congr (λk=>?_) (z0s Z sp dv (v:=λk=>St.at0 v k) λk hk=>St.u7 (by rfl'))) no;rw[V4,G6];rfl'
  refine T2 (f := .nw) rfl ?_ rfl;unfold z0a;refine run (ρ':=[.sh false (.scr ns),.sh true (.tup [.int n,LL bills]),.no,.no,.no,.no,.no,.no,.no,.no,.no,.no]) (by simp[cOf,eb]) ?_;refine run (ρ':=[.sh false (.scr ns),.sh true (.tup [.int n,LL bills]),.sh true (.int n),.no,.no,.no,.no,.no,.no,.no,.no,.no]) (by simp[cOf]) ?_;refine run (ρ':=[.sh false (.scr ns),.sh true (.tup [.int n,LL bills]),.sh true (.int n),.sh true (LL bills),.no,.no,.no,.no,.no,.no,.no,.no]) (by simp[cOf]) ?_;refine run (ρ':=[.sh false (.scr ns),.sh true (.tup [.int n,LL bills]),.sh true (.int n),.sh true (LL bills),.sh true (v5 n bills),.no,.no,.no,.no,.no,.no,.no]) (by simp[cOf,cp,eh]) ?_;generalize v5 n bills=hd at *;generalize Dt.tup [.int n,LL bills]=dr at *;generalize M.map (·.2)=Q at *;by_cases hz:St.mp M (n-1)=0
  · rw[if_pos hz]at epd;rw[decide_eq_true hz]at il;have i1:Hf .non .non=some (.nw,.bl true):=rfl;refine run (ρ':=[.sh false (.scr ns),.sh true dr,.sh true (.int n),.sh true (LL bills),.sh true hd,.sh true .non,.no,.no,.no,.no,.no,.no]) (by simp[cOf,sn,epd]) ?_;refine run (ρ':=[.sh false (.scr ns),.sh true dr,.sh true (.int n),.sh true (LL bills),.sh true hd,.sh true .non,.sh true (L Q),.no,.no,.no,.no,.no]) (by simp[cOf,sn,ep]) ?_;have s1:sIf (u9 (fOp opIn (fC (.int 0)) (fN 6))) (sRet (fOp Hf (fN 5) (fC .non))) A9 [.sh false (.scr ns),.sh true dr,.sh true (.int n),.sh true (LL bills),.sh true hd,.sh true .non,.sh true (L Q),.no,.no,.no,.no,.no]=some (.rt .nw (.bl true)):=by simp[cOf,il,i1]
    show(sIf _ _ _ _).bind _=_;rw[s1];rfl
  · obtain⟨ z,T,c,ez,ec,ba,eo,pl⟩:=tail hz
    rw[if_neg hz]at epd;rw[decide_eq_false hz]at il;have hp:0<St.mp M (n-1):=by have:=mp0 (n-1) (by rfl');rfl'
    have pm:=mp0 (n-1) (by rfl');have wh:=Js (.int (St.mp M (n-1)));have wh:P5 [.int (St.mp M (n-1))]=some (.bl true):=wh;have k5:=N0 ns 5 (by decide);have o2:Ca (v8 ns 5) 2=true:=Lk (by decide);obtain⟨g0,g2⟩:=C4 (v8 ns 5) (show(0:Int)<2 by decide);generalize ew:(v8 ns 5).fmod 2=md at *;have er:=OM ns 40 n md (by decide) (by rfl') g0 (by rfl');have rl:=Gh ns 40 n md;have r30:=Op ns 40 n md;generalize Z3 ns 40 n md=rw_ at *;have nz:¬St.mp M (n-1)<1:=by rfl'
    have mk:∀ x:Int,x.natAbs<2 ^ 100->D9 (St.mp M (n-1)) x=true:=λx hx=>N1 (m:=w) (k:=100) (by rfl') hx (by rfl');generalize St.mp M (n-1)=m at *;have zc:=λc6=>z0j n (by rfl') [.sh false (.scr ns),.sh true dr,.sh true (.int n),.sh true (LL bills),.sh true hd,.sh true (.int m),.sh true (L Q),c6,.no,.no,.no,.no] (fN 2) .nw (by simp[cOf]);have e8:j9 1 [2,5] (m9 (fN 2)) (Tg.one 0) fYes (j9 1 [2,0] (m9 (fN 1)) (Tg.one 0) fYes (fOp D6 (fN 1) (fBlt bInt (f9 (fOp opEq (fN 0) (fN 2)) fNil)))) [.sh false (.scr ns),.sh true dr,.sh true (.int n),.sh true (LL bills),.sh true hd,.sh true (.int m),.sh true (L Q),.sh true (L (n8 n)),.no,.no,.no,.no]=some (.nw,LL ((List.range n).map λk=>sclR m (St.o7 n k))):=by
      rw[m6 (e:=fun(k:Nat) => .int (0+(k:Int))) (h:=fun k=>L (sclR m (St.o7 n k))) (xs:=List.range n) (by simp[cOf,y13 n (by omega),v7]) (fun k hk=>by
        show j9 1 [2,0] (m9 (fN 1)) (Tg.one 0) fYes (fOp D6 (fN 1) (fBlt bInt (f9 (fOp opEq (fN 0) (fN 2)) fNil))) [.sh false (.int (0+(k:Int))),.sh false (.int n),.sh false (.int m)]=_;rw[m6 (e:=λ(j:Nat) => .int (0+(j:Int))) (h:=λj => .int (m*(if j=k then 1 else 0))) (xs:=List.range n) (by simp[cOf,y13 n (by rfl'),v7]) (λj hj=>by
          have m1:=mk 1 (by decide);have m0:=mk 0 (by decide);have b1:bInt [.bl true]=some (.nw,.int 1):=rfl;have b0:bInt [.bl false]=some (.nw,.int 0):=rfl;by_cases q:j=k
          · subst q;simp[cOf,C7,b1,m1]
          · have q':¬(j:Int)=(k:Int):=by rfl'
            simp[cOf,C7,q,q',b0,m0])]
        simp[L,sclR,St.o7])]
      simp[LL]
    have e9':∀ c8:Cell,j9 1 [5] (iSeq (i6 true V8 (f9 (fN 0) (f9 (fC (.int 40)) (f9 (fN 2) (f9 (fOp T5 (i6 true B9 (f9 (fN 0) (f9 (fC (.int 5)) fNil))) (fC (.int 2))) fNil)))))) (Tg.one 0) fYes (fOp D6 (fN 1) (fN 0)) [.sh false (.scr ns),.sh true dr,.sh true (.int n),.sh true (LL bills),.sh true hd,.sh true (.int m),.sh true (L Q),.sh true (L (n8 n)),c8,.no,.no,.no]=some (.nw,L (sclR m rw_)):=λc8=>by
      rw[m6 (e:=Dt.int) (h:=λx => .int (m*x)) (xs:=rw_) (by simp[cOf,k5,o2,ew,er]) (λx hx=>by
        have:=mk x (w0w (r30 x hx) (by decide));simp[cOf,this])]
      simp[L,sclR]
    have un:∀ k,St.Lt (2 ^ 100) (St.o7 n k):=λk i=>by rw[St.w8];split<;>decide
    have rs:St.Lt (2 ^ 100) rw_:=(St.KZ (by decide) r30).mono (by decide);have all:∀ x∈((List.range n).map λk=>sclR m (St.o7 n k))++[sclR m rw_],∃ us,U8 [hd,L (n8 n),L x]=some (L us)/\K6 [LL bills,L (n8 n),L x,L us]=some (.bl true):=λx hx=>by
      rcases wx.mp hx with hx|hx
      · obtain⟨k,_,rfl⟩:=wj.mp hx;exact pl _ (St.K5 n k) (un k)
      · rw[wV.mp hx];exact pl _ rl rs
    have ln:(((List.range n).map λk=>sclR m (St.o7 n k)).map L).length<1000000:=by simp;rfl'
    generalize ((List.range n).map λk=>sclR m (St.o7 n k))=R at *;generalize sclR m rw_=rr at *;subst ez;have gt:opGt (.int m) (.int 1)=some (.nw,.bl (decide (1<m))):=by simp[cOf]
    refine run (ρ':=[.sh false (.scr ns),.sh true dr,.sh true (.int n),.sh true (LL bills),.sh true hd,.sh true (.int m),.no,.no,.no,.no,.no,.no]) (by simp[cOf,sn,epd]) ?_;refine run (ρ':=[.sh false (.scr ns),.sh true dr,.sh true (.int n),.sh true (LL bills),.sh true hd,.sh true (.int m),.sh true (L Q),.no,.no,.no,.no,.no]) (by simp[cOf,sn,ep]) ?_;refine run (ρ':=[.sh false (.scr ns),.sh true dr,.sh true (.int n),.sh true (LL bills),.sh true hd,.sh true (.int m),.sh true (L Q),.no,.no,.no,.no,.no]) (by simp[cOf,il]) ?_;refine run (ρ':=[.sh false (.scr ns),.sh true dr,.sh true (.int n),.sh true (LL bills),.sh true hd,.sh true (.int m),.sh true (L Q),.no,.no,.no,.no,.no]) (by simp[cOf,wh,nz]) ?_;refine run (ρ':=[.sh false (.scr ns),.sh true dr,.sh true (.int n),.sh true (LL bills),.sh true hd,.sh true (.int m),.sh true (L Q),.sh true (L (n8 n)),.no,.no,.no,.no]) (by simp[cOf,zc .no]) ?_;refine run (ρ':=[.sh false (.scr ns),.sh true dr,.sh true (.int n),.sh true (LL bills),.sh true hd,.sh true (.int m),.sh true (L Q),.sh true (L (n8 n)),.ow true (R.map L),.no,.no,.no]) (by simp[cOf,e8]) ?_;refine run (ρ':=[.sh false (.scr ns),.sh true dr,.sh true (.int n),.sh true (LL bills),.sh true hd,.sh true (.int m),.sh true (L Q),.sh true (L (n8 n)),.ow true ((R++[rr]).map L),.no,.no,.no]) (by
      have e9':=e9' .no;simp[cOf,e9'];simpa using ln) ?_
    obtain⟨ρ',q1,c9,c10,q2⟩:=Jc (g:=Tg.one 9) (F:=P21) (λρ=>∃ c9 c10,ρ=[.sh false (.scr ns),.sh true dr,.sh true (.int n),.sh true (LL bills),.sh true hd,.sh true (.int m),.sh true (L Q),.sh true (L (n8 n)),.sh true (LL (R++[rr])),c9,c10,.no]) ((R++[rr]).map L) _ ⟨.no,.no,rfl⟩ (λx hx ρ hρ=>by
      obtain⟨c9,c10,rfl⟩:=hρ;obtain⟨b,hb',rfl⟩:=wj.mp hx;obtain⟨us,p1,p2⟩:=all b hb';exact⟨_,YF p1 p2 _ _ _ _ _ _ _ _ _,_,_,rfl⟩)
    subst q2;refine run (ρ':=[.sh false (.scr ns),.sh true dr,.sh true (.int n),.sh true (LL bills),.sh true hd,.sh true (.int m),.sh true (L Q),.sh true (L (n8 n)),.sh true (LL (R++[rr])),c9,c10,.no]) (by
      exact q1) ?_
    have z11:=z0j n (by rfl') [.sh false (.scr ns),.sh true dr,.sh true (.int n),.sh true (LL bills),.sh true hd,.sh true (.int m),.sh true (L Q),.sh true (L (n8 n)),.sh true (LL (R++[rr])),Aw c9,Aw c10,.no] (fN 2) .nw (by simp[cOf]);generalize LL (R++[rr])=Y at *;refine run (ρ':=[.sh false (.scr ns),.sh true dr,.sh true (.int n),.sh true (LL bills),.sh true hd,.sh true (.int m),.sh true (L Q),.sh true (L (n8 n)),.sh true Y,c9,c10,.ow true ((n8 n).map Dt.int)]) (by simp[cOf,z11]) ?_;have ix:ixN ((n8 n).map Dt.int).length ((n:Int)-1)=some (n-1):=by
      rw[show(n:Int)-1=((n-1:Nat):Int) by rfl'];exact MS (by rw[wn,B3];rfl')
    have bi:bInt [.bl (decide (1<m))]=some (.nw,.int (if 1<m then 1 else 0)):=by
      unfold bInt;by_cases q:1<m
      · simp[q]
      · simp[q]
    have cs:((n8 n).map Dt.int).set (n-1) (.int (if 1<m then 1 else 0))=c.map Dt.int:=by rw[ec,w12]
    refine run (ρ':=[.sh false (.scr ns),.sh true dr,.sh true (.int n),.sh true (LL bills),.sh true hd,.sh true (.int m),.sh true (L Q),.sh true (L (n8 n)),.sh true Y,c9,c10,.ow true (c.map Dt.int)]) (by
      rw[←cs];generalize (n8 n).map Dt.int=zs at *;simp[cOf,alast,bi,ix]) ?_
    generalize mixR n T c=b at *;have q1:opEq (.int m) (.int m)=some (.nw,.bl true):=by rw[C7];simp
    simp[cOf,sn,ba,eo,q1]
end
def top(i:Nat):Stmt:=PySem.Challenge.pw_changehall_k21_periods.main.body.getD i (.Pass ⟨0,0,0,0⟩)
abbrev Ei:Stmt:=top 6
theorem Pb:FnScope ["value"] ["value"] (i0 Ei):=scm
abbrev EX:Stmt:=top 7
theorem YG:FnScope ["value", "length"] ["value", "length"] (i0 EX):=scm
abbrev Dx:Stmt:=top 8
theorem QR:FnScope ["length"] ["length"] (i0 Dx):=scm
abbrev BE:Stmt:=top 9
theorem Pc:FnScope ["length", "one_at"] ["length", "one_at"] (i0 BE):=scm
abbrev HY:Stmt:=top 10
theorem z0v:FnScope ["one", "other"] ["one", "other"] (i0 HY):=scm
abbrev HZ:Stmt:=top 11
theorem z0w:FnScope ["one", "other"] ["one", "other"] (i0 HZ):=scm
abbrev EY:Stmt:=top 12
theorem YH:FnScope ["row", "often"] ["row", "often"] (i0 EY):=scm
abbrev Dy:Stmt:=top 13
theorem QS:FnScope ["row", "weights"] ["row", "weights"] (i0 Dy):=scm
abbrev Nr:Stmt:=top 14
theorem CK:FnScope ["rows", "counts", "length", "total", "row", "often"] ["rows", "counts", "length"] (i0 Nr):=scm
abbrev GP:Stmt:=top 15
theorem Ej:FnScope ["row", "spot", "number"] ["row"] (i0 GP):=scm
abbrev CL:Stmt:=top 19
theorem Nt:FnScope ["value"] ["value"] (i0 CL):=scm
abbrev Dz:Stmt:=top 20
theorem QT:FnScope ["value", "kinds"] ["value", "kinds"] (i0 Dz):=scm
abbrev BG:Stmt:=top 21
theorem Km:FnScope ["kinds"] ["kinds"] (i0 BG):=scm
abbrev CM:Stmt:=top 22
theorem Nu:FnScope ["bill", "kinds"] ["bill", "kinds"] (i0 CM):=scm
abbrev DA:Stmt:=top 24
theorem QU:FnScope ["kinds", "rows"] ["kinds", "rows"] (i0 DA):=scm
abbrev GQ:Stmt:=top 23
theorem Jy:FnScope ["kinds", "bills", "bill"] ["kinds", "bills"] (i0 GQ):=scm
abbrev S6:Stmt:=top 25
theorem EZ:FnScope ["kinds", "basket"] ["kinds", "basket"] (i0 S6):=scm
abbrev Am:Stmt:=top 26
theorem Jz:FnScope ["hall", "basket"] ["hall", "basket"] (i0 Am):=scm
abbrev JA:Stmt:=top 27
theorem YI:FnScope ["hall"] ["hall"] (i0 JA):=scm
abbrev Nv:Stmt:=top 28
theorem z0x:FnScope ["hall", "one", "other"] ["hall", "one", "other"] (i0 Nv):=scm
abbrev CN:Stmt:=top 30
theorem P6:FnScope ["a", "b", "upper", "lower", "often", "left"] ["a", "b"] (i0 CN):=scm
abbrev QV:Stmt:=top 31
theorem z4d:FnScope ["a", "part"] ["a", "part"] (i0 QV):=scm
abbrev GR:Stmt:=top 32
theorem BH:FnScope ["numbers", "found", "number"] ["numbers"] (i0 GR):=scm
abbrev Ek:Stmt:=top 34
theorem L7:FnScope ["row", "rungs", "left", "counts", "rung", "spot", "often"] ["row", "rungs"] (i0 Ek):=scm
abbrev GS:Stmt:=top 35
theorem QW:FnScope ["row", "rungs"] ["row", "rungs"] (i0 GS):=scm
abbrev GT:Stmt:=top 36
theorem Y7:FnScope ["rung", "row", "spot", "found", "upper", "lower"] ["rung", "row"] (i0 GT):=scm
abbrev CO:Stmt:=top 37
theorem Nw:FnScope ["row"] ["row"] (i0 CO):=scm
abbrev BJ:Stmt:=top 38
theorem P7:FnScope ["rungs", "row", "found", "left", "places", "pair"] ["rungs", "row"] (i0 BJ):=scm
abbrev JB:Stmt:=top 39
theorem GV:FnScope ["rungs", "found", "rung"] ["rungs"] (i0 JB):=scm
abbrev GW:Stmt:=top 40
theorem BK:FnScope ["rows", "rungs", "row"] ["rows"] (i0 GW):=scm
abbrev R0:Stmt:=top 41
theorem HM:FnScope ["rows", "tags"] ["rows", "tags"] (i0 R0):=scm
abbrev O3:Stmt:=top 42
theorem GX:FnScope ["rungs", "width"] ["rungs", "width"] (i0 O3):=scm
abbrev N3:Stmt:=top 43
theorem Fd:FnScope ["rungs", "width"] ["rungs", "width"] (i0 N3):=scm
abbrev Nx:Stmt:=top 44
theorem z0y:FnScope ["hall"] ["hall"] (i0 Nx):=scm
abbrev K9:Stmt:=top 45
theorem Y8:FnScope ["hall", "many"] ["hall"] (i0 K9):=scm
abbrev Ff:Stmt:=top 47
theorem YJ:FnScope ["rows", "width"] ["rows", "width"] (i0 Ff):=scm
abbrev BL:Stmt:=top 48
theorem CP:FnScope ["rows", "place", "row"] ["rows"] (i0 BL):=scm
abbrev Ia:Stmt:=top 49
theorem z0z:FnScope ["row", "part"] ["row", "part"] (i0 Ia):=scm
abbrev W8:Stmt:=top 50
theorem L8:FnScope ["rows", "tags", "whole", "many", "square", "weights", "other", "both"] ["rows", "tags", "whole"] (i0 W8):=scm
abbrev JC:Stmt:=top 51
theorem W9:FnScope ["one", "other", "found", "common", "least", "upper", "lower"] ["one", "other"] (i0 JC):=scm
abbrev DB:Stmt:=top 52
theorem Y9:FnScope ["measured", "found", "first", "second", "pair"] ["measured"] (i0 DB):=scm
abbrev L9:Stmt:=top 53
theorem J1:FnScope ["hall", "kinds", "rungs", "many", "both", "square", "whole", "bound"] ["hall"] (i0 L9):=scm
abbrev Ib:Stmt:=top 55
theorem z0A:FnScope ["hall"] ["hall"] (i0 Ib):=scm
abbrev BM:Stmt:=top 56
theorem Pd:FnScope ["measured", "basket"] ["measured", "basket"] (i0 BM):=scm
abbrev BN:Stmt:=top 57
theorem An:FnScope ["measured", "numbers", "number", "measure"] ["measured", "numbers"] (i0 BN):=scm
abbrev J4:Stmt:=top 58
theorem K7:FnScope ["measured", "kinds", "ones", "places", "wraps", "both"] ["measured"] (i0 J4):=scm
abbrev CQ:Stmt:=top 59
theorem Fg:FnScope ["hall", "numbers", "measured"] ["hall", "numbers"] (i0 CQ):=scm
abbrev Ic:Stmt:=top 60
theorem JD:FnScope ["hall", "basket", "rows", "rounds"] ["hall", "basket"] (i0 Ic):=scm
abbrev JE:Stmt:=top 61
theorem Lr:FnScope ["hall", "last"] ["hall"] (i0 JE):=scm
abbrev GY:Stmt:=top 64
theorem El:FnScope ["hall", "one", "other", "back", "left"] ["hall", "one", "other"] (i0 GY):=scm
abbrev QX:Stmt:=top 63
theorem z4e:FnScope ["hall", "one", "other"] ["hall", "one", "other"] (i0 QX):=scm
abbrev CS:Stmt:=top 66
theorem Ny:FnScope ["_law_script", "_law_k"] ["_law_script", "_law_k"] (i0 CS):=scm
abbrev GZ:Stmt:=top 67
theorem QY:FnScope ["_law_found"] ["_law_found"] (i0 GZ):=scm
abbrev Em:Stmt:=top 68
theorem Hr:FnScope ["_law_found", "_law_size", "_law_number_here"] ["_law_found", "_law_size"] (i0 Em):=scm
abbrev En:Stmt:=top 69
theorem Z9:FnScope ["_law_cell", "_law_mode", "_law_number_here", "_law_wide"] ["_law_cell", "_law_mode"] (i0 En):=scm
abbrev Ie:Stmt:=top 70
theorem z0B:FnScope ["_law_script", "_law_at", "_law_size", "_law_mode"] ["_law_script", "_law_at", "_law_size", "_law_mode"] (i0 Ie):=scm
abbrev DC:Stmt:=top 71
theorem J5:FnScope ["_law_script", "_law_mode", "_law_kinds", "_law_many"] ["_law_script"] (i0 DC):=scm
abbrev Fh:Stmt:=top 72
theorem Fm:FnScope ["_law_size", "_law_rows", "_law_times", "_law_made", "_law_j"] ["_law_size", "_law_rows", "_law_times"] (i0 Fh):=scm
abbrev Fn:Stmt:=top 73
theorem YK:FnScope ["_law_one", "_law_other", "_law_times"] ["_law_one", "_law_other", "_law_times"] (i0 Fn):=scm
abbrev Ha:Stmt:=top 74
theorem QZ:FnScope ["_law_bills_here", "_law_one", "_law_other", "_law_uses"] ["_law_bills_here", "_law_one", "_law_other", "_law_uses"] (i0 Ha):=scm
abbrev Hs:Stmt:=top 75
theorem U9:FnScope ["_law_script", "_law_drawn", "_law_kinds", "_law_bills_here", "_law_hall", "_law_many", "_law_sizes", "_law_empty", "_law_some", "_law_basket", "_law_uses", "_law_last"] ["_law_script"] (i0 Hs):=scm
set_option genInjectivity false in
structure Adr where
 JH:Addr
 JI:FuncData
 Pm:Addr
 Pn:FuncData
 Lu:Addr
 Lv:FuncData
 JJ:Addr
 JK:FuncData
 WR:Addr
 WS:FuncData
 WT:Addr
 WU:FuncData
 Po:Addr
 Pp:FuncData
 Lw:Addr
 Lx:FuncData
 WV:Addr
 WW:FuncData
 Ly:Addr
 Lz:FuncData
 Hv:Addr
 Hw:FuncData
 LA:Addr
 LB:FuncData
 Ft:Addr
 Fv:FuncData
 Hx:Addr
 Hy:FuncData
 LC:Addr
 LD:FuncData
 LG:Addr
 LH:FuncData
 AN:Addr
 AO:FuncData
 DL:Addr
 DM:FuncData
 Pq:Addr
 Pr:FuncData
 WX:Addr
 WY:FuncData
 Ps:Addr
 Pt:FuncData
 z3e:Addr
 z3f:FuncData
 LI:Addr
 LJ:FuncData
 JL:Addr
 JM:FuncData
 LK:Addr
 LM:FuncData
 LN:Addr
 LO:FuncData
 Hz:Addr
 HA:FuncData
 JN:Addr
 JO:FuncData
 Pu:Addr
 Pv:FuncData
 LP:Addr
 LQ:FuncData
 CU:Addr
 CV:FuncData
 BW:Addr
 BX:FuncData
 AQ:Addr
 AR:FuncData
 WZ:Addr
 Xa:FuncData
 Ac:Addr
 Ad:FuncData
 Pw:Addr
 Px:FuncData
 JP:Addr
 JQ:FuncData
 Xb:Addr
 Xc:FuncData
 LR:Addr
 LS:FuncData
 Py:Addr
 Pz:FuncData
 LU:Addr
 LV:FuncData
 JR:Addr
 JS:FuncData
 Xd:Addr
 Xe:FuncData
 JT:Addr
 JU:FuncData
 Fw:Addr
 Fx:FuncData
 Fy:Addr
 Fz:FuncData
 HB:Addr
 HC:FuncData
 Xf:Addr
 Xg:FuncData
 PB:Addr
 PC:FuncData
 LW:Addr
 LX:FuncData
 z3g:Addr
 z3h:FuncData
 HD:Addr
 HE:FuncData
 LY:Addr
 LZ:FuncData
 JV:Addr
 JW:FuncData
 JX:Addr
 JY:FuncData
 Xh:Addr
 Xi:FuncData
 Ma:Addr
 Mc:FuncData
 Xj:Addr
 Xk:FuncData
 PD:Addr
 PH:FuncData
 Md:Addr
 Me:FuncData
 a_law:Addr
 Xl:FuncData
 V9:Tok
 W0:Tok
structure Facts(K:aD)(mg:aE)(A:Adr):Prop where
 n_abs:mg "abs" = none
 n_all:mg "all" = none
 n_any:mg "any" = none
 z3i:mg "bool" = none
 U3:mg "enumerate" = none
 Xm:mg "int" = none
 J7:mg "isinstance" = none
 N9:mg "len" = none
 S7:mg "list" = none
 C6:mg "range" = none
 VX:mg "reversed" = none
 z3j:mg "sorted" = none
 n_sum:mg "sum" = none
 NE:mg "tuple" = none
 Mf:mg "zip" = none
 NF:mg "MOST_BILLS" = some (.int 8 A.V9)
 NG:mg "MOST_KINDS" = some (.int 6 A.W0)
 Er:Df K mg "is_whole" Ei ["value"] A.JH A.JI
 FD:Df K mg "is_row" EX ["value", "length"] A.Pm A.Pn
 AS:Df K mg "noughts" Dx ["length"] A.Lu A.Lv
 BQ:Df K mg "unit_row" BE ["length", "one_at"] A.JJ A.JK
 FG:Df K mg "added" HY ["one", "other"] A.WR A.WS
 Ig:Df K mg "taken" HZ ["one", "other"] A.WT A.WU
 K3:Df K mg "scaled" EY ["row", "often"] A.Po A.Pp
 Mg:Df K mg "weighed" Dy ["row", "weights"] A.Lw A.Lx
 Xn:Df K mg "mixed" Nr ["rows", "counts", "length"] A.WV A.WW
 E5:Df K mg "head_at" GP ["row"] A.Ly A.Lz
 HG:Df K mg "are_kinds" CL ["value"] A.Hv A.Hw
 Mh:Df K mg "is_bill" Dz ["value", "kinds"] A.LA A.LB
 FH:Df K mg "need_kinds" BG ["kinds"] A.Ft A.Fv
 HH:Df K mg "need_bill" CM ["bill", "kinds"] A.Hx A.Hy
 Mi:Df K mg "hall_by" DA ["kinds", "rows"] A.LC A.LD
 Mj:Df K mg "hall_of" GQ ["kinds", "bills"] A.LG A.LH
 AU:Df K mg "need_basket_of" S6 ["kinds", "basket"] A.AN A.AO
 T4:Df K mg "need_basket" Am ["hall", "basket"] A.DL A.DM
 PJ:Df K mg "nought" JA ["hall"] A.Pq A.Pr
 Xo:Df K mg "apart" Nv ["hall", "one", "other"] A.WX A.WY
 JZ:Df K mg "bridge" CN ["a", "b"] A.Ps A.Pt
 NH:Df K mg "rest" QV ["a", "part"] A.z3e A.z3f
 Mk:Df K mg "product" GR ["numbers"] A.LI A.LJ
 Kb:Df K mg "lowering" Ek ["row", "rungs"] A.JL A.JM
 AV:Df K mg "lowered" GS ["row", "rungs"] A.LK A.LM
 Mm:Df K mg "crossed" GT ["rung", "row"] A.LN A.LO
 HI:Df K mg "turned_up" CO ["row"] A.Hz A.HA
 Kc:Df K mg "with_row" BJ ["rungs", "row"] A.JN A.JO
 PL:Df K mg "evened" JB ["rungs"] A.Pu A.Pv
 DD:Df K mg "climbed" GW ["rows"] A.LP A.LQ
 I0:Df K mg "tagged_stair" R0 ["rows", "tags"] A.CU A.CV
 BY:Df K mg "tags_of_rungs" O3 ["rungs", "width"] A.BW A.BX
 S8:Df K mg "tags_at_nought" N3 ["rungs", "width"] A.AQ A.AR
 Xp:Df K mg "stair" Nx ["hall"] A.WZ A.Xa
 Ae:Df K mg "stair_with_uses" K9 ["hall"] A.Ac A.Ad
 FJ:Df K mg "turned" Ff ["rows", "width"] A.Pw A.Px
 Kd:Df K mg "is_slant" BL ["rows"] A.JP A.JQ
 FK:Df K mg "rests" Ia ["row", "part"] A.Xb A.Xc
 Mn:Df K mg "slanted" W8 ["rows", "tags", "whole"] A.LR A.LS
 PM:Df K mg "linked" JC ["one", "other"] A.Py A.Pz
 Mo:Df K mg "chained" DB ["measured"] A.LU A.LV
 Es:Df K mg "measures" L9 ["hall"] A.JR A.JS
 NI:Df K mg "parts" Ib ["hall"] A.Xd A.Xe
 Kf:Df K mg "place_by" BM ["measured", "basket"] A.JT A.JU
 FL:Df K mg "need_place" BN ["measured", "numbers"] A.Fw A.Fx
 FM:Df K mg "baskets_by" J4 ["measured"] A.Fy A.Fz
 HJ:Df K mg "basket_at" CQ ["hall", "numbers"] A.HB A.HC
 Xq:Df K mg "order" Ic ["hall", "basket"] A.Xf A.Xg
 PN:Df K mg "period" JE ["hall"] A.PB A.PC
 Mp:Df K mg "settled" GY ["hall", "one", "other"] A.LW A.LX
 z3k:Df K mg "plan" QX ["hall", "one", "other"] A.z3g A.z3h
 M0:Df K mg "_law_cell_at" CS ["_law_script", "_law_k"] A.HD A.HE
 He:Df K mg "_law_whole" GZ ["_law_found"] A.LY A.LZ
 Kg:Df K mg "_law_is_row" Em ["_law_found", "_law_size"] A.JV A.JW
 Kh:Df K mg "_law_number" En ["_law_cell", "_law_mode"] A.JX A.JY
 NJ:Df K mg "_law_row" Ie ["_law_script", "_law_at", "_law_size", "_law_mode"] A.Xh A.Xi
 Mq:Df K mg "_law_bills" DC ["_law_script"] A.Ma A.Mc
 Xr:Df K mg "_law_sum" Fh ["_law_size", "_law_rows", "_law_times"] A.Xj A.Xk
 PP:Df K mg "_law_plus" Fn ["_law_one", "_law_other", "_law_times"] A.PD A.PH
 Mr:Df K mg "_law_leads" Ha ["_law_bills_here", "_law_one", "_law_other", "_law_uses"] A.Md A.Me
 f_law:Df K mg "law" Hs ["_law_script"] A.a_law A.Xl
section
variable {K:aD}{mg:aE}{P:Program}{w:World}{base:Heap}{A:Adr}
theorem Ht(T:Facts K mg A):FnOk P w K mg base CX0 1 A.JH A.JI ["value"] (spc K true R8) :=
 T.Er.d 0 DZ Pb (λ_ _ _ _ _ _ hr hu =>
  (j7 (o6 (Wf (Ix (T := "int") rfl rfl T.J7 rfl T.Xm (by decide +kernel) (g6 0)) (We (p_not (Ix (T := "bool") rfl rfl T.J7 rfl T.z3i (by decide +kernel) (g6 0))))))))
theorem Hb(T:Facts K mg A):FnOk P w K mg base CX0 2 A.Pm A.Pn ["value", "length"] (spc K true AG) :=
 T.FD.d 1 Jd YG (λ_ _ _ _ _ _ hr hu =>
  (i7 (s_if (PFW.pt (w_or (BS (Ar (Ix (T := "list") rfl rfl T.J7 rfl T.S7 (by decide +kernel) (g6 0)) (fun _=>rfl))) (KE (t_cm (o_ne hu) (p_bu N7 T.N9 (q_n 0 i9)) (g6 1))))) (j7 (o6 p_bl)) C3)
   (j7 (o6 (p_bu (c_all rfl) T.n_all (j3 (p_co ["number"] 1 [] ["value", "length"] (i0 EX).names (F5 (g6 0)) (λ_ _ _ _ _=>(p_ca (Ht T) T.Er hr (q_n 0 i9)))) i9))))))
theorem BO(T:Facts K mg A):FnOk P w K mg base CX0 1 A.Lu A.Lv ["length"] (spc K true P2) :=
 T.AS.d 0 Gr QR (λ_ _ _ _ _ _ hr hu =>
  (j7 (o6 (p_co ["spot"] 1 [] ["length"] (i0 Dx).names (B6 rfl T.C6 (g6 0)) (λ_ _ _ _ _=>j8)))))
theorem CT(T:Facts K mg A):FnOk P w K mg base CX0 1 A.JJ A.JK ["length", "one_at"] (spc K true J3) :=
 T.BQ.d 0 Ea Pc (λ_ _ _ _ _ _ hr hu =>
  (j7 (o6 (p_co ["spot", "one_at"] 1 [1] ["length", "one_at"] (i0 BE).names (B6 rfl T.C6 (g6 0)) (λ_ _ _ _ _=>(p_if (t_cm (o_eq hu) (g6 0) (g6 1)) j8 j8))))))
theorem Fo(T:Facts K mg A):FnOk P w K mg base CX0 1 A.WR A.WS ["one", "other"] (spc K true V5) :=
 T.FG.d 0 MT z0v (λ_ _ _ _ _ _ hr hu =>
  (j7 (o6 (O7 (g:=(Tg.many [0,1])) (i4 (N:=["a", "b"]) (nt:=2) (js:=[]) ["one", "other"] (i0 HY).names rfl rfl rfl (by decide +kernel)) rfl (KN rfl T.Mf (g6 0) (g6 1)) (λ_ _ _ _ _=>Q4 rfl (A1 (A0 (ndp ["a", "b"]) rfl (Or.inl rfl) (Or.inr rfl)) (A1 (A0 (ndp ["a", "b"]) rfl (Or.inl rfl) (Or.inr rfl)) Q3))) (jlt [0,1] 2) (λ_ _ _ _ _=>O6) (λ_ _ _ _ _=>(p_op R1 (g6 0) (g6 1))) (jlt [] 2)))))
theorem JF(T:Facts K mg A):FnOk P w K mg base CX0 1 A.WT A.WU ["one", "other"] (spc K true Bs) :=
 T.Ig.d 0 MU z0w (λ_ _ _ _ _ _ hr hu =>
  (j7 (o6 (O7 (g:=(Tg.many [0,1])) (i4 (N:=["a", "b"]) (nt:=2) (js:=[]) ["one", "other"] (i0 HZ).names rfl rfl rfl (by decide +kernel)) rfl (KN rfl T.Mf (g6 0) (g6 1)) (λ_ _ _ _ _=>Q4 rfl (A1 (A0 (ndp ["a", "b"]) rfl (Or.inl rfl) (Or.inr rfl)) (A1 (A0 (ndp ["a", "b"]) rfl (Or.inl rfl) (Or.inr rfl)) Q3))) (jlt [0,1] 2) (λ_ _ _ _ _=>O6) (λ_ _ _ _ _=>(p_op NV (g6 0) (g6 1))) (jlt [] 2)))))
theorem G9(T:Facts K mg A):FnOk P w K mg base CX0 1 A.Po A.Pp ["row", "often"] (spc K true C1) :=
 T.K3.d 0 Je YH (λ_ _ _ _ _ _ hr hu =>
  (j7 (o6 (p_co ["number", "often"] 1 [1] ["row", "often"] (i0 EY).names (F5 (g6 0)) (λ_ _ _ _ _=>(p_op Aq (g6 1) (g6 0)))))))
theorem Ra(T:Facts K mg A):FnOk P w K mg base CX0 1 A.Lw A.Lx ["row", "weights"] (spc K true AH) :=
 T.Mg.d 0 Gs QS (λ_ _ _ _ _ _ hr hu =>
  (j7 (o6 (p_bu (c_sum rfl) T.n_sum (j3 (O7 (g:=(Tg.many [0,1])) (i4 (N:=["a", "b"]) (nt:=2) (js:=[]) ["row", "weights"] (i0 Dy).names rfl rfl rfl (by decide +kernel)) rfl (KN rfl T.Mf (g6 0) (g6 1)) (λ_ _ _ _ _=>Q4 rfl (A1 (A0 (ndp ["a", "b"]) rfl (Or.inl rfl) (Or.inr rfl)) (A1 (A0 (ndp ["a", "b"]) rfl (Or.inl rfl) (Or.inr rfl)) Q3))) (jlt [0,1] 2) (λ_ _ _ _ _=>O6) (λ_ _ _ _ _=>(p_op Aq (g6 0) (g6 1))) (jlt [] 2)) i9)))))
theorem z0C(T:Facts K mg A):FnOk P w K mg base CX0 2 A.WV A.WW ["rows", "counts", "length"] (spc K true HU) :=
 T.Xn.d 1 MV CK (λ_ _ _ _ _ _ hr hu =>
  (i7 (asn 3 (p_ca (BO T) T.AS hr (q_n 2 i9)) CK.nd)
   (i7 (BV (rels:=[]) (g:=(Tg.many [4,5])) PassesOwn.never rfl (KN rfl T.Mf (g6 0) (g6 1)) (Q4 rfl (A1 (A0 (i:=4) CK.nd rfl (Or.inl rfl) (Or.inl rfl)) (A1 (A0 (i:=5) CK.nd rfl (Or.inl rfl) (Or.inl rfl)) Q3))) (j7 (asn 3 (p_ca (Fo T) T.FG hr (q_n 3 (j3 (p_ca (G9 T) T.K3 hr (q_n 4 (q_n 5 i9))) i9))) CK.nd)))
   (j7 (o6 (g6 3))))))
theorem F4(T:Facts K mg A):FnOk P w K mg base CX0 1 A.Ly A.Lz ["row"] (spc K true o0) :=
 T.E5.d 0 Gu Ej (λ_ _ _ _ _ _ hr hu =>
  (i7 (BV (rels:=[]) (g:=(Tg.many [1,2])) PassesOwn.never rfl (IC rfl T.U3 (g6 0)) (Q4 rfl (A1 (A0 (i:=1) Ej.nd rfl (Or.inl rfl) (Or.inl rfl)) (A1 (A0 (i:=2) Ej.nd rfl (Or.inl rfl) (Or.inl rfl)) Q3))) (j7 (s_if (t_cm (o_ne hu) (g6 2) j8) (j7 (o6 (g6 1))) C3)))
   (j7 (o6 (p_bu N7 T.N9 (q_n 0 i9))))))
theorem Nz(T:Facts K mg A):FnOk P w K mg base CX0 2 A.Hv A.Hw ["value"] (spc K true Z6) :=
 T.HG.d 1 Cv Nt (λ_ _ _ _ _ _ hr hu =>
  (j7 (o6 (Wf (p_ca (Ht T) T.Er hr (q_n 0 i9)) (We (z3J o_le o_le j8 (g6 0) (Zp rfl T.NG)))))))
theorem Rb(T:Facts K mg A):FnOk P w K mg base CX0 3 A.LA A.LB ["value", "kinds"] (spc K true Dm) :=
 T.Mh.d 2 Gv QT (λ_ _ _ _ _ _ hr hu =>
  (j7 (o6 (Wf (p_ca (Hb T) T.FD hr (q_n 0 (q_n 1 i9))) (We (p_bu (c_all rfl) T.n_all (j3 (p_co ["number"] 1 [] ["value", "kinds"] (i0 Dz).names (F5 (g6 0)) (λ_ _ _ _ _=>(p_cm o_lt (p_bu c_abs T.n_abs (q_n 0 i9)) (p_op Zr j8 j8)))) i9)))))))
theorem Kn(T:Facts K mg A):FnOk P w K mg base CX0 3 A.Ft A.Fv ["kinds"] (spc K true V6) :=
 T.FH.d 2 Bt Km (λ_ _ _ _ _ _ hr hu =>
  (j7 (s_if (BS (Ar (p_ca (Nz T) T.HG hr (q_n 0 i9)) (λ_=>rfl))) (j7 Dc) C3)))
theorem NA(T:Facts K mg A):FnOk P w K mg base CX0 4 A.Hx A.Hy ["bill", "kinds"] (spc K true P3) :=
 T.HH.d 3 Cw Nu (λ_ _ _ _ _ _ hr hu =>
  (j7 (s_if (BS (Ar (p_ca (Rb T) T.Mh hr (q_n 0 (q_n 1 i9))) (λ_=>rfl))) (j7 Dc) C3)))
theorem Rc(T:Facts K mg A):FnOk P w K mg base CX0 1 A.LC A.LD ["kinds", "rows"] (spc K true Dn) :=
 T.Mi.d 0 Gw QU (λ_ _ _ _ _ _ hr hu =>
  (j7 (o6 (@DG _ _ _ _ _ (@j3 _ _ _ _ _ (g6 0) (@j3 _ _ _ _ _ (p_ty Zv T.NE (j3 (p_co ["row"] 1 [] ["kinds", "rows"] (i0 DA).names (F5 (g6 1)) (λ_ _ _ _ _=>(p_ty Zv T.NE (q_n 0 i9)))) i9)) i9 rfl) rfl)))))
theorem Re(T:Facts K mg A):FnOk P w K mg base CX0 5 A.LG A.LH ["kinds", "bills"] (spc K true AI) :=
 T.Mj.d 4 Gx Jy (λ_ _ _ _ _ _ hr hu =>
  (i7 (DS (p_ca (Kn T) T.FH hr (q_n 0 i9)))
   (i7 (s_if (PFW.pt (w_or (BS (Ar (Ix (T := "list") rfl rfl T.J7 rfl T.S7 (by decide +kernel) (g6 1)) (λ_=>rfl))) (KE (t_cm o_gt (p_bu N7 T.N9 (q_n 1 i9)) (Zp rfl T.NF))))) (j7 Dc) C3)
   (i7 (BV (rels:=[]) (g:=(Tg.one 2)) PassesOwn.never rfl (F5 (g6 1)) (R3 Jy.nd rfl (Or.inl rfl) (Or.inl rfl)) (j7 (DS (p_ca (NA T) T.HH hr (q_n 2 (q_n 0 i9))))))
   (j7 (o6 (p_ca (Rc T) T.Mi hr (q_n 0 (q_n 1 i9)))))))))
theorem Fp(T:Facts K mg A):FnOk P w K mg base CX0 3 A.AN A.AO ["kinds", "basket"] (spc K true M8) :=
 T.AU.d 2 R9 EZ (λ_ _ _ _ _ _ hr hu =>
  (j7 (s_if (BS (Ar (p_ca (Hb T) T.FD hr (q_n 1 (q_n 0 i9))) (λ_=>rfl))) (j7 Dc) C3)))
theorem Z0(T:Facts K mg A):FnOk P w K mg base CX0 4 A.DL A.DM ["hall", "basket"] (spc K true F3) :=
 T.T4.d 3 Al Jz (λ_ _ _ _ _ _ hr hu =>
  (j7 (DS (p_ca (Fp T) T.AU hr (j3 (p_i (g6 0) j8) (q_n 1 i9))))))
theorem YL(T:Facts K mg A):FnOk P w K mg base CX0 2 A.Pq A.Pr ["hall"] (spc K true EM) :=
 T.PJ.d 1 Jf YI (λ_ _ _ _ _ _ hr hu =>
  (j7 (o6 (p_ca (BO T) T.AS hr (j3 (p_i (g6 0) j8) i9)))))
theorem z0D(T:Facts K mg A):FnOk P w K mg base CX0 5 A.WX A.WY ["hall", "one", "other"] (spc K true HV) :=
 T.Xo.d 4 MW z0x (λ_ _ _ _ _ _ hr hu =>
  (i7 (DS (p_ca (Z0 T) T.T4 hr (q_n 0 (q_n 1 i9))))
   (i7 (DS (p_ca (Z0 T) T.T4 hr (q_n 0 (q_n 2 i9))))
   (j7 (o6 (p_ca (JF T) T.Ig hr (q_n 2 (q_n 1 i9))))))))
theorem Ls(T:Facts K mg A):FnOk P w K mg base CX0 1 A.Ps A.Pt ["a", "b"] (spc K true Cy) :=
 T.JZ.d 0 Jg P6 (λ_ _ _ _ _ _ hr hu =>
  (i7 (E3 (rels:=[]) (r8 (i:=2) (Av (q_n 0 (j3 j8 (j3 j8 i9)))) P6.nd rfl (Or.inr rfl) rfl (Or.inl rfl)))
   (i7 (E3 (rels:=[]) (r8 (i:=3) (Av (q_n 1 (j3 j8 (j3 j8 i9)))) P6.nd rfl (Or.inr rfl) rfl (Or.inl rfl)))
   (i7 (MK PassesOwn.never (t_cm (o_ne hu) (p_i (g6 3) j8) j8) (i7 (E3 (rels:=[]) (r8 (i:=4) (p_op Bd (p_i (g6 2) j8) (p_i (g6 3) j8)) P6.nd rfl (Or.inr rfl) rfl (Or.inl rfl)))
   (i7 (E3 (rels:=[]) (a_co 5 P6.nd ["k", "upper", "often", "lower"] 1 [2,4,3] ["a", "b", "upper", "lower", "often", "left"] (i0 CN).names (B6 rfl T.C6 j8) (λ_ _ _ _ _=>(p_op NV (p_i (g6 1) (g6 0)) (p_op Aq (g6 2) (p_i (g6 3) (g6 0)))))))
   (i7 (E3 (rels:=[]) (r8 (i:=2) (g6 3) P6.nd rfl (Or.inr rfl) rfl (Or.inl rfl)))
   (j7 (E3 (rels:=[]) (r8 (i:=3) (g6 5) P6.nd rfl (Or.inr rfl) rfl (Or.inl rfl))))))))
   (i7 (s_if (t_cm o_lt (p_i (g6 2) j8) j8) (j7 (E3 (rels:=[]) (r8 (i:=2) (p_co ["number"] 1 [] ["a", "b", "upper", "lower", "often", "left"] (i0 CN).names (F5 (g6 2)) (λ_ _ _ _ _=>(KG (g6 0)))) P6.nd rfl (Or.inr rfl) rfl (Or.inl rfl)))) C3)
   (j7 (o6 (p_ty Zv T.NE (q_n 2 i9)))))))))
theorem NB(T:Facts K mg A):FnOk P w K mg base CX0 1 A.z3e A.z3f ["a", "part"] (spc K true U6) :=
 T.NH.d 0 MX z4d (λ_ _ _ _ _ _ hr hu =>
  (i7 (s_if (t_cm (o_eq hu) (g6 1) j8) (j7 (o6 (g6 0))) C3)
   (j7 (o6 (p_op BR (g6 0) (g6 1))))))
theorem Rf(T:Facts K mg A):FnOk P w K mg base CX0 1 A.LI A.LJ ["numbers"] (spc K true Dp) :=
 T.Mk.d 0 Gy BH (λ_ _ _ _ _ _ hr hu =>
  (i7 (asn 1 j8 BH.nd)
   (i7 (BV (rels:=[]) (g:=(Tg.one 2)) PassesOwn.never rfl (F5 (g6 0)) (R3 BH.nd rfl (Or.inl rfl) (Or.inl rfl)) (j7 (asn 1 (p_op Aq (g6 1) (g6 2)) BH.nd)))
   (j7 (o6 (g6 1))))))
theorem Pe(T:Facts K mg A):FnOk P w K mg base CX0 2 A.JL A.JM ["row", "rungs"] (spc K true Bu) :=
 T.Kb.d 1 Eb L7 (λ_ _ _ _ _ _ hr hu =>
  (i7 (asn 2 (p_ty DH T.S7 (q_n 0 i9)) L7.nd)
   (i7 (KK (r8 (i:=3) (Av i9) L7.nd rfl (Or.inl rfl) rfl (Or.inl rfl)))
   (i7 (BV (rels:=[]) (g:=(Tg.one 4)) PassesOwn.never rfl (F5 (g6 1)) (R3 L7.nd rfl (Or.inl rfl) (Or.inl rfl)) (i7 (asn 5 (p_ca (F4 T) T.E5 hr (q_n 4 i9)) L7.nd)
   (i7 (asn 6 (p_op Bd (p_i (g6 2) (g6 5)) (p_i (g6 4) (g6 5))) L7.nd)
   (i7 (s_if (t_cm (o_ne hu) (g6 6) j8) (j7 (asn 2 (p_ca (JF T) T.Ig hr (q_n 2 (j3 (p_ca (G9 T) T.K3 hr (q_n 4 (q_n 6 i9))) i9))) L7.nd)) C3)
   (j7 (s_wr1 (i:=3) ZJ F.slot_list_append F.type_list_append rfl (Or.inl rfl) (g6 6)))))))
   (j7 (o6 (DG (q_n 3 (q_n 2 i9)))))))))
theorem BP(T:Facts K mg A):FnOk P w K mg base CX0 3 A.LK A.LM ["row", "rungs"] (spc K true C9) :=
 T.AV.d 2 Gz QW (λ_ _ _ _ _ _ hr hu =>
  (j7 (o6 (p_i (p_ca (Pe T) T.Kb hr (q_n 0 (q_n 1 i9))) j8))))
theorem Rg(T:Facts K mg A):FnOk P w K mg base CX0 2 A.LN A.LO ["rung", "row"] (spc K true W5) :=
 T.Mm.d 1 GA Y7 (λ_ _ _ _ _ _ hr hu =>
  (i7 (asn 2 (p_ca (F4 T) T.E5 hr (q_n 0 i9)) Y7.nd)
   (i7 (asn 3 (p_ca (Ls T) T.JZ hr (j3 (p_i (g6 0) (g6 2)) (j3 (p_i (g6 1) (g6 2)) i9))) Y7.nd)
   (i7 (asn 4 (p_ca (Fo T) T.FG hr (j3 (p_ca (G9 T) T.K3 hr (q_n 0 (j3 (p_i (g6 3) j8) i9))) (j3 (p_ca (G9 T) T.K3 hr (q_n 1 (j3 (p_i (g6 3) j8) i9))) i9))) Y7.nd)
   (i7 (asn 5 (p_ca (JF T) T.Ig hr (j3 (p_ca (G9 T) T.K3 hr (q_n 1 (j3 (p_op Bd (p_i (g6 0) (g6 2)) (p_i (g6 3) j8)) i9))) (j3 (p_ca (G9 T) T.K3 hr (q_n 0 (j3 (p_op Bd (p_i (g6 1) (g6 2)) (p_i (g6 3) j8)) i9))) i9))) Y7.nd)
   (j7 (o6 (DG (q_n 4 (q_n 5 i9))))))))))
theorem NC(T:Facts K mg A):FnOk P w K mg base CX0 2 A.Hz A.HA ["row"] (spc K true F0) :=
 T.HI.d 1 Cz Nw (λ_ _ _ _ _ _ hr hu =>
  (j7 (o6 (p_if (t_cm o_lt (p_i (g6 0) (p_ca (F4 T) T.E5 hr (q_n 0 i9))) j8) (p_ca (G9 T) T.K3 hr (q_n 0 (j3 (KG j8) i9))) (p_ty DH T.S7 (q_n 0 i9))))))
theorem Pf(T:Facts K mg A):FnOk P w K mg base CX0 4 A.JN A.JO ["rungs", "row"] (spc K false S3) :=
 T.Kc.d 3 Y1 P7 (λ_ _ _ _ _ _ hr hu =>
  (i7 (KK (r8 (i:=2) (p_ty DH T.S7 (q_n 0 i9)) P7.nd rfl (Or.inl rfl) rfl (Or.inl rfl)))
   (i7 (IB (r8 (i:=3) (p_ca (BP T) T.AV hr (q_n 1 (q_n 2 i9))) P7.nd rfl (Or.inr rfl) rfl (Or.inl rfl)))
   (i7 (MK PassesOwn.never (t_cm o_lt (p_ca (F4 T) T.E5 hr (q_n 3 i9)) (p_bu N7 T.N9 (q_n 3 i9))) (i7 (IB (IA (i:=4) (g:=(Tg.many [0,1])) P7.nd rfl rfl rfl (i4 (N:=["place", "rung", "left"]) (nt:=2) (js:=[3]) ["rungs", "row", "found", "left", "places", "pair"] (i0 BJ).names rfl rfl rfl (by decide +kernel)) rfl (IC rfl T.U3 (g6 2)) (λ_ _ _ _ _=>Q4 rfl (A1 (A0 (ndp ["place", "rung", "left"]) rfl (Or.inl rfl) (Or.inr rfl)) (A1 (A0 (ndp ["place", "rung", "left"]) rfl (Or.inl rfl) (Or.inr rfl)) Q3))) (jlt [0,1] 2) (λ_ _ _ _ _=>(Qd (t_cm (o_eq hu) (p_ca (F4 T) T.E5 hr (q_n 1 i9)) (p_ca (F4 T) T.E5 hr (q_n 2 i9))))) (λ_ _ _ _ _=>(g6 0)) (jlt [3] 6)))
   (i7 (s_if (t_cm (o_eq hu) (p_bu N7 T.N9 (q_n 4 i9)) j8) (j7 (o6 (z3T (F4 T) (hr.mono (by decide)) rfl T.z3j T.E5.mg rfl T.E5.bd (p_op R1 (g6 2) (@Av _ _ _ _ (@j3 _ _ _ _ _ (p_ca (NC T) T.HI hr (q_n 3 i9)) i9 rfl)))))) C3)
   (i7 (IB (r8 (i:=5) (p_ca (Rg T) T.Mm hr (j3 (p_i (g6 2) (p_i (g6 4) j8)) (q_n 3 i9))) P7.nd rfl (Or.inl rfl) rfl (Or.inl rfl)))
   (i7 (Wp (i:=2) rfl (Or.inl rfl) (p_i (g6 4) j8) (p_i (g6 5) j8))
   (j7 (IB (r8 (i:=3) (p_ca (BP T) T.AV hr (j3 (p_i (g6 5) j8) (q_n 2 i9))) P7.nd rfl (Or.inr rfl) rfl (Or.inl rfl)))))))))
   (j7 (o6 (g6 2)))))))
theorem YM(T:Facts K mg A):FnOk P w K mg base CX0 4 A.Pu A.Pv ["rungs"] (spc K true CA) :=
 T.PL.d 3 Jh GV (λ_ _ _ _ _ _ hr hu =>
  (i7 (KK (r8 (i:=1) (Av i9) GV.nd rfl (Or.inl rfl) rfl (Or.inl rfl)))
   (i7 (BV (rels:=[]) (g:=(Tg.one 2)) PassesOwn.never rfl (i_rev rfl T.VX (g6 0)) (R3 GV.nd rfl (Or.inl rfl) (Or.inl rfl)) (j7 (s_insA (i:=1) rfl (Or.inl rfl) (p_ca (BP T) T.AV hr (q_n 2 (q_n 1 i9))))))
   (j7 (o6 (g6 1))))))
theorem Eo(T:Facts K mg A):FnOk P w K mg base CX0 5 A.LP A.LQ ["rows"] (spc K true P4) :=
 T.DD.d 4 GB BK (λ_ _ _ _ _ _ hr hu =>
  (i7 (asn 1 (Av i9) BK.nd)
   (i7 (BV (rels:=[]) (g:=(Tg.one 2)) PassesOwn.never rfl (F5 (g6 0)) (R3 BK.nd rfl (Or.inl rfl) (Or.inl rfl)) (j7 (asn 1 (p_ca (YM T) T.PL hr (j3 (p_ca (Pf T) T.Kc hr (q_n 1 (q_n 2 i9))) i9)) BK.nd)))
   (j7 (o6 (g6 1))))))
theorem K2(T:Facts K mg A):FnOk P w K mg base CX0 6 A.CU A.CV ["rows", "tags"] (spc K true v4) :=
 T.I0.d 5 L6 HM (λ_ _ _ _ _ _ hr hu =>
  (j7 (o6 (p_ca (Eo T) T.DD hr (j3 (O7 (g:=(Tg.many [0,1])) (i4 (N:=["row", "tag"]) (nt:=2) (js:=[]) ["rows", "tags"] (i0 R0).names rfl rfl rfl (by decide +kernel)) rfl (KN rfl T.Mf (g6 0) (g6 1)) (λ_ _ _ _ _=>Q4 rfl (A1 (A0 (ndp ["row", "tag"]) rfl (Or.inl rfl) (Or.inr rfl)) (A1 (A0 (ndp ["row", "tag"]) rfl (Or.inl rfl) (Or.inr rfl)) Q3))) (jlt [0,1] 2) (λ_ _ _ _ _=>O6) (λ_ _ _ _ _=>(p_op R1 (p_ty DH T.S7 (q_n 0 i9)) (p_ty DH T.S7 (q_n 1 i9)))) (jlt [] 2)) i9)))))
theorem Hc(T:Facts K mg A):FnOk P w K mg base CX0 2 A.BW A.BX ["rungs", "width"] (spc K true O1) :=
 T.BY.d 1 U7 GX (λ_ _ _ _ _ _ hr hu =>
  (j7 (o6 (O7 (g:=(Tg.one 0)) (i4 (N:=["rung", "width"]) (nt:=1) (js:=[1]) ["rungs", "width"] (i0 O3).names rfl rfl rfl (by decide +kernel)) rfl (F5 (g6 0)) (λ_ _ _ _ _=>R3 (ndp ["rung", "width"]) rfl (Or.inl rfl) (Or.inr rfl)) (show 0<1 by decide) (λ_ _ _ _ _=>(Qd (t_cm o_lt (p_ca (F4 T) T.E5 hr (q_n 0 i9)) (g6 1)))) (λ_ _ _ _ _=>(P9 (g6 0) (X2 (g6 1)) X1)) (jlt [1] 2)))))
theorem Aa(T:Facts K mg A):FnOk P w K mg base CX0 2 A.AQ A.AR ["rungs", "width"] (spc K true A4) :=
 T.S8.d 1 S4 Fd (λ_ _ _ _ _ _ hr hu =>
  (j7 (o6 (O7 (g:=(Tg.one 0)) (i4 (N:=["rung", "width"]) (nt:=1) (js:=[1]) ["rungs", "width"] (i0 N3).names rfl rfl rfl (by decide +kernel)) rfl (F5 (g6 0)) (λ_ _ _ _ _=>R3 (ndp ["rung", "width"]) rfl (Or.inl rfl) (Or.inr rfl)) (show 0<1 by decide) (λ_ _ _ _ _=>(Qd (t_cm o_ge (p_ca (F4 T) T.E5 hr (q_n 0 i9)) (g6 1)))) (λ_ _ _ _ _=>(P9 (g6 0) (X2 (g6 1)) X1)) (jlt [1] 2)))))
theorem z0E(T:Facts K mg A):FnOk P w K mg base CX0 6 A.WZ A.Xa ["hall"] (spc K true Dq) :=
 T.Xp.d 5 MY z0y (λ_ _ _ _ _ _ hr hu =>
  (j7 (o6 (p_ca (Eo T) T.DD hr (j3 (p_i (g6 0) j8) i9)))))
theorem Ep(T:Facts K mg A):FnOk P w K mg base CX0 7 A.Ac A.Ad ["hall"] (spc K true B7) :=
 T.Ae.d 6 Q8 Y8 (λ_ _ _ _ _ _ hr hu =>
  (i7 (E3 (rels:=[]) (r8 (i:=1) (p_bu N7 T.N9 (j3 (p_i (g6 0) j8) i9)) Y8.nd rfl (Or.inr rfl) rfl (Or.inl rfl)))
   (j7 (o6 (p_ca (K2 T) T.I0 hr (j3 (p_i (g6 0) j8) (j3 (p_co ["place", "many"] 1 [1] ["hall", "many"] (i0 K9).names (B6 rfl T.C6 (g6 1)) (λ_ _ _ _ _=>(p_ca (CT T) T.BQ hr (q_n 1 (q_n 0 i9))))) i9)))))))
theorem Hd(T:Facts K mg A):FnOk P w K mg base CX0 1 A.Pw A.Px ["rows", "width"] (spc K true U2) :=
 T.FJ.d 0 Ji YJ (λ_ _ _ _ _ _ hr hu =>
  (j7 (o6 (O7 (g:=(Tg.one 0)) (i4 (N:=["spot", "rows"]) (nt:=1) (js:=[0]) ["rows", "width"] (i0 Ff).names rfl rfl rfl (by decide +kernel)) rfl (B6 rfl T.C6 (g6 1)) (λ_ _ _ _ _=>R3 (ndp ["spot", "rows"]) rfl (Or.inr rfl) (Or.inl rfl)) (show 0<1 by decide) (λ_ _ _ _ _=>O6) (λ_ _ _ _ _=>(O7 (g:=(Tg.one 0)) (by first|exact i4 (N:=["row", "spot"]) (nt:=1) (js:=[0]) ["spot", "rows"] [(".0",.local),("spot",.cell),("rows",.free)] rfl rfl rfl (by decide +kernel)|exact i4 (N:=["row", "spot"]) (nt:=1) (js:=[0]) ["spot", "rows"] [(".0",.local),("rows",.free),("spot",.cell)] rfl rfl rfl (by decide +kernel)|exact i4 (N:=["row", "spot"]) (nt:=1) (js:=[0]) ["spot", "rows"] [(".0",.local),("spot",.cell),("rows",.cell)] rfl rfl rfl (by decide +kernel)|exact i4 (N:=["row", "spot"]) (nt:=1) (js:=[0]) ["spot", "rows"] [(".0",.local),("rows",.cell),("spot",.cell)] rfl rfl rfl (by decide +kernel)) rfl (F5 (g6 1)) (λ_ _ _ _ _=>R3 (ndp ["row", "spot"]) rfl (Or.inl rfl) (Or.inr rfl)) (show 0<1 by decide) (λ_ _ _ _ _=>O6) (λ_ _ _ _ _=>(p_i (g6 0) (g6 1))) (jlt [0] 2))) (jlt [0] 2)))))
theorem Pg(T:Facts K mg A):FnOk P w K mg base CX0 2 A.JP A.JQ ["rows"] (spc K true O9) :=
 T.Kd.d 1 Bv CP (λ_ _ _ _ _ _ hr hu =>
  (i7 (BV (rels:=[]) (g:=(Tg.many [1,2])) PassesOwn.never rfl (IC rfl T.U3 (g6 0)) (Q4 rfl (A1 (A0 (i:=1) CP.nd rfl (Or.inl rfl) (Or.inl rfl)) (A1 (A0 (i:=2) CP.nd rfl (Or.inl rfl) (Or.inl rfl)) Q3))) (j7 (s_if (PFW.pt (w_or (t_cm (o_ne hu) (p_ca (F4 T) T.E5 hr (q_n 2 i9)) (g6 1)) (KE (Ar (p_bu (c_any rfl) T.n_any (j3 (p_co ["number"] 1 [] ["rows", "place", "row"] (i0 BL).names (F5 (P9 (g6 2) (X2 (p_op R1 (g6 1) j8)) X1)) (fun _ _ _ _ _=>(p_cm (o_ne hu) (g6 0) j8))) i9)) (fun _=>rfl))))) (j7 (o6 p_bl)) C3)))
   (j7 (o6 p_bl))))
theorem Fq(T:Facts K mg A):FnOk P w K mg base CX0 2 A.Xb A.Xc ["row", "part"] (spc K true T3) :=
 T.FK.d 1 MZ z0z (λ_ _ _ _ _ _ hr hu =>
  (j7 (o6 (p_co ["number", "part"] 1 [1] ["row", "part"] (i0 Ia).names (F5 (g6 0)) (λ_ _ _ _ _=>(p_ca (NB T) T.NH hr (q_n 0 (q_n 1 i9))))))))
theorem Rh(T:Facts K mg A):FnOk P w K mg base CX0 7 A.LR A.LS ["rows", "tags", "whole"] (spc K false Dr) :=
 T.Mn.d 6 AJ L8 (λ_ _ _ _ _ _ hr hu =>
  (i7 (E3 (rels:=[]) (r8 (i:=3) (p_bu N7 T.N9 (q_n 0 i9)) L8.nd rfl (Or.inr rfl) rfl (Or.inl rfl)))
   (i7 (E3 (rels:=[]) (r8 (i:=4) (g6 0) L8.nd rfl (Or.inr rfl) rfl (Or.inl rfl)))
   (i7 (asn 5 (g6 1) L8.nd)
   (i7 (MK PassesOwn.never (BS (Ar (p_ca (Pg T) T.Kd hr (q_n 4 i9)) (λ_=>rfl))) (i7 (asn 6 (p_ca (Hd T) T.FJ hr (j3 (p_ca (Eo T) T.DD hr (j3 (p_ca (Hd T) T.FJ hr (q_n 4 (q_n 3 i9))) i9)) (q_n 3 i9))) L8.nd)
   (i7 (asn 7 (p_ca (K2 T) T.I0 hr (q_n 6 (q_n 5 i9))) L8.nd)
   (i7 (E3 (rels:=[]) (r8 (i:=4) (p_co ["row", "many"] 1 [3] ["rows", "tags", "whole", "many", "square", "weights", "other", "both"] (i0 W8).names (F5 (g6 7)) (λ_ _ _ _ _=>(P9 (g6 0) X1 (X2 (g6 1))))) L8.nd rfl (Or.inr rfl) rfl (Or.inl rfl)))
   (j7 (E3 (rels:=[]) (a_co 5 L8.nd ["row", "many", "whole"] 1 [3,2] ["rows", "tags", "whole", "many", "square", "weights", "other", "both"] (i0 W8).names (F5 (g6 7)) (λ_ _ _ _ _=>(p_ca (Fq T) T.FK hr (j3 (P9 (g6 0) (X2 (g6 1)) X1) (q_n 2 i9)))))))))))
   (j7 (o6 (O7 (g:=(Tg.many [0,1])) (i4 (N:=["place", "row", "square"]) (nt:=2) (js:=[4]) ["rows", "tags", "whole", "many", "square", "weights", "other", "both"] (i0 W8).names rfl rfl rfl (by decide +kernel)) rfl (IC rfl T.U3 (g6 5)) (λ_ _ _ _ _=>Q4 rfl (A1 (A0 (ndp ["place", "row", "square"]) rfl (Or.inl rfl) (Or.inr rfl)) (A1 (A0 (ndp ["place", "row", "square"]) rfl (Or.inl rfl) (Or.inr rfl)) Q3))) (jlt [0,1] 2) (λ_ _ _ _ _=>O6) (λ_ _ _ _ _=>(DG (q_n 1 (j3 (p_i (p_i (g6 2) (g6 0)) (g6 0)) i9)))) (jlt [4] 8)))))))))
theorem YN(T:Facts K mg A):FnOk P w K mg base CX0 3 A.Py A.Pz ["one", "other"] (spc K true Y2) :=
 T.PM.d 2 CB W9 (λ_ _ _ _ _ _ hr hu =>
  (i7 (asn 2 (p_ca (Ls T) T.JZ hr (j3 (p_i (g6 0) j8) (j3 (p_i (g6 1) j8) i9))) W9.nd)
   (i7 (asn 3 (p_i (g6 2) j8) W9.nd)
   (i7 (asn 4 (p_op Aq (p_op Bd (p_i (g6 0) j8) (g6 3)) (p_i (g6 1) j8)) W9.nd)
   (i7 (asn 5 (p_ca (Fo T) T.FG hr (j3 (p_i (g6 0) j8) (j3 (p_i (g6 1) j8) i9))) W9.nd)
   (i7 (asn 6 (p_ca (Fo T) T.FG hr (j3 (p_ca (G9 T) T.K3 hr (j3 (p_i (g6 0) j8) (j3 (p_op Aq (KG (p_i (g6 2) j8)) (p_op Bd (p_i (g6 1) j8) (g6 3))) i9))) (j3 (p_ca (G9 T) T.K3 hr (j3 (p_i (g6 1) j8) (j3 (p_op Aq (p_i (g6 2) j8) (p_op Bd (p_i (g6 0) j8) (g6 3))) i9))) i9))) W9.nd)
   (j7 (o6 (@DG _ _ _ _ _ (@j3 _ _ _ _ _ (@DG _ _ _ _ _ (@j3 _ _ _ _ _ (p_ca (Fq T) T.FK hr (q_n 5 (q_n 3 i9))) (@j3 _ _ _ _ _ (g6 3) i9 rfl) rfl)) (@j3 _ _ _ _ _ (@DG _ _ _ _ _ (@j3 _ _ _ _ _ (p_ca (Fq T) T.FK hr (q_n 6 (q_n 4 i9))) (@j3 _ _ _ _ _ (g6 4) i9 rfl) rfl)) i9 rfl) rfl))))))))))
theorem Ri(T:Facts K mg A):FnOk P w K mg base CX0 4 A.LU A.LV ["measured"] (spc K true W6) :=
 T.Mo.d 3 AK Y9 (λ_ _ _ _ _ _ hr hu =>
  (i7 (KK (r8 (i:=1) (p_ty DH T.S7 (q_n 0 i9)) Y9.nd rfl (Or.inl rfl) rfl (Or.inl rfl)))
   (i7 (ZK (g:=(Tg.one 2)) PassesOwn.never rfl (XU rfl T.C6 (p_bu N7 T.N9 (q_n 1 i9))) (R3 Y9.nd rfl (Or.inl rfl) (Or.inl rfl)) (j7 (ZK (g:=(Tg.one 3)) PassesOwn.never rfl (XV rfl T.C6 (p_op R1 (g6 2) j8) (p_bu N7 T.N9 (q_n 1 i9))) (R3 Y9.nd rfl (Or.inl rfl) (Or.inl rfl)) (i7 (IB (r8 (i:=4) (p_ca (YN T) T.PM hr (j3 (p_i (g6 1) (g6 2)) (j3 (p_i (g6 1) (g6 3)) i9))) Y9.nd rfl (Or.inl rfl) rfl (Or.inl rfl)))
   (i7 (Wp (i:=1) rfl (Or.inl rfl) (g6 2) (p_i (g6 4) j8))
   (j7 (Wp (i:=1) rfl (Or.inl rfl) (g6 3) (p_i (g6 4) j8))))))))
   (j7 (o6 (O7 (g:=(Tg.many [0,1])) (i4 (N:=["weights", "part"]) (nt:=2) (js:=[]) ["measured", "found", "first", "second", "pair"] (i0 DB).names rfl rfl rfl (by decide +kernel)) rfl (F5 (g6 1)) (λ_ _ _ _ _=>Q4 rfl (A1 (A0 (ndp ["weights", "part"]) rfl (Or.inl rfl) (Or.inr rfl)) (A1 (A0 (ndp ["weights", "part"]) rfl (Or.inl rfl) (Or.inr rfl)) Q3))) (jlt [0,1] 2) (λ_ _ _ _ _=>O6) (λ_ _ _ _ _=>(@DG _ _ _ _ _ (@j3 _ _ _ _ _ (p_ca (Fq T) T.FK hr (q_n 0 (q_n 1 i9))) (@j3 _ _ _ _ _ (g6 1) i9 rfl) rfl))) (jlt [] 5)))))))
theorem Hu(T:Facts K mg A):FnOk P w K mg base CX0 8 A.JR A.JS ["hall"] (spc K false D3) :=
 T.Es.d 7 Y3 J1 (λ_ _ _ _ _ _ hr hu =>
  (i7 (E3 (rels:=[]) (r8 (i:=1) (p_i (g6 0) j8) J1.nd rfl (Or.inr rfl) rfl (Or.inl rfl)))
   (i7 (asn 2 (p_ca (z0E T) T.Xp hr (q_n 0 i9)) J1.nd)
   (i7 (E3 (rels:=[]) (r8 (i:=3) (p_bu N7 T.N9 (q_n 2 i9)) J1.nd rfl (Or.inr rfl) rfl (Or.inl rfl)))
   (i7 (asn 4 (p_ca (K2 T) T.I0 hr (j3 (p_ca (Hd T) T.FJ hr (q_n 2 (q_n 1 i9))) (j3 (p_co ["spot", "kinds"] 1 [1] ["hall", "kinds", "rungs", "many", "both", "square", "whole", "bound"] (i0 L9).names (B6 rfl T.C6 (g6 1)) (λ_ _ _ _ _=>(p_ca (CT T) T.BQ hr (q_n 1 (q_n 0 i9))))) i9))) J1.nd)
   (i7 (E3 (rels:=[]) (a_co 5 J1.nd ["row", "many"] 1 [3] ["hall", "kinds", "rungs", "many", "both", "square", "whole", "bound"] (i0 L9).names (F5 (P9 (g6 4) X1 (X2 (g6 3)))) (λ_ _ _ _ _=>(P9 (g6 0) X1 (X2 (g6 1))))))
   (i7 (asn 6 (p_ca (Rf T) T.Mk hr (j3 (O7 (g:=(Tg.many [0,1])) (i4 (N:=["place", "row"]) (nt:=2) (js:=[]) ["hall", "kinds", "rungs", "many", "both", "square", "whole", "bound"] (i0 L9).names rfl rfl rfl (by decide +kernel)) rfl (IC rfl T.U3 (g6 5)) (λ_ _ _ _ _=>Q4 rfl (A1 (A0 (ndp ["place", "row"]) rfl (Or.inl rfl) (Or.inr rfl)) (A1 (A0 (ndp ["place", "row"]) rfl (Or.inl rfl) (Or.inr rfl)) Q3))) (jlt [0,1] 2) (λ_ _ _ _ _=>O6) (λ_ _ _ _ _=>(p_i (g6 1) (g6 0))) (jlt [] 8)) i9)) J1.nd)
   (i7 (asn 7 (p_ca (Rh T) T.Mn hr (q_n 5 (j3 (p_co ["row", "many"] 1 [3] ["hall", "kinds", "rungs", "many", "both", "square", "whole", "bound"] (i0 L9).names (F5 (P9 (g6 4) X1 (X2 (g6 3)))) (λ_ _ _ _ _=>(P9 (g6 0) (X2 (g6 1)) X1))) (q_n 6 i9)))) J1.nd)
   (j7 (o6 (p_op R1 (p_ca (Ri T) T.Mo hr (q_n 7 i9)) (p_co ["weights"] 1 [] ["hall", "kinds", "rungs", "many", "both", "square", "whole", "bound"] (i0 L9).names (F5 (p_ca (Aa T) T.S8 hr (q_n 4 (q_n 3 i9)))) (λ_ _ _ _ _=>(DG (q_n 0 (j3 j8 i9))))))))))))))))
theorem Ph(T:Facts K mg A):FnOk P w K mg base CX0 9 A.Xd A.Xe ["hall"] (spc K true EN) :=
 T.NI.d 8 Na z0A (λ_ _ _ _ _ _ hr hu =>
  (j7 (o6 (O7 (g:=(Tg.many [0,1])) (i4 (N:=["weights", "part"]) (nt:=2) (js:=[]) ["hall"] (i0 Ib).names rfl rfl rfl (by decide +kernel)) rfl (F5 (p_ca (Hu T) T.Es hr (q_n 0 i9))) (λ_ _ _ _ _=>Q4 rfl (A1 (A0 (ndp ["weights", "part"]) rfl (Or.inl rfl) (Or.inr rfl)) (A1 (A0 (ndp ["weights", "part"]) rfl (Or.inl rfl) (Or.inr rfl)) Q3))) (jlt [0,1] 2) (λ_ _ _ _ _=>O6) (λ_ _ _ _ _=>(g6 1)) (jlt [] 1)))))
theorem Pi(T:Facts K mg A):FnOk P w K mg base CX0 2 A.JT A.JU ["measured", "basket"] (spc K true Y4) :=
 T.Kf.d 1 Ec Pd (λ_ _ _ _ _ _ hr hu =>
  (j7 (o6 (O7 (g:=(Tg.many [0,1])) (i4 (N:=["weights", "part", "basket"]) (nt:=2) (js:=[1]) ["measured", "basket"] (i0 BM).names rfl rfl rfl (by decide +kernel)) rfl (F5 (g6 0)) (λ_ _ _ _ _=>Q4 rfl (A1 (A0 (ndp ["weights", "part", "basket"]) rfl (Or.inl rfl) (Or.inr rfl)) (A1 (A0 (ndp ["weights", "part", "basket"]) rfl (Or.inl rfl) (Or.inr rfl)) Q3))) (jlt [0,1] 2) (λ_ _ _ _ _=>O6) (λ_ _ _ _ _=>(p_ca (NB T) T.NH hr (j3 (p_ca (Ra T) T.Mg hr (q_n 2 (q_n 0 i9))) (q_n 1 i9)))) (jlt [1] 2)))))
theorem Ko(T:Facts K mg A):FnOk P w K mg base CX0 3 A.Fw A.Fx ["measured", "numbers"] (spc K true M9) :=
 T.FL.d 2 Q9 An (λ_ _ _ _ _ _ hr hu =>
  (i7 (s_if (BS (Ar (p_ca (Hb T) T.FD hr (q_n 1 (j3 (p_bu N7 T.N9 (q_n 0 i9)) i9))) (fun _=>rfl))) (j7 Dc) C3)
   (j7 (BV (rels:=[]) (g:=(Tg.many [2,3])) PassesOwn.never rfl (KN rfl T.Mf (g6 1) (g6 0)) (Q4 rfl (A1 (A0 (i:=2) An.nd rfl (Or.inl rfl) (Or.inl rfl)) (A1 (A0 (i:=3) An.nd rfl (Or.inl rfl) (Or.inl rfl)) Q3))) (j7 (s_if (t_cm (o_ne hu) (p_ca (NB T) T.NH hr (q_n 2 (j3 (p_i (g6 3) j8) i9))) (g6 2)) (j7 Dc) C3))))))
theorem Kp(T:Facts K mg A):FnOk P w K mg base CX0 7 A.Fy A.Fz ["measured"] (spc K true V7) :=
 T.FM.d 6 Bw K7 (λ_ _ _ _ _ _ hr hu =>
  (i7 (E3 (rels:=[]) (r8 (i:=1) (p_bu N7 T.N9 (q_n 0 i9)) K7.nd rfl (Or.inr rfl) rfl (Or.inl rfl)))
   (i7 (E3 (rels:=[]) (r8 (i:=2) (p_co ["spot", "kinds"] 1 [1] ["measured", "kinds", "ones", "places", "wraps", "both"] (i0 J4).names (B6 rfl T.C6 (g6 1)) (λ_ _ _ _ _=>(p_ca (CT T) T.BQ hr (q_n 1 (q_n 0 i9))))) K7.nd rfl (Or.inr rfl) rfl (Or.inl rfl)))
   (i7 (E3 (rels:=[]) (a_co 3 K7.nd ["basket", "measured"] 1 [0] ["measured", "kinds", "ones", "places", "wraps", "both"] (i0 J4).names (F5 (g6 2)) (λ_ _ _ _ _=>(p_ca (Pi T) T.Kf hr (q_n 1 (q_n 0 i9))))))
   (i7 (E3 (rels:=[]) (a_co 4 K7.nd ["spot", "ones", "measured"] 1 [2,0] ["measured", "kinds", "ones", "places", "wraps", "both"] (i0 J4).names (B6 rfl T.C6 (g6 1)) (λ_ _ _ _ _=>(p_ca (G9 T) T.K3 hr (j3 (p_i (g6 1) (g6 0)) (j3 (p_i (p_i (g6 2) (g6 0)) j8) i9))))))
   (i7 (asn 5 (p_ca (K2 T) T.I0 hr (j3 (p_op R1 (g6 3) (g6 4)) (j3 (p_op R1 (g6 2) (p_co ["spot", "kinds"] 1 [1] ["measured", "kinds", "ones", "places", "wraps", "both"] (i0 J4).names (B6 rfl T.C6 (g6 1)) (λ_ _ _ _ _=>(p_ca (BO T) T.AS hr (q_n 1 i9))))) i9))) K7.nd)
   (j7 (o6 (p_ca (Hc T) T.BY hr (q_n 5 (q_n 1 i9)))))))))))
theorem ND(T:Facts K mg A):FnOk P w K mg base CX0 9 A.HB A.HC ["hall", "numbers"] (spc K true Z7) :=
 T.HJ.d 8 CC Fg (λ_ _ _ _ _ _ hr hu =>
  (i7 (asn 2 (p_ca (Hu T) T.Es hr (q_n 0 i9)) Fg.nd)
   (i7 (DS (p_ca (Ko T) T.FL hr (q_n 2 (q_n 1 i9))))
   (j7 (o6 (p_ca (z0C T) T.Xn hr (j3 (p_ca (Kp T) T.FM hr (q_n 2 i9)) (q_n 1 (j3 (p_i (g6 0) j8) i9)))))))))
theorem z0F(T:Facts K mg A):FnOk P w K mg base CX0 7 A.Xf A.Xg ["hall", "basket"] (spc K true EO) :=
 T.Xq.d 6 WH JD (λ_ _ _ _ _ _ hr hu =>
  (i7 (DS (p_ca (Z0 T) T.T4 hr (q_n 0 (q_n 1 i9))))
   (i7 (asn 2 (p_op R1 (Av (q_n 1 i9)) (p_ty DH T.S7 (j3 (p_i (g6 0) j8) i9))) JD.nd)
   (i7 (asn 3 (p_ca (Aa T) T.S8 hr (j3 (p_ca (K2 T) T.I0 hr (q_n 2 (j3 (p_op R1 (@Av _ _ _ _ (@j3 _ _ _ _ _ (Av (j3 j8 i9)) i9 rfl)) (p_co ["bill"] 1 [] ["hall", "basket", "rows", "rounds"] (i0 Ic).names (F5 (p_i (g6 0) j8)) (λ_ _ _ _ _=>(Av (j3 j8 i9))))) i9))) (j3 (p_i (g6 0) j8) i9))) JD.nd)
   (j7 (o6 (p_if (t_cm o_gt (p_bu N7 T.N9 (q_n 3 i9)) j8) (p_i (p_i (g6 3) j8) j8) NU)))))))
theorem YO(T:Facts K mg A):FnOk P w K mg base CX0 10 A.PB A.PC ["hall"] (spc K true EQ) :=
 T.PN.d 9 Jj Lr (λ_ _ _ _ _ _ hr hu =>
  (i7 (asn 1 (p_i (p_ca (Ph T) T.NI hr (q_n 0 i9)) (KG j8)) Lr.nd)
   (j7 (o6 (p_if (t_cm (o_ne hu) (g6 1) j8) (g6 1) NU)))))
theorem Rj(T:Facts K mg A):FnOk P w K mg base CX0 8 A.LW A.LX ["hall", "one", "other"] (spc K true Ds) :=
 T.Mp.d 7 GD El (λ_ _ _ _ _ _ hr hu =>
  (i7 (asn 3 (p_ca (G9 T) T.K3 hr (j3 (p_ca (z0D T) T.Xo hr (q_n 0 (q_n 1 (q_n 2 i9)))) (j3 (KG j8) i9))) El.nd)
   (i7 (asn 4 (p_ca (BP T) T.AV hr (j3 (p_op R1 (g6 3) (p_ca (BO T) T.AS hr (j3 (p_bu N7 T.N9 (j3 (p_i (g6 0) j8) i9)) i9))) (j3 (p_ca (Ep T) T.Ae hr (q_n 0 i9)) i9))) El.nd)
   (i7 (s_if (t_cm (o_ne hu) (P9 (g6 4) X1 (X2 (p_i (g6 0) j8))) (p_ca (YL T) T.PJ hr (q_n 0 i9))) (j7 (o6 NU)) C3)
   (j7 (o6 (P9 (g6 4) (X2 (p_i (g6 0) j8)) X1)))))))
theorem z4f(T:Facts K mg A):FnOk P w K mg base CX0 9 A.z3g A.z3h ["hall", "one", "other"] (spc K true U8) :=
 T.z3k.d 8 Nb z4e (λ_ _ _ _ _ _ hr hu =>
  (j7 (o6 (p_ca (Rj T) T.Mp hr (q_n 0 (q_n 1 (q_n 2 i9)))))))
theorem N4(T:Facts K mg A):FnOk P w K mg base CX0 1 A.HD A.HE ["_law_script", "_law_k"] (spc K true B9) :=
 T.M0.d 0 CD Ny (λ_ _ _ _ _ _ hr hu =>
  (i7 (s_if (t_cm o_lt (g6 1) (p_bu N7 T.N9 (q_n 0 i9))) (j7 (o6 (p_i (g6 0) (g6 1)))) C3)
   (i7 (s_if (t_cm (o_eq hu) (g6 0) (Av i9)) (j7 (o6 j8)) C3)
   (j7 (o6 (p_op R1 (p_op Aq (p_i (g6 0) (p_op BR (g6 1) (p_bu N7 T.N9 (q_n 0 i9)))) j8) (g6 1)))))))
theorem JG(T:Facts K mg A):FnOk P w K mg base CX0 1 A.LY A.LZ ["_law_found"] (spc K true P5) :=
 T.He.d 0 GE QY (λ_ _ _ _ _ _ hr hu =>
  (j7 (o6 (Wf (Ix (T := "int") rfl rfl T.J7 rfl T.Xm (by decide +kernel) (g6 0)) (We (p_not (Ix (T := "bool") rfl rfl T.J7 rfl T.z3i (by decide +kernel) (g6 0))))))))
theorem Pj(T:Facts K mg A):FnOk P w K mg base CX0 2 A.JV A.JW ["_law_found", "_law_size"] (spc K true Bx) :=
 T.Kg.d 1 Ed Hr (λ_ _ _ _ _ _ hr hu =>
  (i7 (s_if (PFW.pt (w_or (BS (Ar (Ix (T := "list") rfl rfl T.J7 rfl T.S7 (by decide +kernel) (g6 0)) (fun _=>rfl))) (KE (t_cm (o_ne hu) (p_bu N7 T.N9 (q_n 0 i9)) (g6 1))))) (j7 (o6 p_bl)) C3)
   (i7 (BV (rels:=[]) (g:=(Tg.one 2)) PassesOwn.never rfl (F5 (g6 0)) (R3 Hr.nd rfl (Or.inl rfl) (Or.inl rfl)) (j7 (s_if (BS (Ar (p_ca (JG T) T.He hr (q_n 2 i9)) (λ_=>rfl))) (j7 (o6 p_bl)) C3)))
   (j7 (o6 p_bl)))))
theorem Pk(T:Facts K mg A):FnOk P w K mg base CX0 1 A.JX A.JY ["_law_cell", "_law_mode"] (spc K true S5) :=
 T.Kh.d 0 Y5 Z9 (λ_ _ _ _ _ _ hr hu =>
  (i7 (s_if (t_cm (o_eq hu) (g6 1) j8) (i7 (asn 2 (p_op BR (g6 0) (p_op Zr j8 j8)) Z9.nd)
   (i7 (s_if (t_cm (o_eq hu) (p_op BR (p_op Bd (g6 0) (p_op Zr j8 j8)) j8) j8) (j7 (o6 (KG (g6 2)))) C3)
   (j7 (o6 (g6 2))))) C3)
   (i7 (asn 3 (p_i (Av (j3 j8 (j3 j8 i9))) (g6 1)) Z9.nd)
   (i7 (asn 2 (p_op BR (g6 0) (g6 3)) Z9.nd)
   (i7 (s_if (t_cm o_gt (g6 2) (p_op Bd (g6 3) j8)) (j7 (o6 (p_op NV (g6 2) (g6 3)))) C3)
   (j7 (o6 (g6 2))))))))
theorem Pl(T:Facts K mg A):FnOk P w K mg base CX0 2 A.Xh A.Xi ["_law_script", "_law_at", "_law_size", "_law_mode"] (spc K true V8) :=
 T.NJ.d 1 Nc z0B (λ_ _ _ _ _ _ hr hu =>
  (j7 (o6 (p_co ["_law_k", "_law_script", "_law_at", "_law_mode"] 1 [0,1,3] ["_law_script", "_law_at", "_law_size", "_law_mode"] (i0 Ie).names (B6 rfl T.C6 (g6 2)) (λ_ _ _ _ _=>(p_ca (Pk T) T.Kh hr (j3 (p_ca (N4 T) T.M0 hr (q_n 1 (j3 (p_op R1 (g6 2) (g6 0)) i9))) (q_n 3 i9))))))))
theorem Rk(T:Facts K mg A):FnOk P w K mg base CX0 3 A.Ma A.Mc ["_law_script"] (spc K true GH) :=
 T.Mq.d 2 Lm J5 (λ_ _ _ _ _ _ hr hu =>
  (i7 (E3 (rels:=[]) (r8 (i:=1) (p_i (Av (j3 j8 (j3 j8 (j3 j8 (j3 j8 (j3 j8 i9)))))) (p_op BR (p_ca (N4 T) T.M0 hr (q_n 0 (j3 j8 i9))) j8)) J5.nd rfl (Or.inr rfl) rfl (Or.inl rfl)))
   (i7 (E3 (rels:=[]) (r8 (i:=2) (p_op R1 j8 (p_op BR (p_ca (N4 T) T.M0 hr (q_n 0 (j3 j8 i9))) j8)) J5.nd rfl (Or.inr rfl) rfl (Or.inl rfl)))
   (i7 (asn 3 (p_op BR (p_ca (N4 T) T.M0 hr (q_n 0 (j3 j8 i9))) j8) J5.nd)
   (i7 (s_if (t_cm (o_eq hu) (p_op BR (p_ca (N4 T) T.M0 hr (q_n 0 (j3 j8 i9))) j8) j8) (i7 (E3 (rels:=[]) (r8 (i:=2) j8 J5.nd rfl (Or.inr rfl) rfl (Or.inl rfl)))
   (i7 (asn 3 j8 J5.nd)
   (j7 (E3 (rels:=[]) (r8 (i:=1) j8 J5.nd rfl (Or.inr rfl) rfl (Or.inl rfl)))))) C3)
   (i7 (s_if (t_cm (o_eq hu) (g6 1) j8) (i7 (E3 (rels:=[]) (r8 (i:=2) (p_op R1 j8 (p_op BR (g6 2) j8)) J5.nd rfl (Or.inr rfl) rfl (Or.inl rfl)))
   (j7 (asn 3 (p_op BR (g6 3) j8) J5.nd))) C3)
   (j7 (o6 (@DG _ _ _ _ _ (@j3 _ _ _ _ _ (g6 2) (@j3 _ _ _ _ _ (p_co ["_law_k", "_law_script", "_law_kinds", "_law_mode"] 1 [0,2,1] ["_law_script", "_law_mode", "_law_kinds", "_law_many"] (i0 DC).names (B6 rfl T.C6 (g6 3)) (λ_ _ _ _ _=>(p_ca (Pl T) T.NJ hr (q_n 1 (j3 (p_op R1 j8 (p_op Aq (g6 2) (g6 0))) (q_n 2 (q_n 3 i9))))))) i9 rfl) rfl))))))))))
theorem z0G(T:Facts K mg A):FnOk P w K mg base CX0 1 A.Xj A.Xk ["_law_size", "_law_rows", "_law_times"] (spc K true HW) :=
 T.Xr.d 0 Nd Fm (λ_ _ _ _ _ _ hr hu =>
  (i7 (E3 (rels:=[]) (r8 (i:=3) (p_co ["_law_k"] 1 [] ["_law_size", "_law_rows", "_law_times", "_law_made", "_law_j"] (i0 Fh).names (B6 rfl T.C6 (g6 0)) (fun _ _ _ _ _=>j8)) Fm.nd rfl (Or.inr rfl) rfl (Or.inl rfl)))
   (i7 (BV (rels:=[]) (g:=(Tg.one 4)) PassesOwn.never rfl (B6 rfl T.C6 (p_bu N7 T.N9 (q_n 1 i9))) (R3 Fm.nd rfl (Or.inr rfl) (Or.inl rfl)) (j7 (E3 (rels:=[]) (r8 (i:=3) (p_co ["_law_k", "_law_made", "_law_times", "_law_j", "_law_rows"] 1 [3,2,4,1] ["_law_size", "_law_rows", "_law_times", "_law_made", "_law_j"] (i0 Fh).names (B6 rfl T.C6 (g6 0)) (λ_ _ _ _ _=>(p_op R1 (p_i (g6 1) (g6 0)) (p_op Aq (p_i (g6 2) (g6 3)) (p_i (p_i (g6 4) (g6 3)) (g6 0)))))) Fm.nd rfl (Or.inr rfl) rfl (Or.inl rfl)))))
   (j7 (o6 (g6 3))))))
theorem YQ(T:Facts K mg A):FnOk P w K mg base CX0 1 A.PD A.PH ["_law_one", "_law_other", "_law_times"] (spc K true ER) :=
 T.PP.d 0 Jk YK (λ_ _ _ _ _ _ hr hu =>
  (j7 (o6 (p_co ["_law_k", "_law_one", "_law_times", "_law_other"] 1 [0,2,1] ["_law_one", "_law_other", "_law_times"] (i0 Fn).names (B6 rfl T.C6 (p_bu N7 T.N9 (q_n 0 i9))) (λ_ _ _ _ _=>(p_op R1 (p_i (g6 1) (g6 0)) (p_op Aq (g6 2) (p_i (g6 3) (g6 0)))))))))
theorem Rl(T:Facts K mg A):FnOk P w K mg base CX0 3 A.Md A.Me ["_law_bills_here", "_law_one", "_law_other", "_law_uses"] (spc K true K6) :=
 T.Mr.d 2 GI QZ (λ_ _ _ _ _ _ hr hu =>
  (i7 (s_if (BS (Ar (p_ca (Pj T) T.Kg hr (q_n 3 (j3 (p_bu N7 T.N9 (q_n 0 i9)) i9))) (fun _=>rfl))) (j7 (o6 p_bl)) C3)
   (j7 (o6 (p_cm (o_eq hu) (p_ca (YQ T) T.PP hr (q_n 1 (j3 (p_ca (z0G T) T.Xr hr (j3 (p_bu N7 T.N9 (q_n 1 i9)) (q_n 0 (q_n 3 i9)))) (j3 j8 i9)))) (g6 2))))))
theorem ok_law(T:Facts K mg A):FnOk P w K mg base CX0 11 A.a_law A.Xl ["_law_script"] (spc K true WI) :=
 T.f_law.d 10 z0a U9 (λ_ _ _ _ _ _ hr hu =>
  (i7 (asn 1 (p_ca (Rk T) T.Mq hr (q_n 0 i9)) U9.nd)
   (i7 (E3 (rels:=[]) (r8 (i:=2) (p_i (g6 1) j8) U9.nd rfl (Or.inr rfl) rfl (Or.inl rfl)))
   (i7 (asn 3 (p_i (g6 1) j8) U9.nd)
   (i7 (asn 4 (p_ca (Re T) T.Mj hr (q_n 2 (j3 (p_co ["_law_bill"] 1 [] ["_law_script", "_law_drawn", "_law_kinds", "_law_bills_here", "_law_hall", "_law_many", "_law_sizes", "_law_empty", "_law_some", "_law_basket", "_law_uses", "_law_last"] (i0 Hs).names (F5 (g6 3)) (λ_ _ _ _ _=>(p_ty DH T.S7 (q_n 0 i9)))) i9))) U9.nd)
   (i7 (E3 (rels:=[]) (r8 (i:=5) (p_ca (YO T) T.PN hr (q_n 4 i9)) U9.nd rfl (Or.inr rfl) rfl (Or.inl rfl)))
   (i7 (asn 6 (p_ca (Ph T) T.NI hr (q_n 4 i9)) U9.nd)
   (i7 (s_if (t_cmp o_in j8 (g6 6) (by with_unfolding_all rfl)) (j7 (o6 (p_cm o_isN (g6 5) NU))) C3)
   (i7 (s_if (PFW.pt (w_or (BS (Ar (p_ca (JG T) T.He hr (q_n 5 i9)) (λ_=>rfl))) (KE (t_cm o_lt (g6 5) j8)))) (j7 (o6 p_bl)) C3)
   (i7 (E3 (rels:=[]) (a_co 7 U9.nd ["_law_k"] 1 [] ["_law_script", "_law_drawn", "_law_kinds", "_law_bills_here", "_law_hall", "_law_many", "_law_sizes", "_law_empty", "_law_some", "_law_basket", "_law_uses", "_law_last"] (i0 Hs).names (B6 rfl T.C6 (g6 2)) (λ_ _ _ _ _=>j8)))
   (i7 (KK (IA (i:=8) (g:=(Tg.one 0)) U9.nd rfl rfl rfl (i4 (N:=["_law_k", "_law_kinds", "_law_many"]) (nt:=1) (js:=[2,5]) ["_law_script", "_law_drawn", "_law_kinds", "_law_bills_here", "_law_hall", "_law_many", "_law_sizes", "_law_empty", "_law_some", "_law_basket", "_law_uses", "_law_last"] (i0 Hs).names rfl rfl rfl (by decide +kernel)) rfl (B6 rfl T.C6 (g6 2)) (λ_ _ _ _ _=>R3 (ndp ["_law_k", "_law_kinds", "_law_many"]) rfl (Or.inr rfl) (Or.inl rfl)) (show 0<1 by decide) (λ_ _ _ _ _=>O6) (λ_ _ _ _ _=>(O7 (g:=(Tg.one 0)) (by first|exact i4 (N:=["_law_j", "_law_many", "_law_k"]) (nt:=1) (js:=[2,0]) ["_law_k", "_law_kinds", "_law_many"] [(".0",.local),("_law_k",.cell),("_law_kinds",.free),("_law_many",.free),("range",.globalImplicit)] rfl rfl rfl (by decide +kernel)|exact i4 (N:=["_law_j", "_law_many", "_law_k"]) (nt:=1) (js:=[2,0]) ["_law_k", "_law_kinds", "_law_many"] [(".0",.local),("_law_k",.cell),("_law_kinds",.free),("range",.globalImplicit),("_law_many",.free)] rfl rfl rfl (by decide +kernel)|exact i4 (N:=["_law_j", "_law_many", "_law_k"]) (nt:=1) (js:=[2,0]) ["_law_k", "_law_kinds", "_law_many"] [(".0",.local),("_law_k",.cell),("_law_many",.free),("_law_kinds",.free),("range",.globalImplicit)] rfl rfl rfl (by decide +kernel)|exact i4 (N:=["_law_j", "_law_many", "_law_k"]) (nt:=1) (js:=[2,0]) ["_law_k", "_law_kinds", "_law_many"] [(".0",.local),("_law_k",.cell),("_law_many",.free),("range",.globalImplicit),("_law_kinds",.free)] rfl rfl rfl (by decide +kernel)|exact i4 (N:=["_law_j", "_law_many", "_law_k"]) (nt:=1) (js:=[2,0]) ["_law_k", "_law_kinds", "_law_many"] [(".0",.local),("_law_k",.cell),("range",.globalImplicit),("_law_kinds",.free),("_law_many",.free)] rfl rfl rfl (by decide +kernel)|exact i4 (N:=["_law_j", "_law_many", "_law_k"]) (nt:=1) (js:=[2,0]) ["_law_k", "_law_kinds", "_law_many"] [(".0",.local),("_law_k",.cell),("range",.globalImplicit),("_law_many",.free),("_law_kinds",.free)] rfl rfl rfl (by decide +kernel)|exact i4 (N:=["_law_j", "_law_many", "_law_k"]) (nt:=1) (js:=[2,0]) ["_law_k", "_law_kinds", "_law_many"] [(".0",.local),("_law_kinds",.free),("_law_k",.cell),("_law_many",.free),("range",.globalImplicit)] rfl rfl rfl (by decide +kernel)|exact i4 (N:=["_law_j", "_law_many", "_law_k"]) (nt:=1) (js:=[2,0]) ["_law_k", "_law_kinds", "_law_many"] [(".0",.local),("_law_kinds",.free),("_law_k",.cell),("range",.globalImplicit),("_law_many",.free)] rfl rfl rfl (by decide +kernel)|exact i4 (N:=["_law_j", "_law_many", "_law_k"]) (nt:=1) (js:=[2,0]) ["_law_k", "_law_kinds", "_law_many"] [(".0",.local),("_law_kinds",.free),("_law_many",.free),("_law_k",.cell),("range",.globalImplicit)] rfl rfl rfl (by decide +kernel)|exact i4 (N:=["_law_j", "_law_many", "_law_k"]) (nt:=1) (js:=[2,0]) ["_law_k", "_law_kinds", "_law_many"] [(".0",.local),("_law_kinds",.free),("_law_many",.free),("range",.globalImplicit),("_law_k",.cell)] rfl rfl rfl (by decide +kernel)|exact i4 (N:=["_law_j", "_law_many", "_law_k"]) (nt:=1) (js:=[2,0]) ["_law_k", "_law_kinds", "_law_many"] [(".0",.local),("_law_kinds",.free),("range",.globalImplicit),("_law_k",.cell),("_law_many",.free)] rfl rfl rfl (by decide +kernel)|exact i4 (N:=["_law_j", "_law_many", "_law_k"]) (nt:=1) (js:=[2,0]) ["_law_k", "_law_kinds", "_law_many"] [(".0",.local),("_law_kinds",.free),("range",.globalImplicit),("_law_many",.free),("_law_k",.cell)] rfl rfl rfl (by decide +kernel)|exact i4 (N:=["_law_j", "_law_many", "_law_k"]) (nt:=1) (js:=[2,0]) ["_law_k", "_law_kinds", "_law_many"] [(".0",.local),("_law_many",.free),("_law_k",.cell),("_law_kinds",.free),("range",.globalImplicit)] rfl rfl rfl (by decide +kernel)|exact i4 (N:=["_law_j", "_law_many", "_law_k"]) (nt:=1) (js:=[2,0]) ["_law_k", "_law_kinds", "_law_many"] [(".0",.local),("_law_many",.free),("_law_k",.cell),("range",.globalImplicit),("_law_kinds",.free)] rfl rfl rfl (by decide +kernel)|exact i4 (N:=["_law_j", "_law_many", "_law_k"]) (nt:=1) (js:=[2,0]) ["_law_k", "_law_kinds", "_law_many"] [(".0",.local),("_law_many",.free),("_law_kinds",.free),("_law_k",.cell),("range",.globalImplicit)] rfl rfl rfl (by decide +kernel)|exact i4 (N:=["_law_j", "_law_many", "_law_k"]) (nt:=1) (js:=[2,0]) ["_law_k", "_law_kinds", "_law_many"] [(".0",.local),("_law_many",.free),("_law_kinds",.free),("range",.globalImplicit),("_law_k",.cell)] rfl rfl rfl (by decide +kernel)|exact i4 (N:=["_law_j", "_law_many", "_law_k"]) (nt:=1) (js:=[2,0]) ["_law_k", "_law_kinds", "_law_many"] [(".0",.local),("_law_many",.free),("range",.globalImplicit),("_law_k",.cell),("_law_kinds",.free)] rfl rfl rfl (by decide +kernel)|exact i4 (N:=["_law_j", "_law_many", "_law_k"]) (nt:=1) (js:=[2,0]) ["_law_k", "_law_kinds", "_law_many"] [(".0",.local),("_law_many",.free),("range",.globalImplicit),("_law_kinds",.free),("_law_k",.cell)] rfl rfl rfl (by decide +kernel)|exact i4 (N:=["_law_j", "_law_many", "_law_k"]) (nt:=1) (js:=[2,0]) ["_law_k", "_law_kinds", "_law_many"] [(".0",.local),("range",.globalImplicit),("_law_k",.cell),("_law_kinds",.free),("_law_many",.free)] rfl rfl rfl (by decide +kernel)|exact i4 (N:=["_law_j", "_law_many", "_law_k"]) (nt:=1) (js:=[2,0]) ["_law_k", "_law_kinds", "_law_many"] [(".0",.local),("range",.globalImplicit),("_law_k",.cell),("_law_many",.free),("_law_kinds",.free)] rfl rfl rfl (by decide +kernel)|exact i4 (N:=["_law_j", "_law_many", "_law_k"]) (nt:=1) (js:=[2,0]) ["_law_k", "_law_kinds", "_law_many"] [(".0",.local),("range",.globalImplicit),("_law_kinds",.free),("_law_k",.cell),("_law_many",.free)] rfl rfl rfl (by decide +kernel)|exact i4 (N:=["_law_j", "_law_many", "_law_k"]) (nt:=1) (js:=[2,0]) ["_law_k", "_law_kinds", "_law_many"] [(".0",.local),("range",.globalImplicit),("_law_kinds",.free),("_law_many",.free),("_law_k",.cell)] rfl rfl rfl (by decide +kernel)|exact i4 (N:=["_law_j", "_law_many", "_law_k"]) (nt:=1) (js:=[2,0]) ["_law_k", "_law_kinds", "_law_many"] [(".0",.local),("range",.globalImplicit),("_law_many",.free),("_law_k",.cell),("_law_kinds",.free)] rfl rfl rfl (by decide +kernel)|exact i4 (N:=["_law_j", "_law_many", "_law_k"]) (nt:=1) (js:=[2,0]) ["_law_k", "_law_kinds", "_law_many"] [(".0",.local),("range",.globalImplicit),("_law_many",.free),("_law_kinds",.free),("_law_k",.cell)] rfl rfl rfl (by decide +kernel)|exact i4 (N:=["_law_j", "_law_many", "_law_k"]) (nt:=1) (js:=[2,0]) ["_law_k", "_law_kinds", "_law_many"] [(".0",.local),("_law_k",.cell),("_law_kinds",.free),("_law_many",.free)] rfl rfl rfl (by decide +kernel)|exact i4 (N:=["_law_j", "_law_many", "_law_k"]) (nt:=1) (js:=[2,0]) ["_law_k", "_law_kinds", "_law_many"] [(".0",.local),("_law_k",.cell),("_law_many",.free),("_law_kinds",.free)] rfl rfl rfl (by decide +kernel)|exact i4 (N:=["_law_j", "_law_many", "_law_k"]) (nt:=1) (js:=[2,0]) ["_law_k", "_law_kinds", "_law_many"] [(".0",.local),("_law_kinds",.free),("_law_k",.cell),("_law_many",.free)] rfl rfl rfl (by decide +kernel)|exact i4 (N:=["_law_j", "_law_many", "_law_k"]) (nt:=1) (js:=[2,0]) ["_law_k", "_law_kinds", "_law_many"] [(".0",.local),("_law_kinds",.free),("_law_many",.free),("_law_k",.cell)] rfl rfl rfl (by decide +kernel)|exact i4 (N:=["_law_j", "_law_many", "_law_k"]) (nt:=1) (js:=[2,0]) ["_law_k", "_law_kinds", "_law_many"] [(".0",.local),("_law_many",.free),("_law_k",.cell),("_law_kinds",.free)] rfl rfl rfl (by decide +kernel)|exact i4 (N:=["_law_j", "_law_many", "_law_k"]) (nt:=1) (js:=[2,0]) ["_law_k", "_law_kinds", "_law_many"] [(".0",.local),("_law_many",.free),("_law_kinds",.free),("_law_k",.cell)] rfl rfl rfl (by decide +kernel)|exact i4 (N:=["_law_j", "_law_many", "_law_k"]) (nt:=1) (js:=[2,0]) ["_law_k", "_law_kinds", "_law_many"] [(".0",.local),("_law_k",.cell),("_law_kinds",.cell),("_law_many",.cell),("range",.globalImplicit)] rfl rfl rfl (by decide +kernel)|exact i4 (N:=["_law_j", "_law_many", "_law_k"]) (nt:=1) (js:=[2,0]) ["_law_k", "_law_kinds", "_law_many"] [(".0",.local),("_law_k",.cell),("_law_kinds",.cell),("range",.globalImplicit),("_law_many",.cell)] rfl rfl rfl (by decide +kernel)|exact i4 (N:=["_law_j", "_law_many", "_law_k"]) (nt:=1) (js:=[2,0]) ["_law_k", "_law_kinds", "_law_many"] [(".0",.local),("_law_k",.cell),("_law_many",.cell),("_law_kinds",.cell),("range",.globalImplicit)] rfl rfl rfl (by decide +kernel)|exact i4 (N:=["_law_j", "_law_many", "_law_k"]) (nt:=1) (js:=[2,0]) ["_law_k", "_law_kinds", "_law_many"] [(".0",.local),("_law_k",.cell),("_law_many",.cell),("range",.globalImplicit),("_law_kinds",.cell)] rfl rfl rfl (by decide +kernel)|exact i4 (N:=["_law_j", "_law_many", "_law_k"]) (nt:=1) (js:=[2,0]) ["_law_k", "_law_kinds", "_law_many"] [(".0",.local),("_law_k",.cell),("range",.globalImplicit),("_law_kinds",.cell),("_law_many",.cell)] rfl rfl rfl (by decide +kernel)|exact i4 (N:=["_law_j", "_law_many", "_law_k"]) (nt:=1) (js:=[2,0]) ["_law_k", "_law_kinds", "_law_many"] [(".0",.local),("_law_k",.cell),("range",.globalImplicit),("_law_many",.cell),("_law_kinds",.cell)] rfl rfl rfl (by decide +kernel)|exact i4 (N:=["_law_j", "_law_many", "_law_k"]) (nt:=1) (js:=[2,0]) ["_law_k", "_law_kinds", "_law_many"] [(".0",.local),("_law_kinds",.cell),("_law_k",.cell),("_law_many",.cell),("range",.globalImplicit)] rfl rfl rfl (by decide +kernel)|exact i4 (N:=["_law_j", "_law_many", "_law_k"]) (nt:=1) (js:=[2,0]) ["_law_k", "_law_kinds", "_law_many"] [(".0",.local),("_law_kinds",.cell),("_law_k",.cell),("range",.globalImplicit),("_law_many",.cell)] rfl rfl rfl (by decide +kernel)|exact i4 (N:=["_law_j", "_law_many", "_law_k"]) (nt:=1) (js:=[2,0]) ["_law_k", "_law_kinds", "_law_many"] [(".0",.local),("_law_kinds",.cell),("_law_many",.cell),("_law_k",.cell),("range",.globalImplicit)] rfl rfl rfl (by decide +kernel)|exact i4 (N:=["_law_j", "_law_many", "_law_k"]) (nt:=1) (js:=[2,0]) ["_law_k", "_law_kinds", "_law_many"] [(".0",.local),("_law_kinds",.cell),("_law_many",.cell),("range",.globalImplicit),("_law_k",.cell)] rfl rfl rfl (by decide +kernel)|exact i4 (N:=["_law_j", "_law_many", "_law_k"]) (nt:=1) (js:=[2,0]) ["_law_k", "_law_kinds", "_law_many"] [(".0",.local),("_law_kinds",.cell),("range",.globalImplicit),("_law_k",.cell),("_law_many",.cell)] rfl rfl rfl (by decide +kernel)|exact i4 (N:=["_law_j", "_law_many", "_law_k"]) (nt:=1) (js:=[2,0]) ["_law_k", "_law_kinds", "_law_many"] [(".0",.local),("_law_kinds",.cell),("range",.globalImplicit),("_law_many",.cell),("_law_k",.cell)] rfl rfl rfl (by decide +kernel)|exact i4 (N:=["_law_j", "_law_many", "_law_k"]) (nt:=1) (js:=[2,0]) ["_law_k", "_law_kinds", "_law_many"] [(".0",.local),("_law_many",.cell),("_law_k",.cell),("_law_kinds",.cell),("range",.globalImplicit)] rfl rfl rfl (by decide +kernel)|exact i4 (N:=["_law_j", "_law_many", "_law_k"]) (nt:=1) (js:=[2,0]) ["_law_k", "_law_kinds", "_law_many"] [(".0",.local),("_law_many",.cell),("_law_k",.cell),("range",.globalImplicit),("_law_kinds",.cell)] rfl rfl rfl (by decide +kernel)|exact i4 (N:=["_law_j", "_law_many", "_law_k"]) (nt:=1) (js:=[2,0]) ["_law_k", "_law_kinds", "_law_many"] [(".0",.local),("_law_many",.cell),("_law_kinds",.cell),("_law_k",.cell),("range",.globalImplicit)] rfl rfl rfl (by decide +kernel)|exact i4 (N:=["_law_j", "_law_many", "_law_k"]) (nt:=1) (js:=[2,0]) ["_law_k", "_law_kinds", "_law_many"] [(".0",.local),("_law_many",.cell),("_law_kinds",.cell),("range",.globalImplicit),("_law_k",.cell)] rfl rfl rfl (by decide +kernel)|exact i4 (N:=["_law_j", "_law_many", "_law_k"]) (nt:=1) (js:=[2,0]) ["_law_k", "_law_kinds", "_law_many"] [(".0",.local),("_law_many",.cell),("range",.globalImplicit),("_law_k",.cell),("_law_kinds",.cell)] rfl rfl rfl (by decide +kernel)|exact i4 (N:=["_law_j", "_law_many", "_law_k"]) (nt:=1) (js:=[2,0]) ["_law_k", "_law_kinds", "_law_many"] [(".0",.local),("_law_many",.cell),("range",.globalImplicit),("_law_kinds",.cell),("_law_k",.cell)] rfl rfl rfl (by decide +kernel)|exact i4 (N:=["_law_j", "_law_many", "_law_k"]) (nt:=1) (js:=[2,0]) ["_law_k", "_law_kinds", "_law_many"] [(".0",.local),("range",.globalImplicit),("_law_k",.cell),("_law_kinds",.cell),("_law_many",.cell)] rfl rfl rfl (by decide +kernel)|exact i4 (N:=["_law_j", "_law_many", "_law_k"]) (nt:=1) (js:=[2,0]) ["_law_k", "_law_kinds", "_law_many"] [(".0",.local),("range",.globalImplicit),("_law_k",.cell),("_law_many",.cell),("_law_kinds",.cell)] rfl rfl rfl (by decide +kernel)|exact i4 (N:=["_law_j", "_law_many", "_law_k"]) (nt:=1) (js:=[2,0]) ["_law_k", "_law_kinds", "_law_many"] [(".0",.local),("range",.globalImplicit),("_law_kinds",.cell),("_law_k",.cell),("_law_many",.cell)] rfl rfl rfl (by decide +kernel)|exact i4 (N:=["_law_j", "_law_many", "_law_k"]) (nt:=1) (js:=[2,0]) ["_law_k", "_law_kinds", "_law_many"] [(".0",.local),("range",.globalImplicit),("_law_kinds",.cell),("_law_many",.cell),("_law_k",.cell)] rfl rfl rfl (by decide +kernel)|exact i4 (N:=["_law_j", "_law_many", "_law_k"]) (nt:=1) (js:=[2,0]) ["_law_k", "_law_kinds", "_law_many"] [(".0",.local),("range",.globalImplicit),("_law_many",.cell),("_law_k",.cell),("_law_kinds",.cell)] rfl rfl rfl (by decide +kernel)|exact i4 (N:=["_law_j", "_law_many", "_law_k"]) (nt:=1) (js:=[2,0]) ["_law_k", "_law_kinds", "_law_many"] [(".0",.local),("range",.globalImplicit),("_law_many",.cell),("_law_kinds",.cell),("_law_k",.cell)] rfl rfl rfl (by decide +kernel)|exact i4 (N:=["_law_j", "_law_many", "_law_k"]) (nt:=1) (js:=[2,0]) ["_law_k", "_law_kinds", "_law_many"] [(".0",.local),("_law_k",.cell),("_law_kinds",.cell),("_law_many",.cell)] rfl rfl rfl (by decide +kernel)|exact i4 (N:=["_law_j", "_law_many", "_law_k"]) (nt:=1) (js:=[2,0]) ["_law_k", "_law_kinds", "_law_many"] [(".0",.local),("_law_k",.cell),("_law_many",.cell),("_law_kinds",.cell)] rfl rfl rfl (by decide +kernel)|exact i4 (N:=["_law_j", "_law_many", "_law_k"]) (nt:=1) (js:=[2,0]) ["_law_k", "_law_kinds", "_law_many"] [(".0",.local),("_law_kinds",.cell),("_law_k",.cell),("_law_many",.cell)] rfl rfl rfl (by decide +kernel)|exact i4 (N:=["_law_j", "_law_many", "_law_k"]) (nt:=1) (js:=[2,0]) ["_law_k", "_law_kinds", "_law_many"] [(".0",.local),("_law_kinds",.cell),("_law_many",.cell),("_law_k",.cell)] rfl rfl rfl (by decide +kernel)|exact i4 (N:=["_law_j", "_law_many", "_law_k"]) (nt:=1) (js:=[2,0]) ["_law_k", "_law_kinds", "_law_many"] [(".0",.local),("_law_many",.cell),("_law_k",.cell),("_law_kinds",.cell)] rfl rfl rfl (by decide +kernel)|exact i4 (N:=["_law_j", "_law_many", "_law_k"]) (nt:=1) (js:=[2,0]) ["_law_k", "_law_kinds", "_law_many"] [(".0",.local),("_law_many",.cell),("_law_kinds",.cell),("_law_k",.cell)] rfl rfl rfl (by decide +kernel)) rfl (B6 rfl T.C6 (g6 1)) (λ_ _ _ _ _=>R3 (ndp ["_law_j", "_law_many", "_law_k"]) rfl (Or.inl rfl) (Or.inr rfl)) (show 0<1 by decide) (λ_ _ _ _ _=>O6) (λ_ _ _ _ _=>(p_op Aq (g6 1) (p_ty c_int T.Xm (j3 (p_cm (o_eq hu) (g6 0) (g6 2)) i9)))) (jlt [2,0] 3))) (jlt [2,5] 12)))
   (i7 (s_wr1 (i:=8) ZJ F.slot_list_append F.type_list_append rfl (Or.inl rfl) (p_co ["_law_number_here", "_law_many"] 1 [5] ["_law_script", "_law_drawn", "_law_kinds", "_law_bills_here", "_law_hall", "_law_many", "_law_sizes", "_law_empty", "_law_some", "_law_basket", "_law_uses", "_law_last"] (i0 Hs).names (F5 (p_ca (Pl T) T.NJ hr (q_n 0 (j3 j8 (q_n 2 (j3 (p_op BR (p_ca (N4 T) T.M0 hr (q_n 0 (j3 j8 i9))) j8) i9)))))) (λ_ _ _ _ _=>(p_op Aq (g6 1) (g6 0)))))
   (i7 (BV (rels:=[8]) (g:=(Tg.one 9)) PassesOwn.never rfl (F5 (g6 8)) (R3 U9.nd rfl (Or.inl rfl) (Or.inl rfl)) (i7 (asn 10 (p_ca (z4f T) T.z3k hr (q_n 4 (j3 (p_ty DH T.S7 (q_n 7 i9)) (j3 (p_ty DH T.S7 (q_n 9 i9)) i9)))) U9.nd)
   (j7 (s_if (PFW.pt (w_or (t_cm o_isN (g6 10) NU) (KE (BS (Ar (p_ca (Rl T) T.Mr hr (q_n 3 (q_n 7 (q_n 9 (q_n 10 i9))))) (λ_=>rfl)))))) (j7 (o6 p_bl)) C3))))
   (i7 (KK (a_co 11 U9.nd ["_law_k"] 1 [] ["_law_script", "_law_drawn", "_law_kinds", "_law_bills_here", "_law_hall", "_law_many", "_law_sizes", "_law_empty", "_law_some", "_law_basket", "_law_uses", "_law_last"] (i0 Hs).names (B6 rfl T.C6 (g6 2)) (λ_ _ _ _ _=>j8)))
   (i7 (Wp (i:=11) rfl (Or.inl rfl) (p_op NV (g6 2) j8) (p_ty c_int T.Xm (j3 (p_cm o_gt (p_i (g6 6) (p_op NV (g6 2) j8)) j8) i9)))
   (j7 (o6 (p_cm (o_eq hu) (p_ca (z0F T) T.Xq hr (q_n 4 (j3 (p_ca (ND T) T.HJ hr (q_n 4 (q_n 11 i9))) i9))) (g6 5)))))))))))))))))))
end
theorem z0H{l:PySem.W.OpenLaw}{w:World}{K:aD}{h:Heap}{mg:aE}{fa:Addr}(X:K.In h)(G:h.Ns mainGlobals mg)(hfa:mg "law" = some (.ref fa))
  {a0:Addr} (h0:Dh K "is_whole" Ei a0)
  {a1:Addr} (h1:Dh K "is_row" EX a1)
  {a2:Addr} (h2:Dh K "noughts" Dx a2)
  {a3:Addr} (h3:Dh K "unit_row" BE a3)
  {a4:Addr} (h4:Dh K "added" HY a4)
  {a5:Addr} (h5:Dh K "taken" HZ a5)
  {a6:Addr} (h6:Dh K "scaled" EY a6)
  {a7:Addr} (h7:Dh K "weighed" Dy a7)
  {a8:Addr} (h8:Dh K "mixed" Nr a8)
  {a9:Addr} (h9:Dh K "head_at" GP a9)
  {a10:Addr} (h10:Dh K "are_kinds" CL a10)
  {a11:Addr} (h11:Dh K "is_bill" Dz a11)
  {a12:Addr} (h12:Dh K "need_kinds" BG a12)
  {a13:Addr} (h13:Dh K "need_bill" CM a13)
  {a14:Addr} (h14:Dh K "hall_by" DA a14)
  {a15:Addr} (h15:Dh K "hall_of" GQ a15)
  {a16:Addr} (h16:Dh K "need_basket_of" S6 a16)
  {a17:Addr} (h17:Dh K "need_basket" Am a17)
  {a18:Addr} (h18:Dh K "nought" JA a18)
  {a19:Addr} (h19:Dh K "apart" Nv a19)
  {a20:Addr} (h20:Dh K "bridge" CN a20)
  {a21:Addr} (h21:Dh K "rest" QV a21)
  {a22:Addr} (h22:Dh K "product" GR a22)
  {a23:Addr} (h23:Dh K "lowering" Ek a23)
  {a24:Addr} (h24:Dh K "lowered" GS a24)
  {a25:Addr} (h25:Dh K "crossed" GT a25)
  {a26:Addr} (h26:Dh K "turned_up" CO a26)
  {a27:Addr} (h27:Dh K "with_row" BJ a27)
  {a28:Addr} (h28:Dh K "evened" JB a28)
  {a29:Addr} (h29:Dh K "climbed" GW a29)
  {a30:Addr} (h30:Dh K "tagged_stair" R0 a30)
  {a31:Addr} (h31:Dh K "tags_of_rungs" O3 a31)
  {a32:Addr} (h32:Dh K "tags_at_nought" N3 a32)
  {a33:Addr} (h33:Dh K "stair" Nx a33)
  {a34:Addr} (h34:Dh K "stair_with_uses" K9 a34)
  {a35:Addr} (h35:Dh K "turned" Ff a35)
  {a36:Addr} (h36:Dh K "is_slant" BL a36)
  {a37:Addr} (h37:Dh K "rests" Ia a37)
  {a38:Addr} (h38:Dh K "slanted" W8 a38)
  {a39:Addr} (h39:Dh K "linked" JC a39)
  {a40:Addr} (h40:Dh K "chained" DB a40)
  {a41:Addr} (h41:Dh K "measures" L9 a41)
  {a42:Addr} (h42:Dh K "parts" Ib a42)
  {a43:Addr} (h43:Dh K "place_by" BM a43)
  {a44:Addr} (h44:Dh K "need_place" BN a44)
  {a45:Addr} (h45:Dh K "baskets_by" J4 a45)
  {a46:Addr} (h46:Dh K "basket_at" CQ a46)
  {a47:Addr} (h47:Dh K "order" Ic a47)
  {a48:Addr} (h48:Dh K "period" JE a48)
  {a49:Addr} (h49:Dh K "settled" GY a49)
  {a50:Addr} (h50:Dh K "plan" QX a50)
  {a51:Addr} (h51:Dh K "_law_cell_at" CS a51)
  {a52:Addr} (h52:Dh K "_law_whole" GZ a52)
  {a53:Addr} (h53:Dh K "_law_is_row" Em a53)
  {a54:Addr} (h54:Dh K "_law_number" En a54)
  {a55:Addr} (h55:Dh K "_law_row" Ie a55)
  {a56:Addr} (h56:Dh K "_law_bills" DC a56)
  {a57:Addr} (h57:Dh K "_law_sum" Fh a57)
  {a58:Addr} (h58:Dh K "_law_plus" Fn a58)
  {a59:Addr} (h59:Dh K "_law_leads" Ha a59)
  {a60:Addr} (h60:Dh K "law" Hs a60)
  (z_abs:PySem.W.nsIn K mainGlobals "abs" = some none)
  (z_all:PySem.W.nsIn K mainGlobals "all" = some none)
  (z_any:PySem.W.nsIn K mainGlobals "any" = some none)
  (z_bool:PySem.W.nsIn K mainGlobals "bool" = some none)
  (z_enumerate:PySem.W.nsIn K mainGlobals "enumerate" = some none)
  (z_int:PySem.W.nsIn K mainGlobals "int" = some none)
  (z_isinstance:PySem.W.nsIn K mainGlobals "isinstance" = some none)
  (z_len:PySem.W.nsIn K mainGlobals "len" = some none)
  (z_list:PySem.W.nsIn K mainGlobals "list" = some none)
  (z_range:PySem.W.nsIn K mainGlobals "range" = some none)
  (z_reversed:PySem.W.nsIn K mainGlobals "reversed" = some none)
  (z_sorted:PySem.W.nsIn K mainGlobals "sorted" = some none)
  (z_sum:PySem.W.nsIn K mainGlobals "sum" = some none)
  (z_tuple:PySem.W.nsIn K mainGlobals "tuple" = some none)
  (z_zip:PySem.W.nsIn K mainGlobals "zip" = some none)
  {V9:Tok} (y_MOST_BILLS:PySem.W.nsIn K mainGlobals "MOST_BILLS" = some (some (.int 8 V9)))
  {W0:Tok} (y_MOST_KINDS:PySem.W.nsIn K mainGlobals "MOST_KINDS" = some (some (.int 6 W0)))
  : ∃ fd:FuncData,(∀(s:Shared) (u:Value),BindsTo s fd ⟨[u],[]⟩ [("_law_script",u)])/\∀ base:Heap,K.In base->base.Ns mainGlobals mg->FnOk l.prog w K mg base CX0 11 fa fd ["_law_script"] (spc K true WI):=by
 obtain⟨d0,q0,b0⟩:=h0.df (ps:=["value"]) X G (λ_ _ _ _ _ _=>us1 (λ_=>rfl));obtain⟨d1,q1,b1⟩:=h1.df (ps:=["value", "length"]) X G (λ_ _ _ _ _ _=>us2 (λ_ _=>rfl));obtain⟨d2,q2,b2⟩:=h2.df (ps:=["length"]) X G (λ_ _ _ _ _ _=>us1 (λ_=>rfl));obtain⟨d3,q3,b3⟩:=h3.df (ps:=["length", "one_at"]) X G (λ_ _ _ _ _ _=>us2 (λ_ _=>rfl));obtain⟨d4,q4,b4⟩:=h4.df (ps:=["one", "other"]) X G (λ_ _ _ _ _ _=>us2 (λ_ _=>rfl));obtain⟨d5,q5,b5⟩:=h5.df (ps:=["one", "other"]) X G (λ_ _ _ _ _ _=>us2 (λ_ _=>rfl));obtain⟨d6,q6,b6⟩:=h6.df (ps:=["row", "often"]) X G (λ_ _ _ _ _ _=>us2 (λ_ _=>rfl));obtain⟨d7,q7,b7⟩:=h7.df (ps:=["row", "weights"]) X G (λ_ _ _ _ _ _=>us2 (λ_ _=>rfl));obtain⟨d8,q8,b8⟩:=h8.df (ps:=["rows", "counts", "length"]) X G (λ_ _ _ _ _ _=>us3 (λ_ _ _=>rfl));obtain⟨d9,q9,b9⟩:=h9.df (ps:=["row"]) X G (λ_ _ _ _ _ _=>us1 (λ_=>rfl));obtain⟨d10,q10,b10⟩:=h10.df (ps:=["value"]) X G (λ_ _ _ _ _ _=>us1 (λ_=>rfl));obtain⟨d11,q11,b11⟩:=h11.df (ps:=["value", "kinds"]) X G (λ_ _ _ _ _ _=>us2 (λ_ _=>rfl));obtain⟨d12,q12,b12⟩:=h12.df (ps:=["kinds"]) X G (λ_ _ _ _ _ _=>us1 (λ_=>rfl));obtain⟨d13,q13,b13⟩:=h13.df (ps:=["bill", "kinds"]) X G (λ_ _ _ _ _ _=>us2 (λ_ _=>rfl));obtain⟨d14,q14,b14⟩:=h14.df (ps:=["kinds", "rows"]) X G (λ_ _ _ _ _ _=>us2 (λ_ _=>rfl));obtain⟨d15,q15,b15⟩:=h15.df (ps:=["kinds", "bills"]) X G (λ_ _ _ _ _ _=>us2 (λ_ _=>rfl));obtain⟨d16,q16,b16⟩:=h16.df (ps:=["kinds", "basket"]) X G (λ_ _ _ _ _ _=>us2 (λ_ _=>rfl));obtain⟨d17,q17,b17⟩:=h17.df (ps:=["hall", "basket"]) X G (λ_ _ _ _ _ _=>us2 (λ_ _=>rfl));obtain⟨d18,q18,b18⟩:=h18.df (ps:=["hall"]) X G (λ_ _ _ _ _ _=>us1 (λ_=>rfl));obtain⟨d19,q19,b19⟩:=h19.df (ps:=["hall", "one", "other"]) X G (λ_ _ _ _ _ _=>us3 (λ_ _ _=>rfl));obtain⟨d20,q20,b20⟩:=h20.df (ps:=["a", "b"]) X G (λ_ _ _ _ _ _=>us2 (λ_ _=>rfl));obtain⟨d21,q21,b21⟩:=h21.df (ps:=["a", "part"]) X G (λ_ _ _ _ _ _=>us2 (λ_ _=>rfl));obtain⟨d22,q22,b22⟩:=h22.df (ps:=["numbers"]) X G (λ_ _ _ _ _ _=>us1 (λ_=>rfl));obtain⟨d23,q23,b23⟩:=h23.df (ps:=["row", "rungs"]) X G (λ_ _ _ _ _ _=>us2 (λ_ _=>rfl));obtain⟨d24,q24,b24⟩:=h24.df (ps:=["row", "rungs"]) X G (λ_ _ _ _ _ _=>us2 (λ_ _=>rfl));obtain⟨d25,q25,b25⟩:=h25.df (ps:=["rung", "row"]) X G (λ_ _ _ _ _ _=>us2 (λ_ _=>rfl));obtain⟨d26,q26,b26⟩:=h26.df (ps:=["row"]) X G (λ_ _ _ _ _ _=>us1 (λ_=>rfl));obtain⟨d27,q27,b27⟩:=h27.df (ps:=["rungs", "row"]) X G (λ_ _ _ _ _ _=>us2 (λ_ _=>rfl));obtain⟨d28,q28,b28⟩:=h28.df (ps:=["rungs"]) X G (λ_ _ _ _ _ _=>us1 (λ_=>rfl));obtain⟨d29,q29,b29⟩:=h29.df (ps:=["rows"]) X G (λ_ _ _ _ _ _=>us1 (λ_=>rfl));obtain⟨d30,q30,b30⟩:=h30.df (ps:=["rows", "tags"]) X G (λ_ _ _ _ _ _=>us2 (λ_ _=>rfl));obtain⟨d31,q31,b31⟩:=h31.df (ps:=["rungs", "width"]) X G (λ_ _ _ _ _ _=>us2 (λ_ _=>rfl));obtain⟨d32,q32,b32⟩:=h32.df (ps:=["rungs", "width"]) X G (λ_ _ _ _ _ _=>us2 (λ_ _=>rfl));obtain⟨d33,q33,b33⟩:=h33.df (ps:=["hall"]) X G (λ_ _ _ _ _ _=>us1 (λ_=>rfl));obtain⟨d34,q34,b34⟩:=h34.df (ps:=["hall"]) X G (λ_ _ _ _ _ _=>us1 (λ_=>rfl));obtain⟨d35,q35,b35⟩:=h35.df (ps:=["rows", "width"]) X G (λ_ _ _ _ _ _=>us2 (λ_ _=>rfl))
 obtain⟨d36,q36,b36⟩:=h36.df (ps:=["rows"]) X G (λ_ _ _ _ _ _=>us1 (λ_=>rfl));obtain⟨d37,q37,b37⟩:=h37.df (ps:=["row", "part"]) X G (λ_ _ _ _ _ _=>us2 (λ_ _=>rfl));obtain⟨d38,q38,b38⟩:=h38.df (ps:=["rows", "tags", "whole"]) X G (λ_ _ _ _ _ _=>us3 (λ_ _ _=>rfl));obtain⟨d39,q39,b39⟩:=h39.df (ps:=["one", "other"]) X G (λ_ _ _ _ _ _=>us2 (λ_ _=>rfl));obtain⟨d40,q40,b40⟩:=h40.df (ps:=["measured"]) X G (λ_ _ _ _ _ _=>us1 (λ_=>rfl));obtain⟨d41,q41,b41⟩:=h41.df (ps:=["hall"]) X G (λ_ _ _ _ _ _=>us1 (λ_=>rfl));obtain⟨d42,q42,b42⟩:=h42.df (ps:=["hall"]) X G (λ_ _ _ _ _ _=>us1 (λ_=>rfl));obtain⟨d43,q43,b43⟩:=h43.df (ps:=["measured", "basket"]) X G (λ_ _ _ _ _ _=>us2 (λ_ _=>rfl));obtain⟨d44,q44,b44⟩:=h44.df (ps:=["measured", "numbers"]) X G (λ_ _ _ _ _ _=>us2 (λ_ _=>rfl));obtain⟨d45,q45,b45⟩:=h45.df (ps:=["measured"]) X G (λ_ _ _ _ _ _=>us1 (λ_=>rfl));obtain⟨d46,q46,b46⟩:=h46.df (ps:=["hall", "numbers"]) X G (λ_ _ _ _ _ _=>us2 (λ_ _=>rfl));obtain⟨d47,q47,b47⟩:=h47.df (ps:=["hall", "basket"]) X G (λ_ _ _ _ _ _=>us2 (λ_ _=>rfl));obtain⟨d48,q48,b48⟩:=h48.df (ps:=["hall"]) X G (λ_ _ _ _ _ _=>us1 (λ_=>rfl));obtain⟨d49,q49,b49⟩:=h49.df (ps:=["hall", "one", "other"]) X G (λ_ _ _ _ _ _=>us3 (λ_ _ _=>rfl));obtain⟨d50,q50,b50⟩:=h50.df (ps:=["hall", "one", "other"]) X G (λ_ _ _ _ _ _=>us3 (λ_ _ _=>rfl));obtain⟨d51,q51,b51⟩:=h51.df (ps:=["_law_script", "_law_k"]) X G (λ_ _ _ _ _ _=>us2 (λ_ _=>rfl));obtain⟨d52,q52,b52⟩:=h52.df (ps:=["_law_found"]) X G (λ_ _ _ _ _ _=>us1 (λ_=>rfl));obtain⟨d53,q53,b53⟩:=h53.df (ps:=["_law_found", "_law_size"]) X G (λ_ _ _ _ _ _=>us2 (λ_ _=>rfl));obtain⟨d54,q54,b54⟩:=h54.df (ps:=["_law_cell", "_law_mode"]) X G (λ_ _ _ _ _ _=>us2 (λ_ _=>rfl));obtain⟨d55,q55,b55⟩:=h55.df (ps:=["_law_script", "_law_at", "_law_size", "_law_mode"]) X G (λ_ _ _ _ _ _=>us4 (λ_ _ _ _=>rfl));obtain⟨d56,q56,b56⟩:=h56.df (ps:=["_law_script"]) X G (λ_ _ _ _ _ _=>us1 (λ_=>rfl));obtain⟨d57,q57,b57⟩:=h57.df (ps:=["_law_size", "_law_rows", "_law_times"]) X G (λ_ _ _ _ _ _=>us3 (λ_ _ _=>rfl));obtain⟨d58,q58,b58⟩:=h58.df (ps:=["_law_one", "_law_other", "_law_times"]) X G (λ_ _ _ _ _ _=>us3 (λ_ _ _=>rfl));obtain⟨d59,q59,b59⟩:=h59.df (ps:=["_law_bills_here", "_law_one", "_law_other", "_law_uses"]) X G (λ_ _ _ _ _ _=>us4 (λ_ _ _ _=>rfl));obtain⟨d60,q60,b60⟩:=h60.df (ps:=["_law_script"]) X G (λ_ _ _ _ _ _=>us1 (λ_=>rfl));have key:∃ A:Adr,Facts K mg A/\∀(s:Shared) (u:Value),BindsTo s A.Xl ⟨[u],[]⟩ [("_law_script",u)]:=⟨⟨a0,d0,a1,d1,a2,d2,a3,d3,a4,d4,a5,d5,a6,d6,a7,d7,a8,d8,a9,d9,a10,d10,a11,d11,a12,d12,a13,d13,a14,d14,a15,d15,a16,d16,a17,d17,a18,d18,a19,d19,a20,d20,a21,d21,a22,d22,a23,d23,a24,d24,a25,d25,a26,d26,a27,d27,a28,d28,a29,d29,a30,d30,a31,d31,a32,d32,a33,d33,a34,d34,a35,d35,a36,d36,a37,d37,a38,d38,a39,d39,a40,d40,a41,d41,a42,d42,a43,d43,a44,d44,a45,d45,a46,d46,a47,d47,a48,d48,a49,d49,a50,d50,a51,d51,a52,d52,a53,d53,a54,d54,a55,d55,a56,d56,a57,d57,a58,d58,a59,d59,a60,d60,V9,W0⟩,⟨PySem.W.mg_none_of X G z_abs,PySem.W.mg_none_of X G z_all,PySem.W.mg_none_of X G z_any,PySem.W.mg_none_of X G z_bool,PySem.W.mg_none_of X G z_enumerate,PySem.W.mg_none_of X G z_int,PySem.W.mg_none_of X G z_isinstance,PySem.W.mg_none_of X G z_len,PySem.W.mg_none_of X G z_list,PySem.W.mg_none_of X G z_range,PySem.W.mg_none_of X G z_reversed,PySem.W.mg_none_of X G z_sorted,PySem.W.mg_none_of X G z_sum,PySem.W.mg_none_of X G z_tuple,PySem.W.mg_none_of X G z_zip,PySem.W.mg_of X G y_MOST_BILLS,PySem.W.mg_of X G y_MOST_KINDS,q0,q1,q2,q3,q4,q5,q6,q7,q8,q9,q10,q11,q12,q13,q14,q15,q16,q17,q18,q19,q20,q21,q22,q23,q24,q25,q26,q27,q28,q29,q30,q31,q32,q33,q34,q35,q36,q37,q38,q39,q40,q41,q42,q43,q44,q45,q46,q47,q48,q49,q50,q51,q52,q53,q54,q55,q56,q57,q58,q59,q60⟩,λs u => .of_eq (b60 [u] rfl)⟩
 obtain⟨A,FF,hb⟩:=key;have e:=hfa.symm.trans FF.f_law.mg;cases e;exact⟨A.Xl,hb,λbase _ _=>ok_law FF⟩
namespace H
noncomputable section
open PySem PySem.W PySem.Calls PyProof.Rows
abbrev pw:Program:=PySem.Challenge.pw_changehall_k21_periods
abbrev vs(s:String)(t:Nat):Value := .str (Str.ofString s) t
abbrev de(P:Params)(s:String)(t:Nat)(v:Value):DictEntry:=⟨PyData.keyHash P (Str.ofString s),.str (Str.ofString s) t,v⟩
abbrev N:=BT.node
abbrev E:=BT.nil
abbrev ins(t:BT)(l:List (Nat×Obj)):BT:=l.foldl (λt x=>t.ins x.1 x.2) t
def fdT(s:Stmt)(g:Addr)(md cd:Value):FuncData:=match s with
 | .FunctionDef name args body _ _ _ scope _ _ _=>{ name:=name,qualname:=name,params:=args,body := .stmts body,scope:=scope,globals:=g,closure:=[],defaults := .none,kwdefaults := .none,pyModule:=md,code:=cd }
 | _=>default
abbrev tu(l:aF):Obj:=⟨.type "tuple",none,.seq l.toArray 0,#[]⟩
abbrev fi(l:aF):Obj:=⟨.none,none,.fields l.toArray,#[]⟩
abbrev fo(c:Value)(i:Nat)(g:Addr)(md cd:Value):Obj:=⟨c,none,.func (fdT (top i) g md cd),#[]⟩
abbrev co(a f:String)(t0 t1 t2:Nat)(l n z:Int)(r:Addr)(u:Bool)(v:Int)(s:Addr)(p q1 q2 q3:Value)(w:Int)(t3:Nat):Obj:=⟨.type "code",none,.fields #[vs a t0,vs a t1,vs f t2,.int l 0,.int n 0,.int 0 0,.int 0 0,.int z 0,.ref r,.bool u,.int v 0,.ref s,p,q1,q2,q3,.int w 0,.int l 0,vs f t3],#[]⟩
theorem te_go:@topGo=Fast.tw15667345088766844465:=Fast.te15667345088766844465
theorem te_sr:@segRun=Fast.tw14374325043358763698:=Fast.te14374325043358763698
theorem te_sT:@segRunT=Fast.tw10110043849684766642:=Fast.te10110043849684766642
theorem te_tr:@topRun=Fast.tw14082659384304107361:=Fast.te14082659384304107361
theorem te_tb:treeTable=Fast.tw14364793385576792824:=Fast.te14364793385576792824
theorem te_im:@importedModules=Fast.tw5923862056798008813:=Fast.te5923862056798008813
theorem te_seen:@seen=Fast.tw5160383126252970620:=Fast.te5160383126252970620
theorem te_recs:@recsOf=Fast.tw3399658132070893891:=Fast.te3399658132070893891
theorem te_owns:@ownsOf=Fast.tw5991557255702980513:=Fast.te5991557255702980513
theorem te_keys:@Heap.keysOk=Fast.tw10880121769531294198:=Fast.te10880121769531294198
theorem te_loose:@looseW=Fast.tw821141287760084731:=Fast.te821141287760084731
theorem te_lits:@litsOf=Fast.tw7409074990110511671:=Fast.te7409074990110511671
theorem te_clss:@clssOf=Fast.tw13664370479719496447:=Fast.te13664370479719496447
theorem te_acc:@Heap.accountedOkI=Fast.tw14722251495701143533:=Fast.te14722251495701143533
theorem te_tabl:@tablesOk=Fast.tw10994771534591457954:=Fast.te10994771534591457954
theorem te_tabs:@tabsOk=Fast.tw479339242167458305:=Fast.te479339242167458305
theorem te_pin:@pinSeenD=Fast.tw16090120013241838585:=Fast.te16090120013241838585
theorem te_drecs:@drecsOf=Fast.tw3247288618530077131:=Fast.te3247288618530077131
theorem te_pE:@plainSeenE=Fast.tw2386780881361962483:=Fast.te2386780881361962483
theorem te_pD:@plainSeenD=Fast.tw11698064438423848299:=Fast.te11698064438423848299
theorem te_wide:@wideSeen=Fast.tw7317090234206586261:=Fast.te7317090234206586261
theorem te_cls:@clsSeenW=Fast.tw7369524293546568484:=Fast.te7369524293546568484
theorem te_den:@denote=Fast.tw11892475500146522536:=Fast.te11892475500146522536
theorem te_ns:@Heap.nsMap=Fast.tw8920871248978507458:=Fast.te8920871248978507458
abbrev env:Env:={ scope:=pw.main.scope,locals:=mainNs,globals:=mainNs,cells:=[],code := .ref 13,frame:=some 14 }
abbrev cE:Code := .body (behindTheImports pw) env
abbrev fB:List Frame:=[topFrame ⟨0,0,0,0⟩]
abbrev ann:Option Value:=some (.ref 6)
abbrev o11a:=tu []
abbrev o12aL:aF:=[]
abbrev o12a:=fi o12aL
abbrev o13a:=co "<module>" "/claim/cut.py" 182 183 184 1 0 0 11 false 181 12 .none .none .none .none 185 186
abbrev o14a:Obj:=⟨.type "frame",none,.plain,#[Option.some (PySem.Value.ref 13),Option.some (PySem.Value.ref 3),Option.some (PySem.Value.ref 3),Option.none,Option.some (PySem.Value.str (PySem.Str.ofString "__main__") 164),Option.none,Option.some (PySem.Value.ref 0)]⟩
abbrev ha(P:Params):Heap:=⟨⟨[boot_o_0 P,boot_o_1 P,boot_o_2 P,boot_o_3 P,boot_o_4 P,boot_o_5 P,boot_o_6 P,boot_o_7 P,boot_o_8 P,boot_o_9 P,boot_o_10 P,o11a,o12a,o13a,o14a]⟩,{ }⟩
theorem run_a(w:World)(os:OsState):topGo treeTable pw w 11 ann 12 ⟨boot_heap w.params,#[],boot_drawn,boot_toks,os⟩ (topStub pw)=some (⟨ha w.params,#[],{ },187,os⟩,⟨denote treeTable cE,cE,⟨0,0,0,0⟩,fB⟩):=by
 rewrite[te_go,te_den,te_tb];kernel_rfl
abbrev t0(P:Params):BT:=(N (boot_o_0 P) (N (boot_o_1 P) (N (boot_o_3 P) (N (boot_o_7 P) E E) (N (o11a) E E)) (N (boot_o_5 P) (N (boot_o_9 P) E E) (N (o13a) E E))) (N (boot_o_2 P) (N (boot_o_4 P) (N (boot_o_8 P) E E) (N (o12a) E E)) (N (boot_o_6 P) (N (boot_o_10 P) E E) (N (o14a) E E))))
abbrev s0(w:World)(os:OsState):SharedT:=⟨t0 w.params,15,{ },#[],{ },187,os⟩
theorem run_b(w:World)(os:OsState):segRun treeTable pw w 11 ann 1 1 ⟨ha w.params,#[],{ },187,os⟩ (blockOf (behindTheImports pw) env cE ⟨0,0,0,0⟩ fB)=some (.next,(s0 w os).abs,cE,⟨0,0,0,0⟩):=by
 rewrite[te_sr,te_tb];kernel_rfl
abbrev o3_1L(P:Params):List DictEntry:=[de P "__name__" 165 (vs "changehall.errors" 187),de P "__doc__" 166 .none,de P "__package__" 167 .none,de P "__loader__" 168 (.builtin "__main__.__loader__#opaque"),de P "__spec__" 169 .none,de P "__annotations__" 170 (.ref 6),de P "__builtins__" 171 (.ref 4),de P "__file__" 173 (vs "/claim/cut.py" 172),de P "__cached__" 174 .none,de P "HallError" 206 (.ref 24)]
abbrev o3_1(P:Params):Obj:=⟨.type "dict",none,.dict (o3_1L P).toArray 10,#[]⟩
abbrev z0I:aF:=o12aL++[.int 2 0,.int 0 0,.ref 20]
abbrev o12_1:=fi z0I
abbrev z0J:=tu [.type "ValueError"]
abbrev o16_1:Obj:=⟨.type "builtin_function_or_method",none,.fields #[.builtin "type.__prepare__",.type "type"],#[]⟩
abbrev o17_1L(P:Params):List DictEntry:=[de P "__module__" 196 (vs "changehall.errors" 187),de P "__qualname__" 198 (vs "HallError" 197),de P "__firstlineno__" 200 (.int 2 199),de P "__static_attributes__" 201 (.ref 22)]
abbrev o17_1(P:Params):Obj:=⟨.type "dict",none,.dict (o17_1L P).toArray 4,#[]⟩
abbrev o18_1:=tu []
abbrev o19_1:=fi []
abbrev o20_1:=co "HallError" "/claim/cut.py" 191 192 193 2 0 0 18 false 181 19 .none .none .none .none 194 195
abbrev o21_1:Obj:=⟨.type "frame",none,.plain,#[Option.some (PySem.Value.ref 20),Option.some (PySem.Value.ref 3),Option.some (PySem.Value.ref 17),Option.none,Option.some (PySem.Value.str (PySem.Str.ofString "changehall.errors") 187),Option.none,Option.some (PySem.Value.ref 0)]⟩
abbrev z0K:=tu []
abbrev o23_1L(P:Params):List DictEntry:=[de P "__module__" 196 (vs "changehall.errors" 187),de P "__firstlineno__" 200 (.int 2 199),de P "__static_attributes__" 201 (.ref 22),de P "__weakref__" 203 (.ref 25),de P "__doc__" 204 .none]
abbrev z0L(P:Params):Obj:=⟨.type "dict",none,.dict (o23_1L P).toArray 3,#[]⟩
abbrev o24_1:Obj:=⟨.type "type",none,.cls ({ name:=PySem.Str.ofString "HallError",bases:=[PySem.Value.type "ValueError"],mro:=[PySem.Value.ref 24,PySem.Value.type "ValueError",PySem.Value.type "Exception",PySem.Value.type "BaseException",PySem.Value.type "object"],ns:=23,qualname:=PySem.Str.ofString "HallError" }),#[Option.some (PySem.Value.ref 15),Option.none,Option.some (PySem.Value.str (PySem.Str.ofString "HallError") 189),Option.some (PySem.Value.str (PySem.Str.ofString "HallError") 197),Option.some (PySem.Value.builtin "ValueError.__new__"),Option.some (PySem.Value.bool w08)]⟩
abbrev z0M:Obj:=⟨.type "getset_descriptor",none,.fields #[vs "__weakref__" 202,.ref 24,.builtin "ExceptionGroup.__weakref__",.none],#[]⟩
abbrev o26_1:Obj:=⟨.type "super",none,.fields #[.ref 24,.ref 24,.ref 24],#[]⟩
abbrev o27_1:Obj:=⟨.type "builtin_function_or_method",none,.fields #[.builtin "object.__init_subclass__",.ref 24],#[]⟩
abbrev t1(P:Params):BT:=ins (t0 P) [(3,o3_1 P),(12,o12_1),(15,z0J),(16,o16_1),(17,o17_1 P),(18,o18_1),(19,o19_1),(20,o20_1),(21,o21_1),(22,z0K),(23,z0L P),(24,o24_1),(25,z0M),(26,o26_1),(27,o27_1)]
abbrev s1(w:World)(os:OsState):SharedT:=⟨t1 w.params,28,{ },#[],{ },207,os⟩
abbrev l0:List Stmt:=[top 0,top 1]
theorem run_0(w:World)(os:OsState):segRunT treeTable pw w 11 ann 1 196 (s0 w os) (piecesOf l0 env cE ⟨0,0,0,0⟩ fB)=some (.next,s1 w os,cE,⟨2,0,3,8⟩):=by
 rewrite[te_sT,te_tb];kernel_rfl
abbrev o3_2L(P:Params):List DictEntry:=de P "__name__" 165 (vs "changehall.errors" 187)::(o3_1L P).tail++[de P "NoHall" 222 (.ref 37)]
abbrev o3_2(P:Params):Obj:=⟨.type "dict",none,.dict (o3_2L P).toArray 11,#[]⟩
abbrev z0N:aF:=z0I++[.int 4 0,.int 0 0,.ref 33]
abbrev o12_2:=fi z0N
abbrev o24_2:Obj:=⟨.type "type",none,.cls ({ name:=PySem.Str.ofString "HallError",bases:=[PySem.Value.type "ValueError"],mro:=[PySem.Value.ref 24,PySem.Value.type "ValueError",PySem.Value.type "Exception",PySem.Value.type "BaseException",PySem.Value.type "object"],ns:=23,qualname:=PySem.Str.ofString "HallError",subclasses:=[PySem.Value.ref 37] }),#[Option.some (PySem.Value.ref 15),Option.none,Option.some (PySem.Value.str (PySem.Str.ofString "HallError") 189),Option.some (PySem.Value.str (PySem.Str.ofString "HallError") 197),Option.some (PySem.Value.builtin "ValueError.__new__"),Option.some (PySem.Value.bool w08)]⟩
abbrev z0O:=tu [.ref 24]
abbrev o29_2:Obj:=⟨.type "builtin_function_or_method",none,.fields #[.builtin "type.__prepare__",.type "type"],#[]⟩
abbrev o30_2L(P:Params):List DictEntry:=[de P "__module__" 214 (vs "changehall.errors" 187),de P "__qualname__" 216 (vs "NoHall" 215),de P "__firstlineno__" 218 (.int 4 217),de P "__static_attributes__" 219 (.ref 35)]
abbrev o30_2(P:Params):Obj:=⟨.type "dict",none,.dict (o30_2L P).toArray 4,#[]⟩
abbrev o31_2:=tu []
abbrev o32_2:=fi []
abbrev o33_2:=co "NoHall" "/claim/cut.py" 209 210 211 4 0 0 31 false 181 32 .none .none .none .none 212 213
abbrev o34_2:Obj:=⟨.type "frame",none,.plain,#[Option.some (PySem.Value.ref 33),Option.some (PySem.Value.ref 3),Option.some (PySem.Value.ref 30),Option.none,Option.some (PySem.Value.str (PySem.Str.ofString "changehall.errors") 187),Option.none,Option.some (PySem.Value.ref 0)]⟩
abbrev z0P:=tu []
abbrev o36_2L(P:Params):List DictEntry:=[de P "__module__" 214 (vs "changehall.errors" 187),de P "__firstlineno__" 218 (.int 4 217),de P "__static_attributes__" 219 (.ref 35),de P "__doc__" 220 .none]
abbrev z0Q(P:Params):Obj:=⟨.type "dict",none,.dict (o36_2L P).toArray 2,#[]⟩
abbrev z0R:Obj:=⟨.type "type",none,.cls ({ name:=PySem.Str.ofString "NoHall",bases:=[PySem.Value.ref 24],mro:=[PySem.Value.ref 37,PySem.Value.ref 24,PySem.Value.type "ValueError",PySem.Value.type "Exception",PySem.Value.type "BaseException",PySem.Value.type "object"],ns:=36,qualname:=PySem.Str.ofString "NoHall" }),#[Option.some (PySem.Value.ref 28),Option.none,Option.some (PySem.Value.str (PySem.Str.ofString "NoHall") 207),Option.some (PySem.Value.str (PySem.Str.ofString "NoHall") 215),Option.some (PySem.Value.builtin "ValueError.__new__"),Option.some (PySem.Value.bool w08)]⟩
abbrev o38_2:Obj:=⟨.type "super",none,.fields #[.ref 37,.ref 37,.ref 37],#[]⟩
abbrev o39_2:Obj:=⟨.type "builtin_function_or_method",none,.fields #[.builtin "object.__init_subclass__",.ref 37],#[]⟩
abbrev t2(P:Params):BT:=ins (t1 P) [(3,o3_2 P),(12,o12_2),(24,o24_2),(28,z0O),(29,o29_2),(30,o30_2 P),(31,o31_2),(32,o32_2),(33,o33_2),(34,o34_2),(35,z0P),(36,z0Q P),(37,z0R),(38,o38_2),(39,o39_2)]
abbrev s2(w:World)(os:OsState):SharedT:=⟨t2 w.params,40,{ },#[],{ },223,os⟩
abbrev l1:List Stmt:=[top 2]
theorem run_1(w:World)(os:OsState):segRunT treeTable pw w 11 ann 1 214 (s1 w os) (piecesOf l1 env cE ⟨2,0,3,8⟩ fB)=some (.next,s2 w os,cE,⟨4,0,5,8⟩):=by
 rewrite[te_sT,te_tb];kernel_rfl
abbrev o3_3L(P:Params):List DictEntry:=de P "__name__" 165 (vs "changehall.errors" 187)::(o3_2L P).tail++[de P "NoBasket" 238 (.ref 49)]
abbrev o3_3(P:Params):Obj:=⟨.type "dict",none,.dict (o3_3L P).toArray 12,#[]⟩
abbrev z0S:aF:=z0N++[.int 6 0,.int 0 0,.ref 45]
abbrev o12_3:=fi z0S
abbrev o24_3:Obj:=⟨.type "type",none,.cls ({ name:=PySem.Str.ofString "HallError",bases:=[PySem.Value.type "ValueError"],mro:=[PySem.Value.ref 24,PySem.Value.type "ValueError",PySem.Value.type "Exception",PySem.Value.type "BaseException",PySem.Value.type "object"],ns:=23,qualname:=PySem.Str.ofString "HallError",subclasses:=[PySem.Value.ref 37,PySem.Value.ref 49] }),#[Option.some (PySem.Value.ref 15),Option.none,Option.some (PySem.Value.str (PySem.Str.ofString "HallError") 189),Option.some (PySem.Value.str (PySem.Str.ofString "HallError") 197),Option.some (PySem.Value.builtin "ValueError.__new__"),Option.some (PySem.Value.bool w08)]⟩
abbrev z0T:=tu [.ref 24]
abbrev o41_3:Obj:=⟨.type "builtin_function_or_method",none,.fields #[.builtin "type.__prepare__",.type "type"],#[]⟩
abbrev o42_3L(P:Params):List DictEntry:=[de P "__module__" 230 (vs "changehall.errors" 187),de P "__qualname__" 232 (vs "NoBasket" 231),de P "__firstlineno__" 234 (.int 6 233),de P "__static_attributes__" 235 (.ref 47)]
abbrev o42_3(P:Params):Obj:=⟨.type "dict",none,.dict (o42_3L P).toArray 4,#[]⟩
abbrev o43_3:=tu []
abbrev o44_3:=fi []
abbrev o45_3:=co "NoBasket" "/claim/cut.py" 225 226 227 6 0 0 43 false 181 44 .none .none .none .none 228 229
abbrev o46_3:Obj:=⟨.type "frame",none,.plain,#[Option.some (PySem.Value.ref 45),Option.some (PySem.Value.ref 3),Option.some (PySem.Value.ref 42),Option.none,Option.some (PySem.Value.str (PySem.Str.ofString "changehall.errors") 187),Option.none,Option.some (PySem.Value.ref 0)]⟩
abbrev z0U:=tu []
abbrev o48_3L(P:Params):List DictEntry:=[de P "__module__" 230 (vs "changehall.errors" 187),de P "__firstlineno__" 234 (.int 6 233),de P "__static_attributes__" 235 (.ref 47),de P "__doc__" 236 .none]
abbrev z0V(P:Params):Obj:=⟨.type "dict",none,.dict (o48_3L P).toArray 2,#[]⟩
abbrev z0W:Obj:=⟨.type "type",none,.cls ({ name:=PySem.Str.ofString "NoBasket",bases:=[PySem.Value.ref 24],mro:=[PySem.Value.ref 49,PySem.Value.ref 24,PySem.Value.type "ValueError",PySem.Value.type "Exception",PySem.Value.type "BaseException",PySem.Value.type "object"],ns:=48,qualname:=PySem.Str.ofString "NoBasket" }),#[Option.some (PySem.Value.ref 40),Option.none,Option.some (PySem.Value.str (PySem.Str.ofString "NoBasket") 223),Option.some (PySem.Value.str (PySem.Str.ofString "NoBasket") 231),Option.some (PySem.Value.builtin "ValueError.__new__"),Option.some (PySem.Value.bool w08)]⟩
abbrev o50_3:Obj:=⟨.type "super",none,.fields #[.ref 49,.ref 49,.ref 49],#[]⟩
abbrev o51_3:Obj:=⟨.type "builtin_function_or_method",none,.fields #[.builtin "object.__init_subclass__",.ref 49],#[]⟩
abbrev t3(P:Params):BT:=ins (t2 P) [(3,o3_3 P),(12,o12_3),(24,o24_3),(40,z0T),(41,o41_3),(42,o42_3 P),(43,o43_3),(44,o44_3),(45,o45_3),(46,o46_3),(47,z0U),(48,z0V P),(49,z0W),(50,o50_3),(51,o51_3)]
abbrev s3(w:World)(os:OsState):SharedT:=⟨t3 w.params,52,{ },#[],{ },239,os⟩
abbrev l2:List Stmt:=[top 3]
theorem run_2(w:World)(os:OsState):segRunT treeTable pw w 11 ann 1 214 (s2 w os) (piecesOf l2 env cE ⟨4,0,5,8⟩ fB)=some (.next,s3 w os,cE,⟨6,0,7,8⟩):=by
 rewrite[te_sT,te_tb];kernel_rfl
abbrev o3_4L(P:Params):List DictEntry:=de P "__name__" 165 (vs "changehall.rows" 255)::(o3_3L P).tail++[de P "NoPlace" 254 (.ref 61),de P "is_whole" 263 (.ref 70),de P "is_row" 269 (.ref 75),de P "noughts" 275 (.ref 80),de P "unit_row" 281 (.ref 85),de P "added" 287 (.ref 90),de P "taken" 293 (.ref 95)]
abbrev o3_4(P:Params):Obj:=⟨.type "dict",none,.dict (o3_4L P).toArray 19,#[]⟩
abbrev z0X:aF:=z0S++[.int 8 0,.int 0 0,.ref 57,.int 11 0,.int 0 0,.ref 69,.int 13 0,.int 0 0,.ref 74,.int 17 0,.int 0 0,.ref 79,.int 19 0,.int 0 0,.ref 84,.int 21 0,.int 0 0,.ref 89,.int 23 0,.int 0 0,.ref 94]
abbrev o12_4:=fi z0X
abbrev z0Y:Obj:=⟨.type "type",none,.cls ({ name:=PySem.Str.ofString "HallError",bases:=[PySem.Value.type "ValueError"],mro:=[PySem.Value.ref 24,PySem.Value.type "ValueError",PySem.Value.type "Exception",PySem.Value.type "BaseException",PySem.Value.type "object"],ns:=23,qualname:=PySem.Str.ofString "HallError",subclasses:=[PySem.Value.ref 37,PySem.Value.ref 49,PySem.Value.ref 61] }),#[Option.some (PySem.Value.ref 15),Option.none,Option.some (PySem.Value.str (PySem.Str.ofString "HallError") 189),Option.some (PySem.Value.str (PySem.Str.ofString "HallError") 197),Option.some (PySem.Value.builtin "ValueError.__new__"),Option.some (PySem.Value.bool w08)]⟩
abbrev z0Z:=tu [.ref 24]
abbrev o53_4:Obj:=⟨.type "builtin_function_or_method",none,.fields #[.builtin "type.__prepare__",.type "type"],#[]⟩
abbrev o54_4L(P:Params):List DictEntry:=[de P "__module__" 246 (vs "changehall.errors" 187),de P "__qualname__" 248 (vs "NoPlace" 247),de P "__firstlineno__" 250 (.int 8 249),de P "__static_attributes__" 251 (.ref 59)]
abbrev o54_4(P:Params):Obj:=⟨.type "dict",none,.dict (o54_4L P).toArray 4,#[]⟩
abbrev o55_4:=tu []
abbrev o56_4:=fi []
abbrev o57_4:=co "NoPlace" "/claim/cut.py" 241 242 243 8 0 0 55 false 181 56 .none .none .none .none 244 245
abbrev o58_4:Obj:=⟨.type "frame",none,.plain,#[Option.some (PySem.Value.ref 57),Option.some (PySem.Value.ref 3),Option.some (PySem.Value.ref 54),Option.none,Option.some (PySem.Value.str (PySem.Str.ofString "changehall.errors") 187),Option.none,Option.some (PySem.Value.ref 0)]⟩
abbrev z10:=tu []
abbrev o60_4L(P:Params):List DictEntry:=[de P "__module__" 246 (vs "changehall.errors" 187),de P "__firstlineno__" 250 (.int 8 249),de P "__static_attributes__" 251 (.ref 59),de P "__doc__" 252 .none]
abbrev z12(P:Params):Obj:=⟨.type "dict",none,.dict (o60_4L P).toArray 2,#[]⟩
abbrev z13:Obj:=⟨.type "type",none,.cls ({ name:=PySem.Str.ofString "NoPlace",bases:=[PySem.Value.ref 24],mro:=[PySem.Value.ref 61,PySem.Value.ref 24,PySem.Value.type "ValueError",PySem.Value.type "Exception",PySem.Value.type "BaseException",PySem.Value.type "object"],ns:=60,qualname:=PySem.Str.ofString "NoPlace" }),#[Option.some (PySem.Value.ref 52),Option.none,Option.some (PySem.Value.str (PySem.Str.ofString "NoPlace") 239),Option.some (PySem.Value.str (PySem.Str.ofString "NoPlace") 247),Option.some (PySem.Value.builtin "ValueError.__new__"),Option.some (PySem.Value.bool w08)]⟩
abbrev o62_4:Obj:=⟨.type "super",none,.fields #[.ref 61,.ref 61,.ref 61],#[]⟩
abbrev o63_4:Obj:=⟨.type "builtin_function_or_method",none,.fields #[.builtin "object.__init_subclass__",.ref 61],#[]⟩
abbrev z14:=tu []
abbrev o65_4:=fi []
abbrev z15:=tu [vs "value" 260]
abbrev z16:=tu []
abbrev o68_4:=fo .none 6 0 .none .none
abbrev z17:=co "is_whole" "/claim/cut.py" 257 258 259 11 1 3 64 true 181 65 .none (.ref 66) (.ref 67) (.ref 68) 261 262
abbrev z18:=fo (.type "function") 6 3 (vs "changehall.rows" 255) (.ref 69)
abbrev z19:=tu []
abbrev o72_4:=fi []
abbrev o73_4:=fo .none 7 0 .none .none
abbrev z1a:=co "is_row" "/claim/cut.py" 264 265 266 13 2 3 71 true 181 72 .none .none .none (.ref 73) 267 268
abbrev z1b:=fo (.type "function") 7 3 (vs "changehall.rows" 255) (.ref 74)
abbrev z1c:=tu []
abbrev o77_4:=fi []
abbrev o78_4:=fo .none 8 0 .none .none
abbrev z1d:=co "noughts" "/claim/cut.py" 270 271 272 17 1 3 76 true 181 77 .none .none .none (.ref 78) 273 274
abbrev z1e:=fo (.type "function") 8 3 (vs "changehall.rows" 255) (.ref 79)
abbrev z1f:=tu []
abbrev o82_4:=fi []
abbrev o83_4:=fo .none 9 0 .none .none
abbrev z1g:=co "unit_row" "/claim/cut.py" 276 277 278 19 2 3 81 true 181 82 .none .none .none (.ref 83) 279 280
abbrev z1h:=fo (.type "function") 9 3 (vs "changehall.rows" 255) (.ref 84)
abbrev z1i:=tu []
abbrev o87_4:=fi []
abbrev o88_4:=fo .none 10 0 .none .none
abbrev z1j:=co "added" "/claim/cut.py" 282 283 284 21 2 3 86 true 181 87 .none .none .none (.ref 88) 285 286
abbrev z1k:=fo (.type "function") 10 3 (vs "changehall.rows" 255) (.ref 89)
abbrev z1l:=tu []
abbrev o92_4:=fi []
abbrev o93_4:=fo .none 11 0 .none .none
abbrev z1m:=co "taken" "/claim/cut.py" 288 289 290 23 2 3 91 true 181 92 .none .none .none (.ref 93) 291 292
abbrev z1n:=fo (.type "function") 11 3 (vs "changehall.rows" 255) (.ref 94)
abbrev t4(P:Params):BT:=ins (t3 P) [(3,o3_4 P),(12,o12_4),(24,z0Y),(52,z0Z),(53,o53_4),(54,o54_4 P),(55,o55_4),(56,o56_4),(57,o57_4),(58,o58_4),(59,z10),(60,z12 P),(61,z13),(62,o62_4),(63,o63_4),(64,z14),(65,o65_4),(66,z15),(67,z16),(68,o68_4),(69,z17),(70,z18),(71,z19),(72,o72_4),(73,o73_4),(74,z1a),(75,z1b),(76,z1c),(77,o77_4),(78,o78_4),(79,z1d),(80,z1e),(81,z1f),(82,o82_4),(83,o83_4),(84,z1g),(85,z1h),(86,z1i),(87,o87_4),(88,o88_4),(89,z1j),(90,z1k),(91,z1l),(92,o92_4),(93,o93_4),(94,z1m),(95,z1n)]
abbrev s4(w:World)(os:OsState):SharedT:=⟨t4 w.params,96,{ },#[],{ },294,os⟩
abbrev l3:List Stmt:=[top 4,top 5,top 6,top 7,top 8,top 9,top 10,top 11]
theorem run_3(w:World)(os:OsState):segRunT treeTable pw w 11 ann 1 382 (s3 w os) (piecesOf l3 env cE ⟨6,0,7,8⟩ fB)=some (.next,s4 w os,cE,⟨23,0,24,59⟩):=by
 rewrite[te_sT,te_tb];kernel_rfl
abbrev o3_5L(P:Params):List DictEntry:=de P "__name__" 165 (vs "changehall.halls" 327)::(o3_4L P).tail++[de P "scaled" 299 (.ref 100),de P "weighed" 305 (.ref 105),de P "mixed" 317 (.ref 112),de P "head_at" 326 (.ref 119),de P "MOST_KINDS" 330 (.int 6 329),de P "MOST_BILLS" 332 (.int 8 331),de P "are_kinds" 339 (.ref 126),de P "is_bill" 345 (.ref 131),de P "need_kinds" 352 (.ref 138),de P "need_bill" 360 (.ref 145),de P "hall_of" 369 (.ref 152),de P "hall_by" 375 (.ref 157),de P "need_basket_of" 383 (.ref 164),de P "need_basket" 391 (.ref 171)]
abbrev o3_5(P:Params):Obj:=⟨.type "dict",none,.dict (o3_5L P).toArray 33,#[]⟩
abbrev z1o:aF:=z0X++[.int 25 0,.int 0 0,.ref 99,.int 27 0,.int 0 0,.ref 104,.int 29 0,.int 0 0,.ref 111,.int 34 0,.int 0 0,.ref 118,.int 42 0,.int 0 0,.ref 125,.int 44 0,.int 0 0,.ref 130,.int 46 0,.int 0 0,.ref 137,.int 49 0,.int 0 0,.ref 144,.int 52 0,.int 0 0,.ref 151,.int 59 0,.int 0 0,.ref 156,.int 61 0,.int 0 0,.ref 163,.int 64 0,.int 0 0,.ref 170]
abbrev o12_5:=fi z1o
abbrev z1p:=tu []
abbrev o97_5:=fi []
abbrev o98_5:=fo .none 12 0 .none .none
abbrev z1q:=co "scaled" "/claim/cut.py" 294 295 296 25 2 3 96 true 181 97 .none .none .none (.ref 98) 297 298
abbrev Rm:=fo (.type "function") 12 3 (vs "changehall.rows" 255) (.ref 99)
abbrev Rn:=tu []
abbrev z1r:=fi []
abbrev z1s:=fo .none 13 0 .none .none
abbrev Ro:=co "weighed" "/claim/cut.py" 300 301 302 27 2 3 101 true 181 102 .none .none .none (.ref 103) 303 304
abbrev Rq:=fo (.type "function") 13 3 (vs "changehall.rows" 255) (.ref 104)
abbrev Rr:=tu []
abbrev z1t:=fi []
abbrev Rs:=tu [vs "rows" 309,vs "counts" 310,vs "length" 311,vs "total" 312,vs "row" 313,vs "often" 314]
abbrev Rt:=tu []
abbrev z1u:=fo .none 14 0 .none .none
abbrev Ru:=co "mixed" "/claim/cut.py" 306 307 308 29 3 3 106 true 181 107 .none (.ref 108) (.ref 109) (.ref 110) 315 316
abbrev Rv:=fo (.type "function") 14 3 (vs "changehall.rows" 255) (.ref 111)
abbrev Rw:=tu []
abbrev z1v:=fi []
abbrev Rx:=tu [vs "row" 321,vs "spot" 322,vs "number" 323]
abbrev Ry:=tu []
abbrev z1w:=fo .none 15 0 .none .none
abbrev Rz:=co "head_at" "/claim/cut.py" 318 319 320 34 1 3 113 true 181 114 .none (.ref 115) (.ref 116) (.ref 117) 324 325
abbrev RC:=fo (.type "function") 15 3 (vs "changehall.rows" 255) (.ref 118)
abbrev RD:=tu []
abbrev z1x:=fi []
abbrev RE:=tu [vs "value" 336]
abbrev RF:=tu []
abbrev z1y:=fo .none 19 0 .none .none
abbrev RG:=co "are_kinds" "/claim/cut.py" 333 334 335 42 1 3 120 true 181 121 .none (.ref 122) (.ref 123) (.ref 124) 337 338
abbrev RH:=fo (.type "function") 19 3 (vs "changehall.halls" 327) (.ref 125)
abbrev RI:=tu []
abbrev z1z:=fi []
abbrev z1A:=fo .none 20 0 .none .none
abbrev RJ:=co "is_bill" "/claim/cut.py" 340 341 342 44 2 3 127 true 181 128 .none .none .none (.ref 129) 343 344
abbrev RK:=fo (.type "function") 20 3 (vs "changehall.halls" 327) (.ref 130)
abbrev RL:=tu []
abbrev z1B:=fi []
abbrev RM:=tu [vs "kinds" 349]
abbrev RN:=tu []
abbrev z1C:=fo .none 21 0 .none .none
abbrev RO:=co "need_kinds" "/claim/cut.py" 346 347 348 46 1 3 132 true 181 133 .none (.ref 134) (.ref 135) (.ref 136) 350 351
abbrev RP:=fo (.type "function") 21 3 (vs "changehall.halls" 327) (.ref 137)
abbrev RQ:=tu []
abbrev z1D:=fi []
abbrev RR:=tu [vs "bill" 356,vs "kinds" 357]
abbrev RS:=tu []
abbrev z1E:=fo .none 22 0 .none .none
abbrev RT:=co "need_bill" "/claim/cut.py" 353 354 355 49 2 3 139 true 181 140 .none (.ref 141) (.ref 142) (.ref 143) 358 359
abbrev RU:=fo (.type "function") 22 3 (vs "changehall.halls" 327) (.ref 144)
abbrev RV:=tu []
abbrev z1F:=fi []
abbrev RW:=tu [vs "kinds" 364,vs "bills" 365,vs "bill" 366]
abbrev RX:=tu []
abbrev z1G:=fo .none 23 0 .none .none
abbrev RY:=co "hall_of" "/claim/cut.py" 361 362 363 52 2 3 146 true 181 147 .none (.ref 148) (.ref 149) (.ref 150) 367 368
abbrev RZ:=fo (.type "function") 23 3 (vs "changehall.halls" 327) (.ref 151)
abbrev Sa:=tu []
abbrev z1H:=fi []
abbrev z1I:=fo .none 24 0 .none .none
abbrev Sb:=co "hall_by" "/claim/cut.py" 370 371 372 59 2 3 153 true 181 154 .none .none .none (.ref 155) 373 374
abbrev Sc:=fo (.type "function") 24 3 (vs "changehall.halls" 327) (.ref 156)
abbrev Sd:=tu []
abbrev z1J:=fi []
abbrev Se:=tu [vs "kinds" 379,vs "basket" 380]
abbrev Sf:=tu []
abbrev z1K:=fo .none 25 0 .none .none
abbrev Sg:=co "need_basket_of" "/claim/cut.py" 376 377 378 61 2 3 158 true 181 159 .none (.ref 160) (.ref 161) (.ref 162) 381 382
abbrev Sh:=fo (.type "function") 25 3 (vs "changehall.halls" 327) (.ref 163)
abbrev Si:=tu []
abbrev z1L:=fi []
abbrev Sj:=tu [vs "hall" 387,vs "basket" 388]
abbrev Sk:=tu []
abbrev z1M:=fo .none 26 0 .none .none
abbrev Sl:=co "need_basket" "/claim/cut.py" 384 385 386 64 2 3 165 true 181 166 .none (.ref 167) (.ref 168) (.ref 169) 389 390
abbrev Sm:=fo (.type "function") 26 3 (vs "changehall.halls" 327) (.ref 170)
abbrev t5(P:Params):BT:=ins (t4 P) [(3,o3_5 P),(12,o12_5),(96,z1p),(97,o97_5),(98,o98_5),(99,z1q),(100,Rm),(101,Rn),(102,z1r),(103,z1s),(104,Ro),(105,Rq),(106,Rr),(107,z1t),(108,Rs),(109,Rt),(110,z1u),(111,Ru),(112,Rv),(113,Rw),(114,z1v),(115,Rx),(116,Ry),(117,z1w),(118,Rz),(119,RC),(120,RD),(121,z1x),(122,RE),(123,RF),(124,z1y),(125,RG),(126,RH),(127,RI),(128,z1z),(129,z1A),(130,RJ),(131,RK),(132,RL),(133,z1B),(134,RM),(135,RN),(136,z1C),(137,RO),(138,RP),(139,RQ),(140,z1D),(141,RR),(142,RS),(143,z1E),(144,RT),(145,RU),(146,RV),(147,z1F),(148,RW),(149,RX),(150,z1G),(151,RY),(152,RZ),(153,Sa),(154,z1H),(155,z1I),(156,Sb),(157,Sc),(158,Sd),(159,z1J),(160,Se),(161,Sf),(162,z1K),(163,Sg),(164,Sh),(165,Si),(166,z1L),(167,Sj),(168,Sk),(169,z1M),(170,Sl),(171,Sm)]
abbrev s5(w:World)(os:OsState):SharedT:=⟨t5 w.params,172,{ },#[],{ },392,os⟩
abbrev l4:List Stmt:=[top 12,top 13,top 14,top 15,top 16,top 17,top 18,top 19,top 20,top 21,top 22,top 23,top 24,top 25,top 26]
theorem run_4(w:World)(os:OsState):segRunT treeTable pw w 11 ann 1 376 (s4 w os) (piecesOf l4 env cE ⟨23,0,24,59⟩ fB)=some (.next,s5 w os,cE,⟨64,0,65,35⟩):=by
 rewrite[te_sT,te_tb];kernel_rfl
abbrev o3_6L(P:Params):List DictEntry:=de P "__name__" 165 (vs "changehall.stairs" 433)::(o3_5L P).tail++[de P "nought" 398 (.ref 178),de P "apart" 407 (.ref 185),de P "bridge" 415 (.ref 190),de P "rest" 423 (.ref 197),de P "product" 432 (.ref 204),de P "lowering" 447 (.ref 211),de P "lowered" 455 (.ref 218),de P "crossed" 467 (.ref 225),de P "turned_up" 474 (.ref 232),de P "with_row" 480 (.ref 237),de P "evened" 489 (.ref 244),de P "climbed" 498 (.ref 251)]
abbrev o3_6(P:Params):Obj:=⟨.type "dict",none,.dict (o3_6L P).toArray 45,#[]⟩
abbrev z1N:aF:=z1o++[.int 66 0,.int 0 0,.ref 177,.int 68 0,.int 0 0,.ref 184,.int 73 0,.int 0 0,.ref 189,.int 84 0,.int 0 0,.ref 196,.int 88 0,.int 0 0,.ref 203,.int 94 0,.int 0 0,.ref 210,.int 104 0,.int 0 0,.ref 217,.int 106 0,.int 0 0,.ref 224,.int 112 0,.int 0 0,.ref 231,.int 114 0,.int 0 0,.ref 236,.int 125 0,.int 0 0,.ref 243,.int 130 0,.int 0 0,.ref 250]
abbrev o12_6:=fi z1N
abbrev Sn:=tu []
abbrev z1O:=fi []
abbrev So:=tu [vs "hall" 395]
abbrev Sr:=tu []
abbrev z1P:=fo .none 27 0 .none .none
abbrev Ss:=co "nought" "/claim/cut.py" 392 393 394 66 1 3 172 true 181 173 .none (.ref 174) (.ref 175) (.ref 176) 396 397
abbrev Su:=fo (.type "function") 27 3 (vs "changehall.halls" 327) (.ref 177)
abbrev Sv:=tu []
abbrev z1Q:=fi []
abbrev Sw:=tu [vs "hall" 402,vs "one" 403,vs "other" 404]
abbrev Sx:=tu []
abbrev z1R:=fo .none 28 0 .none .none
abbrev Sy:=co "apart" "/claim/cut.py" 399 400 401 68 3 3 179 true 181 180 .none (.ref 181) (.ref 182) (.ref 183) 405 406
abbrev SA:=fo (.type "function") 28 3 (vs "changehall.halls" 327) (.ref 184)
abbrev SB:=tu []
abbrev z1S:=fi []
abbrev z1T:=fo .none 30 0 .none .none
abbrev SC:=co "bridge" "/claim/cut.py" 410 411 412 73 2 3 186 true 181 187 .none .none .none (.ref 188) 413 414
abbrev SD:=fo (.type "function") 30 3 (vs "changehall.whole" 408) (.ref 189)
abbrev SE:=tu []
abbrev z1U:=fi []
abbrev SG:=tu [vs "a" 419,vs "part" 420]
abbrev SH:=tu []
abbrev z1V:=fo .none 31 0 .none .none
abbrev SI:=co "rest" "/claim/cut.py" 416 417 418 84 2 3 191 true 181 192 .none (.ref 193) (.ref 194) (.ref 195) 421 422
abbrev SJ:=fo (.type "function") 31 3 (vs "changehall.whole" 408) (.ref 196)
abbrev SK:=tu []
abbrev z1W:=fi []
abbrev SL:=tu [vs "numbers" 427,vs "found" 428,vs "number" 429]
abbrev SM:=tu []
abbrev z1X:=fo .none 32 0 .none .none
abbrev SN:=co "product" "/claim/cut.py" 424 425 426 88 1 3 198 true 181 199 .none (.ref 200) (.ref 201) (.ref 202) 430 431
abbrev SO:=fo (.type "function") 32 3 (vs "changehall.whole" 408) (.ref 203)
abbrev SQ:=tu []
abbrev z1Y:=fi []
abbrev SR:=tu [vs "row" 438,vs "rungs" 439,vs "left" 440,vs "counts" 441,vs "rung" 442,vs "spot" 443,vs "often" 444]
abbrev SS:=tu []
abbrev z1Z:=fo .none 34 0 .none .none
abbrev SU:=co "lowering" "/claim/cut.py" 435 436 437 94 2 3 205 true 181 206 .none (.ref 207) (.ref 208) (.ref 209) 445 446
abbrev SV:=fo (.type "function") 34 3 (vs "changehall.stairs" 433) (.ref 210)
abbrev SW:=tu []
abbrev z20:=fi []
abbrev SX:=tu [vs "row" 451,vs "rungs" 452]
abbrev SY:=tu []
abbrev z21:=fo .none 35 0 .none .none
abbrev SZ:=co "lowered" "/claim/cut.py" 448 449 450 104 2 3 212 true 181 213 .none (.ref 214) (.ref 215) (.ref 216) 453 454
abbrev Ta:=fo (.type "function") 35 3 (vs "changehall.stairs" 433) (.ref 217)
abbrev Tb:=tu []
abbrev z22:=fi []
abbrev Tc:=tu [vs "rung" 459,vs "row" 460,vs "spot" 461,vs "found" 462,vs "upper" 463,vs "lower" 464]
abbrev Td:=tu []
abbrev z23:=fo .none 36 0 .none .none
abbrev Te:=co "crossed" "/claim/cut.py" 456 457 458 106 2 3 219 true 181 220 .none (.ref 221) (.ref 222) (.ref 223) 465 466
abbrev Tf:=fo (.type "function") 36 3 (vs "changehall.stairs" 433) (.ref 224)
abbrev Th:=tu []
abbrev z24:=fi []
abbrev Ti:=tu [vs "row" 471]
abbrev Tj:=tu []
abbrev z25:=fo .none 37 0 .none .none
abbrev Tk:=co "turned_up" "/claim/cut.py" 468 469 470 112 1 3 226 true 181 227 .none (.ref 228) (.ref 229) (.ref 230) 472 473
abbrev Tl:=fo (.type "function") 37 3 (vs "changehall.stairs" 433) (.ref 231)
abbrev Tm:=tu []
abbrev z26:=fi []
abbrev z27:=fo .none 38 0 .none .none
abbrev Tn:=co "with_row" "/claim/cut.py" 475 476 477 114 2 3 233 true 181 234 .none .none .none (.ref 235) 478 479
abbrev To:=fo (.type "function") 38 3 (vs "changehall.stairs" 433) (.ref 236)
abbrev Tp:=tu []
abbrev z28:=fi []
abbrev Tq:=tu [vs "rungs" 484,vs "found" 485,vs "rung" 486]
abbrev Tr:=tu []
abbrev z29:=fo .none 39 0 .none .none
abbrev Ts:=co "evened" "/claim/cut.py" 481 482 483 125 1 3 238 true 181 239 .none (.ref 240) (.ref 241) (.ref 242) 487 488
abbrev Tt:=fo (.type "function") 39 3 (vs "changehall.stairs" 433) (.ref 243)
abbrev Tu:=tu []
abbrev z2a:=fi []
abbrev Tv:=tu [vs "rows" 493,vs "rungs" 494,vs "row" 495]
abbrev Tw:=tu []
abbrev z2b:=fo .none 40 0 .none .none
abbrev Tx:=co "climbed" "/claim/cut.py" 490 491 492 130 1 3 245 true 181 246 .none (.ref 247) (.ref 248) (.ref 249) 496 497
abbrev Tz:=fo (.type "function") 40 3 (vs "changehall.stairs" 433) (.ref 250)
abbrev t6(P:Params):BT:=ins (t5 P) [(3,o3_6 P),(12,o12_6),(172,Sn),(173,z1O),(174,So),(175,Sr),(176,z1P),(177,Ss),(178,Su),(179,Sv),(180,z1Q),(181,Sw),(182,Sx),(183,z1R),(184,Sy),(185,SA),(186,SB),(187,z1S),(188,z1T),(189,SC),(190,SD),(191,SE),(192,z1U),(193,SG),(194,SH),(195,z1V),(196,SI),(197,SJ),(198,SK),(199,z1W),(200,SL),(201,SM),(202,z1X),(203,SN),(204,SO),(205,SQ),(206,z1Y),(207,SR),(208,SS),(209,z1Z),(210,SU),(211,SV),(212,SW),(213,z20),(214,SX),(215,SY),(216,z21),(217,SZ),(218,Ta),(219,Tb),(220,z22),(221,Tc),(222,Td),(223,z23),(224,Te),(225,Tf),(226,Th),(227,z24),(228,Ti),(229,Tj),(230,z25),(231,Tk),(232,Tl),(233,Tm),(234,z26),(235,z27),(236,Tn),(237,To),(238,Tp),(239,z28),(240,Tq),(241,Tr),(242,z29),(243,Ts),(244,Tt),(245,Tu),(246,z2a),(247,Tv),(248,Tw),(249,z2b),(250,Tx),(251,Tz)]
abbrev s6(w:World)(os:OsState):SharedT:=⟨t6 w.params,252,{ },#[],{ },499,os⟩
abbrev l5:List Stmt:=[top 27,top 28,top 29,top 30,top 31,top 32,top 33,top 34,top 35,top 36,top 37,top 38,top 39,top 40]
theorem run_5(w:World)(os:OsState):segRunT treeTable pw w 11 ann 1 382 (s5 w os) (piecesOf l5 env cE ⟨64,0,65,35⟩ fB)=some (.next,s6 w os,cE,⟨130,0,134,16⟩):=by
 rewrite[te_sT,te_tb];kernel_rfl
abbrev o3_7L(P:Params):List DictEntry:=de P "__name__" 165 (vs "changehall.classes" 581)::(o3_6L P).tail++[de P "tagged_stair" 504 (.ref 256),de P "tags_of_rungs" 510 (.ref 261),de P "tags_at_nought" 516 (.ref 266),de P "stair" 523 (.ref 273),de P "stair_with_uses" 529 (.ref 278),de P "turned" 537 (.ref 283),de P "is_slant" 543 (.ref 288),de P "rests" 549 (.ref 293),de P "slanted" 555 (.ref 298),de P "linked" 568 (.ref 305),de P "chained" 574 (.ref 310),de P "measures" 580 (.ref 315),de P "parts" 588 (.ref 320),de P "place_by" 594 (.ref 325)]
abbrev o3_7(P:Params):Obj:=⟨.type "dict",none,.dict (o3_7L P).toArray 59,#[]⟩
abbrev z2c:aF:=z1N++[.int 135 0,.int 0 0,.ref 255,.int 137 0,.int 0 0,.ref 260,.int 139 0,.int 0 0,.ref 265,.int 141 0,.int 0 0,.ref 272,.int 143 0,.int 0 0,.ref 277,.int 147 0,.int 0 0,.ref 282,.int 149 0,.int 0 0,.ref 287,.int 154 0,.int 0 0,.ref 292,.int 156 0,.int 0 0,.ref 297,.int 166 0,.int 0 0,.ref 304,.int 173 0,.int 0 0,.ref 309,.int 181 0,.int 0 0,.ref 314,.int 191 0,.int 0 0,.ref 319,.int 193 0,.int 0 0,.ref 324]
abbrev o12_7:=fi z2c
abbrev TB:=tu []
abbrev z2d:=fi []
abbrev z2e:=fo .none 41 0 .none .none
abbrev TC:=co "tagged_stair" "/claim/cut.py" 499 500 501 135 2 3 252 true 181 253 .none .none .none (.ref 254) 502 503
abbrev TD:=fo (.type "function") 41 3 (vs "changehall.stairs" 433) (.ref 255)
abbrev TF:=tu []
abbrev z2f:=fi []
abbrev z2g:=fo .none 42 0 .none .none
abbrev TH:=co "tags_of_rungs" "/claim/cut.py" 505 506 507 137 2 3 257 true 181 258 .none .none .none (.ref 259) 508 509
abbrev TJ:=fo (.type "function") 42 3 (vs "changehall.stairs" 433) (.ref 260)
abbrev TK:=tu []
abbrev z2h:=fi []
abbrev z2i:=fo .none 43 0 .none .none
abbrev TL:=co "tags_at_nought" "/claim/cut.py" 511 512 513 139 2 3 262 true 181 263 .none .none .none (.ref 264) 514 515
abbrev TM:=fo (.type "function") 43 3 (vs "changehall.stairs" 433) (.ref 265)
abbrev TN:=tu []
abbrev z2j:=fi []
abbrev TQ:=tu [vs "hall" 520]
abbrev TR:=tu []
abbrev z2k:=fo .none 44 0 .none .none
abbrev TU:=co "stair" "/claim/cut.py" 517 518 519 141 1 3 267 true 181 268 .none (.ref 269) (.ref 270) (.ref 271) 521 522
abbrev TV:=fo (.type "function") 44 3 (vs "changehall.stairs" 433) (.ref 272)
abbrev TW:=tu []
abbrev z2l:=fi []
abbrev z2m:=fo .none 45 0 .none .none
abbrev TX:=co "stair_with_uses" "/claim/cut.py" 524 525 526 143 1 3 274 true 181 275 .none .none .none (.ref 276) 527 528
abbrev TY:=fo (.type "function") 45 3 (vs "changehall.stairs" 433) (.ref 277)
abbrev TZ:=tu []
abbrev z2n:=fi []
abbrev z2o:=fo .none 47 0 .none .none
abbrev Ua:=co "turned" "/claim/cut.py" 532 533 534 147 2 3 279 true 181 280 .none .none .none (.ref 281) 535 536
abbrev Ub:=fo (.type "function") 47 3 (vs "changehall.grids" 530) (.ref 282)
abbrev Uc:=tu []
abbrev z2p:=fi []
abbrev z2q:=fo .none 48 0 .none .none
abbrev Ud:=co "is_slant" "/claim/cut.py" 538 539 540 149 1 3 284 true 181 285 .none .none .none (.ref 286) 541 542
abbrev Ue:=fo (.type "function") 48 3 (vs "changehall.grids" 530) (.ref 287)
abbrev Uf:=tu []
abbrev z2r:=fi []
abbrev z2s:=fo .none 49 0 .none .none
abbrev Ug:=co "rests" "/claim/cut.py" 544 545 546 154 2 3 289 true 181 290 .none .none .none (.ref 291) 547 548
abbrev Uh:=fo (.type "function") 49 3 (vs "changehall.grids" 530) (.ref 292)
abbrev Ui:=tu []
abbrev z2t:=fi []
abbrev z2u:=fo .none 50 0 .none .none
abbrev Uj:=co "slanted" "/claim/cut.py" 550 551 552 156 3 3 294 true 181 295 .none .none .none (.ref 296) 553 554
abbrev Uk:=fo (.type "function") 50 3 (vs "changehall.grids" 530) (.ref 297)
abbrev Ul:=tu []
abbrev z2v:=fi []
abbrev Um:=tu [vs "one" 559,vs "other" 560,vs "found" 561,vs "common" 562,vs "least" 563,vs "upper" 564,vs "lower" 565]
abbrev Uo:=tu []
abbrev z2w:=fo .none 51 0 .none .none
abbrev Up:=co "linked" "/claim/cut.py" 556 557 558 166 2 3 299 true 181 300 .none (.ref 301) (.ref 302) (.ref 303) 566 567
abbrev Uq:=fo (.type "function") 51 3 (vs "changehall.grids" 530) (.ref 304)
abbrev Ur:=tu []
abbrev z2x:=fi []
abbrev z2y:=fo .none 52 0 .none .none
abbrev Us:=co "chained" "/claim/cut.py" 569 570 571 173 1 3 306 true 181 307 .none .none .none (.ref 308) 572 573
abbrev Ut:=fo (.type "function") 52 3 (vs "changehall.grids" 530) (.ref 309)
abbrev Uu:=tu []
abbrev z2z:=fi []
abbrev z2A:=fo .none 53 0 .none .none
abbrev Uv:=co "measures" "/claim/cut.py" 575 576 577 181 1 3 311 true 181 312 .none .none .none (.ref 313) 578 579
abbrev Uw:=fo (.type "function") 53 3 (vs "changehall.grids" 530) (.ref 314)
abbrev Ux:=tu []
abbrev z2B:=fi []
abbrev z2C:=fo .none 55 0 .none .none
abbrev Uy:=co "parts" "/claim/cut.py" 583 584 585 191 1 3 316 true 181 317 .none .none .none (.ref 318) 586 587
abbrev Uz:=fo (.type "function") 55 3 (vs "changehall.classes" 581) (.ref 319)
abbrev UA:=tu []
abbrev z2D:=fi []
abbrev z2E:=fo .none 56 0 .none .none
abbrev UB:=co "place_by" "/claim/cut.py" 589 590 591 193 2 3 321 true 181 322 .none .none .none (.ref 323) 592 593
abbrev UC:=fo (.type "function") 56 3 (vs "changehall.classes" 581) (.ref 324)
abbrev t7(P:Params):BT:=ins (t6 P) [(3,o3_7 P),(12,o12_7),(252,TB),(253,z2d),(254,z2e),(255,TC),(256,TD),(257,TF),(258,z2f),(259,z2g),(260,TH),(261,TJ),(262,TK),(263,z2h),(264,z2i),(265,TL),(266,TM),(267,TN),(268,z2j),(269,TQ),(270,TR),(271,z2k),(272,TU),(273,TV),(274,TW),(275,z2l),(276,z2m),(277,TX),(278,TY),(279,TZ),(280,z2n),(281,z2o),(282,Ua),(283,Ub),(284,Uc),(285,z2p),(286,z2q),(287,Ud),(288,Ue),(289,Uf),(290,z2r),(291,z2s),(292,Ug),(293,Uh),(294,Ui),(295,z2t),(296,z2u),(297,Uj),(298,Uk),(299,Ul),(300,z2v),(301,Um),(302,Uo),(303,z2w),(304,Up),(305,Uq),(306,Ur),(307,z2x),(308,z2y),(309,Us),(310,Ut),(311,Uu),(312,z2z),(313,z2A),(314,Uv),(315,Uw),(316,Ux),(317,z2B),(318,z2C),(319,Uy),(320,Uz),(321,UA),(322,z2D),(323,z2E),(324,UB),(325,UC)]
abbrev s7(w:World)(os:OsState):SharedT:=⟨t7 w.params,326,{ },#[],{ },595,os⟩
abbrev l6:List Stmt:=[top 41,top 42,top 43,top 44,top 45,top 46,top 47,top 48,top 49,top 50,top 51,top 52,top 53,top 54,top 55,top 56]
theorem run_6(w:World)(os:OsState):segRunT treeTable pw w 11 ann 1 395 (s6 w os) (piecesOf l6 env cE ⟨130,0,134,16⟩ fB)=some (.next,s7 w os,cE,⟨193,0,194,79⟩):=by
 rewrite[te_sT,te_tb];kernel_rfl
abbrev o3_8L(P:Params):List DictEntry:=de P "__name__" 165 (vs "law_changehall_k21_periods" 656)::(o3_7L P).tail++[de P "need_place" 604 (.ref 332),de P "baskets_by" 610 (.ref 337),de P "basket_at" 619 (.ref 344),de P "order" 625 (.ref 349),de P "period" 633 (.ref 356),de P "plan" 644 (.ref 363),de P "settled" 655 (.ref 370),de P "_law_cell_at" 665 (.ref 377),de P "_law_whole" 672 (.ref 384),de P "_law_is_row" 681 (.ref 391),de P "_law_number" 691 (.ref 398),de P "_law_row" 697 (.ref 403)]
abbrev o3_8(P:Params):Obj:=⟨.type "dict",none,.dict (o3_8L P).toArray 71,#[]⟩
abbrev z2F:aF:=z2c++[.int 195 0,.int 0 0,.ref 331,.int 201 0,.int 0 0,.ref 336,.int 208 0,.int 0 0,.ref 343,.int 212 0,.int 0 0,.ref 348,.int 217 0,.int 0 0,.ref 355,.int 221 0,.int 0 0,.ref 362,.int 223 0,.int 0 0,.ref 369,.int 230 0,.int 0 0,.ref 376,.int 236 0,.int 0 0,.ref 383,.int 238 0,.int 0 0,.ref 390,.int 245 0,.int 0 0,.ref 397,.int 256 0,.int 0 0,.ref 402]
abbrev o12_8:=fi z2F
abbrev UD:=tu []
abbrev z2G:=fi []
abbrev UE:=tu [vs "measured" 598,vs "numbers" 599,vs "number" 600,vs "measure" 601]
abbrev UF:=tu []
abbrev z2H:=fo .none 57 0 .none .none
abbrev UG:=co "need_place" "/claim/cut.py" 595 596 597 195 2 3 326 true 181 327 .none (.ref 328) (.ref 329) (.ref 330) 602 603
abbrev UH:=fo (.type "function") 57 3 (vs "changehall.classes" 581) (.ref 331)
abbrev UI:=tu []
abbrev z2I:=fi []
abbrev z2J:=fo .none 58 0 .none .none
abbrev UJ:=co "baskets_by" "/claim/cut.py" 605 606 607 201 1 3 333 true 181 334 .none .none .none (.ref 335) 608 609
abbrev UK:=fo (.type "function") 58 3 (vs "changehall.classes" 581) (.ref 336)
abbrev UL:=tu []
abbrev z2K:=fi []
abbrev UM:=tu [vs "hall" 614,vs "numbers" 615,vs "measured" 616]
abbrev UN:=tu []
abbrev z2L:=fo .none 59 0 .none .none
abbrev UO:=co "basket_at" "/claim/cut.py" 611 612 613 208 2 3 338 true 181 339 .none (.ref 340) (.ref 341) (.ref 342) 617 618
abbrev UP:=fo (.type "function") 59 3 (vs "changehall.classes" 581) (.ref 343)
abbrev UQ:=tu []
abbrev z2M:=fi []
abbrev z2N:=fo .none 60 0 .none .none
abbrev UR:=co "order" "/claim/cut.py" 620 621 622 212 2 3 345 true 181 346 .none .none .none (.ref 347) 623 624
abbrev US:=fo (.type "function") 60 3 (vs "changehall.classes" 581) (.ref 348)
abbrev UT:=tu []
abbrev z2O:=fi []
abbrev UU:=tu [vs "hall" 629,vs "last" 630]
abbrev UV:=tu []
abbrev z2P:=fo .none 61 0 .none .none
abbrev UW:=co "period" "/claim/cut.py" 626 627 628 217 1 3 350 true 181 351 .none (.ref 352) (.ref 353) (.ref 354) 631 632
abbrev UX:=fo (.type "function") 61 3 (vs "changehall.classes" 581) (.ref 355)
abbrev UY:=tu []
abbrev z2Q:=fi []
abbrev UZ:=tu [vs "hall" 639,vs "one" 640,vs "other" 641]
abbrev Va:=tu []
abbrev z2R:=fo .none 63 0 .none .none
abbrev Vb:=co "plan" "/claim/cut.py" 636 637 638 221 3 3 357 true 181 358 .none (.ref 359) (.ref 360) (.ref 361) 642 643
abbrev Vc:=fo (.type "function") 63 3 (vs "changehall.plans" 634) (.ref 362)
abbrev Vd:=tu []
abbrev z2S:=fi []
abbrev Ve:=tu [vs "hall" 648,vs "one" 649,vs "other" 650,vs "back" 651,vs "left" 652]
abbrev Vf:=tu []
abbrev z2T:=fo .none 64 0 .none .none
abbrev Vg:=co "settled" "/claim/cut.py" 645 646 647 223 3 3 364 true 181 365 .none (.ref 366) (.ref 367) (.ref 368) 653 654
abbrev Vh:=fo (.type "function") 64 3 (vs "changehall.plans" 634) (.ref 369)
abbrev Vi:=tu []
abbrev z2U:=fi []
abbrev Vj:=tu [vs "_law_script" 661,vs "_law_k" 662]
abbrev Vk:=tu []
abbrev z2V:=fo .none 66 0 .none .none
abbrev Vl:=co "_law_cell_at" "/claim/cut.py" 658 659 660 230 2 3 371 true 181 372 .none (.ref 373) (.ref 374) (.ref 375) 663 664
abbrev Vm:=fo (.type "function") 66 3 (vs "law_changehall_k21_periods" 656) (.ref 376)
abbrev Vn:=tu []
abbrev z2W:=fi []
abbrev Vo:=tu [vs "_law_found" 669]
abbrev Vp:=tu []
abbrev z2X:=fo .none 67 0 .none .none
abbrev Vq:=co "_law_whole" "/claim/cut.py" 666 667 668 236 1 3 378 true 181 379 .none (.ref 380) (.ref 381) (.ref 382) 670 671
abbrev Vr:=fo (.type "function") 67 3 (vs "law_changehall_k21_periods" 656) (.ref 383)
abbrev Vs:=tu []
abbrev z2Y:=fi []
abbrev Vt:=tu [vs "_law_found" 676,vs "_law_size" 677,vs "_law_number_here" 678]
abbrev Vu:=tu []
abbrev z2Z:=fo .none 68 0 .none .none
abbrev Vv:=co "_law_is_row" "/claim/cut.py" 673 674 675 238 2 3 385 true 181 386 .none (.ref 387) (.ref 388) (.ref 389) 679 680
abbrev Vw:=fo (.type "function") 68 3 (vs "law_changehall_k21_periods" 656) (.ref 390)
abbrev Vx:=tu []
abbrev z30:=fi []
abbrev Vy:=tu [vs "_law_cell" 685,vs "_law_mode" 686,vs "_law_number_here" 687,vs "_law_wide" 688]
abbrev Vz:=tu []
abbrev z31:=fo .none 69 0 .none .none
abbrev VA:=co "_law_number" "/claim/cut.py" 682 683 684 245 2 3 392 true 181 393 .none (.ref 394) (.ref 395) (.ref 396) 689 690
abbrev VB:=fo (.type "function") 69 3 (vs "law_changehall_k21_periods" 656) (.ref 397)
abbrev VC:=tu []
abbrev z32:=fi []
abbrev z33:=fo .none 70 0 .none .none
abbrev VD:=co "_law_row" "/claim/cut.py" 692 693 694 256 4 3 399 true 181 400 .none .none .none (.ref 401) 695 696
abbrev VE:=fo (.type "function") 70 3 (vs "law_changehall_k21_periods" 656) (.ref 402)
abbrev t8(P:Params):BT:=ins (t7 P) [(3,o3_8 P),(12,o12_8),(326,UD),(327,z2G),(328,UE),(329,UF),(330,z2H),(331,UG),(332,UH),(333,UI),(334,z2I),(335,z2J),(336,UJ),(337,UK),(338,UL),(339,z2K),(340,UM),(341,UN),(342,z2L),(343,UO),(344,UP),(345,UQ),(346,z2M),(347,z2N),(348,UR),(349,US),(350,UT),(351,z2O),(352,UU),(353,UV),(354,z2P),(355,UW),(356,UX),(357,UY),(358,z2Q),(359,UZ),(360,Va),(361,z2R),(362,Vb),(363,Vc),(364,Vd),(365,z2S),(366,Ve),(367,Vf),(368,z2T),(369,Vg),(370,Vh),(371,Vi),(372,z2U),(373,Vj),(374,Vk),(375,z2V),(376,Vl),(377,Vm),(378,Vn),(379,z2W),(380,Vo),(381,Vp),(382,z2X),(383,Vq),(384,Vr),(385,Vs),(386,z2Y),(387,Vt),(388,Vu),(389,z2Z),(390,Vv),(391,Vw),(392,Vx),(393,z30),(394,Vy),(395,Vz),(396,z31),(397,VA),(398,VB),(399,VC),(400,z32),(401,z33),(402,VD),(403,VE)]
abbrev s8(w:World)(os:OsState):SharedT:=⟨t8 w.params,404,{ },#[],{ },698,os⟩
abbrev l7:List Stmt:=[top 57,top 58,top 59,top 60,top 61,top 62,top 63,top 64,top 65,top 66,top 67,top 68,top 69,top 70]
theorem run_7(w:World)(os:OsState):segRunT treeTable pw w 11 ann 1 376 (s7 w os) (piecesOf l7 env cE ⟨193,0,194,79⟩ fB)=some (.next,s8 w os,cE,⟨256,0,257,111⟩):=by
 rewrite[te_sT,te_tb];kernel_rfl
abbrev o3_9L(P:Params):List DictEntry:=de P "__name__" 165 (vs "law_changehall_k21_periods" 656)::(o3_8L P).tail++[de P "_law_bills" 703 (.ref 408),de P "_law_sum" 709 (.ref 413),de P "_law_plus" 715 (.ref 418),de P "_law_leads" 725 (.ref 425),de P "law" 731 (.ref 430)]
abbrev o3_9(P:Params):Obj:=⟨.type "dict",none,.dict (o3_9L P).toArray 76,#[]⟩
abbrev o12_9L:aF:=z2F++[.int 258 0,.int 0 0,.ref 407,.int 270 0,.int 0 0,.ref 412,.int 275 0,.int 0 0,.ref 417,.int 277 0,.int 0 0,.ref 424,.int 281 0,.int 0 0,.ref 429]
abbrev o12_9:=fi o12_9L
abbrev VF:=tu []
abbrev z34:=fi []
abbrev z35:=fo .none 71 0 .none .none
abbrev VG:=co "_law_bills" "/claim/cut.py" 698 699 700 258 1 3 404 true 181 405 .none .none .none (.ref 406) 701 702
abbrev VH:=fo (.type "function") 71 3 (vs "law_changehall_k21_periods" 656) (.ref 407)
abbrev VI:=tu []
abbrev z36:=fi []
abbrev z37:=fo .none 72 0 .none .none
abbrev VJ:=co "_law_sum" "/claim/cut.py" 704 705 706 270 3 3 409 true 181 410 .none .none .none (.ref 411) 707 708
abbrev VL:=fo (.type "function") 72 3 (vs "law_changehall_k21_periods" 656) (.ref 412)
abbrev VM:=tu []
abbrev z38:=fi []
abbrev z39:=fo .none 73 0 .none .none
abbrev VN:=co "_law_plus" "/claim/cut.py" 710 711 712 275 3 3 414 true 181 415 .none .none .none (.ref 416) 713 714
abbrev VO:=fo (.type "function") 73 3 (vs "law_changehall_k21_periods" 656) (.ref 417)
abbrev VP:=tu []
abbrev z3a:=fi []
abbrev VQ:=tu [vs "_law_bills_here" 719,vs "_law_one" 720,vs "_law_other" 721,vs "_law_uses" 722]
abbrev VR:=tu []
abbrev z3b:=fo .none 74 0 .none .none
abbrev VS:=co "_law_leads" "/claim/cut.py" 716 717 718 277 4 3 419 true 181 420 .none (.ref 421) (.ref 422) (.ref 423) 723 724
abbrev VT:=fo (.type "function") 74 3 (vs "law_changehall_k21_periods" 656) (.ref 424)
abbrev VU:=tu []
abbrev z3c:=fi []
abbrev z3d:=fo .none 75 0 .none .none
abbrev VV:=co "law" "/claim/cut.py" 726 727 728 281 1 3 426 true 181 427 .none .none .none (.ref 428) 729 730
abbrev VW:=fo (.type "function") 75 3 (vs "law_changehall_k21_periods" 656) (.ref 429)
abbrev t9(P:Params):BT:=ins (t8 P) [(3,o3_9 P),(12,o12_9),(404,VF),(405,z34),(406,z35),(407,VG),(408,VH),(409,VI),(410,z36),(411,z37),(412,VJ),(413,VL),(414,VM),(415,z38),(416,z39),(417,VN),(418,VO),(419,VP),(420,z3a),(421,VQ),(422,VR),(423,z3b),(424,VS),(425,VT),(426,VU),(427,z3c),(428,z3d),(429,VV),(430,VW)]
abbrev s9(w:World)(os:OsState):SharedT:=⟨t9 w.params,431,{ },#[],{ },732,os⟩
abbrev l8:List Stmt:=[top 71,top 72,top 73,top 74,top 75]
theorem run_8(w:World)(os:OsState):segRunT treeTable pw w 11 ann 1 137 (s8 w os) (piecesOf l8 env cE ⟨256,0,257,111⟩ fB)=some (.next,s9 w os,cE,⟨281,0,301,73⟩):=by
 rewrite[te_sT,te_tb];kernel_rfl
def h1(P:Params):Heap:=⟨⟨[boot_o_0 P,boot_o_1 P,boot_o_2 P,o3_9 P,boot_o_4 P,boot_o_5 P,boot_o_6 P,boot_o_7 P,boot_o_8 P,boot_o_9 P,boot_o_10 P,o11a,o12_9,o13a,o14a,z0J,o16_1,o17_1 P,o18_1,o19_1,o20_1,o21_1,z0K,z0L P,z0Y,z0M,o26_1,o27_1,z0O,o29_2,o30_2 P,o31_2,o32_2,o33_2,o34_2,z0P,z0Q P,z0R,o38_2,o39_2,z0T,o41_3,o42_3 P,o43_3,o44_3,o45_3,o46_3,z0U,z0V P,z0W,o50_3,o51_3,z0Z,o53_4,o54_4 P,o55_4,o56_4,o57_4,o58_4,z10,z12 P,z13,o62_4,o63_4,z14,o65_4,z15,z16,o68_4,z17,z18,z19,o72_4,o73_4,z1a,z1b,z1c,o77_4,o78_4,z1d,z1e,z1f,o82_4,o83_4,z1g,z1h,z1i,o87_4,o88_4,z1j,z1k,z1l,o92_4,o93_4,z1m,z1n,z1p,o97_5,o98_5,z1q,Rm,Rn,z1r,z1s,Ro,Rq,Rr,z1t,Rs,Rt,z1u,Ru,Rv,Rw,z1v,Rx,Ry,z1w,Rz,RC,RD,z1x,RE,RF,z1y,RG,RH,RI,z1z,z1A,RJ,RK,RL,z1B,RM,RN,z1C,RO,RP,RQ,z1D,RR,RS,z1E,RT,RU,RV,z1F,RW,RX,z1G,RY,RZ,Sa,z1H,z1I,Sb,Sc,Sd,z1J,Se,Sf,z1K,Sg,Sh,Si,z1L,Sj,Sk,z1M,Sl,Sm,Sn,z1O,So,Sr,z1P,Ss,Su,Sv,z1Q,Sw,Sx,z1R,Sy,SA,SB,z1S,z1T,SC,SD,SE,z1U,SG,SH,z1V,SI,SJ,SK,z1W,SL,SM,z1X,SN,SO,SQ,z1Y,SR,SS,z1Z,SU,SV,SW,z20,SX,SY,z21,SZ,Ta,Tb,z22,Tc,Td,z23,Te,Tf,Th,z24,Ti,Tj,z25,Tk,Tl,Tm,z26,z27,Tn,To,Tp,z28,Tq,Tr,z29,Ts,Tt,Tu,z2a,Tv,Tw,z2b,Tx,Tz,TB,z2d,z2e,TC,TD,TF,z2f,z2g,TH,TJ,TK,z2h,z2i,TL,TM,TN,z2j,TQ,TR,z2k,TU,TV,TW,z2l,z2m,TX,TY,TZ,z2n,z2o,Ua,Ub,Uc,z2p,z2q,Ud,Ue,Uf,z2r,z2s,Ug,Uh,Ui,z2t,z2u,Uj,Uk,Ul,z2v,Um,Uo,z2w,Up,Uq,Ur,z2x,z2y,Us,Ut,Uu,z2z,z2A,Uv,Uw,Ux,z2B,z2C,Uy,Uz,UA,z2D,z2E,UB,UC,UD,z2G,UE,UF,z2H,UG,UH,UI,z2I,z2J,UJ,UK,UL,z2K,UM,UN,z2L,UO,UP,UQ,z2M,z2N,UR,US,UT,z2O,UU,UV,z2P,UW,UX,UY,z2Q,UZ,Va,z2R,Vb,Vc,Vd,z2S,Ve,Vf,z2T,Vg,Vh,Vi,z2U,Vj,Vk,z2V,Vl,Vm,Vn,z2W,Vo,Vp,z2X,Vq,Vr,Vs,z2Y,Vt,Vu,z2Z,Vv,Vw,Vx,z30,Vy,Vz,z31,VA,VB,VC,z32,z33,VD,VE,VF,z34,z35,VG,VH,VI,z36,z37,VJ,VL,VM,z38,z39,VN,VO,VP,z3a,VQ,VR,z3b,VS,VT,VU,z3c,z3d,VV,VW]⟩,{ }⟩
abbrev v9:Drawn:={ }
theorem run_z(w:World)(os:OsState):topRun treeTable pw w 11 ann 2 (s9 w os).abs ⟨doneF .next,cE,⟨281,0,301,73⟩,fB⟩=some ⟨h1 w.params,#[],v9,732,os⟩:=by
 rewrite[te_tr,te_tb];kernel_rfl
theorem z4g:behindTheImports pw=(l0++(l1++(l2++(l3++(l4++(l5++(l6++(l7++(l8++[]))))))))):=by kernel_rfl
theorem run_all(w:World)(os:OsState):topRun treeTable pw w 11 ann (12+(1+(196+(214+(214+(382+(376+(382+(395+(376+(137+2))))))))))) ⟨boot_heap w.params,#[],boot_drawn,boot_toks,os⟩ (topStub pw)=some ⟨h1 w.params,#[],v9,732,os⟩ :=
 go_top (run_a w os) (piece_block (env:=env) (run_b w os) (by rw[z4g];exact(piece_app (segRun_of (run_0 w os)) (piece_app (segRun_of (run_1 w os)) (piece_app (segRun_of (run_2 w os)) (piece_app (segRun_of (run_3 w os)) (piece_app (segRun_of (run_4 w os)) (piece_app (segRun_of (run_5 w os)) (piece_app (segRun_of (run_6 w os)) (piece_app (segRun_of (run_7 w os)) (piece_app (segRun_of (run_8 w os)) (run_z w os))))))))))))
abbrev keep:List Nat:=[1,2,3,4,6,7,8,9,10,11,12,13,14,15,17,18,19,20,21,22,23,24,25,26,27,28,30,31,32,34,35,36,37,38,39,40,41,42,43,44,45,47,48,49,50,51,52,53,55,56,57,58,59,60,61,63,64,66,67,68,69,70,71,72,73,74,75]
def K:Params->PySem.W.Frag:=λP=>(nat_lit 2,boot_o_2 P)::(nat_lit 3,o3_9 P)::(nat_lit 15,z0J)::(nat_lit 22,z0K)::(nat_lit 23,z0L P)::(nat_lit 24,z0Y)::(nat_lit 25,z0M)::(nat_lit 28,z0O)::(nat_lit 35,z0P)::(nat_lit 36,z0Q P)::(nat_lit 37,z0R)::(nat_lit 40,z0T)::(nat_lit 47,z0U)::(nat_lit 48,z0V P)::(nat_lit 49,z0W)::(nat_lit 52,z0Z)::(nat_lit 59,z10)::(nat_lit 60,z12 P)::(nat_lit 61,z13)::(nat_lit 64,z14)::(nat_lit 66,z15)::(nat_lit 67,z16)::(nat_lit 69,z17)::(nat_lit 70,z18)::(nat_lit 71,z19)::(nat_lit 74,z1a)::(nat_lit 75,z1b)::(nat_lit 76,z1c)::(nat_lit 79,z1d)::(nat_lit 80,z1e)::(nat_lit 81,z1f)::(nat_lit 84,z1g)::(nat_lit 85,z1h)::(nat_lit 86,z1i)::(nat_lit 89,z1j)::(nat_lit 90,z1k)::(nat_lit 91,z1l)::(nat_lit 94,z1m)::(nat_lit 95,z1n)::(nat_lit 96,z1p)::(nat_lit 99,z1q)::(nat_lit 100,Rm)::(nat_lit 101,Rn)::(nat_lit 104,Ro)::(nat_lit 105,Rq)::(nat_lit 106,Rr)::(nat_lit 108,Rs)::(nat_lit 109,Rt)::(nat_lit 111,Ru)::(nat_lit 112,Rv)::(nat_lit 113,Rw)::(nat_lit 115,Rx)::(nat_lit 116,Ry)::(nat_lit 118,Rz)::(nat_lit 119,RC)::(nat_lit 120,RD)::(nat_lit 122,RE)::(nat_lit 123,RF)::(nat_lit 125,RG)::(nat_lit 126,RH)::(nat_lit 127,RI)::(nat_lit 130,RJ)::(nat_lit 131,RK)::(nat_lit 132,RL)::(nat_lit 134,RM)::(nat_lit 135,RN)::(nat_lit 137,RO)::(nat_lit 138,RP)::(nat_lit 139,RQ)::(nat_lit 141,RR)::(nat_lit 142,RS)::(nat_lit 144,RT)::(nat_lit 145,RU)::(nat_lit 146,RV)::(nat_lit 148,RW)::(nat_lit 149,RX)::(nat_lit 151,RY)::(nat_lit 152,RZ)::(nat_lit 153,Sa)::(nat_lit 156,Sb)::(nat_lit 157,Sc)::(nat_lit 158,Sd)::(nat_lit 160,Se)::(nat_lit 161,Sf)::(nat_lit 163,Sg)::(nat_lit 164,Sh)::(nat_lit 165,Si)::(nat_lit 167,Sj)::(nat_lit 168,Sk)::(nat_lit 170,Sl)::(nat_lit 171,Sm)::(nat_lit 172,Sn)::(nat_lit 174,So)::(nat_lit 175,Sr)::(nat_lit 177,Ss)::(nat_lit 178,Su)::(nat_lit 179,Sv)::(nat_lit 181,Sw)::(nat_lit 182,Sx)::(nat_lit 184,Sy)::(nat_lit 185,SA)::(nat_lit 186,SB)::(nat_lit 189,SC)::(nat_lit 190,SD)::(nat_lit 191,SE)::(nat_lit 193,SG)::(nat_lit 194,SH)::(nat_lit 196,SI)::(nat_lit 197,SJ)::(nat_lit 198,SK)::(nat_lit 200,SL)::(nat_lit 201,SM)::(nat_lit 203,SN)::(nat_lit 204,SO)::(nat_lit 205,SQ)::(nat_lit 207,SR)::(nat_lit 208,SS)::(nat_lit 210,SU)::(nat_lit 211,SV)::(nat_lit 212,SW)::(nat_lit 214,SX)::(nat_lit 215,SY)::(nat_lit 217,SZ)::(nat_lit 218,Ta)::(nat_lit 219,Tb)::(nat_lit 221,Tc)::(nat_lit 222,Td)::(nat_lit 224,Te)::(nat_lit 225,Tf)::(nat_lit 226,Th)::(nat_lit 228,Ti)::(nat_lit 229,Tj)::(nat_lit 231,Tk)::(nat_lit 232,Tl)::(nat_lit 233,Tm)::(nat_lit 236,Tn)::(nat_lit 237,To)::(nat_lit 238,Tp)::(nat_lit 240,Tq)::(nat_lit 241,Tr)::(nat_lit 243,Ts)::(nat_lit 244,Tt)::(nat_lit 245,Tu)::(nat_lit 247,Tv)::(nat_lit 248,Tw)::(nat_lit 250,Tx)::(nat_lit 251,Tz)::(nat_lit 252,TB)::(nat_lit 255,TC)::(nat_lit 256,TD)::(nat_lit 257,TF)::(nat_lit 260,TH)::(nat_lit 261,TJ)::(nat_lit 262,TK)::(nat_lit 265,TL)::(nat_lit 266,TM)::(nat_lit 267,TN)::(nat_lit 269,TQ)::(nat_lit 270,TR)::(nat_lit 272,TU)::(nat_lit 273,TV)::(nat_lit 274,TW)::(nat_lit 277,TX)::(nat_lit 278,TY)::(nat_lit 279,TZ)::(nat_lit 282,Ua)::(nat_lit 283,Ub)::(nat_lit 284,Uc)::(nat_lit 287,Ud)::(nat_lit 288,Ue)::(nat_lit 289,Uf)::(nat_lit 292,Ug)::(nat_lit 293,Uh)::(nat_lit 294,Ui)::(nat_lit 297,Uj)::(nat_lit 298,Uk)::(nat_lit 299,Ul)::(nat_lit 301,Um)::(nat_lit 302,Uo)::(nat_lit 304,Up)::(nat_lit 305,Uq)::(nat_lit 306,Ur)::(nat_lit 309,Us)::(nat_lit 310,Ut)::(nat_lit 311,Uu)::(nat_lit 314,Uv)::(nat_lit 315,Uw)::(nat_lit 316,Ux)::(nat_lit 319,Uy)::(nat_lit 320,Uz)::(nat_lit 321,UA)::(nat_lit 324,UB)::(nat_lit 325,UC)::(nat_lit 326,UD)::(nat_lit 328,UE)::(nat_lit 329,UF)::(nat_lit 331,UG)::(nat_lit 332,UH)::(nat_lit 333,UI)::(nat_lit 336,UJ)::(nat_lit 337,UK)::(nat_lit 338,UL)::(nat_lit 340,UM)::(nat_lit 341,UN)::(nat_lit 343,UO)::(nat_lit 344,UP)::(nat_lit 345,UQ)::(nat_lit 348,UR)::(nat_lit 349,US)::(nat_lit 350,UT)::(nat_lit 352,UU)::(nat_lit 353,UV)::(nat_lit 355,UW)::(nat_lit 356,UX)::(nat_lit 357,UY)::(nat_lit 359,UZ)::(nat_lit 360,Va)::(nat_lit 362,Vb)::(nat_lit 363,Vc)::(nat_lit 364,Vd)::(nat_lit 366,Ve)::(nat_lit 367,Vf)::(nat_lit 369,Vg)::(nat_lit 370,Vh)::(nat_lit 371,Vi)::(nat_lit 373,Vj)::(nat_lit 374,Vk)::(nat_lit 376,Vl)::(nat_lit 377,Vm)::(nat_lit 378,Vn)::(nat_lit 380,Vo)::(nat_lit 381,Vp)::(nat_lit 383,Vq)::(nat_lit 384,Vr)::(nat_lit 385,Vs)::(nat_lit 387,Vt)::(nat_lit 388,Vu)::(nat_lit 390,Vv)::(nat_lit 391,Vw)::(nat_lit 392,Vx)::(nat_lit 394,Vy)::(nat_lit 395,Vz)::(nat_lit 397,VA)::(nat_lit 398,VB)::(nat_lit 399,VC)::(nat_lit 402,VD)::(nat_lit 403,VE)::(nat_lit 404,VF)::(nat_lit 407,VG)::(nat_lit 408,VH)::(nat_lit 409,VI)::(nat_lit 412,VJ)::(nat_lit 413,VL)::(nat_lit 414,VM)::(nat_lit 417,VN)::(nat_lit 418,VO)::(nat_lit 419,VP)::(nat_lit 421,VQ)::(nat_lit 422,VR)::(nat_lit 424,VS)::(nat_lit 425,VT)::(nat_lit 426,VU)::(nat_lit 429,VV)::(nat_lit 430,VW)::[]
abbrev Ka:List Addr:=[2,3,15,22,23,24,25,28,35,36,37,40,47,48,49,52,59,60,61,64,66,67,69,70,71,74,75,76,79,80,81,84,85,86,89,90,91,94,95,96,99,100,101,104,105,106,108,109,111,112,113,115,116,118,119,120,122,123,125,126,127,130,131,132,134,135,137,138,139,141,142,144,145,146,148,149,151,152,153,156,157,158,160,161,163,164,165,167,168,170,171,172,174,175,177,178,179,181,182,184,185,186,189,190,191,193,194,196,197,198,200,201,203,204,205,207,208,210,211,212,214,215,217,218,219,221,222,224,225,226,228,229,231,232,233,236,237,238,240,241,243,244,245,247,248,250,251,252,255,256,257,260,261,262,265,266,267,269,270,272,273,274,277,278,279,282,283,284,287,288,289,292,293,294,297,298,299,301,302,304,305,306,309,310,311,314,315,316,319,320,321,324,325,326,328,329,331,332,333,336,337,338,340,341,343,344,345,348,349,350,352,353,355,356,357,359,360,362,363,364,366,367,369,370,371,373,374,376,377,378,380,381,383,384,385,387,388,390,391,392,394,395,397,398,399,402,403,404,407,408,409,412,413,414,417,418,419,421,422,424,425,426,429,430]
theorem Ke(P:Params):Ka=(K P).map (·.1):=by kernel_rfl
abbrev qv:Program:=view pw keep
abbrev Xt:Shared->Bool:=λs=>xlAt qv [] s&&recOk [] s
theorem opened:∀ w:World,(fencedOpening treeTable pw w 5452).map (λs=>(s.heap,s.gens,s.drawn,s.toks))=some (boot_heap w.params,Array.mk [],boot_drawn,boot_toks):=boot_open (by kernel_rfl) (by kernel_rfl) (λs=>by kernel_rfl)
theorem sized(w:World):((boot_heap w.params).isNs mainGlobals&&(Array.mk []:Array GenState).size==0,(boot_heap w.params).objs.size,(boot_heap w.params).nsMap mainGlobals "__annotations__")=(true,11,ann):=by
 rewrite[te_ns];kernel_rfl
theorem lk0(w:World)(os:OsState):(staticsOk (importedModules pw.main.body) (boot_heap w.params) (h1 w.params)&&namesBound pw (h1 w.params)&&gensDone ⟨h1 w.params,#[],v9,732,os⟩&&laidKept (boot_heap w.params) (h1 w.params))=true:=by
 rewrite[te_im];kernel_rfl
theorem lk1(w:World)(os:OsState):seen ((recsOf qv).map (·.name)) (ownsOf qv) [] { (⟨h1 w.params,#[],v9,732,os⟩:Shared)with gens:=#[] }=expectedOf qv:=by
 rewrite[te_seen,te_recs,te_owns];kernel_rfl
theorem lk2(w:World)(os:OsState):(⟨h1 w.params,#[],v9,732,os⟩:Shared).heap.bltView=bltViewBooted:=by
 kernel_rfl
theorem lk3(w:World)(os:OsState):((⟨h1 w.params,#[],v9,732,os⟩:Shared).heap.keysOk (looseW qv []) ((recsOf qv).map (·.name)) ((litsOf qv).map (·.1)) ((clssOf qv (looseW qv [])).map (·.name))&&(⟨h1 w.params,#[],v9,732,os⟩:Shared).heap.accountedOkI (importedModules pw.main.body)&&(⟨h1 w.params,#[],v9,732,os⟩:Shared).heap.isNs mainGlobals&&(⟨h1 w.params,#[],v9,732,os⟩:Shared).heap.isNs builtinsNs&&tablesOk qv (⟨h1 w.params,#[],v9,732,os⟩:Shared).heap&&Xt ⟨h1 w.params,#[],v9,732,os⟩&&(if true=true then(⟨h1 w.params,#[],v9,732,os⟩:Shared).gens.size==0 else !leftWithCleanup (⟨h1 w.params,#[],v9,732,os⟩:Shared).gens))=true:=by
 rewrite[te_keys,te_loose,te_recs,te_lits,te_clss,te_acc,te_im,te_tabl];kernel_rfl
theorem lk4(w:World)(os:OsState):tabsOk qv ⟨h1 w.params,#[],v9,732,os⟩=true:=by
 rewrite[te_tabs];kernel_rfl
theorem lk5(w:World)(os:OsState):pinSeenD qv (drecsOf qv) ⟨h1 w.params,#[],v9,732,os⟩=pinGoodD (drecsOf qv):=by
 rewrite[te_pin,te_drecs];kernel_rfl
theorem lk6(w:World)(os:OsState):plainSeenE qv (looseW qv []) ⟨h1 w.params,#[],v9,732,os⟩=plainGoodE qv (looseW qv []):=by
 rewrite[te_pE,te_loose];kernel_rfl
theorem lk7(w:World)(os:OsState):plainSeenD qv [] ⟨h1 w.params,#[],v9,732,os⟩=plainGoodD qv []:=by
 rewrite[te_pD];kernel_rfl
theorem lk8(w:World)(os:OsState):wideSeen qv ⟨h1 w.params,#[],v9,732,os⟩=wideGood qv:=by
 rewrite[te_wide];kernel_rfl
theorem lk9(w:World)(os:OsState):clsSeenW qv [] ⟨h1 w.params,#[],v9,732,os⟩=clsGoodW qv []:=by
 rewrite[te_cls];kernel_rfl
theorem lk10(w:World)(os:OsState):Hook.obs (kHook K Ka Ke) ⟨h1 w.params,#[],v9,732,os⟩=Hook.val (kHook K Ka Ke) w:=by
 kernel_rfl
theorem sn(w:World)(os:OsState):openSeen qv [] (importedModules pw.main.body) Xt true ⟨h1 w.params,#[],v9,732,os⟩=(seen ((recsOf qv).map (·.name)) (ownsOf qv) [] { (⟨h1 w.params,#[],v9,732,os⟩:Shared)with gens:=#[] },(⟨h1 w.params,#[],v9,732,os⟩:Shared).heap.bltView,((⟨h1 w.params,#[],v9,732,os⟩:Shared).heap.keysOk (looseW qv []) ((recsOf qv).map (·.name)) ((litsOf qv).map (·.1)) ((clssOf qv (looseW qv [])).map (·.name))&&(⟨h1 w.params,#[],v9,732,os⟩:Shared).heap.accountedOkI (importedModules pw.main.body)&&(⟨h1 w.params,#[],v9,732,os⟩:Shared).heap.isNs mainGlobals&&(⟨h1 w.params,#[],v9,732,os⟩:Shared).heap.isNs builtinsNs&&tablesOk qv (⟨h1 w.params,#[],v9,732,os⟩:Shared).heap&&Xt ⟨h1 w.params,#[],v9,732,os⟩&&(if true=true then(⟨h1 w.params,#[],v9,732,os⟩:Shared).gens.size==0 else !leftWithCleanup (⟨h1 w.params,#[],v9,732,os⟩:Shared).gens)),tabsOk qv ⟨h1 w.params,#[],v9,732,os⟩,pinSeenD qv (drecsOf qv) ⟨h1 w.params,#[],v9,732,os⟩,plainSeenE qv (looseW qv []) ⟨h1 w.params,#[],v9,732,os⟩,plainSeenD qv [] ⟨h1 w.params,#[],v9,732,os⟩,wideSeen qv ⟨h1 w.params,#[],v9,732,os⟩,clsSeenW qv [] ⟨h1 w.params,#[],v9,732,os⟩):=by kernel_rfl
theorem gd:openGood qv []=(expectedOf qv,bltViewBooted,true,true,pinGoodD (drecsOf qv),plainGoodE qv (looseW qv []),plainGoodD qv [],wideGood qv,clsGoodW qv []):=by kernel_rfl
theorem lkS(w:World)(os:OsState):openSeen qv [] (importedModules pw.main.body) Xt true ⟨h1 w.params,#[],v9,732,os⟩=openGood qv []:=(sn w os).trans (Eq.trans (looks_pair (lk1 w os) (looks_pair (lk2 w os) (looks_pair (lk3 w os) (looks_pair (lk4 w os) (looks_pair (lk5 w os) (looks_pair (lk6 w os) (looks_pair (lk7 w os) (looks_pair (lk8 w os) (lk9 w os))))))))) gd.symm)
theorem left:LeftO pw qv [] Xt (Hook.obs (kHook K Ka Ke)) (Hook.val (kHook K Ka Ke)) 5452 :=
 LeftO.of_pieces (H₀:=boot_heap) (H₁:=h1) (gs₀:=Array.mk []) (gs₁:=#[]) (d₀:=boot_drawn) (d₁:=v9) (k₀:=boot_toks) (k₁:=732) (m₀:=11) (ann:=ann) (M:=(12+(1+(196+(214+(214+(382+(376+(382+(395+(376+(137+2)))))))))))) opened sized run_all (by kernel_rfl) (λw=>funext λos =>
  looks_pair (lk0 w os) (looks_pair (lkS w os) (lk10 w os)))
end
end H
end K21
noncomputable def PySem.W.Fast.tw15206147587380513137:PySem.Program:=PySem.Challenge.pw_changehall_k21_periods
theorem PySem.W.Fast.te15206147587380513137:PySem.Challenge.pw_changehall_k21_periods=PySem.W.Fast.tw15206147587380513137:=rfl
open PySem PySem.W PyProof.Rows
set_option maxRecDepth 100000 in
set_option maxHeartbeats 0 in
theorem PySem.Challenge.cw_changehall_k21_periods_holds : PySem.Challenge.rw_changehall_k21_periods.Holds := by
 w_on;o_law
 refine PySem.W.holds_open (q:=K21.H.qv) (loose:=[]) (Xt:=K21.H.Xt) (XP:=XL K21.H.qv []) (Yf:=Hook.obs (kHook K21.H.K K21.H.Ka K21.H.Ke)) (Ya:=Hook.val (kHook K21.H.K K21.H.Ka K21.H.Ke)) (YP:=Hook.says (kHook K21.H.K K21.H.Ka K21.H.Ke)) (N:=5452) K21.H.left (Hook.of _) (Hook.keeps _) (λs e=>xl_of s (w0N.mp e).1) XL.keeps (by rfl) (by rfl) (by rfl) (λs e=>recFacts_of (w0N.mp e).2) (by rfl) (by first|assumption|decide +kernel) (by decide +kernel) ⟨rfl,rfl,rfl,rfl,rfl,by decide +kernel⟩ ?hw ?hc
 (case hw=>w_witness2)
 k_fill
 refine L2.XJ (x := "_law_script") (k:=11) (fr:=true) (c:=K21.WI) (l:=PySem.Challenge.rw_changehall_k21_periods) rfl rfl (λw h Y=>PySem.W.kIn_of Y) ?F (λns hl=>K21.z0u ns hl) ⟨rfl,by decide,by decide⟩
 case F =>
  intro w mg fa h KX G hmg
  refine' K21.z0H KX G hmg (L2.dh ?e0 ?l0 ?c0 ?k0) (L2.dh ?e1 ?l1 ?c1 ?k1) (L2.dh ?e2 ?l2 ?c2 ?k2) (L2.dh ?e3 ?l3 ?c3 ?k3) (L2.dh ?e4 ?l4 ?c4 ?k4) (L2.dh ?e5 ?l5 ?c5 ?k5) (L2.dh ?e6 ?l6 ?c6 ?k6) (L2.dh ?e7 ?l7 ?c7 ?k7) (L2.dh ?e8 ?l8 ?c8 ?k8) (L2.dh ?e9 ?l9 ?c9 ?k9) (L2.dh ?e10 ?l10 ?c10 ?k10) (L2.dh ?e11 ?l11 ?c11 ?k11) (L2.dh ?e12 ?l12 ?c12 ?k12) (L2.dh ?e13 ?l13 ?c13 ?k13) (L2.dh ?e14 ?l14 ?c14 ?k14) (L2.dh ?e15 ?l15 ?c15 ?k15) (L2.dh ?e16 ?l16 ?c16 ?k16) (L2.dh ?e17 ?l17 ?c17 ?k17) (L2.dh ?e18 ?l18 ?c18 ?k18) (L2.dh ?e19 ?l19 ?c19 ?k19) (L2.dh ?e20 ?l20 ?c20 ?k20) (L2.dh ?e21 ?l21 ?c21 ?k21) (L2.dh ?e22 ?l22 ?c22 ?k22) (L2.dh ?e23 ?l23 ?c23 ?k23) (L2.dh ?e24 ?l24 ?c24 ?k24) (L2.dh ?e25 ?l25 ?c25 ?k25) (L2.dh ?e26 ?l26 ?c26 ?k26) (L2.dh ?e27 ?l27 ?c27 ?k27) (L2.dh ?e28 ?l28 ?c28 ?k28) (L2.dh ?e29 ?l29 ?c29 ?k29) (L2.dh ?e30 ?l30 ?c30 ?k30) (L2.dh ?e31 ?l31 ?c31 ?k31) (L2.dh ?e32 ?l32 ?c32 ?k32) (L2.dh ?e33 ?l33 ?c33 ?k33) (L2.dh ?e34 ?l34 ?c34 ?k34) (L2.dh ?e35 ?l35 ?c35 ?k35) (L2.dh ?e36 ?l36 ?c36 ?k36) (L2.dh ?e37 ?l37 ?c37 ?k37) (L2.dh ?e38 ?l38 ?c38 ?k38) (L2.dh ?e39 ?l39 ?c39 ?k39) (L2.dh ?e40 ?l40 ?c40 ?k40) (L2.dh ?e41 ?l41 ?c41 ?k41) (L2.dh ?e42 ?l42 ?c42 ?k42) (L2.dh ?e43 ?l43 ?c43 ?k43) (L2.dh ?e44 ?l44 ?c44 ?k44) (L2.dh ?e45 ?l45 ?c45 ?k45) (L2.dh ?e46 ?l46 ?c46 ?k46) (L2.dh ?e47 ?l47 ?c47 ?k47) (L2.dh ?e48 ?l48 ?c48 ?k48) (L2.dh ?e49 ?l49 ?c49 ?k49) (L2.dh ?e50 ?l50 ?c50 ?k50) (L2.dh ?e51 ?l51 ?c51 ?k51) (L2.dh ?e52 ?l52 ?c52 ?k52) (L2.dh ?e53 ?l53 ?c53 ?k53) (L2.dh ?e54 ?l54 ?c54 ?k54) (L2.dh ?e55 ?l55 ?c55 ?k55) (L2.dh ?e56 ?l56 ?c56 ?k56) (L2.dh ?e57 ?l57 ?c57 ?k57) (L2.dh ?e58 ?l58 ?c58 ?k58) (L2.dh ?e59 ?l59 ?c59 ?k59) (L2.dh ?e60 ?l60 ?c60 ?k60) ?z_abs ?z_all ?z_any ?z_bool ?z_enumerate ?z_int ?z_isinstance ?z_len ?z_list ?z_range ?z_reversed ?z_sorted ?z_sum ?z_tuple ?z_zip ?y_MOST_BILLS ?y_MOST_KINDS
  all_goals try k_is
  all_goals kernel_rfl

end

