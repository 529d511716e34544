import PyProof.Rows.All
import Wide.All
import OpenK.AllK
import Wide.FinOn
import Lean
import PyProof.EqAt
import PyProof.EqKinds
import PyProof.TupleCall
import PyProof.CompFree
import PyProof.Cells
import PySem.Challenge.RW_changehall_k17_places_there_and_back
set_option Elab.async false
set_option linter.all false
set_option maxRecDepth 100000
set_option exponentiation.threshold 20000
abbrev II:=List (List Int)
open List renaming getElem?_eq_getElem→w8,mem_cons_of_mem→wa,mem_cons_self→wc,mem_map→wf,length_cons→wj,mem_cons→wn,length_map→wo,mem_append→wq,getElem?_map→wu,map_cons→wv,size_toArray→wB,getElem_of_mem→wH,length_append→wI,mem_append_right→wK,mem_range→wM,getElem?_eq_none→wN,mem_singleton→wP,lookup_cons→wR,map_map→wW,getElem?_append_left→wY,pairwise_cons→wZ,mem_filter→W3,getElem_mem→W4,getElem?_append_right→W7,getElem?_replicate→W8,length_drop→Wc,getElem?_set_ne→We,nodup_cons→Wh,length_set→Wj,map_append→Wk,filter_sublist→Wm,getElem?_set→Wn,length_replicate→Wo,length_take→Wq,length_range→Wr,of_mem_zip→Wt,getElem?_eq_some_iff→Wu,mem_filterMap→Wv,getElem?_range→Wz,length_zipWith→WA,drop_of_length_le→WB,take_of_length_le→WD,filter_cons→WH,mem_or_eq_of_mem_set→WJ,mem_append_left→WK,append_assoc→WL,mem_of_mem_take→WP,not_mem_nil→WR,ext_getElem→WS,zip_cons_cons→WV,foldl_cons→WX,mem_of_getElem?→WZ,cons_append→v6,drop_eq_getElem_cons→v7,append_nil→vc,append_of_mem→vd,getElem?_drop→ve,reverse_cons→vj,forIn_nil→vm,getElem?_zipWith→vp,all_eq_true→vt,mem_iff_getElem→vx,range_eq_range'→vy,forIn_cons→vz,range_succ→vB,nil_append→vC,filterMap_cons→vD,map_congr_left→vE,getElem?_eq_none_iff→vL,map_take→vX,pairwise_singleton→V1,length_eq_zero_iff→V3,range'_succ→V4,getElem?_set_self→V6,drop_eq_nil_of_le→V8,range_succ_eq_map→Vb,drop_zero→Vg,pairwise_append→Vl,getElem_zipWith→Vn,length_reverse→Vp,replicate_succ→Vq,getElem?_take→Vs,any_eq_false→Vu,map_nil→Vw,flatMap_cons→Vz,nodup_append→VA,pairwise_map→VB,any_eq_true→VG,take_length→VH,zipIdx_cons→VI,mem_flatMap→VL,drop_append→VP,zipWith_map→VQ,range'→VT,zipIdx_nil→VV,take_left'→u5,take_zero→u7,nodup_nil→u8
open Nat renaming pow_le_pow_right→wm,le_refl→wx,lt_of_lt_of_le→wD,mul_le_mul_right→wF,le_trans→wG,two_pow_pos→wJ,zero_le→wQ,mul_le_mul_left→wU,ne_of_lt→wV,pow_add→Wa,lt_succ_self→Wb,mul_assoc→Wl,lt_irrefl→Wp,mul_le_mul→Ws,le_of_not_lt→Ww,le_of_lt→Wx,pow_succ→WG,mul_comm→WN,zero_add→WT,lt_or_gt_of_ne→WU,strongRecOn→WW,pow_lt_pow_right→v4,mul_lt_mul''→v5,pow_le_pow_left→v8,ne_of_gt→vi,le_of_succ_le→vk,succ_mul→vn,lt_of_le_of_lt→vJ,le_succ_of_le→vP,mul_add→vR,mul_pos→vT,one_mul→vU,mul_left_comm→vV,lt_trichotomy→vW,dvd_trans→vZ,le_mul_of_pos_right→V2,le_mul_of_pos_left→V9,log2_lt→Vf,mul_one→Vk,one_lt_two_pow→Vt,le_of_eq→Vv,lt_succ_of_lt→Vx,min_eq_right→VJ,le_add_right→VM,succ_le_succ→VN,add_mul→VS,min_eq_left→VW,le_antisymm→VX,not_lt→u6
open Int renaming mul_comm→wL,natAbs_mul→W0,mul_eq_zero→W5,fmod_nonneg_of_pos→W6,mul_le_mul_of_nonneg_right→W9,mul_assoc→Wd,fmod_lt_of_pos→Wg,le_of_dvd→Wy,mul_zero→WE,mul_nonpos_of_nonpos_of_nonneg→WI,mul_sub→WM,mul_left_comm→WO,dvd_trans→WQ,gcd→WY,sub_mul→vg,dvd_add→vh,natAbs_neg→vo,mul_fdiv_add_fmod→vq,mul_add→vw,dvd_refl→vF,gcd_pos_of_ne_zero_left→vG,fdiv_eq_ediv_of_nonneg→vK,eq_of_mul_eq_mul_left→vM,mul_one→vN,toNat_natCast→vO,lt_trichotomy→vQ,neg_mul→vS,mul_fdiv_cancel_left→vY,mul_ediv_cancel_left→V0,dvd_mul_left→V5,dvd_zero→Va,add_mul→Vh,mul_nonneg→Vi,mul_neg→Vj,mul_pos→Vm,natAbs_eq_zero→Vr,zero_add→VC,gcd_dvd_right→VD,fmod_eq_of_lt→VE,dvd_antisymm→VO,gcd_dvd_left→VR,neg_mul_neg→VY,natCast_mul→VZ
open Option renaming isSome_iff_exists→v9,getD_none→VF,map_some→VU
open PySem.Heap renaming get?_push_of_some→wd,lt_size→ww,get?_push_size→wy,size_push→Wf,get?_none_of_le→vv,get?_update_other→V7,get?_update_self→Vd,get?_push_ne→Vy
open Bool renaming and_eq_true→wO,false_ne_true→wX,or_eq_true→vA,true→vH,false_eq_true→vI,eq_iff_iff→Vc,beq_eq_decide_eq→Ve,and_eq_true_iff→Vo,not_false→u9
open Classical renaming choose_spec→wE,choose→wS,byContradiction→W1
local macro_rules|`(tactic|rfl')=>`(tactic|omega)
section
local macro_rules|`(tactic|rfl')=>`(tactic|first|lia|omega +splitDisjunctions)
namespace L2
open PySem PySem.Spec PyProof.Rows
abbrev Key:=Sum Int Str
def keyIs:Key->Value->Bool
 | .inl k,v=>Value.isInt k v
 | .inr x,v=>Value.isStrOf x v
def keyH(w:World):Key->Int
 | .inl k=>hashInt k
 | .inr x=>hashStr w x
theorem z14:∀{k:Key} {v:Value},keyIs k v=true->(∃ i t,k=Sum.inl i/\v=Value.int i t)\/(∃ x t,k=Sum.inr x/\v=Value.str x t)
 | .inl i,v,h=>by
  obtain⟨t,e⟩:=Value.isInt_shape (k:=i) (v:=v) h;exact .inl ⟨i,t,rfl,e⟩
 | .inr x,v,h=>by
  obtain⟨t,e⟩:=Value.isStrOf_shape (x:=x) (v:=v) h;exact .inr ⟨x,t,rfl,e⟩
theorem key_ll(a b:Int):decide ((Sum.inl a:Key)=Sum.inl b)=(a==b):=by
 by_cases e:a=b
 · subst e;simp
 · have h:¬(Sum.inl a:Key)=Sum.inl b:=λq=>e (Sum.inl.inj q);rw[decide_eq_false h];exact(beq_eq_false_iff_ne.mpr e).symm
theorem key_rr(a b:Str):decide ((Sum.inr a:Key)=Sum.inr b)=decide (a=b):=by
 by_cases e:a=b
 · subst e;simp
 · have h:¬(Sum.inr a:Key)=Sum.inr b:=λq=>e (Sum.inr.inj q);rw[decide_eq_false h,decide_eq_false e]
theorem key_lr(a:Int)(b:Str):decide ((Sum.inl a:Key)=Sum.inr b)=false:=decide_eq_false (λq=>nomatch q)
theorem key_rl(a:Str)(b:Int):decide ((Sum.inr a:Key)=Sum.inl b)=false:=decide_eq_false (λq=>nomatch q)
def zc4(prog:Program)(w:World):PySem.KeyKind prog w Key where
 is:=keyIs
 hash:=keyH w
 inj:=λv a b ha hb=>by
  rcases z14 ha with⟨i,t,rfl,rfl⟩|⟨x,t,rfl,rfl⟩
  · rcases z14 hb with⟨j,u,rfl,e⟩|⟨y,u,rfl,e⟩
    · injection e with e1 _;rw[e1]
    · exact nomatch e
  · rcases z14 hb with⟨j,u,rfl,e⟩|⟨y,u,rfl,e⟩
    · exact nomatch e
    · injection e with e1 _;rw[e1]
 byValue:=λk v h=>by
  rcases z14 h with⟨i,t,rfl,rfl⟩|⟨x,t,rfl,rfl⟩<;>rfl
 pyHash:=λhv h=>by
  rcases z14 hv with⟨i,t,rfl,rfl⟩|⟨x,t,rfl,rfl⟩
  · exact wpAny_pyHash_int h
  · exact wpAny_pyHash_str h
 eqBool:=λhu hv h=>by
  rcases z14 hu with⟨i,t,rfl,rfl⟩|⟨x,t,rfl,rfl⟩
  · rcases z14 hv with⟨j,u,rfl,rfl⟩|⟨y,u,rfl,rfl⟩
    · rw[key_ll]at h;exact wpAny_eqBool_int h
    · rw[key_lr]at h;exact SeqAt.EqAt.int_str i t y u _ _ _ _ h
  · rcases z14 hv with⟨j,u,rfl,rfl⟩|⟨y,u,rfl,rfl⟩
    · rw[key_rl]at h;exact SeqAt.EqAt.str_int x t j u _ _ _ _ h
    · rw[key_rr]at h;exact wpAny_eqBool_str h
 «strs»:=λk x t v h=>by
  rcases z14 h with⟨i,u,rfl,e⟩|⟨y,u,rfl,e⟩
  · exact nomatch e
  · injection e with e1 _
    subst e1;cases v<;>rfl
end L2
namespace L2
open PySem PySem.Spec PyProof.Rows
inductive V where
 | non|bl (b:Bool)|int (i:Int)|str (x:Str)|byt (b:Array UInt8)|flt (b:UInt64)|ref (a:Addr)|ty (n:String)
 deriving DecidableEq
def RelV:V->Value->Prop
 | .non,u=>u=Value.none
 | .bl b,u=>u=Value.bool b
 | .int i,u=>∃ t,u=Value.int i t
 | .str x,u=>∃ t,u=Value.str x t
 | .byt b,u=>∃ t,u=Value.bytes b t
 | .flt b,u=>∃ t,u=Value.float b t
 | .ref a,u=>u=Value.ref a
 | .ty n,u=>u=Value.type n
abbrev Vals:List V->List Value->Prop:=Paired RelV
theorem Vals.length{xs:List V}{us:List Value}(r:Vals xs us):xs.length=us.length:=Paired.length r
theorem Vals.get:∀{xs:List V} {us:List Value} {i:Nat} {x:V},Vals xs us->xs[i]?=some x->∃ u,us[i]?=some u/\RelV x u
 | _,_,_,_,.nil,e=>by simp at e
 | _,_,0,_,.cons r _,e=>by simp at e;subst e;exact⟨_,rfl,r⟩
 | _,_,i+1,x,.cons _ t,e=>by
  obtain⟨u,h1,h2⟩:=Vals.get (i:=i) (x:=x) t (by simpa using e);exact⟨u,by simpa using h1,h2⟩
theorem Vals.set{x:V}{u:Value}(r:RelV x u):∀{xs:List V} {us:List Value} (i:Nat),Vals xs us->Vals (xs.set i x) (us.set i u)
 | _,_,_,.nil => .nil
 | _,_,0,.cons _ t => .cons r t
 | _,_,i+1,.cons q t => .cons q (Vals.set r i t)
theorem Vals.append:∀{xs ys:List V} {us ws:List Value},Vals xs us->Vals ys ws->Vals (xs++ys) (us++ws)
 | _,_,_,_,.nil,s=>s
 | _,_,_,_,.cons r t,s => .cons r (Vals.append t s)
theorem Vals.take:∀{xs:List V} {us:List Value} (n:Nat),Vals xs us->Vals (xs.take n) (us.take n)
 | _,_,0,_ => .nil
 | _,_,_+1,.nil => .nil
 | _,_,n+1,.cons r t => .cons r (Vals.take n t)
theorem Vals.drop:∀{xs:List V} {us:List Value} (n:Nat),Vals xs us->Vals (xs.drop n) (us.drop n)
 | _,_,0,r=>r
 | _,_,_+1,.nil => .nil
 | _,_,n+1,.cons _ t=>Vals.drop n t
theorem Vals.none_of:∀{xs:List V} {us:List Value} {i:Nat},Vals xs us->xs[i]?=none->us[i]?=none:=λ{xs us i} r e=>by
 have h1:=r.length;have h2:xs.length<=i:=vL.mp e;exact vL.mpr (by rfl')
def RelO:Option V->Option Value->Prop
 | some v,some u=>RelV v u
 | none,none=>True
 | _,_=>False
def KV{κ:Type}:List (κ×V)->List (κ×Value)->Prop:=Paired λ(p:κ×V) (q:κ×Value)=>p.1=q.1/\RelV p.2 q.2
def kV:Key->V
 | .inl i => .int i
 | .inr x => .str x
inductive HO where
 | lst (xs:List V)
 | tup (xs:List V)
 | dK (kvs:List (Key×V))|dT (kvs:List (List Key×V))
 | set (S:Int->Bool) (n:Nat)
 | ins (C dx:Addr) (fs:List (Str×V))
 | own (x:Addr)
 | xd (fs:List (Str×V))
 | met (f x:Addr)
 | rng (lo hi:Int)
 | frz (o:Obj) (u:HO)
 | tbl (ps:Array Value)
 | ext (φ:Heap->Prop)
abbrev Hp:=Addr->Option HO
def upd(H:Hp)(a:Addr)(o:HO):Hp:=λb=>if b=a then some o else H b
theorem z0V{H:Hp}{a:Addr}{o:HO}:upd H a o a=some o:=by unfold upd;rw[if_pos rfl]
theorem z0r{H:Hp}{a b:Addr}{o:HO}(h:b≠a):upd H a o b=H b:=by unfold upd;rw[if_neg h]
theorem z2k{H:Hp}{a b:Addr}{o:HO}(h:H a=some o)(h':H b=none):a≠b:=by
 intro e;subst e;rw[h]at h';cases h'
section
variable (P:Program)(w:World)
def ObjOk(H:Hp)(h:Heap)(a:Addr):HO->Prop
 | .lst xs=>xs.length<=sizeLine/\∃(its:List Value) (n:Nat),Vals xs its/\h.get? a=some { cls := .type "list",data := .seq its.toArray n }
 | .tup xs=>xs.length<=sizeLine/\∃ its:List Value,Vals xs its/\IsTup h a its.toArray
 | .dK kvs=>kvs.length<=sizeLine/\(a==sysModules)=false/\∃ vs,KV kvs vs/\h.DictOf (zc4 P w) a vs
 | .dT kvs=>kvs.length<=sizeLine/\(a==sysModules)=false/\∃ xs:List (List Key×Addr×Value),
  Paired (λ(p:List Key×V) (q:List Key×Addr×Value)=>p.1=q.1/\H q.2.1=some (.tup (p.1.map kV))/\RelV p.2 q.2.2) kvs xs /\
  ∃ o es ep,h.get? a=some o/\o.ExactDict/\o.data = .dict es ep/\es.toList=xs.map (entryOfKey (tupleKind (zc4 P w)))/\(xs.map (·.1)).Nodup
 | .set S n=>h.SetOf (intKind P w) a S n
 | .ins C dx fs=>H dx=some (.own a)/\fs.length<=1000/\dx≠a/\h.get? a=some (PySem.W.instObj C dx) /\
  ∃ mA,h.Ns1 dx mA/\(∀ f,RelO (fs.lookup f) (mA f))/\PySem.Within mA (fs.map (·.1))
 | .own _=>∃ o,h.get? a=some o
 | .xd fs=>∃ mA,h.Ns1 a mA/\∀ f,RelO (fs.lookup f) (mA f)
 | .rng lo hi=>∃ t u v,h.get? a=some { cls := .type "range",data := .fields #[.int lo t,.int hi u,.int 1 v] }
 | .frz o u=>h.get? a=some o/\ObjOk H h a u
 | .tbl ps=>h.get? a=some { cls := .none,data := .fields ps }
 | .met f x=>h.get? a=some (PySem.W.methodObj (.ref f) (.ref x))
 | .ext φ=>φ h/\(∃ o,h.get? a=some o)/\∀ h1 h2:Heap,φ h1->(∀ o,h1.get? a=some o->h2.get? a=some o)->φ h2
def HOk(H:Hp)(h:Heap):Prop:=∀ a o,H a=some o->ObjOk P w H h a o
end
section
variable {P:Program}{w:World}{H H':Hp}{h h':Heap}{a:Addr}{o:HO}
theorem ObjOk.lt(x:ObjOk P w H h a o):a<h.objs.size:=by
 cases o with
 | lst xs=>obtain⟨_,_,_,_,e⟩:=x;exact ww e
 | tup xs=>obtain⟨_,_,_,p⟩:=x;exact p.lt
 | dK kvs=>obtain⟨_,_,_,_,o,_,_,e,_⟩:=x;exact ww e
 | dT kvs=>obtain⟨_,_,_,_,o,_,_,e,_⟩:=x;exact ww e
 | set S n=>obtain⟨o,_,_,_,e,_⟩:=x;exact ww e
 | ins C dx fs=>obtain⟨_,_,_,e,_⟩:=x;exact ww e
 | own y=>obtain⟨_,e⟩:=x;exact ww e
 | xd fs=>obtain⟨_,⟨_,_,_,e,_⟩,_⟩:=x;exact ww e
 | rng lo hi=>obtain⟨_,_,_,e⟩:=x;exact ww e
 | frz ob u=>obtain⟨e,_⟩:=x;exact ww e
 | tbl ps=>exact ww (show h.get? a=some _ from x)
 | met f y=>exact ww (show h.get? a=some _ from x)
 | ext φ=>obtain⟨_,⟨_,e⟩,_⟩:=x;exact ww e
theorem Paired.mapP{α β:Type}{F G:α->β->Prop}:∀{l₁:List α} {l₂:List β},Paired F l₁ l₂->(∀ a b,F a b->G a b)->Paired G l₁ l₂
 | _,_,.nil,_ => .nil
 | _,_,.cons r t,f => .cons (f _ _ r) (Paired.mapP t f)
theorem ObjOk.stay(x:ObjOk P w H h a o)(k:∀ b u,(b=a\/H b=some (.own a))->h.get? b=some u->h'.get? b=some u)
  (ho:∀ b,H b=some (.own a)->H' b=some (.own a)) (ht:∀ b xs,H b=some (.tup xs)->H' b=some (.tup xs)):ObjOk P w H' h' a o:=by
 induction o with
 | lst xs=>obtain⟨z,its,n,r,e⟩:=x;exact⟨z,its,n,r,k _ _ (.inl rfl) e⟩
 | tup xs=>obtain⟨z,its,r,ob,e,c⟩:=x;exact⟨z,its,r,ob,k _ _ (.inl rfl) e,c⟩
 | dK kvs=>obtain⟨z,y,vs,r,ob,es,ep,e,c⟩:=x;exact⟨z,y,vs,r,ob,es,ep,k _ _ (.inl rfl) e,c⟩
 | dT kvs =>
  obtain⟨z,y,xs,r,ob,es,ep,e,c⟩:=x;exact⟨z,y,xs,Paired.mapP r λp q z=>⟨z.1,ht _ _ z.2.1,z.2.2⟩,ob,es,ep,k _ _ (.inl rfl) e,c⟩
 | set S n=>obtain⟨ob,es,ep,t,e,c⟩:=x;exact⟨ob,es,ep,t,k _ _ (.inl rfl) e,c⟩
 | ins C dx fs =>
  obtain⟨d,z,ne,e,mA,⟨od,es,ep,e2,c⟩,r⟩:=x;exact⟨ho _ d,z,ne,k _ _ (.inl rfl) e,mA,⟨od,es,ep,k _ _ (.inr d) e2,c⟩,r⟩
 | own y=>obtain⟨ob,e⟩:=x;exact⟨ob,k _ _ (.inl rfl) e⟩
 | xd fs=>obtain⟨mA,⟨od,es,ep,e,c⟩,r⟩:=x;exact⟨mA,⟨od,es,ep,k _ _ (.inl rfl) e,c⟩,r⟩
 | rng lo hi=>obtain⟨t,u,v,e⟩:=x;exact⟨t,u,v,k _ _ (.inl rfl) e⟩
 | frz ob u ih=>obtain⟨e,q⟩:=x;exact⟨k _ _ (.inl rfl) e,ih q⟩
 | tbl ps =>
  have e:h.get? a=some { cls := .none,data := .fields ps }:=x;show h'.get? a=some { cls := .none,data := .fields ps };exact k a _ (.inl rfl) e
 | met f y =>
  have e:h.get? a=some (PySem.W.methodObj (.ref f) (.ref y)):=x;show h'.get? a=some (PySem.W.methodObj (.ref f) (.ref y));exact k a _ (.inl rfl) e
 | ext φ=>obtain⟨p,⟨o,e⟩,st⟩:=x;exact⟨st _ _ p λo q=>k _ _ (.inl rfl) q,⟨o,k _ _ (.inl rfl) e⟩,st⟩
theorem HOk.lt(x:HOk P w H h)(e:H a=some o):a<h.objs.size:=(x a o e).lt
theorem HOk.fresh(x:HOk P w H h)(e:h.objs.size<=a):H a=none:=by
 cases q:H a with
 | none=>rfl
 | some u=>exact absurd (wD (x.lt q) e) (Wp _)
theorem HOk.kept(x:HOk P w H h)(k:∀ b u,h.get? b=some u->h'.get? b=some u):HOk P w H h':=λa o e =>
 (x a o e).stay (λb u _ q=>k b u q) (λ_ q=>q) λ_ _ q=>q
theorem HOk.laid(x:HOk P w H h)(k:∀ b u,h.get? b=some u->h'.get? b=some u)(hp:h.objs.size<=a)(new:ObjOk P w (upd H a o) h' a o):HOk P w (upd H a o) h':=λb u e=>by
 have hn:=x.fresh hp;by_cases hb:b=a
 · subst hb;rw[z0V]at e;cases e;exact new
 · rw[z0r hb]at e;exact(x b u e).stay (λc v _ q=>k c v q) (λc q=>by rw[z0r (z2k q hn)];exact q) λc xs q=>by rw[z0r (z2k q hn)];exact q
end
def Rd(H:Hp)(a:Addr)(u:HO):Prop:=H a=some u\/∃ o,H a=some (.frz o u)
theorem Rd.of{H:Hp}{a:Addr}{u:HO}(h:H a=some u):Rd H a u := .inl h
theorem Rd.ok{P:Program}{w:World}{H:Hp}{h:Heap}{a:Addr}{u:HO}(r:Rd H a u)(x:HOk P w H h):ObjOk P w H h a u:=by
 rcases r with r|⟨o,r⟩
 · exact x a u r
 · obtain⟨_,q⟩:=x a _ r;exact q
def Mut:Option HO->Prop
 | some (.lst _)=>True
 | some (.dK _)=>True
 | some (.dT _)=>True
 | some (.set _ _)=>True
 | some (.ins _ _ _)=>True
 | some (.ext _)=>True
 | _=>False
section
variable {P:Program}{w:World}{H:Hp}{h h':Heap}{x e:Addr}{o':HO}
theorem HOk.write(ok:HOk P w H h)(mu:Mut (H x))(he:e=x\/H e=some (.own x))(k:∀ b u,b≠e->h.get? b=some u->h'.get? b=some u)(heo:∃ u,h'.get? e=some u)
   (new:ObjOk P w (upd H x o') h' x o'):HOk P w (upd H x o') h':=λb u q=>by
 have nown:∀ c y,H c=some (.own y)->c≠x:=λc y r z=>by subst z;rw[r]at mu;exact mu
 have ntup:∀ c xs,H c=some (.tup xs)->c≠x:=λc xs r z=>by subst z;rw[r]at mu;exact mu
 by_cases hb:b=x
 · subst hb;rw[z0V]at q;cases q;exact new
 · rw[z0r hb]at q;by_cases hbe:b=e
   · have q':H b=some (.own x):=by
       rcases he with z|z
       · exact absurd (hbe.trans z) hb
       · rw[hbe];exact z
     rw[q]at q';cases q';obtain⟨v,hv⟩:=heo;exact⟨v,by rw[hbe];exact hv⟩
   · refine(ok b u q).stay (λc v hc r=>k c v ?_ r) (λc r=>by rw[z0r (nown c b r)];exact r) λc xs r=>by rw[z0r (ntup c xs r)];exact r
     rcases hc with rfl|hc
     · exact hbe
     · rintro rfl;rcases he with z|z
       · exact nown c b hc z
       · rw[hc]at z;cases z;exact hb rfl
end
structure Un(fs ex:List Addr)(H H':Hp)(h h':Heap):Prop where
 keep:∀ b o,h.get? b=some o->H b=none->b ∉ fs->b ∉ ex->h'.get? b=some o
 slot:∀ b o,h.get? b=some o->H b=none->b∈fs->b ∉ ex->∃ sl,h'.get? b=some { o with slots:=sl }
 free:∀ b o,h.get? b=some o->H b=none->b ∉ ex->H' b=none
 there:∀ b o,h.get? b=some o->b ∉ ex->∃ o',h'.get? b=some o'
 tups:∀ b xs,H b=some (.tup xs)->H' b=some (.tup xs)
 frzs:∀ b o u,H b=some (.frz o u)->H' b=some (.frz o u)
 tbls:∀ b ps,H b=some (.tbl ps)->∃ more,H' b=some (.tbl (ps++more))
section
variable {fs fs' ex ex':List Addr}{H H1 H2:Hp}{h h1 h2 h':Heap}{a x e:Addr}{o:HO}
theorem Un.any(u:Un fs ex H H1 h h1){b:Addr}{ob:Obj}(q:h.get? b=some ob)(n:H b=none)(hx:b ∉ ex):∃ sl,h1.get? b=some { ob with slots:=sl }:=by
 by_cases hb:b∈fs
 · exact u.slot b ob q n hb hx
 · exact⟨ob.slots,u.keep b ob q n hb hx⟩
theorem Un.trans(a:Un fs ex H H1 h h1)(b:Un fs ex H1 H2 h1 h2):Un fs ex H H2 h h2 where
 keep:=λc ob q n hc hx=>b.keep c ob (a.keep c ob q n hc hx) (a.free c ob q n hx) hc hx
 slot:=λc ob q n hc hx=>by
  obtain⟨sl,e1⟩:=a.slot c ob q n hc hx;obtain⟨sl',e2⟩:=b.slot c _ e1 (a.free c ob q n hx) hc hx;exact⟨sl',e2⟩
 free:=λc ob q n hx=>by
  obtain⟨o',e1⟩:=a.there c ob q hx;exact b.free c o' e1 (a.free c ob q n hx) hx
 there:=λc ob q hx=>by
  obtain⟨o',e1⟩:=a.there c ob q hx;exact b.there c o' e1 hx
 tups:=λc xs q=>b.tups c xs (a.tups c xs q)
 frzs:=λc ob xs q=>b.frzs c ob xs (a.frzs c ob xs q)
 tbls:=λc ps q=>by
  obtain⟨m1,e1⟩:=a.tbls c ps q;obtain⟨m2,e2⟩:=b.tbls c _ e1;exact⟨m1++m2,by rw[e2,Array.append_assoc]⟩
theorem Un.kept(k:∀ b u,h.get? b=some u->h'.get? b=some u):Un fs ex H H h h' :=
 ⟨λb ob q _ _ _=>k b ob q,λb ob q _ _ _=>⟨ob.slots,k b ob q⟩,λ_ _ _ n _=>n,λb ob q _=>⟨ob,k b ob q⟩,λ_ _ q=>q,λ_ _ _ q=>q,λ_ ps q=>⟨#[],by rw[q];simp⟩⟩
theorem Un.refl:Un fs ex H H h h:=Un.kept λ_ _ q=>q
theorem Un.laid(k:∀ b u,h.get? b=some u->h'.get? b=some u)(hp:h.objs.size<=a)(hn:H a=none):Un fs ex H (upd H a o) h h' where
 keep:=λb u q _ _ _=>k b u q
 slot:=λb u q _ _ _=>⟨u.slots,k b u q⟩
 free:=λb u q n _=>by rw[z0r (wV (wD (ww q) hp))];exact n
 there:=λb u q _=>⟨u,k b u q⟩
 tups:=λb xs q=>by rw[z0r (z2k q hn)];exact q
 frzs:=λb u xs q=>by rw[z0r (z2k q hn)];exact q
 tbls:=λb ps q=>⟨#[],by rw[z0r (z2k q hn),q];simp⟩
theorem Un.write(mu:Mut (H x))(he:e=x\/H e=some (.own x))(k:∀ b u,b≠e->h.get? b=some u->h'.get? b=some u)(heo:∃ u,h'.get? e=some u):Un fs ex H (upd H x o) h h':=by
 have hx:∀ b,H b=none->b≠x:=λb n z=>by subst z;rw[n]at mu;exact mu
 have hb:∀ b,H b=none->b≠e:=λb n z=>by
   subst z;rcases he with r|r
   · exact hx b n r
   · rw[n]at r;cases r
 have hm:∀ b u,H b=some u->¬Mut (some u)->b≠x:=λb u q nm z=>by subst z;rw[q]at mu;exact nm mu
 refine⟨λb u q n _ _=>k b u (hb b n) q,λb u q n _ _=>⟨u.slots,k b u (hb b n) q⟩,λb u q n _=>by rw[z0r (hx b n)];exact n,λb u q _=>?_,
   λb xs q=>by rw[z0r (hm b _ q λz=>z)];exact q,λb u xs q=>by rw[z0r (hm b _ q λz=>z)];exact q,λb ps q=>⟨#[],by rw[z0r (hm b _ q λz=>z),q];simp⟩⟩
 by_cases hbe:b=e
 · subst hbe;exact heo
 · exact⟨u,k b u hbe q⟩
theorem Un.mono(u:Un fs ex H H1 h h1)(hs:∀ b∈fs,b∈fs')(hx:∀ b∈ex,b∈ex'):Un fs' ex' H H1 h h1 :=
 ⟨λb ob q n hb he=>u.keep b ob q n (λz=>hb (hs b z)) λz=>he (hx b z),λ_ _ q n _ he=>u.any q n λz=>he (hx _ z),λb ob q n he=>u.free b ob q n λz=>he (hx b z),λb ob q he=>u.there b ob q λz=>he (hx b z),u.tups,u.frzs,u.tbls⟩
end
def trk(h:Heap)(H:Hp):List Addr:=(List.range h.objs.size).filter λa=>(H a).isSome
def hidT(h:Heap)(H:Hp):Heap:=PySem.W.hideAll h (trk h H)
theorem zjt(h:Heap)(H:Hp):(hidT h H).objs.size=h.objs.size:=PySem.W.hideAll_size _ _
theorem zkk{h:Heap}{H:Hp}{b:Addr}{o:Obj}(e:h.get? b=some o)(n:H b=none):(hidT h H).get? b=some o :=
 PySem.W.hideAll_get _ e λhm=>by
  have q:(H b).isSome=true:=(W3.mp hm).2;rw[n]at q;simp at q
theorem zo3{h:Heap}{H:Hp}{b:Addr}{o:Obj}(e:(hidT h H).get? b=some o):h.get? b=some o/\H b=none:=by
 have e':h.get? b=some o:=PySem.W.of_hideAll (trk h H) e;refine⟨e',?_⟩;cases q:H b with
 | none=>rfl
 | some x =>
  have hm:b∈trk h H:=W3.mpr ⟨wM.mpr (ww e'),by simp[q]⟩;have z:(hidT h H).get? b=none:=PySem.W.hideAll_none (trk h H) hm;rw[z]at e;cases e
def zo4(g h:Heap)(L:Addr):List (Addr×Obj):=(List.range h.objs.size).filterMap λa=>if a=L\/(g.get? a).isSome=true then none else(h.get? a).map λo=>(a,o)
def rest(g h:Heap)(L d:Addr):List (Addr×Obj):=(zo4 g h L).filter λp=>decide (p.1≠d)
end L2
namespace L2
open PySem PySem.Spec PyProof.Rows
structure Mod(K:PySem.W.Frag)(mg:Str->Option Value)(base:Heap):Prop where
 kin:K.In base
 glob:base.Ns mainGlobals mg
 blt:∃ mb,base.Ns builtinsNs mb/\∀ x:Str,x ≠ "__name__" -> mb x=bootBuiltins x
 nolimit:base.NoLimit
structure Cx where
 prog:Program
 w:World
 K:PySem.W.Frag
 mg:Str->Option Value
 base:Heap
 A:Around
 N:List Str
 s₀:Shared
 H₀:Hp
 env:Env
 outer:List Env
 stack:List Env
 ex:List Addr
 fn:Str->Bool
 calm:Bool
 pn:List (Addr×Obj)
 xe:Value->Shared->Prop
def frs(l:List Env):List Addr:=l.filterMap (·.frame)
abbrev Cx.fs(X:Cx):List Addr:=frs X.outer
def Vis(sc:Scope)(x:Str):Prop:=sc.names.lookup x=some .local\/sc.names.lookup x=some .cell\/sc.names.lookup x=some .free
def Loc(sc:Scope)(x:Str):Prop:=sc.names.lookup x=some .local\/sc.names.lookup x=some .cell
def Look(env:Env)(h:Heap)(m:Str->Option Value)(x:Str)(u:Value):Prop :=
 (env.kindOf x=some .local/\m x=some u)\/((env.kindOf x=some .cell\/env.kindOf x=some .free)/\∃ c,env.cells.lookup x=some c/\h.IsCell c (some u))
structure Cx.Ok(X:Cx):Prop where
 mod:Mod X.K X.mg X.base
 kind:X.env.scope.kind = .function
 glob:X.env.globals=mainGlobals
 blt:X.env.builtins=builtinsNs
 above:X.s₀.heap.objs.size<=X.env.locals
 inj:∀ x y c,X.env.cells.lookup x=some c->X.env.cells.lookup y=some c->x=y
 has:∀ x,(X.env.kindOf x=some .cell\/X.env.kindOf x=some .free)->∃ c,X.env.cells.lookup x=some c
 cab:∀ x c,X.fn x=true->X.env.cells.lookup x=some c->X.s₀.heap.objs.size<=c
 hd:X.calm=true->X.A.handled=none
 frames:X.A.frames=some X.stack
 stk:X.stack=X.outer\/(X.stack=X.env::X.outer/\X.env.frame=some X.env.locals)
 exf:∀ b∈X.ex,b≠X.env.locals/\∀ x c,X.env.cells.lookup x=some c->c≠b
 bs:∀ b o,X.base.get? b=some o->X.s₀.heap.get? b=some o/\X.H₀ b=none
 bsz:X.base.objs.size<=X.s₀.heap.objs.size
 noex:∀ b o,X.base.get? b=some o->b ∉ X.ex
 exfs:∀ b∈X.ex,b ∉ X.fs
 funs:X.s₀.heap.FunFrames X.base X.outer
 frf:∀ b∈X.fs,X.H₀ b=none
structure Inv(X:Cx)(pins:List (Addr×Obj))(σ:List (Option V))(H:Hp)(s:Shared):Prop where
 ok:X.Ok
 os:s.os=X.s₀.os
 bare:AllBare s.gens
 base:Un X.fs X.ex X.H₀ H X.s₀.heap s.heap
 loc:∃ m,s.heap.Ns X.env.locals m/\∀(i:Nat) (x:Str) (v:V),X.N[i]?=some x->σ[i]?=some (some v)->Vis X.env.scope x->∃ u,RelV v u/\Look X.env s.heap m x u
 cell:∀ x c,X.env.cells.lookup x=some c->∃ v,s.heap.IsCell c v
 free:H X.env.locals=none
 freeC:∀ x c,X.env.cells.lookup x=some c->H c=none
 pin:∀ p∈X.pn++pins,s.heap.get? p.1=some p.2/\H p.1=none/\p.1≠X.env.locals/\p.1 ∉ X.fs/\∀ v,p.2.data ≠ .cell v
 hok:HOk X.prog X.w H s.heap
 len:σ.length=X.N.length
section
variable {X:Cx}{pins:List (Addr×Obj)}{σ:List (Option V)}{H H':Hp}{s:Shared}{h':Heap}
theorem Cx.Ok.nofr(ok:X.Ok){b:Addr}{o:Obj}(e:X.base.get? b=some o):b ∉ X.fs:=λhb=>by
 have:=(ok.funs.mem hb).1;rw[e]at this;cases this
theorem Inv.bs(I:Inv X pins σ H s):∀ b o,X.base.get? b=some o->s.heap.get? b=some o/\H b=none:=λb o e =>
 ⟨I.base.keep b o (I.ok.bs b o e).1 (I.ok.bs b o e).2 (I.ok.nofr e) (I.ok.noex b o e),I.base.free b o (I.ok.bs b o e).1 (I.ok.bs b o e).2 (I.ok.noex b o e)⟩
theorem Inv.bk(I:Inv X pins σ H s):∀ b o,X.base.get? b=some o->s.heap.get? b=some o:=λb o e=>(I.bs b o e).1
theorem Inv.mod(I:Inv X pins σ H s):Mod X.K X.mg X.base:=I.ok.mod
theorem Inv.kIn(I:Inv X pins σ H s):X.K.In s.heap:=I.ok.mod.kin.keeps I.bk
theorem Inv.nolimit(I:Inv X pins σ H s):s.heap.NoLimit:=I.ok.mod.nolimit.keeps I.bk
theorem Inv.fr(I:Inv X pins σ H s):∃ m,Fr X.base X.env.locals s.heap m :=
 let ⟨m,hn,_⟩:=I.loc
 ⟨m,hn,I.bk,wG I.ok.bsz I.ok.above⟩
theorem Inv.lt(I:Inv X pins σ H s):X.env.locals<s.heap.objs.size:=let ⟨_,hn,_⟩:=I.loc;hn.lt
theorem Inv.sz(I:Inv X pins σ H s):X.s₀.heap.objs.size<=s.heap.objs.size:=wG I.ok.above (Wx I.lt)
theorem Inv.nofs(I:Inv X pins σ H s){a:Addr}(h:s.heap.objs.size<=a):a ∉ X.fs:=λhb=>by
 obtain⟨_,o,ho,_⟩:=I.ok.funs.mem hb;exact absurd (wD (ww ho) (wG I.sz h)) (Wp _)
theorem Inv.cne(I:Inv X pins σ H s):∀ x c,X.env.cells.lookup x=some c->c≠X.env.locals:=λx c e z=>by
 obtain⟨v,o,ho,hd⟩:=I.cell x c e;obtain⟨m,⟨o',es,ep,ho',hd',_⟩,_⟩:=I.loc;rw[z,ho']at ho;cases ho;rw[hd']at hd;cases hd
theorem Inv.funs(I:Inv X pins σ H s):s.heap.FunFrames X.base X.outer:=by
 have all:∀(l:List Env),(∀ b∈frs l,b∈X.fs)->X.s₀.heap.FunFrames X.base l->s.heap.FunFrames X.base l:=by
  intro l
  induction l with
  | nil=>intro _ _;trivial
  | cons env r ih =>
   intro hs hl;obtain⟨hk,⟨L,o,hf,hn,ho,hd⟩,hr⟩:=hl;have hL:L∈X.fs:=hs L (by unfold frs;rw[vD,hf];exact wc);obtain⟨sl,e⟩:=I.base.slot L o ho (I.ok.frf L hL) hL λz=>I.ok.exfs L z hL;exact⟨hk,⟨L,_,hf,hn,e,hd⟩,ih (λb hb=>hs b (by unfold frs;rw[vD,hf];exact wa _ hb)) hr⟩
 exact all X.outer (λ_ hb=>hb) I.ok.funs
theorem Inv.stack(I:Inv X pins σ H s):s.heap.FunFrames X.base X.stack:=by
 rcases I.ok.stk with e|⟨e,hf⟩
 · rw[e];exact I.funs
 · rw[e];obtain⟨m,hn,_⟩:=I.loc;refine .cons (by rw[I.ok.kind];decide) hf hn ?_ I.funs;exact vv (wG I.ok.bsz I.ok.above)
theorem Inv.stkSub(I:Inv X pins σ H s):∀ b∈frs X.stack,b∈X.env.locals::X.fs:=λb hb=>by
 rcases I.ok.stk with e|⟨e,hf⟩
 · rw[e]at hb;exact wa _ hb
 · rw[e]at hb;unfold frs at hb;rw[vD,hf]at hb;exact hb
theorem Inv.stkFree(I:Inv X pins σ H s):∀ b∈frs X.stack,H b=none:=λb hb=>by
 rcases wn.mp (I.stkSub b hb)with e|hb
 · rw[e];exact I.free
 · obtain⟨_,o,ho,_⟩:=I.ok.funs.mem hb;exact I.base.free b o ho (I.ok.frf b hb) λz=>I.ok.exfs b z hb
theorem Inv.step{g':Array GenState}{t':Nat}{d':Drawn}{ch:List Addr}(I:Inv X pins σ H s)
   (hch:∀ b∈ch,(b∈X.ex\/X.s₀.heap.objs.size<=b)/\b≠X.env.locals/\(∀ x c,X.env.cells.lookup x=some c->c≠b)/\∀ p∈X.pn++pins,p.1≠b)
   (keep:∀ b o,b≠X.env.locals->b ∉ X.fs->b ∉ ch->s.heap.get? b=some o->H b=none->h'.get? b=some o)
   (slot:∀ b o,b≠X.env.locals->b∈X.fs->b ∉ ch->s.heap.get? b=some o->H b=none->∃ sl,h'.get? b=some { o with slots:=sl }) (free:∀ b o,b ∉ ch->s.heap.get? b=some o->H b=none->H' b=none)
   (there:∀ b o,b ∉ ch->s.heap.get? b=some o->∃ o',h'.get? b=some o')
   (tups:∀ b xs,H b=some (.tup xs)->H' b=some (.tup xs)) (frzs:∀ b o u,H b=some (.frz o u)->H' b=some (.frz o u)) (tbls:∀ b ps,H b=some (.tbl ps)->∃ more,H' b=some (.tbl (ps++more)))
   (ns:∀ m,s.heap.Ns X.env.locals m->h'.Ns X.env.locals m) (hok:HOk X.prog X.w H' h') (hg:AllBare g') :
   Inv X pins σ H' { s with heap:=h',gens:=g',drawn:=d',toks:=t' }:=by
 have neL:∀ b o,X.s₀.heap.get? b=some o->b≠X.env.locals:=λb o e=>wV (wD (ww e) I.ok.above);have neC:∀ b o,X.s₀.heap.get? b=some o->b ∉ X.ex->b ∉ ch:=λb o e hx hb=>by
   rcases(hch b hb).1 with z|z
   · exact hx z
   · exact absurd (wD (ww e) z) (Wp _)
 have cellK:∀ x c,X.env.cells.lookup x=some c->∀ v,s.heap.IsCell c v->h'.IsCell c v:=λx c e v⟨o,ho,hd⟩=>by
   have nch:c ∉ ch:=λz=>(hch c z).2.2.1 x c e rfl;by_cases hc:c∈X.fs
   · obtain⟨sl,q⟩:=slot c o (I.cne x c e) hc nch ho (I.freeC x c e);exact⟨_,q,hd⟩
   · exact⟨o,keep c o (I.cne x c e) hc nch ho (I.freeC x c e),hd⟩
 refine⟨I.ok,I.os,hg,⟨λb o e n hb hx=>?_,λb o e n hb hx=>?_,λb o e n hx=>?_,λb o e hx=>?_,λb xs e=>tups b xs (I.base.tups b xs e),λb o xs e=>frzs b o xs (I.base.frzs b o xs e),λb ps e=>?_⟩,?_,λx c e=>?_,?_,λx c e=>?_,λp hp=>?_,hok,I.len⟩
 · exact keep b o (neL b o e) hb (neC b o e hx) (I.base.keep b o e n hb hx) (I.base.free b o e n hx)
 · obtain⟨sl,e1⟩:=I.base.slot b o e n hb hx;obtain⟨sl',e2⟩:=slot b _ (neL b o e) hb (neC b o e hx) e1 (I.base.free b o e n hx);exact⟨sl',e2⟩
 · obtain⟨o',e1⟩:=I.base.there b o e hx;exact free b o' (neC b o e hx) e1 (I.base.free b o e n hx)
 · obtain⟨o',e1⟩:=I.base.there b o e hx;exact there b o' (neC b o e hx) e1
 · obtain⟨m1,e1⟩:=I.base.tbls b ps e;obtain⟨m2,e2⟩:=tbls b _ e1;exact⟨m1++m2,by rw[e2,Array.append_assoc]⟩
 · obtain⟨m,hn,hl⟩:=I.loc;refine⟨m,ns m hn,λi x v e1 e2 e3=>?_⟩;obtain⟨u,r,l⟩:=hl i x v e1 e2 e3;refine⟨u,r,?_⟩;rcases l with l|⟨k,c,e,z⟩
   · exact .inl l
   · exact .inr ⟨k,c,e,cellK x c e _ z⟩
 · obtain⟨v,z⟩:=I.cell x c e;exact⟨v,cellK x c e v z⟩
 · obtain⟨m,⟨o,_,_,ho,_⟩,_⟩:=I.loc;exact free _ o (λz=>(hch _ z).2.1 rfl) ho I.free
 · obtain⟨v,o,ho,hd⟩:=I.cell x c e;exact free c o (λz=>(hch c z).2.2.1 x c e rfl) ho (I.freeC x c e)
 · obtain⟨e,n,ne,nf,d⟩:=I.pin p hp;have nch:p.1 ∉ ch:=λz=>(hch p.1 z).2.2.2 p hp rfl;exact⟨keep p.1 p.2 ne nf nch e n,free p.1 p.2 nch e n,ne,nf,d⟩
theorem Inv.un{t':Nat}(I:Inv X pins σ H s)(u:Un X.fs [] H H' s.heap h')(hok:HOk X.prog X.w H' h'):Inv X pins σ H' { s with heap:=h',toks:=t' }:=by
 obtain⟨m,⟨o,es,ep,ho,r⟩,_⟩:=id I.loc;obtain⟨sl,hL⟩:=u.any ho I.free (by simp);exact I.step (g':=s.gens) (d':=s.drawn) (ch:=[]) (λ_ z=>nomatch z) (λb o _ hb _ e n=>u.keep b o e n hb (by simp)) (λb o _ hb _ e n=>u.slot b o e n hb (by simp)) (λb o _ e n=>u.free b o e n (by simp)) (λb o _ e=>u.there b o e (by simp)) u.tups u.frzs u.tbls (λm' hm=>by
  obtain⟨o',es',ep',ho',r'⟩:=hm;rw[ho]at ho';cases ho';exact⟨_,es',ep',hL,r'⟩) hok I.bare
theorem Inv.call{g':Array GenState}{t':Nat}{d':Drawn}{ch:List Addr}(I:Inv X pins σ H s)(u:Un (frs X.stack) ch H H' s.heap h')(hok:HOk X.prog X.w H' h')(hg:AllBare g')
  (hch:∀ b∈ch,(b∈X.ex\/X.s₀.heap.objs.size<=b)/\b≠X.env.locals/\(∀ x c,X.env.cells.lookup x=some c->c≠b)/\∀ p∈X.pn++pins,p.1≠b) :
  Inv X pins σ H' { s with heap:=h',gens:=g',drawn:=d',toks:=t' }:=by
 obtain⟨m,⟨o,es,ep,ho,r⟩,_⟩:=id I.loc;obtain⟨sl,hL⟩:=u.any ho I.free λz=>(hch _ z).2.1 rfl;exact I.step (ch:=ch) hch (λb o hL hb hc e n=>u.keep b o e n (λz=>(wn.mp (I.stkSub b z)).elim hL hb) hc) (λb o _ _ hc e n=>u.any e n hc) (λb o hc e n=>u.free b o e n hc) (λb o hc e=>u.there b o e hc) u.tups u.frzs u.tbls (λm' hm=>by
  obtain⟨o',es',ep',ho',r'⟩:=hm;rw[ho]at ho';cases ho';exact⟨_,es',ep',hL,r'⟩) hok hg
theorem Inv.turned{t':Nat}{it:Addr}(I:Inv X pins σ H s)(k:∀ b o,b≠it->s.heap.get? b=some o->h'.get? b=some o)(hn:H it=none)(hL:it≠X.env.locals)
   (h1:it∈X.ex\/X.s₀.heap.objs.size<=it) (h2:∀ x c,X.env.cells.lookup x=some c->c≠it) (h3:∀ p∈X.pn++pins,p.1≠it):Inv X pins σ H { s with heap:=h',toks:=t' }:=by
 have nit:∀ b u,H b=some u->b≠it:=λb u e z=>by rw[z,hn]at e;cases e
 refine I.step (g':=s.gens) (d':=s.drawn) (ch:=[it]) (λb hb=>?_) (λb o _ _ hc e _=>k b o (λz=>hc (by simp[z])) e) (λb o _ _ hc e _=>⟨o.slots,k b o (λz=>hc (by simp[z])) e⟩) (λ_ _ _ _ n=>n)
   (λb o hc e=>⟨o,k b o (λz=>hc (by simp[z])) e⟩) (λ_ _ e=>e) (λ_ _ _ e=>e) (λb ps e=>⟨#[],by rw[e];simp⟩) (λm hm=>?_) (λb u e=>?_) I.bare
 · have e:b=it:=by simpa using hb
   subst e;exact⟨h1,hL,h2,h3⟩
 · obtain⟨o,es,ep,ho,r⟩:=hm;exact⟨o,es,ep,k _ o (Ne.symm hL) ho,r⟩
 · refine(I.hok b u e).stay (λc v hc q=>k c v ?_ q) (λ_ q=>q) λ_ _ q=>q;rcases hc with z|z
   · rw[z];exact nit b u e
   · exact nit c _ z
theorem Inv.tok(I:Inv X pins σ H s)(t:Nat):Inv X pins σ H { s with toks:=t }:=I.un (h':=s.heap) (t':=t) Un.refl I.hok
theorem Inv.kept{t':Nat}(I:Inv X pins σ H s)(k:∀ b u,s.heap.get? b=some u->h'.get? b=some u):Inv X pins σ H { s with heap:=h',toks:=t' }:=I.un (Un.kept k) (I.hok.kept k)
theorem Inv.laid{a:Addr}{o:HO}{t':Nat}(I:Inv X pins σ H s)(k:∀ b u,s.heap.get? b=some u->h'.get? b=some u)(hp:s.heap.objs.size<=a)(new:ObjOk X.prog X.w (upd H a o) h' a o):
 Inv X pins σ (upd H a o) { s with heap:=h',toks:=t' }:=I.un (Un.laid k hp (I.hok.fresh hp)) (I.hok.laid k hp new)
theorem Inv.write{x e:Addr}{o:HO}{t':Nat}(I:Inv X pins σ H s)(mu:Mut (H x))(he:e=x\/H e=some (.own x))(k:∀ b u,b≠e->s.heap.get? b=some u->h'.get? b=some u)(heo:∃ u,h'.get? e=some u)
 (new:ObjOk X.prog X.w (upd H x o) h' x o):Inv X pins σ (upd H x o) { s with heap:=h',toks:=t' }:=I.un (Un.write mu he k heo) (I.hok.write mu he k heo new)
theorem Inv.weak{σ':List (Option V)}(I:Inv X pins σ H s)(hl:σ'.length=σ.length)(w:∀(i:Nat) v,σ'[i]?=some (some v)->σ[i]?=some (some v)):Inv X pins σ' H s :=
 ⟨I.ok,I.os,I.bare,I.base,let ⟨m,hn,hl'⟩:=I.loc;⟨m,hn,λi x v e1 e2 e3=>hl' i x v e1 (w i v e2) e3⟩,I.cell,I.free,I.freeC,I.pin,I.hok,hl.trans I.len⟩
theorem Inv.pins_of{pins':List (Addr×Obj)}(I:Inv X pins σ H s)(h:∀ p∈pins',s.heap.get? p.1=some p.2/\H p.1=none/\p.1≠X.env.locals/\p.1 ∉ X.fs/\∀ v,p.2.data ≠ .cell v):Inv X pins' σ H s :=
 ⟨I.ok,I.os,I.bare,I.base,I.loc,I.cell,I.free,I.freeC,λp hp=>(wq.mp hp).elim (λz=>I.pin p (WK _ z)) (h p),I.hok,I.len⟩
theorem zcZ{N:List Str}(hN:N.Nodup){i j:Nat}{x:Str}(a:N[i]?=some x)(b:N[j]?=some x):i=j:=by
 obtain⟨h1,e1⟩:=Wu.mp a;obtain⟨h2,e2⟩:=Wu.mp b;exact(List.getElem_inj hN).mp (e1.trans e2.symm)
theorem zaK{M:Model}{A:Around}{E:Value->Shared->Prop}{i:Nat}{x:Str}{v:V}{u:Value}{Q:Unit->Shared->Prop}(I:Inv X pins σ H s)(hN:X.N.Nodup)(hi:X.N[i]?=some x)(hx:Loc X.env.scope x)(r:RelV v u)
   (h:∀ s',Inv X pins (σ.set i (some v)) H s'->(∃ a,Heap.SameBut a s.heap s'.heap/\(a=X.env.locals\/X.env.cells.lookup x=some a))->Q () s') (hf:X.fn x=true\/X.env.scope.names.lookup x=some .local:=by first|exact .inl rfl|exact .inr rfl|assumption):wpAny M A (storeName X.env x u) Q E s:=by
 obtain⟨m,hn,hl⟩:=id I.loc;have hcls:(X.env.scope.kind == .class||(X.env.scope.kind == .module&&X.env.locals != X.env.globals))=false:=by rw[I.ok.kind];rfl
 have hiσ:i<σ.length:=by rw[I.len];exact(Wu.mp hi).1
 have cne:=I.cne;have tracked:∀{a:Addr} {h':Heap},(∃ o,s.heap.get? a=some o/\H a=none)->Heap.SameBut a s.heap h'->HOk X.prog X.w H h':=λ{a h'} ha hs b ob e=>by
   obtain⟨_,_,hfree⟩:=ha;refine(I.hok b ob e).stay (λc w' hc q=>(hs.2 c ?_).trans q) (λ_ q=>q) λ_ _ q=>q;rintro rfl;rcases hc with rfl|hc
   · rw[hfree]at e;cases e
   · rw[hfree]at hc;cases hc
 rcases hx with hk|hk
 · refine wpAny_storeName_local hk hn (λh' hn' hs=>?_) hcls;obtain⟨oL,_,_,hoL,_⟩:=id hn;refine h _ ⟨I.ok,I.os,I.bare,⟨λb o e n hb hx=>?_,λb o e n hb hx=>?_,I.base.free,λb o e hx=>?_,I.base.tups,I.base.frzs,I.base.tbls⟩,⟨_,hn',λj y v' e1 e2 e3=>?_⟩,λy c e=>?_,I.free,I.freeC,λp hp=>?_,tracked ⟨oL,hoL,I.free⟩ hs,by simpa using I.len⟩ ⟨_,hs,.inl rfl⟩
   · exact(hs.2 b (wV (wD (ww e) I.ok.above))).trans (I.base.keep b o e n hb hx)
   · obtain⟨sl,e1⟩:=I.base.slot b o e n hb hx;exact⟨sl,(hs.2 b (wV (wD (ww e) I.ok.above))).trans e1⟩
   · obtain⟨o',e1⟩:=I.base.there b o e hx;exact⟨o',(hs.2 b (wV (wD (ww e) I.ok.above))).trans e1⟩
   · by_cases hj:j=i
     · subst hj;rw[hi]at e1;cases e1;rw[V6 hiσ]at e2;cases e2;exact⟨u,r,.inl ⟨hk,by simp⟩⟩
     · rw[We (Ne.symm hj)]at e2;obtain⟨u',r',q⟩:=hl j y v' e1 e2 e3;refine⟨u',r',?_⟩;rcases q with⟨k,e⟩|⟨k,c,e,z⟩
       · refine .inl ⟨k,?_⟩;have:y≠x:=λe=>hj (zcZ hN e1 (e ▸ hi));simp[this,e]
       · exact .inr ⟨k,c,e,z.sameBut hs (cne y c e)⟩
   · obtain⟨w',z⟩:=I.cell y c e;exact⟨w',z.sameBut hs (cne y c e)⟩
   · obtain⟨e,n,ne,nf,d⟩:=I.pin p hp;exact⟨(hs.2 p.1 ne).trans e,n,ne,nf,d⟩
 · have hfn:X.fn x=true:=by
     rcases hf with z|z
     · exact z
     · rw[z]at hk;cases hk
   obtain⟨c,hc⟩:=I.ok.has x (.inl hk);obtain⟨w',z⟩:=I.cell x c hc;refine wpAny_storeName_cell I.ok.kind hk hc z (λh' hc' hs=>?_);obtain⟨oc,hoc,hocd⟩:=id z;refine h { s with heap:=h' } ⟨I.ok,I.os,I.bare,⟨λb o e n hb hx=>?_,λb o e n hb hx=>?_,I.base.free,λb o e hx=>?_,I.base.tups,I.base.frzs,I.base.tbls⟩,⟨m,hn.sameBut hs (Ne.symm (cne x c hc)),λj y v' e1 e2 e3=>?_⟩,λy c' e=>?_,I.free,I.freeC,λp hp=>?_,tracked ⟨oc,hoc,I.freeC x c hc⟩ hs,by simpa using I.len⟩ ⟨c,hs,.inr hc⟩
   · exact(hs.2 b (wV (wD (ww e) (I.ok.cab x c hfn hc)))).trans (I.base.keep b o e n hb hx)
   · obtain⟨sl,e1⟩:=I.base.slot b o e n hb hx;exact⟨sl,(hs.2 b (wV (wD (ww e) (I.ok.cab x c hfn hc)))).trans e1⟩
   · obtain⟨o',e1⟩:=I.base.there b o e hx;exact⟨o',(hs.2 b (wV (wD (ww e) (I.ok.cab x c hfn hc)))).trans e1⟩
   · by_cases hj:j=i
     · subst hj;rw[hi]at e1;cases e1;rw[V6 hiσ]at e2;cases e2;exact⟨u,r,.inr ⟨.inl hk,c,hc,hc'⟩⟩
     · rw[We (Ne.symm hj)]at e2;obtain⟨u',r',q⟩:=hl j y v' e1 e2 e3;refine⟨u',r',?_⟩;rcases q with q|⟨k,c',e,z'⟩
       · exact .inl q
       · refine .inr ⟨k,c',e,z'.sameBut hs ?_⟩;rintro rfl;exact hj (zcZ hN e1 (I.ok.inj _ _ _ e hc ▸ hi))
   · by_cases hcc:c'=c
     · subst hcc;exact⟨_,hc'⟩
     · obtain⟨w2,z2⟩:=I.cell y c' e;exact⟨w2,z2.sameBut hs hcc⟩
   · obtain⟨e,n,ne,nf,d⟩:=I.pin p hp;refine⟨(hs.2 p.1 ?_).trans e,n,ne,nf,d⟩;intro q;rw[q,hoc]at e;have q':oc=p.2:=Option.some.inj e;exact d w' (by rw[←q'];exact hocd)
theorem zd{M:Model}{A:Around}{E:Value->Shared->Prop}{i:Nat}{x:Str}{v:V}{u:Value}{Q:Unit->Shared->Prop}(I:Inv X pins σ H s)(hN:X.N.Nodup)(hi:X.N[i]?=some x)(hx:Loc X.env.scope x)(r:RelV v u)
  (h:∀ s',Inv X pins (σ.set i (some v)) H s'->Q () s') (hf:X.fn x=true\/X.env.scope.names.lookup x=some .local:=by first|exact .inl rfl|exact .inr rfl|assumption):wpAny M A (storeName X.env x u) Q E s :=
 zaK I hN hi hx r (λs' I' _=>h s' I') hf
theorem Inv.call'{s':Shared}{ch:List Addr}(I:Inv X pins σ H s)(ho:s'.os=s.os)(u:Un (frs X.stack) ch H H' s.heap s'.heap)(hok:HOk X.prog X.w H' s'.heap)(hg:AllBare s'.gens)
  (hch:∀ b∈ch,(b∈X.ex\/X.s₀.heap.objs.size<=b)/\b≠X.env.locals/\(∀ x c,X.env.cells.lookup x=some c->c≠b)/\∀ p∈X.pn++pins,p.1≠b):Inv X pins σ H' s':=by
 obtain⟨h',g',d',t',o'⟩:=s';have e:o'=s.os:=ho;subst e;exact I.call (g':=g') (t':=t') (d':=d') u hok hg hch
end
abbrev XK:=Value->Option Addr->Hp->Prop
abbrev St:=List (Option V)
abbrev VK:=V->Hp->Prop
abbrev TE:=St->Hp->VK->Prop
abbrev TT:=St->Hp->(Bool->Hp->Prop)->Prop
abbrev TA:=St->Hp->(List V->Hp->Prop)->Prop
structure Ends where
 nx:St->Hp->Prop
 rt:VK
 bk:St->Hp->Prop:=λ_ _=>False
 ct:St->Hp->Prop:=λ_ _=>False
abbrev TS:=Ends->St->Hp->Prop
def EP(X:Cx)(pins:List (Addr×Obj))(σ:St)(Q:VK)(u:Value)(s':Shared):Prop:=∃ v H',Inv X pins σ H' s'/\RelV v u/\Q v H'
def TP(X:Cx)(pins:List (Addr×Obj))(σ:St)(Q:Bool->Hp->Prop)(b:Bool)(s':Shared):Prop:=∃ H',Inv X pins σ H' s'/\Q b H'
def AP(X:Cx)(pins:List (Addr×Obj))(σ:St)(Q:List V->Hp->Prop)(us:List Value)(s':Shared):Prop:=∃ vs H',Inv X pins σ H' s'/\Vals vs us/\Q vs H'
def SP(X:Cx)(pins:List (Addr×Obj))(D:Ends)(f:Flow)(s':Shared):Prop :=
 match f with
 | .next=>∃ σ' H',Inv X pins σ' H' s'/\D.nx σ' H'
 | .brk=>∃ σ' H',Inv X pins σ' H' s'/\D.bk σ' H'
 | .cont=>∃ σ' H',Inv X pins σ' H' s'/\D.ct σ' H'
 | .ret u=>∃ v σ' H',Inv X pins σ' H' s'/\RelV v u/\D.rt v H'
def PE(X:Cx)(e:Expr)(t:TE):Prop :=
 ∀(pins:List (Addr×Obj)) (s:Shared) (σ:St) (H:Hp) (Q:VK),Inv X pins σ H s->t σ H Q->wpAny (model X.prog X.w) X.A (eval e X.env) (EP X pins σ Q) X.xe s
def PT(X:Cx)(e:Expr)(t:TT):Prop :=
 ∀(pins:List (Addr×Obj)) (s:Shared) (σ:St) (H:Hp) (Q:Bool->Hp->Prop),Inv X pins σ H s->t σ H Q->wpAny (model X.prog X.w) X.A (isTrue e X.env (eval e X.env)) (TP X pins σ Q) X.xe s
def PW(X:Cx)(e:Expr)(t:TT):Prop :=
 ∀(whole:Sem Value) (pins:List (Addr×Obj)) (s:Shared) (σ:St) (H:Hp) (Q:Bool->Hp->Prop),Inv X pins σ H s->t σ H Q->wpAny (model X.prog X.w) X.A (isTrue e X.env whole) (TP X pins σ Q) X.xe s
theorem PW.pt{X:Cx}{e:Expr}{t:TT}(h:PW X e t):PT X e t:=h _
def PA(X:Cx)(es:List Expr)(t:TA):Prop :=
 ∀(pos:Pos) (pins:List (Addr×Obj)) (s:Shared) (σ:St) (H:Hp) (Q:List V->Hp->Prop),Inv X pins σ H s->t σ H Q->wpAny (model X.prog X.w) X.A (spliced (backTo pos (starEach es X.env))) (AP X pins σ Q) X.xe s
def PS(X:Cx)(st:Stmt)(t:TS):Prop :=
 ∀(pins:List (Addr×Obj)) (s:Shared) (σ:St) (H:Hp) (D:Ends),Inv X pins σ H s->t D σ H->wpAny (model X.prog X.w) X.A (exec st X.env) (SP X pins D) X.xe s
def PSs(X:Cx)(st:List Stmt)(t:TS):Prop :=
 ∀(pins:List (Addr×Obj)) (s:Shared) (σ:St) (H:Hp) (D:Ends),Inv X pins σ H s->t D σ H->wpAny (model X.prog X.w) X.A (execs st X.env) (SP X pins D) X.xe s
theorem thn{α:Type}{t:Sem α}{Q Q':α->Shared->Prop}{M:Model}{A:Around}{E:Value->Shared->Prop}{s:Shared}(h:wpAny M A t Q E s)(hQ:∀ a s,Q a s->Q' a s):wpAny M A t Q' E s:=wpAny_mono h hQ λ_ _ x=>x
end L2
namespace L2
open PySem PySem.Spec PyProof.Rows
section
variable {X:Cx}
def tVar(i:Nat):TE:=λσ H Q=>∃ v,σ[i]?=some (some v)/\Q v H
def tC(v:V):TE:=λ_ H Q=>Q v H
theorem zc5{i:Nat}{x:Str}{pos:Pos}(hN:X.N[i]?=some x)(hv:Vis X.env.scope x)(hd:(x==("__debug__" : Str))=false:=by decide)(hcd:(x==("__classdict__" : Str))=false:=by decide):PE X (.Name x pos) (tVar i):=by
 intro pins s σ H Q I h;obtain⟨v,e,h⟩:=h;obtain⟨m,hn,hl⟩:=I.loc;obtain⟨u,r,l⟩:=hl i x v hN e hv;have fin:EP X pins σ Q u s:=⟨v,H,I,r,h⟩;rcases l with⟨hk,hm⟩|⟨hk,c,hc,hcell⟩
 · exact wpAny_Name (wpAny_loadName_local I.ok.kind hk hn hm fin) hd
 · rcases hk with hk|hk
   · exact wpAny_Name (wpAny_loadName_cell I.ok.kind hk hc hcell fin) hd
   · exact wpAny_Name (wpAny_loadName_free I.ok.kind hk hc hcell fin hcd) hd
theorem pe_int{i j pos}:PE X (.Constant (.int i) j pos) (tC (.int i)):=λ_ _ _ H _ I h=>wpAny_Constant_int ⟨.int i,H,I.tok _,⟨_,rfl⟩,h⟩
theorem pe_bl{b j pos}:PE X (.Constant (.bool b) j pos) (tC (.bl b)):=λ_ _ _ H _ I h=>Constant_bool ⟨.bl b,H,I,rfl,h⟩
def Gl(X:Cx)(x:Str):Prop:=X.env.kindOf x=some .globalImplicit
theorem zit{E:Value->Shared->Prop}{pins:List (Addr×Obj)}{s:Shared}{σ:St}{H:Hp}{x:Str}{u:Value}{pos:Pos}{Q:Value->Shared->Prop}(I:Inv X pins σ H s)(hg:Gl X x)(hm:X.mg x=some u)(h:Q u s)
  (hd:(x==("__debug__" : Str))=false:=by decide):wpAny (model X.prog X.w) X.A (eval (.Name x pos) X.env) Q E s :=
 Calls.Name_function_global I.ok.kind hg (Calls.loadGlobal_global (by rw[I.ok.glob];exact I.mod.glob.keeps I.bk) hm h) hd
theorem z4d{E:Value->Shared->Prop}{pins:List (Addr×Obj)}{s:Shared}{σ:St}{H:Hp}{x:Str}{u:Value}{pos:Pos}{Q:Value->Shared->Prop}(I:Inv X pins σ H s)(hg:Gl X x)(hm:X.mg x=none)(hv:bootBuiltins x=some u)(h:Q u s)
  (hn:x ≠ "__name__" := by decide) (hd:(x==("__debug__" : Str))=false:=by decide):wpAny (model X.prog X.w) X.A (eval (.Name x pos) X.env) Q E s:=by
 obtain⟨mb,h1,h2⟩:=I.mod.blt;exact Calls.Name_function_global I.ok.kind hg (Calls.loadGlobal_builtin (by rw[I.ok.glob];exact I.mod.glob.keeps I.bk) hm (by rw[I.ok.blt];exact h1.keeps I.bk) ((h2 x hn).trans hv) h) hd
theorem ziu{x:Str}{v:V}{u:Value}{pos:Pos}(hg:Gl X x)(hm:X.mg x=some u)(r:RelV v u)(hd:(x==("__debug__" : Str))=false:=by decide):PE X (.Name x pos) (tC v) :=
 λ_ _ _ H _ I h=>zit I hg hm ⟨v,H,I,r,h⟩ hd
theorem zo5{x:Str}{v:V}{u:Value}{pos:Pos}(hg:Gl X x)(hm:X.mg x=none)(hv:bootBuiltins x=some u)(r:RelV v u)(hn:x ≠ "__name__" := by decide)(hd:(x==("__debug__" : Str))=false:=by decide):PE X (.Name x pos) (tC v) :=
 λ_ _ _ H _ I h=>z4d I hg hm hv ⟨v,H,I,r,h⟩ hn hd
variable {a b:Expr}{ta tb:TE}{pos:Pos}
variable {tA tB':TT}{rest:List Expr}
def tOr(t u:TT):TT:=λσ H Q=>t σ H λc H1=>if c=true then Q true H1 else u σ H1 Q
def tNot(t:TT):TT:=λσ H Q=>t σ H λc H1=>Q (!c) H1
theorem pw_or1(ha:PT X a tA):PW X (.BoolOp .Or [a] pos) tA:=by
 intro wh pins s σ H Q I h;refine isTrue_or (thn (ha pins s σ H Q I h) λc s1 e=>?_);cases c with
 | false=>exact isTrue_or_nil e
 | true=>exact e
theorem pw_or(ha:PT X a tA)(hb:PW X (.BoolOp .Or (b::rest) pos) tB'):PW X (.BoolOp .Or (a::b::rest) pos) (tOr tA tB'):=by
 intro wh pins s σ H Q I h;refine isTrue_or (thn (ha pins s σ H _ I h) ?_);rintro c s1 ⟨H1,I1,q1⟩;cases c with
 | true=>exact⟨H1,I1,q1⟩
 | false=>exact hb wh pins s1 σ H1 Q I1 q1
theorem pt_not(ha:PT X a tA):PT X (.UnaryOp .Not a pos) (tNot tA):=by
 intro pins s σ H Q I h;exact isTrue_not (ha pins s σ H (λc H1=>Q (!c) H1) I h)
def tAndV(ta tb:TE):TE:=λσ H Q=>ta σ H λx H1=>∃ c,x = .bl c/\if c=true then tb σ H1 Q else Q (.bl false) H1
def tNotV(ta:TE):TE:=λσ H Q=>ta σ H λx H1=>∃ c,x = .bl c/\Q (.bl (!c)) H1
theorem pe_one{op}{t:TE}(h:PE X a t):PE X (.BoolOp op [a] pos) t:=λpins s σ H Q I hw=>BoolOp_one (h pins s σ H Q I hw)
theorem pe_and(ha:PE X a ta)(hb:PE X (.BoolOp .And (b::rest) pos) tb):PE X (.BoolOp .And (a::b::rest) pos) (tAndV ta tb):=by
 intro pins s σ H Q I h;refine BoolOp_and (thn (ha pins s σ H _ I h) ?_);rintro v s1 ⟨x,H1,I1,r1,q1⟩;obtain⟨c,rfl,q1⟩:=q1;cases r1;refine wpAny_truthy_bool ?_;cases c with
 | true=>exact hb pins s1 σ H1 Q I1 q1
 | false=>exact⟨.bl false,H1,I1,rfl,q1⟩
theorem pe_not(ha:PE X a ta):PE X (.UnaryOp .Not a pos) (tNotV ta):=by
 intro pins s σ H Q I h;refine UnaryOp_ (thn (ha pins s σ H _ I h) ?_);rintro v s1 ⟨x,H1,I1,r1,q1⟩;obtain⟨c,rfl,q1⟩:=q1;cases r1;exact not_of (wpAny_truthy_bool ⟨.bl (!c),H1,I1,rfl,q1⟩)
def tIf(t:TT)(ta tb:TE):TE:=λσ H Q=>t σ H λc H1=>if c=true then ta σ H1 Q else tb σ H1 Q
theorem zkl{c:Expr}(hc:PT X c tA)(ha:PE X a ta)(hb:PE X b tb):PE X (.IfExp c a b pos) (tIf tA ta tb):=by
 intro pins s σ H Q I h;refine wpAny_IfExp (thn (hc pins s σ H _ I h) ?_);rintro d s1 ⟨H1,I1,q1⟩;cases d with
 | true=>exact ha pins s1 σ H1 Q I1 q1
 | false=>exact hb pins s1 σ H1 Q I1 q1
end
end L2
namespace L2
open PySem PySem.Spec PyProof.Rows
def SqL(K:PySem.W.Frag)(H:Hp)(a:Addr)(xs:List V):Prop :=
 Rd H a (.lst xs) \/
  ∃(o:Obj) (its:Array Value) (n:Nat),K.lookup a=some o/\o.cls = .type "list" /\ o.dict=none/\o.data = .seq its n/\its.size<=sizeLine/\Vals xs its.toList
def SqT(K:PySem.W.Frag)(H:Hp)(a:Addr)(xs:List V):Prop :=
 Rd H a (.tup xs) \/
  ∃(o:Obj) (its:Array Value) (n:Nat),K.lookup a=some o/\o.cls = .type "tuple" /\ o.data = .seq its n/\its.size<=sizeLine/\Vals xs its.toList
def absV:Value->Option V
 | .none=>some .non
 | .bool b=>some (.bl b)
 | .int i _=>some (.int i)
 | .str x _=>some (.str x)
 | .bytes b _=>some (.byt b)
 | .float b _=>some (.flt b)
 | .ref a=>some (.ref a)
 | .type n=>some (.ty n)
 | _=>none
theorem RelV.abs{x:V}{u:Value}(r:RelV x u):absV u=some x:=by
 cases x with
 | non=>cases r;rfl
 | bl _=>cases r;rfl
 | int _=>obtain⟨t,rfl⟩:=r;rfl
 | str _=>obtain⟨t,rfl⟩:=r;rfl
 | byt _=>obtain⟨t,rfl⟩:=r;rfl
 | flt _=>obtain⟨t,rfl⟩:=r;rfl
 | ref _=>cases r;rfl
 | ty _=>cases r;rfl
theorem RelV.inj{x y:V}{u:Value}(r:RelV x u)(q:RelV y u):x=y:=Option.some.inj (r.abs.symm.trans q.abs)
theorem Vals.inj:∀{xs ys:List V} {us:List Value},Vals xs us->Vals ys us->xs=ys
 | _,_,_,.nil,.nil=>rfl
 | _,_,_,.cons r t,.cons r' t'=>by rw[r.inj r',Vals.inj t t']
section
variable {X:Cx}{pins:List (Addr×Obj)}{σ:St}{H:Hp}{s:Shared}{a:Addr}{xs ys:List V}
theorem SqL.of{K:PySem.W.Frag}(h:H a=some (.lst xs)):SqL K H a xs := .inl (.inl h)
theorem SqT.of{K:PySem.W.Frag}(h:H a=some (.tup xs)):SqT K H a xs := .inl (.inl h)
theorem Inv.list(I:Inv X pins σ H s)(h:SqL X.K H a xs):∃ its:List Value,Vals xs its/\PlainL s.heap a its.toArray/\xs.length<=sizeLine:=by
 rcases h with h|⟨o,its,n,hk,hc,hd,hs,hz,r⟩
 · obtain⟨z,its,n,r,e⟩:=h.ok I.hok;exact⟨its,r,⟨_,n,e,rfl,rfl,rfl⟩,z⟩
 · refine⟨its.toList,r,⟨o,n,I.kIn a o hk,hc,hd,by simpa using hs⟩,?_⟩;have e:=r.length;simp only[Array.length_toList]at e;rfl'
theorem Inv.tuple(I:Inv X pins σ H s)(h:SqT X.K H a xs):∃ its:List Value,Vals xs its/\IsTup s.heap a its.toArray/\xs.length<=sizeLine:=by
 rcases h with h|⟨o,its,n,hk,hc,hs,hz,r⟩
 · obtain⟨z,its,r,p⟩:=h.ok I.hok;exact⟨its,r,p,z⟩
 · refine⟨its.toList,r,⟨o,I.kIn a o hk,hc,n,by simpa using hs⟩,?_⟩;have e:=r.length;simp only[Array.length_toList]at e;rfl'
theorem Inv.list_inj(I:Inv X pins σ H s)(h:SqL X.K H a xs)(h':SqL X.K H a ys):xs=ys:=by
 obtain⟨its,r,⟨o,n,e,_,_,d⟩,_⟩:=I.list h;obtain⟨its',r',⟨o',n',e',_,_,d'⟩,_⟩:=I.list h';rw[e]at e';cases e';rw[d]at d';injection d' with d1 _
 have:its=its':=by simpa using congrArg Array.toList d1
 subst this;exact r.inj r'
theorem Inv.tuple_inj(I:Inv X pins σ H s)(h:SqT X.K H a xs)(h':SqT X.K H a ys):xs=ys:=by
 obtain⟨its,r,⟨o,e,_,n,d⟩,_⟩:=I.tuple h;obtain⟨its',r',⟨o',e',_,n',d'⟩,_⟩:=I.tuple h';rw[e]at e';cases e';rw[d]at d';injection d' with d1 _
 have:its=its':=by simpa using congrArg Array.toList d1
 subst this;exact r.inj r'
end
abbrev Cx.wish(X:Cx)(E:Value->Shared->Prop):Cx:={ X with xe:=E }
abbrev Cx.nox(X:Cx):Cx:=X.wish λ_ _=>False
theorem Cx.Ok.wish{X:Cx}(ok:X.Ok)(E:Value->Shared->Prop):(X.wish E).Ok :=
 ⟨ok.mod,ok.kind,ok.glob,ok.blt,ok.above,ok.inj,ok.has,ok.cab,ok.hd,ok.frames,ok.stk,ok.exf,ok.bs,ok.bsz,ok.noex,ok.exfs,ok.funs,ok.frf⟩
theorem Cx.Ok.unwish{X:Cx}{E:Value->Shared->Prop}(ok:(X.wish E).Ok):X.Ok :=
 ⟨ok.mod,ok.kind,ok.glob,ok.blt,ok.above,ok.inj,ok.has,ok.cab,ok.hd,ok.frames,ok.stk,ok.exf,ok.bs,ok.bsz,ok.noex,ok.exfs,ok.funs,ok.frf⟩
section
variable {X:Cx}{pins:List (Addr×Obj)}{σ:St}{H:Hp}{s:Shared}{E:Value->Shared->Prop}
theorem Inv.wish(I:Inv X pins σ H s)(E:Value->Shared->Prop):Inv (X.wish E) pins σ H s:=⟨I.ok.wish E,I.os,I.bare,I.base,I.loc,I.cell,I.free,I.freeC,I.pin,I.hok,I.len⟩
theorem Inv.unwish(I:Inv (X.wish E) pins σ H s):Inv X pins σ H s:=⟨I.ok.unwish,I.os,I.bare,I.base,I.loc,I.cell,I.free,I.freeC,I.pin,I.hok,I.len⟩
theorem SP.unwish{D:Ends}{f:Flow}{s':Shared}(h:SP (X.wish E) pins D f s'):SP X pins D f s':=by
 cases f with
 | next=>obtain⟨σ',H',I,q⟩:=h;exact⟨σ',H',I.unwish,q⟩
 | brk=>obtain⟨σ',H',I,q⟩:=h;exact⟨σ',H',I.unwish,q⟩
 | cont=>obtain⟨σ',H',I,q⟩:=h;exact⟨σ',H',I.unwish,q⟩
 | ret u=>obtain⟨v,σ',H',I,r,q⟩:=h;exact⟨v,σ',H',I.unwish,r,q⟩
theorem PE.nox{e:Expr}{t:TE}(h:PE X.nox e t):PE X e t:=λpins s σ H Q I hw =>
 wpAny_mono (h pins s σ H Q (I.wish _) hw) (λ_ _⟨v,H',I',r,q⟩=>⟨v,H',I'.unwish,r,q⟩) λ_ _ z=>False.elim z
theorem PT.nox{e:Expr}{t:TT}(h:PT X.nox e t):PT X e t:=λpins s σ H Q I hw =>
 wpAny_mono (h pins s σ H Q (I.wish _) hw) (λ_ _⟨H',I',q⟩=>⟨H',I'.unwish,q⟩) λ_ _ z=>False.elim z
theorem PSs.nox{st:List Stmt}{t:TS}(h:PSs X.nox st t):PSs X st t:=λpins s σ H D I hw =>
 wpAny_mono (h pins s σ H D (I.wish _) hw) (λ_ _ q=>q.unwish) λ_ _ z=>False.elim z
end
section
variable {X:Cx}{st:Stmt}{rest:List Stmt}{t u:TS}{e:Expr}{te:TE}{pos:Pos}
def tNext:TS:=λD σ H=>D.nx σ H
def tSeq(t u:TS):TS:=λD σ H=>t { D with nx:=u D } σ H
theorem zo6:PSs X [] tNext:=λ_ _ σ H _ I h=>wpAny_execs_nil ⟨σ,H,I,h⟩
theorem zkm(h1:PS X st t)(h2:PSs X rest u):PSs X (st::rest) (tSeq t u):=by
 intro pins s σ H D I h;refine wpAny_execs_cons (thn (h1 pins s σ H { D with nx:=u D } I h) λf s1 q=>?_);cases f with
 | next =>
  obtain⟨σ',H',I',q⟩:=q;exact h2 pins s1 σ' H' D I' q
 | ret v=>exact q
 | brk=>exact q
 | cont=>exact q
theorem zo7(h1:PS X st t):PSs X [st] t:=by
 intro pins s σ H D I h;refine wpAny_execs_cons (thn (h1 pins s σ H D I h) λf s1 q=>?_);cases f with
 | next=>exact wpAny_execs_nil q
 | ret v=>exact q
 | brk=>exact q
 | cont=>exact q
theorem Inv.quiet{pins:List (Addr×Obj)}{σ:St}{H:Hp}{s:Shared}(I:Inv X pins σ H s):interactive X.env=false:=by simp[interactive,I.ok.kind]
def tDrop(te:TE):TS:=λD σ H=>te σ H λ_ H1=>D.nx σ H1
theorem zc6(he:PE X e te)(hs:swapsWith e none pos.line X.env=pure false:=by rfl):PS X (.Expr e pos) (tDrop te):=by
 intro pins s σ H D I h;exact wpAny_Expr_any (thn (he pins s σ H _ I h) λv s1⟨x,H1,I1,r1,q1⟩=>⟨σ,H1,I1,q1⟩) I.quiet hs
def tRet(te:TE):TS:=λD σ H=>te σ H D.rt
theorem ps_ret(he:PE X e te):PS X (.Return (some e) pos) (tRet te):=by
 intro pins s σ H D I h;exact wpAny_Return_some (thn (he pins s σ H _ I h) λv s1⟨x,H1,I1,r1,q1⟩=>⟨x,σ,H1,I1,r1,q1⟩)
def tIfS(c:TT)(t u:TS):TS:=λD σ H=>c σ H λb H1=>if b=true then t D σ H1 else u D σ H1
theorem ps_if{c:Expr}{a b:List Stmt}{tc:TT}(hc:PT X c tc)(ha:PSs X a t)(hb:PSs X b u):PS X (.If c a b pos) (tIfS tc t u):=by
 intro pins s σ H D I h;refine wpAny_If (thn (hc pins s σ H _ I h) ?_);rintro d s1 ⟨H1,I1,q1⟩;cases d with
 | true=>exact ha pins s1 σ H1 D I1 q1
 | false=>exact hb pins s1 σ H1 D I1 q1
end
abbrev TG:=V->St->Hp->(St->Hp->Prop)->Prop
abbrev TGs:=List V->St->Hp->(St->Hp->Prop)->Prop
def PG(X:Cx)(target:Expr)(t:TG):Prop :=
 ∀(pins:List (Addr×Obj)) (s:Shared) (σ:St) (H:Hp) (v:V) (u:Value) (Q:St->Hp->Prop),Inv X pins σ H s->RelV v u->t v σ H Q ->
  wpAny (model X.prog X.w) X.A (assign target X.env u) (λ_ s'=>∃ σ' H',Inv X pins σ' H' s'/\Q σ' H') X.xe s
def PGs(X:Cx)(ts:List Expr)(t:TGs):Prop :=
 ∀(pins:List (Addr×Obj)) (s:Shared) (σ:St) (H:Hp) (vs:List V) (us:List Value) (Q:St->Hp->Prop),Inv X pins σ H s->Vals vs us->t vs σ H Q ->
  wpAny (model X.prog X.w) X.A (assignInOrder ((assignEach ts X.env).map (·.2)) us) (λ_ s'=>∃ σ' H',Inv X pins σ' H' s'/\Q σ' H') X.xe s
abbrev TSet:=V->V->V->Hp->(Hp->Prop)->Prop
def PSet(X:Cx)(t:TSet):Prop :=
 ∀(pins:List (Addr×Obj)) (s:Shared) (σ:St) (H:Hp) (o i v:V) (ov iv u:Value) (Q:Hp->Prop),Inv X pins σ H s->RelV o ov->RelV i iv->RelV v u->t o i v H Q ->
  wpAny (model X.prog X.w) X.A (setItem ov iv u) (λ_ s'=>∃ H',Inv X pins σ H' s'/\Q H') X.xe s
section
variable {X:Cx}{pos:Pos}
def z9a(i:Nat):TG:=λv σ H Q=>Q (σ.set i (some v)) H
theorem z0t{i:Nat}{x:Str}(hN:X.N.Nodup)(hi:X.N[i]?=some x)(hx:Loc X.env.scope x)(hf:X.fn x=true\/X.env.scope.names.lookup x=some .local:=by first|exact .inl rfl|exact .inr rfl|assumption):PG X (.Name x pos) (z9a i):=by
 intro pins s σ H v u Q I r h;exact wpAny_assign_Name (zd I hN hi hx r (λs' I'=>⟨_,H,I',h⟩) hf)
def gNil:TGs:=λvs σ H Q=>vs=[]/\Q σ H
def gCons(t:TG)(u:TGs):TGs:=λvs σ H Q=>∃ v r,vs=v::r/\t v σ H λσ' H'=>u r σ' H' Q
theorem zo8:PGs X [] gNil:=by
 intro pins s σ H vs us Q I r h;obtain⟨e,h⟩:=h;subst e;cases r;exact assignInOrder_nil ⟨σ,H,I,h⟩
theorem zkn{e:Expr}{es:List Expr}{t:TG}{u:TGs}(h1:PG X e t)(h2:PGs X es u)
  (hs:(assignEach (e::es) X.env).map (·.2)=assign e X.env::(assignEach es X.env).map (·.2):=by rfl):PGs X (e::es) (gCons t u):=by
 intro pins s σ H vs us Q I r h;obtain⟨v,vr,e1,h⟩:=h;subst e1;cases r with
 | cons r rr =>
  rw[hs];refine assignInOrder_cons (thn (h1 pins s σ H _ _ _ I r h) ?_);rintro _ s1 ⟨σ1,H1,I1,q1⟩;exact h2 pins s1 σ1 H1 _ _ Q I1 rr q1
def gTup(K:PySem.W.Frag)(n:Nat)(t:TGs):TG:=λv σ H Q=>∃ a xs,v = .ref a/\SqT K H a xs/\xs.length=n/\t xs σ H Q
theorem pg_tup{es:List Expr}{k:Nat}{t:TGs}{n:Nat}(hc:X.calm=true)(h:PGs X es t)
  (hn:(assignEach es X.env).length=n:=by rfl) (hst:(assignEach es X.env).findIdx? (·.1)=none:=by rfl):PG X (.Tuple es k pos) (gTup X.K n t):=by
 intro pins s σ H v u Q I r hw;obtain⟨a,xs,e1,hq,hl,hw⟩:=hw;subst e1;cases r;obtain⟨its,rv,ht,hz⟩:=I.tuple hq;refine assign_Tuple_tuple (I.ok.hd hc) ht (by simp[hn,←hl,rv.length]) hst λh' hx=>?_;have I1:Inv X pins σ H { s with heap:=h' }:=I.kept (t':=s.toks) λb o e=>hx b o (wV (ww e)) e;exact h pins _ σ H xs _ Q I1 (by simpa using rv) hw
def gSub(to ti:TE)(t:TSet):TG:=λv σ H Q=>to σ H λo H1=>ti σ H1 λi H2=>t o i v H2 λH3=>Q σ H3
theorem pg_sub{o i:Expr}{to ti:TE}{t:TSet}(ho:PE X o to)(hi:PE X i ti)(hs:PSet X t)
  (ha:∀ v,assign (.Subscript o i pos) X.env v=(do
   let ov ←holding [v] (eval o X.env);let iv ←holding [v,ov] (eval i X.env)
   standAt pos
   holding [v,ov,iv] (setItem ov iv v)
   release [v,ov,iv] []):=by intro _;rfl):PG X (.Subscript o i pos) (gSub to ti t):=by
 intro pins s σ H v u Q I r h;rw[ha];refine wpAny_bind (wpAny_holding (thn (ho pins s σ H _ I h) ?_));rintro ov s1 ⟨x,H1,I1,r1,q1⟩;refine wpAny_bind (wpAny_holding (thn (hi pins s1 σ H1 _ I1 q1) ?_));rintro iv s2 ⟨y,H2,I2,r2,q2⟩;refine wpAny_bind (wpAny_standAt (wpAny_bind (wpAny_holding (thn (hs pins s2 σ H2 x y v ov iv u _ I2 r1 r2 r q2) ?_))));rintro _ s3 ⟨H3,I3,q3⟩;exact wpAny_release ⟨σ,H3,I3,q3⟩
def tAsg(te:TE)(g:TG):TS:=λD σ H=>te σ H λx H1=>g x σ H1 D.nx
theorem ps_asg{tg e:Expr}{te:TE}{g:TG}(he:PE X e te)(hg:PG X tg g)(hs:swapsWithSole [tg] e pos.line X.env=pure false:=by rfl)(hw:swappedStores [tg] e X.env=pure none:=by rfl)
  (h1:(assignEach [tg] X.env).map (·.2)=[assign tg X.env]:=by rfl):PS X (.Assign [tg] e pos) (tAsg te g):=by
 intro pins s σ H D I h;refine wpAny_Assign_stores (thn (he pins s σ H _ I h) λv s1⟨x,H1,I1,r1,q1⟩=>?_) hs hw;rw[h1];exact thn (hg pins s1 σ H1 x v _ I1 r1 q1) λ_ s2 q=>q
theorem ps_set{i:Nat}{x:Str}{e:Expr}{te:TE}{pos':Pos}(hN:X.N.Nodup)(hi:X.N[i]?=some x)(hx:Loc X.env.scope x)(he:PE X e te)(hs:swapsWith e (some (.Name x pos')) pos.line X.env=pure false:=by rfl)(hf:X.fn x=true\/X.env.scope.names.lookup x=some .local:=by first|exact .inl rfl|exact .inr rfl|assumption):
  PS X (.Assign [.Name x pos'] e pos) (tAsg te (z9a i)):=by
 intro pins s σ H D I h;refine wpAny_Assign_Name (thn (he pins s σ H _ I h) λv s1⟨y,H1,I1,r1,q1⟩=>?_) hs;exact zd I1 hN hi hx r1 (λs2 I2=>⟨_,H1,I2,q1⟩) hf
end
section
variable {X:Cx}{pos:Pos}
def tWhile(c:TT)(tb:TS):TS:=λD σ H=>∃ W:Nat->St->Hp->Prop,(∃ m,W m σ H)/\∀ m σ H,W m σ H ->
 c σ H λb H1=>if b=true then ∃ N:St->Hp->Prop,(∀ σ' H',N σ' H'->∃ m',m'<m/\W m' σ' H')/\tb { D with nx:=N,ct:=N,bk:=D.nx } σ H1 else D.nx σ H1
theorem zko{c:Expr}{body:List Stmt}{tc:TT}{tb:TS}(hp:PassesOwn (model X.prog X.w) X.A X.env X.xe)(hc:PT X c tc)(hb:PSs X body tb):PS X (.While c body [] pos) (tWhile tc tb):=by
 intro pins s σ H D I h;obtain⟨W,⟨m0,w0⟩,turn⟩:=h;refine wpAny_While (codeAny_whileLoop (λn s'=>∃ σ' H',Inv X pins σ' H' s'/\W n σ' H') ?_ m0 ⟨σ,H,I,w0⟩);rintro n s1 ⟨σ1,H1,I1,w1⟩;refine wpAny_passesOwn hp (thn (hc pins s1 σ1 H1 _ I1 (turn n σ1 H1 w1)) ?_);rintro b s2 ⟨H2,I2,q2⟩;cases b with
 | true =>
  obtain⟨N,hN,q2⟩:=q2;rw[if_pos rfl];refine wpAny_passesOwn hp (thn (hb pins s2 σ1 H2 _ I2 q2) λf s3 q3=>?_);cases f with
  | next =>
   obtain⟨σ3,H3,I3,n3⟩:=q3;obtain⟨m',hm,w3⟩:=hN σ3 H3 n3;exact⟨m',hm,σ3,H3,I3,w3⟩
  | cont =>
   obtain⟨σ3,H3,I3,n3⟩:=q3;obtain⟨m',hm,w3⟩:=hN σ3 H3 n3;exact⟨m',hm,σ3,H3,I3,w3⟩
  | brk=>exact q3
  | ret v=>exact q3
 | false =>
  rw[if_neg wX];exact wpAny_execs_nil ⟨σ1,H2,I2,q2⟩
end
structure It where
 go:Nat->Hp->Prop
 yld:Nat->Hp->V->Hp->Prop
 stop:Nat->Hp->Prop
def FpOk(X:Cx)(pins:List (Addr×Obj))(H:Hp)(b:Addr):Prop :=
 H b=none/\b≠X.env.locals/\b ∉ X.fs/\(b∈X.ex\/X.s₀.heap.objs.size<=b)/\(∀ x c,X.env.cells.lookup x=some c->c≠b)/\∀ p∈X.pn++pins,p.1≠b
theorem Inv.fpOk{X:Cx}{pins:List (Addr×Obj)}{σ:St}{H H':Hp}{s:Shared}{b:Addr}(I:Inv X pins σ H s)(hb:s.heap.objs.size<=b)(hn:H' b=none):FpOk X pins H' b:=by
 refine⟨hn,vi (wD I.lt hb),I.nofs hb,.inr (wG I.sz hb),λx c e z=>?_,λp hp z=>?_⟩
 · obtain⟨v,q⟩:=I.cell x c e;exact absurd (wD q.lt (by rw[z];exact hb)) (Wp _)
 · exact absurd (wD (ww (I.pin p hp).1) (by rw[z];exact hb)) (Wp _)
structure Turn(P:Program)(w:World)(K:PySem.W.Frag)(tg:Expr)(J:It)(fp:List Addr)(it:Addr)(tn:Nat->Heap->Prop):Prop where
 mem:it∈fp
 obj:∀ i h,tn i h->∀ b∈fp,∃ o,h.get? b=some o/\∀ v,o.data ≠ .cell v
 keep:∀ i h h',tn i h->(∀ b∈fp,∀ o,h.get? b=some o->h'.get? b=some o)->tn i h'
 item:∀(X:Cx),X.prog=P->X.w=w->X.K=K->X.calm=true->∀(i:Nat) (pins:List (Addr×Obj)) (s:Shared) (σ:St) (H:Hp) (E:Value->Shared->Prop),Inv X pins σ H s->(∀ b∈fp,FpOk X pins H b)->tn i s.heap->J.go i H ->
  wpAny (model P w) X.A (pyNext (.ref it)) (λr s1=>∃ u,r=some u /\
   wpAny (model P w) X.A (letOwnedTupleGo tg (.ref it) u) (λ_ s2=>∃ x H',Inv X pins σ H' s2/\RelV x u/\J.yld i H x H'/\tn (i+1) s2.heap/\∀ b∈fp,H' b=none) E s1) E s
 done:∀(X:Cx),X.prog=P->X.w=w->X.K=K->X.calm=true->∀(i:Nat) (pins:List (Addr×Obj)) (s:Shared) (σ:St) (H:Hp) (E:Value->Shared->Prop),Inv X pins σ H s->(∀ b∈fp,FpOk X pins H b)->tn i s.heap->J.stop i H ->
  wpAny (model P w) X.A (pyNext (.ref it)) (λr s1=>r=none/\Inv X pins σ H s1) E s
 self:∀(A:Around) (i:Nat) (s:Shared) (Q:Value->Shared->Prop) (E:Value->Shared->Prop),tn i s.heap->Q (.ref it) s->wpAny (model P w) A (pyIter (.ref it)) Q E s
abbrev TI:=St->Hp->(It->Hp->Prop)->Prop
def PIE(X:Cx)(pins:List (Addr×Obj))(σ:St)(tg:Expr)(R:It->Hp->Prop)(itv:Value)(s2:Shared):Prop :=
 ∃(it:Addr) (fp:List Addr) (tn:Nat->Heap->Prop) (J:It) (H':Hp),itv = .ref it/\Inv X pins σ H' s2/\Turn X.prog X.w X.K tg J fp it tn/\tn 0 s2.heap/\(∀ b∈fp,FpOk X pins H' b)/\R J H'
def PI(X:Cx)(tg iter:Expr)(wi:TI):Prop :=
 ∀(pins:List (Addr×Obj)) (s:Shared) (σ:St) (H:Hp) (R:It->Hp->Prop),Inv X pins σ H s->wi σ H R ->
  wpAny (model X.prog X.w) X.A (eval iter X.env) (λv s1=>wpAny (model X.prog X.w) X.A (pyIter v) (PIE X pins σ tg R) X.xe s1) X.xe s
theorem ziv{M:Model}{A:Around}{E:Value→Shared→Prop}{s:Shared}{tg:Expr}{it:Addr}{u:Value}{o:Obj}{n:String}{vs:Array Value}{Q:Unit→Shared→Prop}(ho:s.heap.get? it=some o)(hc:o.cls = .type n)(hd:o.data = .fields vs)
    (hn:["enumerate", "zip", "dict_itemiterator", "dict_reverseitemiterator", "odict_iterator", "itertools.zip_longest", "itertools.pairwise"].contains n=false) (hQ:Q () s):wpAny M A (letOwnedTupleGo tg (.ref it) u) Q E s:=by
  unfold letOwnedTupleGo
  cases tg<;>first
    | exact wpAny_pure hQ
    | (cases u<;>first
        | exact wpAny_pure hQ
        | (refine wpAny_bind (wpAny_load ho ?_)
           rw[hc,hd];show wpAny M A (if(["enumerate", "zip", "dict_itemiterator", "dict_reverseitemiterator", "odict_iterator", "itertools.zip_longest", "itertools.pairwise"].contains n&&vs[0]?==some (rawInt _))=true then _ else _) Q E s;rw[if_neg (by intro h;rw[hn,Bool.false_and]at h;cases h)];exact wpAny_pure hQ))
def Itl(K:PySem.W.Frag)(a:Addr):It :=
 ⟨λi H=>∃ xs x,SqL K H a xs/\xs[i]?=some x,λi H x H'=>H'=H/\∀ xs,SqL K H a xs->xs[i]?=some x,λi H=>∃ xs,SqL K H a xs/\xs.length<=i⟩
def Itt(K:PySem.W.Frag)(a:Addr):It :=
 ⟨λi H=>∃ xs x,SqT K H a xs/\xs[i]?=some x,λi H x H'=>H'=H/\∀ xs,SqT K H a xs->xs[i]?=some x,λi H=>∃ xs,SqT K H a xs/\xs.length<=i⟩
def Itr(lo:Int)(n:Nat):It:=⟨λi _=>i<n,λi H x H'=>H'=H/\x = .int (lo+i),λi _=>n<=i⟩
theorem zju{P:Program}{w:World}{K:PySem.W.Frag}{tg:Expr}(a it:Addr):Turn P w K tg (Itl K a) [it] it (λi h=>h.IsListIter it a i) where
 mem:=by simp
 obj:=λi h st b hb=>by
  have e:b=it:=by simpa using hb
  subst e;obtain⟨o,e,c,d⟩:=st;exact⟨o,e,λv z=>by rw[d]at z;cases z⟩
 keep:=λi h h' st k=>st.at λo e=>k it (by simp) o e
 item:=by
  intro X hP hw hK hc i pins s σ H E I hf st hg;subst hP hw hK;obtain⟨xs,x,hq,hx⟩:=hg;obtain⟨its,rv,p,hz⟩:=I.list hq;obtain⟨u,hu,ru⟩:=rv.get hx;obtain⟨f0,f1,f2,f3,f4,f5⟩:=hf it (by simp);refine wpAny_pyNext_list_item st p.isList (x:=u) (by simpa using hu) λh' st' sb=>?_;have I1:Inv X pins σ H { s with heap:=h' }:=I.turned (t':=s.toks) (λb o hb e=>(sb.2 b hb).trans e) f0 f1 f3 f4 f5;obtain⟨o,e,c,d⟩:=id st';exact⟨u,rfl,ziv (s:={ s with heap:=h' }) e c d (by decide) ⟨x,H,I1,ru,⟨rfl,λys hy=>by rw[I.list_inj hy hq];exact hx⟩,st',λb hb=>(hf b hb).1⟩⟩
 done:=by
  intro X hP hw hK hc i pins s σ H E I hf st hg;subst hP hw hK;obtain⟨xs,hq,hx⟩:=hg;obtain⟨its,rv,p,hz⟩:=I.list hq;obtain⟨f0,f1,f2,f3,f4,f5⟩:=hf it (by simp);have hl:=rv.length;exact wpAny_pyNext_list_end (I.ok.hd hc) st p.isList (by simp;rfl') λh' eb=>⟨rfl,I.turned (t':=s.toks) (λb o hb e=>eb b o hb e) f0 f1 f3 f4 f5⟩
 self:=λ_ _ _ _ _ st h=>wpAny_pyIter_listiter st h
theorem zek{P:Program}{w:World}{K:PySem.W.Frag}{tg:Expr}(a it:Addr):Turn P w K tg (Itt K a) [it] it (λi h=>h.IsTupleIter it a i) where
 mem:=by simp
 obj:=λi h st b hb=>by
  have e:b=it:=by simpa using hb
  subst e;obtain⟨o,e,c,d⟩:=st;exact⟨o,e,λv z=>by rw[d]at z;cases z⟩
 keep:=λi h h' st k=>st.at λo e=>k it (by simp) o e
 item:=by
  intro X hP hw hK hc i pins s σ H E I hf st hg;subst hP hw hK;obtain⟨xs,x,hq,hx⟩:=hg;obtain⟨its,rv,p,hz⟩:=I.tuple hq;obtain⟨u,hu,ru⟩:=rv.get hx;obtain⟨f0,f1,f2,f3,f4,f5⟩:=hf it (by simp);refine wpAny_pyNext_tuple_item st (show s.heap.IsTuple a its.toArray from p) (x:=u) (by simpa using hu) λh' st' sb=>?_;have I1:Inv X pins σ H { s with heap:=h' }:=I.turned (t':=s.toks) (λb o hb e=>(sb.2 b hb).trans e) f0 f1 f3 f4 f5;obtain⟨o,e,c,d⟩:=id st';exact⟨u,rfl,ziv (s:={ s with heap:=h' }) e c d (by decide) ⟨x,H,I1,ru,⟨rfl,λys hy=>by rw[I.tuple_inj hy hq];exact hx⟩,st',λb hb=>(hf b hb).1⟩⟩
 done:=by
  intro X hP hw hK hc i pins s σ H E I hf st hg;subst hP hw hK;obtain⟨xs,hq,hx⟩:=hg;obtain⟨its,rv,p,hz⟩:=I.tuple hq;obtain⟨f0,f1,f2,f3,f4,f5⟩:=hf it (by simp);have hl:=rv.length;exact wpAny_pyNext_tuple_end (I.ok.hd hc) st (show s.heap.IsTuple a its.toArray from p) (by simp;rfl') λh' eb=>⟨rfl,I.turned (t':=s.toks) (λb o hb e=>eb b o hb e) f0 f1 f3 f4 f5⟩
 self:=λ_ _ _ _ _ st h=>wpAny_pyIter_tupleiter st h
theorem zel{P:Program}{w:World}{K:PySem.W.Frag}{tg:Expr}(it:Addr)(lo:Int)(n:Nat):Turn P w K tg (Itr lo n) [it] it (λi h=>IsRangeIter h it (lo+(i:Nat)*1) ((n:Int)-(i:Nat)) 1) where
 mem:=by simp
 obj:=λi h st b hb=>by
  have e:b=it:=by simpa using hb
  subst e;exact⟨_,st,λv z=>by
   have z':Data.fields _=Data.cell v:=z;cases z'⟩
 keep:=λi h h' st k=>k it (by simp) _ st
 item:=by
  intro X hP hw hK hc i pins s σ H E I hf st hg;subst hP hw hK;obtain⟨f0,f1,f2,f3,f4,f5⟩:=hf it (by simp);have W:=Walks.range (prog:=X.prog) (w:=X.w) (I.ok.hd hc) it lo 1 n;refine W.item i s _ _ hg st λv h' tk hv st' kk=>?_;obtain⟨t,rfl⟩:=hv;have I1:Inv X pins σ H { s with heap:=h',toks:=tk }:=I.turned (λb o hb e=>kk b o (by simpa using hb) e) f0 f1 f3 f4 f5;refine⟨_,rfl,ziv (s:={ s with heap:=h',toks:=tk }) (n := "range_iterator") st' rfl rfl (by decide) ⟨.int (lo+i),H,I1,⟨t,?_⟩,⟨rfl,rfl⟩,st',λb hb=>(hf b hb).1⟩⟩;rw[vN]
 done:=by
  intro X hP hw hK hc i pins s σ H E I hf st hg;subst hP hw hK;obtain⟨f0,f1,f2,f3,f4,f5⟩:=hf it (by simp);exact wpAny_pyNext_range_end (I.ok.hd hc) st (by have:n<=i:=hg;rfl') λh' eb=>⟨rfl,I.turned (t':=s.toks) (λb o hb e=>eb b o hb e) f0 f1 f3 f4 f5⟩
 self:=λ_ _ _ _ _ st h=>wpAny_pyIter_rangeiter st h
end L2
namespace L2
open PySem PySem.Spec PyProof.Rows
section
variable {X:Cx}{tg:Expr}
theorem zd0{pins:List (Addr×Obj)}{σ:St}{H:Hp}{s:Shared}{R:It->Hp->Prop}{E:Value->Shared->Prop}{lo hi:Int}{t u v:Tok}{tk:Nat}(I:Inv X pins σ H s)(h1 : -(2 ^ 62)<=lo)(h2:lo<2 ^ 62)(h3 : -(2 ^ 62)<=hi)(h4:hi<2 ^ 62)
   (q:R (Itr lo (hi-lo).toNat) H):wpAny (model X.prog X.w) X.A (pyIter (.ref s.heap.objs.size)) (PIE X pins σ tg R) E { s with heap:=s.heap.push { cls := .type "range",data := .fields #[.int lo t,.int hi u,.int 1 v] },toks:=tk }:=by
 refine wpAny_pyIter_range (IsRange.new ..) (small_one h1 h2 h3 h4) ?_;have I1:Inv X pins σ H { s with heap:=s.heap.push { cls := .type "range",data := .fields #[.int lo t,.int hi u,.int 1 v] },toks:=tk }:=I.kept λb o e=>wd _ e;refine⟨(s.heap.push { cls := .type "range",data := .fields #[.int lo t,.int hi u,.int 1 v] }).objs.size,[(s.heap.push { cls := .type "range",data := .fields #[.int lo t,.int hi u,.int 1 v] }).objs.size],_,_,H,rfl,
   I1.kept (t':=tk) λb o e=>wd _ e,zel _ lo (hi-lo).toNat,?_,λb hb=>?_,q⟩
 · have e1:lo+((0:Nat):Int)*1=lo:=by simp
   have e2:(((hi-lo).toNat:Nat):Int)-((0:Nat):Int)=Builtin.Range.rangeSize lo hi 1:=by rw[rangeSize_one];split<;>rfl'
   show IsRangeIter _ _ (lo+((0:Nat):Int)*1) ((((hi-lo).toNat:Nat):Int)-((0:Nat):Int)) 1;rw[e1,e2];exact wy _ rfl
 · have e:b=(s.heap.push { cls := .type "range",data := .fields #[.int lo t,.int hi u,.int 1 v] }).objs.size:=by simpa using hb
   subst e;exact I1.fpOk (wx _) (I1.hok.fresh (wx _))
def iRng1(ta:TA):TI:=λσ H R=>ta σ H λvs H1=>∃ j:Int,vs=[.int j] /\ -(2 ^ 62)<=j/\j<2 ^ 62/\R (Itr 0 j.toNat) H1
def iRng2(ta:TA):TI:=λσ H R=>ta σ H λvs H1=>∃ i j:Int,vs=[.int i,.int j]/\(-(2 ^ 62)<=i/\i<2 ^ 62 /\ -(2 ^ 62)<=j/\j<2 ^ 62)/\R (Itr i (j-i).toNat) H1
theorem zaL{a:Expr}{ta:TA}{p pos:Pos}(hg:Gl X "range")(hm:X.mg "range" = none)(ha:PA X [a] ta)(hs:starEach [a] X.env=[(false,eval a X.env)]:=by rfl):PI X tg (.Call (.Name "range" p) [a] [] pos) (iRng1 ta):=by
 intro pins s σ H R I h;refine Call_ (z4d I hg hm boot_range (PyProof.Rows.callWith_type1 (thn (ha pos pins s σ H _ I h) λus s1⟨vs,H1,I1,r1,q1⟩=>?_) hs rfl));obtain⟨j,e,q1,q2,q⟩:=q1;subst e;cases r1 with
 | cons r rr =>
  cases rr;obtain⟨t,rfl⟩:=r;exact call_range_1 (zd0 I1 (by rfl') (by rfl') q1 q2 (by simpa using q))
theorem zjv{a b:Expr}{ta:TA}{p pos:Pos}(hg:Gl X "range")(hm:X.mg "range" = none)(ha:PA X [a,b] ta)(hs:starEach [a,b] X.env=[(false,eval a X.env),(false,eval b X.env)]:=by rfl)(hs2:starEach [b] X.env=[(false,eval b X.env)]:=by rfl):
  PI X tg (.Call (.Name "range" p) [a,b] [] pos) (iRng2 ta):=by
 intro pins s σ H R I h;refine Call_ (z4d I hg hm boot_range (PyProof.Rows.callWith_type1 (thn (ha pos pins s σ H _ I h) λus s1⟨vs,H1,I1,r1,q1⟩=>?_) (by rw[hs,hs2]) (by rw[hs2];rfl)));obtain⟨i,j,e,⟨q1,q2,q3,q4⟩,q⟩:=q1;subst e;cases r1 with
 | cons r rr =>
  cases rr with
  | cons r' rr =>
   cases rr;obtain⟨t,rfl⟩:=r;obtain⟨t',rfl⟩:=r';exact call_range_2 (zd0 I1 q1 q2 q3 q4 q)
def tFor(wi:TI)(g:TG)(tb:TS):TS:=λD σ H=>wi σ H λJ H1=>∃ W:Nat->Nat->St->Hp->Prop,(∃ m,W 0 m σ H1)/\∀ i m σ H,W i m σ H ->
 (J.stop i H/\D.nx σ H)\/(J.go i H/\∃ N:St->Hp->Prop,(∀ σ' H',N σ' H'->∃ m',m'<m/\W (i+1) m' σ' H')/\∀ x H',J.yld i H x H'->g x σ H' λσ2 H2=>tb { D with nx:=N,ct:=N,bk:=D.nx } σ2 H2)
def z9b(fp:List Addr)(h:Heap):List (Addr×Obj):=fp.filterMap λb=>(h.get? b).map λo=>(b,o)
theorem z4e{fp:List Addr}{h:Heap}{b:Addr}{o:Obj}(hb:b∈fp)(e:h.get? b=some o):(b,o)∈z9b fp h:=Wv.mpr ⟨b,hb,by rw[e];rfl⟩
theorem zjw{fp:List Addr}{h:Heap}{p:Addr×Obj}(hp:p∈z9b fp h):p.1∈fp/\h.get? p.1=some p.2:=by
 obtain⟨b,hb,e⟩:=Wv.mp hp;cases q:h.get? b with
 | none=>rw[q]at e;cases e
 | some o =>
  rw[q]at e;have e':(b,o)=p:=Option.some.inj e;subst e';exact⟨hb,q⟩
theorem Inv.pinned{pins:List (Addr×Obj)}{σ:St}{H:Hp}{s:Shared}{fp:List Addr}(I:Inv X pins σ H s)(hf:∀ b∈fp,FpOk X pins H b)(ho:∀ b∈fp,∃ o,s.heap.get? b=some o/\∀ v,o.data ≠ .cell v):Inv X (pins++z9b fp s.heap) σ H s :=
 I.pins_of λp hp=>(wq.mp hp).elim (λz=>I.pin p (wK _ z)) λz=>by
  obtain⟨hb,e⟩:=zjw z;obtain⟨f0,f1,f2,_⟩:=hf p.1 hb;obtain⟨o,e',d⟩:=ho p.1 hb;rw[e]at e';cases e';exact⟨e,f0,f1,f2,d⟩
theorem Inv.unpinned{pins pl:List (Addr×Obj)}{σ:St}{H:Hp}{s:Shared}(I:Inv X (pins++pl) σ H s):Inv X pins σ H s:=I.pins_of λp hp=>I.pin p (wK _ (WK _ hp))
theorem zkp{iter:Expr}{body:List Stmt}{wi:TI}{g:TG}{tb:TS}{pos:Pos}(hp:PassesOwn (model X.prog X.w) X.A X.env X.xe)(hc:X.calm=true)(hi:PI X tg iter wi)(hg:PG X tg g)(hb:PSs X body tb)
   (hs:∀ x,foldedSetIterable iter X.env x=pure x:=by intro _;rfl):PS X (.For tg iter body [] pos) (tFor wi g tb):=by
 intro pins s σ H D I h;refine wpAny_For (thn (hi pins s σ H _ I h) λv s1 h1=>thn h1 λitv s2 h2=>?_) hs;obtain⟨it,fp,tn,J,H2,e,I2,T,st2,f2,W,⟨m0,w0⟩,turn⟩:=h2;subst e;have stat:∀{H':Hp},(∀ b∈fp,H' b=none)->∀ b∈fp,FpOk X pins H' b:=λhn b hb=>⟨hn b hb,(f2 b hb).2⟩;refine codeAny_forLoop_any (λn s'=>∃ i σ' H',Inv X pins σ' H' s'/\tn i s'.heap/\(∀ b∈fp,H' b=none)/\W i n σ' H') ?_ m0 ⟨0,σ,H2,I2,st2,λb hb=>(f2 b hb).1,w0⟩;rintro n s3 ⟨i,σ3,H3,I3,st3,fr3,w3⟩;rcases turn i n σ3 H3 w3 with⟨stop,qn⟩|⟨go,N,hN,step⟩
 · refine wpAny_passesOwn hp (thn (T.done X rfl rfl rfl hc i pins s3 σ3 H3 X.xe I3 (stat fr3) st3 stop) ?_);rintro r s4 ⟨hr,I4⟩;subst hr;exact wpAny_execs_nil ⟨σ3,H3,I4,qn⟩
 · refine wpAny_passesOwn hp (thn (T.item X rfl rfl rfl hc i pins s3 σ3 H3 X.xe I3 (stat fr3) st3 go) ?_);rintro r s4 ⟨u,hr,h4⟩;subst hr;refine wpAny_passesOwn hp (thn h4 ?_);rintro _ s5 ⟨x,H5,I5,r5,y5,st5,fr5⟩;have I5':=I5.pinned (stat fr5) (T.obj _ _ st5);refine wpAny_passesOwn hp (thn (hg _ s5 σ3 H5 x u _ I5' r5 (step x H5 y5)) ?_);rintro _ s6 ⟨σ6,H6,I6,q6⟩;refine wpAny_passesOwn hp (thn (hb _ s6 σ6 H6 _ I6 q6) λf s7 q7=>?_);have again:∀{σ7:St} {H7:Hp},Inv X (pins++z9b fp s5.heap) σ7 H7 s7->N σ7 H7->∃ m,m<n/\∃ i σ' H',Inv X pins σ' H' s7/\tn i s7.heap/\(∀ b∈fp,H' b=none)/\W i m σ' H':=λ{σ7 H7} I7 n7=>by
    obtain⟨m',hm,w7⟩:=hN σ7 H7 n7;refine⟨m',hm,i+1,σ7,H7,I7.unpinned,T.keep _ _ _ st5 λb hb o e=>(I7.pin (b,o) (wK _ (wK _ (z4e hb e)))).1,λb hb=>?_,w7⟩;obtain⟨o,e,d⟩:=T.obj _ _ st5 b hb;exact(I7.pin (b,o) (wK _ (wK _ (z4e hb e)))).2.1
   cases f with
   | next=>obtain⟨σ7,H7,I7,n7⟩:=q7;exact again I7 n7
   | cont=>obtain⟨σ7,H7,I7,n7⟩:=q7;exact again I7 n7
   | brk=>obtain⟨σ7,H7,I7,q7⟩:=q7;exact⟨σ7,H7,I7.unpinned,q7⟩
   | ret v=>obtain⟨x7,σ7,H7,I7,r7,q7⟩:=q7;exact⟨x7,σ7,H7,I7.unpinned,r7,q7⟩
end
end L2
namespace L2
open PySem PySem.Spec PyProof.Rows
abbrev R2:=V->V->Hp->VK->Prop
def OpR(X:Cx)(f:Value->Value->Sem Value)(r:R2):Prop :=
 ∀(pins:List (Addr×Obj)) (s:Shared) (σ:St) (H:Hp) (x y:V) (v u:Value) (Q:VK),Inv X pins σ H s->RelV x v->RelV y u->r x y H Q ->
  wpAny (model X.prog X.w) X.A (f v u) (EP X pins σ Q) X.xe s
def UnR(X:Cx)(f:Value->Sem Value)(r:V->Hp->VK->Prop):Prop :=
 ∀(pins:List (Addr×Obj)) (s:Shared) (σ:St) (H:Hp) (x:V) (v:Value) (Q:VK),Inv X pins σ H s->RelV x v->r x H Q ->
  wpAny (model X.prog X.w) X.A (f v) (EP X pins σ Q) X.xe s
def CallR(X:Cx)(f:Value)(r:List V->Hp->VK->Prop):Prop :=
 ∀(pins:List (Addr×Obj)) (s:Shared) (σ:St) (H:Hp) (xs:List V) (us:List Value) (Q:VK),Inv X pins σ H s->Vals xs us->r xs H Q ->
  wpAny (model X.prog X.w) X.A (call f us) (EP X pins σ Q) X.xe s
def TruR(X:Cx)(r:V->Hp->(Bool->Hp->Prop)->Prop):Prop :=
 ∀(pins:List (Addr×Obj)) (s:Shared) (σ:St) (H:Hp) (x:V) (v:Value) (Q:Bool->Hp->Prop),Inv X pins σ H s->RelV x v->r x H Q ->
  wpAny (model X.prog X.w) X.A (truthy v) (TP X pins σ Q) X.xe s
def tOp(r:R2)(ta tb:TE):TE:=λσ H Q=>ta σ H λx H1=>tb σ H1 λy H2=>r x y H2 Q
def tUn(r:V->Hp->VK->Prop)(ta:TE):TE:=λσ H Q=>ta σ H λx H1=>r x H1 Q
def rI(C:Int->Int->Prop)(g:Int->Int->V):R2:=λx y H Q=>∃ i j,x = .int i/\y = .int j/\C i j/\Q (g i j) H
def rI0(g:Int->Int->V):R2:=λx y H Q=>∃ i j,x = .int i/\y = .int j/\Q (g i j) H
def rU(g:Int->V):V->Hp->VK->Prop:=λx H Q=>∃ i,x = .int i/\Q (g i) H
section
variable {X:Cx}{a b c:Expr}{ta tb tc:TE}{pos:Pos}
theorem binT(ha:PE X a ta)(hb:PE X b tb){pins:List (Addr×Obj)}{s:Shared}{σ:St}{H:Hp}{R:V->V->Hp->Prop}(I:Inv X pins σ H s)
  (h:ta σ H λx H1=>tb σ H1 λy H2=>R x y H2) {Q:Value->Shared->Prop} {f:Value->Value->Sem Value}
  (hf:∀ v u s2 x y H2,Inv X pins σ H2 s2->RelV x v->RelV y u->R x y H2->wpAny (model X.prog X.w) X.A (f v u) Q X.xe s2) :
  wpAny (model X.prog X.w) X.A (eval a X.env) (λv s₁=>wpAny (model X.prog X.w) X.A (eval b X.env) (λu s₂=>wpAny (model X.prog X.w) X.A (f v u) Q X.xe s₂) X.xe s₁) X.xe s:=by
 refine thn (ha pins s σ H _ I h) ?_;rintro v s1 ⟨x,H1,I1,r1,q1⟩;refine thn (hb pins s1 σ H1 _ I1 q1) ?_;rintro u s2 ⟨y,H2,I2,r2,q2⟩;exact hf v u s2 x y H2 I2 r1 r2 q2
theorem pe_op{op:Operator}{r:R2}(ho:OpR X (binaryOp op) r)(ha:PE X a ta)(hb:PE X b tb):PE X (.BinOp a op b pos) (tOp r ta tb):=by
 intro pins s σ H Q I h;exact wpAny_BinOp (binT ha hb I h λv u s2 x y H2 I2 rx ry q=>ho pins s2 σ H2 x y v u Q I2 rx ry q)
theorem pe_un{op:UnaryOp}{r:V->Hp->VK->Prop}(ho:UnR X (unaryOp op) r)(ha:PE X a ta):PE X (.UnaryOp op a pos) (tUn r ta):=by
 intro pins s σ H Q I h;exact UnaryOp_ (thn (ha pins s σ H _ I h) λv s1⟨x,H1,I1,r1,q1⟩=>ho pins s1 σ H1 x v Q I1 r1 q1)
theorem opI{f:Value->Value->Sem Value}{C:Int->Int->Prop}{g:Int->Int->Int}
  (rule:∀(i j:Int) (t u:Tok) (s:Shared) (Q:Value->Shared->Prop) (E:Value->Shared->Prop),C i j->Q (.int (g i j) s.toks) { s with toks:=s.toks+1 }->wpAny (model X.prog X.w) X.A (f (.int i t) (.int j u)) Q E s) :
  OpR X f (rI C λi j => .int (g i j)):=by
 intro pins s σ H x y v u Q I rx ry h;obtain⟨i,j,rfl,rfl,hc,q⟩:=h;obtain⟨t,rfl⟩:=rx;obtain⟨t',rfl⟩:=ry;exact rule i j t t' s _ _ hc ⟨.int (g i j),H,I.tok _,⟨_,rfl⟩,q⟩
theorem opI0{f:Value->Value->Sem Value}{g:Int->Int->Int}
  (rule:∀(i j:Int) (t u:Tok) (s:Shared) (Q:Value->Shared->Prop) (E:Value->Shared->Prop),Q (.int (g i j) s.toks) { s with toks:=s.toks+1 }->wpAny (model X.prog X.w) X.A (f (.int i t) (.int j u)) Q E s) :
  OpR X f (rI0 λi j => .int (g i j)):=by
 intro pins s σ H x y v u Q I rx ry h;obtain⟨i,j,rfl,rfl,q⟩:=h;obtain⟨t,rfl⟩:=rx;obtain⟨t',rfl⟩:=ry;exact rule i j t t' s _ _ ⟨.int (g i j),H,I.tok _,⟨_,rfl⟩,q⟩
theorem opB0{f:Value->Value->Sem Value}{g:Int->Int->Bool}
  (rule:∀(i j:Int) (t u:Tok) (s:Shared) (Q:Value->Shared->Prop) (E:Value->Shared->Prop),Q (.bool (g i j)) s->wpAny (model X.prog X.w) X.A (f (.int i t) (.int j u)) Q E s) :
  OpR X f (rI0 λi j => .bl (g i j)):=by
 intro pins s σ H x y v u Q I rx ry h;obtain⟨i,j,rfl,rfl,q⟩:=h;obtain⟨t,rfl⟩:=rx;obtain⟨t',rfl⟩:=ry;exact rule i j t t' s _ _ ⟨.bl (g i j),H,I,rfl,q⟩
def CPow(i j:Int):Prop:=0<=j/\j<=1000000/\i.natAbs<2 ^ 64
def CMul(i j:Int):Prop:=(-(2 ^ 64)<i/\i<2 ^ 64)\/(-(2 ^ 64)<j/\j<2 ^ 64)
theorem CMul.ok{i j:Int}(h:CMul i j):IntMulOk i j:=by
 rcases h with⟨h1,h2⟩|⟨h1,h2⟩
 · exact .of_left (intBits_le_64 h1 h2)
 · exact .of_right (intBits_le_64 h1 h2)
theorem op_add:OpR X (binaryOp .Add) (rI0 λi j => .int (i+j)):=opI0 λ_ _ _ _ _ _ _ q=>add_int q
theorem op_sub:OpR X (binaryOp .Sub) (rI0 λi j => .int (i-j)):=opI0 λ_ _ _ _ _ _ _ q=>sub_int q
theorem zo9:OpR X (binaryOp .Mod) (rI (λ_ j=>j≠0) λi j => .int (i.fmod j)):=opI λ_ _ _ _ _ _ _ hc q=>mod_int' hc q
theorem op_pow:OpR X (binaryOp .Pow) (rI CPow λi j => .int (i ^ j.toNat)):=opI λ_ _ _ _ _ _ _ hc q=>pow_int_small hc.1 hc.2.1 hc.2.2 q
theorem unI{f:Value->Sem Value}{g:Int->Int}
  (rule:∀(i:Int) (t:Tok) (s:Shared) (Q:Value->Shared->Prop) (E:Value->Shared->Prop),Q (.int (g i) s.toks) { s with toks:=s.toks+1 }->wpAny (model X.prog X.w) X.A (f (.int i t)) Q E s) :
  UnR X f (rU λi => .int (g i)):=by
 intro pins s σ H x v Q I rx h;obtain⟨i,rfl,q⟩:=h;obtain⟨t,rfl⟩:=rx;exact rule i t s _ _ ⟨.int (g i),H,I.tok _,⟨_,rfl⟩,q⟩
theorem un_neg:UnR X (unaryOp .USub) (rU λi => .int (-i)):=unI λ_ _ _ _ _ q=>neg_int q
end
def scal:V->V->Bool
 | .non,.non=>true|.non,.int _=>true|.int _,.non=>true|.non,.bl _=>true|.bl _,.non=>true|.non,.str _=>true|.str _,.non=>true
 | .int _,.int _=>true|.bl _,.bl _=>true|.str _,.str _=>true|.byt _,.byt _=>true
 | .int _,.str _=>true|.str _,.int _=>true|.bl _,.str _=>true|.str _,.bl _=>true
 | _,_=>false
section
variable {X:Cx}{a b c:Expr}{ta tb tc:TE}{pos:Pos}
theorem op_lt:OpR X (compareOp .Lt) (rI0 λi j => .bl (decide (i<j))):=opB0 λ_ _ _ _ _ _ _ q=>lt_int q
theorem op_le:OpR X (compareOp .LtE) (rI0 λi j => .bl (decide (i<=j))):=opB0 λ_ _ _ _ _ _ _ q=>le_int q
theorem op_gt:OpR X (compareOp .Gt) (rI0 λi j => .bl (decide (j<i))):=opB0 λ_ _ _ _ _ _ _ q=>gt_int q
theorem op_ge:OpR X (compareOp .GtE) (rI0 λi j => .bl (decide (j<=i))):=opB0 λ_ _ _ _ _ _ _ q=>ge_int q
theorem OpR.or{f:Value->Value->Sem Value}{r r':R2}(h:OpR X f r)(h':OpR X f r'):OpR X f (λx y H Q=>r x y H Q\/r' x y H Q):=by
 intro pins s σ H x y v u Q I rx ry q;rcases q with q|q
 · exact h pins s σ H x y v u Q I rx ry q
 · exact h' pins s σ H x y v u Q I rx ry q
theorem zkq(b:Expr){op:CmpOp}(h:op ≠ .In:=by decide)(h2:op ≠ .NotIn:=by decide):behindInMarks op b=false:=by
 have e1:(op==CmpOp.In)=false:=by cases op<;>first|rfl|exact absurd rfl h
 have e2:(op==CmpOp.NotIn)=false:=by cases op<;>first|rfl|exact absurd rfl h2
 cases b<;>simp[behindInMarks,e1,e2]
theorem zoa{op:CmpOp}{r:R2}(ho:OpR X (compareOp op) r)(ha:PE X a ta)(hb:PE X b tb)(hm:behindInMarks op b=false):PE X (.Compare a [op] [b] pos) (tOp r ta tb):=by
 intro pins s σ H Q I h;exact wpAny_Compare1 (binT ha hb I h λv u s2 x y H2 I2 rx ry q=>ho pins s2 σ H2 x y v u Q I2 rx ry q) hm
def tTest(t:TE):TT:=λσ H Q=>t σ H λx H'=>∃ k,x = .bl k/\Q k H'
theorem zob{op:CmpOp}{r:R2}(ho:OpR X (compareOp op) r)(ha:PE X a ta)(hb:PE X b tb)(hm:behindInMarks op b=false):PT X (.Compare a [op] [b] pos) (tTest (tOp r ta tb)):=by
 intro pins s σ H Q I h;refine wpAny_isTrue_Compare1 (thn (ha pins s σ H _ I h) λv s1⟨x,H1,I1,r1,q1⟩=>thn (hb pins s1 σ H1 _ I1 q1) λu s2 ⟨y,H2,I2,r2,q2⟩ =>
  thn (ho pins s2 σ H2 x y v u _ I2 r1 r2 q2) λc s3⟨z,H3,I3,r3,k,e,q3⟩=>?_) hm
 subst e;cases r3;exact wpAny_truthy_bool ⟨H3,I3,q3⟩
def zkr(r r':R2)(ta tb tc:TE):TE:=λσ H Q=>ta σ H λx H1=>tb σ H1 λy H2=>r x y H2 λz H3=>∃ k,z = .bl k /\
 (if k=true then tc σ H3 λw' H4=>r' y w' H4 Q else Q (.bl false) H3)
theorem zks{op op':CmpOp}{r r':R2}(ho:OpR X (compareOp op) r)(ho':OpR X (compareOp op') r')(ha:PE X a ta)(hb:PE X b tb)(hc:PE X c tc)
  (hm:lastMarks [op,op'] [b,c]=false:=by with_unfolding_all rfl):PE X (.Compare a [op,op'] [b,c] pos) (zkr r r' ta tb tc):=by
 intro pins s σ H Q I h;refine Compare_chain (thn (ha pins s σ H _ I h) λv s1⟨x,H1,I1,r1,q1⟩=>chain_link (thn (hb pins s1 σ H1 _ I1 q1) λu s2 ⟨y,H2,I2,r2,q2⟩ =>
  thn (ho pins s2 σ H2 x y v u _ I2 r1 r2 q2) λd s3⟨z,H3,I3,r3,k,e,q3⟩=>?_)) hm
 subst e;cases r3;refine wpAny_truthy_bool ?_;cases k with
 | false=>exact ite_ff ⟨.bl false,H3,I3,rfl,q3⟩
 | true=>exact ite_tt (chain_last (thn (hc pins s3 σ H3 _ I3 q3) λw' s4⟨z',H4,I4,r4,q4⟩=>ho' pins s4 σ H4 y z' u w' Q I4 r2 r4 q4))
def TruV(K:PySem.W.Frag)(x:V)(H:Hp)(k:Bool):Prop :=
 match x with
 | .non=>k=false
 | .bl b=>k=b
 | .int i=>k=(i != 0)
 | .str y=>y.length<=sizeLine/\k=((y.length:Int) != 0)
 | .byt y=>y.size<=sizeLine/\k=((y.size:Int) != 0)
 | .ref p=>(∃ xs,SqL K H p xs/\k=!xs.isEmpty)\/(∃ xs,SqT K H p xs/\k=!xs.isEmpty)\/∃ kvs,H p=some (.dK kvs)/\k=!kvs.isEmpty
 | _=>False
theorem zem{κ:Type}{kvs:List (κ×V)}{vs:List (κ×Value)}(r:KV kvs vs):(!vs.isEmpty)=!kvs.isEmpty:=by
 cases r<;>rfl
theorem z9c{xs:List V}{its:List Value}(r:Vals xs its):(!its.toArray.isEmpty)=!xs.isEmpty:=by
 cases r<;>simp
theorem z7B:(sizeLine:Nat)<2 ^ 63:=by rw[sizeLine_eq];decide
theorem tru_ok:TruR X (λx H Q=>∃ k,TruV X.K x H k/\Q k H):=by
 intro pins s σ H x v Q I rx h;obtain⟨k,e,q⟩:=h;have hl:=z7B;have hs:sizeLine=16777216:=sizeLine_eq;cases x with
 | non =>
  cases rx;have e':k=false:=e;subst e';exact truthy_none ⟨H,I,q⟩
 | bl b =>
  cases rx;have e':k=b:=e;subst e';exact wpAny_truthy_bool ⟨H,I,q⟩
 | int i =>
  obtain⟨t,rfl⟩:=rx;have e':k=(i != 0):=e;subst e';exact PySem.P.truthy_int ⟨H,I,q⟩
 | str y =>
  obtain⟨t,rfl⟩:=rx;obtain⟨hy,e'⟩:y.length<=sizeLine/\k=((y.length:Int) != 0):=e;subst e';exact PySem.P.truthy_str (by rfl') ⟨H,I.tok _,q⟩
 | byt y =>
  obtain⟨t,rfl⟩:=rx;obtain⟨hy,e'⟩:y.size<=sizeLine/\k=((y.size:Int) != 0):=e;subst e';exact PySem.W.truthy_bytes (by rfl') ⟨H,I.tok _,q⟩
 | ref p =>
  cases rx;have e':(∃ xs,SqL X.K H p xs/\k=!xs.isEmpty)\/(∃ xs,SqT X.K H p xs/\k=!xs.isEmpty)\/∃ kvs,H p=some (.dK kvs)/\k=!kvs.isEmpty:=e;rcases e' with⟨xs,hx,e'⟩|⟨xs,hx,e'⟩|⟨kvs,hx,e'⟩
  · subst e';obtain⟨its,r,pl,hz⟩:=I.list hx;have hlen:=r.length;exact wpAny_truthy_list pl.isList (by simp only[wB];rfl') ⟨H,I.tok _,by rw[z9c r];exact q⟩
  · subst e';obtain⟨its,r,pl,hz⟩:=I.tuple hx;have hlen:=r.length;exact truthy_tuple pl (by simp only[wB];rfl') ⟨H,I.tok _,by rw[z9c r];exact q⟩
  · subst e';obtain⟨hz,hS,vs,r,m⟩:kvs.length<=sizeLine/\(p==sysModules)=false/\∃ vs,KV kvs vs/\s.heap.DictOf (zc4 X.prog X.w) p vs:=I.hok p _ hx;have hlen:kvs.length=vs.length:=Paired.length r;exact wpAny_truthy_dict hS m (by rfl') ⟨H,I.tok _,by rw[zem r];exact q⟩
 | _=>exact(show False from e).elim
theorem zkt(ha:PE X a ta)(he:∀ whole,isTrue a X.env whole=(do let v ←whole;standAt a.pos;holding [v] (truthy v))):
  PT X a (λσ H Q=>ta σ H λx H'=>∃ k,TruV X.K x H' k/\Q k H'):=by
 intro pins s σ H Q I h;exact isTrue_plain (thn (ha pins s σ H _ I h) λv s1⟨x,H1,I1,r1,q1⟩=>tru_ok pins s1 σ H1 x v Q I1 r1 q1) (he _)
theorem ziw{x:V}{us:List Value}(r:Vals [x] us):∃ u,us=[u]/\RelV x u:=by
 cases r with
 | cons r1 r2=>cases r2;exact⟨_,rfl,r1⟩
theorem vals2{x y:V}{us:List Value}(r:Vals [x,y] us):∃ u w',us=[u,w']/\RelV x u/\RelV y w':=by
 cases r with
 | cons r1 r2 =>
  cases r2 with
  | cons r3 r4=>cases r4;exact⟨_,_,rfl,r1,r3⟩
theorem zku:CallR X (.builtin "abs") (λxs H Q=>∃ i,xs=[.int i]/\Q (.int (if i<0 then -i else i)) H):=by
 intro pins s σ H xs us Q I r h;obtain⟨i,rfl,q⟩:=h;obtain⟨u,rfl,t,rfl⟩:=ziw r;exact call_abs_int λu tk=>⟨.int (if i<0 then -i else i),H,I.tok _,⟨_,rfl⟩,q⟩
end
end L2
namespace L2
open PySem PySem.Spec PyProof.Rows
structure ObjM(h:Heap)(x dx C:Addr)(mA:Str->Option Value):Prop where
 obj:h.get? x=some (PySem.W.instObj C dx)
 ns:h.Ns1 dx mA
 ne:dx≠x
theorem zjx{h:Heap}{dx:Addr}{mA:Str->Option Value}(n:h.Ns1 dx mA):∃ od,h.get? dx=some od/\∀ name,PySem.W.lookIn name od=some (mA name):=by
 obtain⟨o,es,ep,ho,hd,hk,_,hm⟩:=n;refine⟨o,ho,λname=>?_⟩;have e:=hm name;unfold nsFind findBy at e;rw[←Array.find?_toList]at e;unfold PySem.W.lookIn;rw[hd];dsimp only;split
 · rename_i y q;rw[q]at e;exact congrArg some e
 · rename_i q;rw[q]at e;have a:es.toList.any (·.refKey)=false:=by
    rw[Vu];intro y hy;obtain⟨z,t,hkey⟩:=hk y (Array.mem_toList_iff.mp hy);simp[DictEntry.refKey,hkey]
   have a':¬es.toList.any (·.refKey)=true:=by rw[a];exact wX
   rw[if_neg a'];exact congrArg some e
theorem ObjM.look{h:Heap}{x dx C:Addr}{mA:Str->Option Value}(I:ObjM h x dx C mA):∃ od,PySem.W.InstAt h x (PySem.W.instObj C dx) C (some od)/\∀ name,PySem.W.lookIn name od=some (mA name) :=
 let ⟨od,ho,hl⟩:=zjx I.ns
 ⟨od,⟨I.obj,rfl,rfl,ho⟩,hl⟩
section
variable {prog:Program}{w:World}{A:Around}{E:Value->Shared->Prop}{s:Shared}{K:PySem.W.Frag}{x dx C f:Addr}{mA:Str->Option Value}{name:Str}{v:Value}
end
theorem RelO.none_of{o:Option Value}(r:RelO none o):o=none:=by
 cases o with
 | none=>rfl
 | some u=>exact(show False from r).elim
section
variable {P:Program}{w:World}{H H':Hp}{h h':Heap}{a C dx:Addr}{fs fs':List (Str×V)}
theorem zoc(hok:HOk P w H h)(e:H a=some (.ins C dx fs)):∃ mA,ObjM h a dx C mA/\(∀ f,RelO (fs.lookup f) (mA f))/\PySem.Within mA (fs.map (·.1))/\fs.length<=1000/\H dx=some (.own a):=by
 obtain⟨d,z,ne,ob,mA,n,r,q⟩:=(show ObjOk P w H h a (.ins C dx fs)from hok a _ e);exact⟨mA,⟨ob,n,ne⟩,r,q,z,d⟩
end
structure Cls(K:PySem.W.Frag)(C:Addr):Prop where
 pg:PySem.W.plainGet K C Str.empty=true
 hd:PySem.W.hasDictIn K C=true
 po:PySem.W.plainOver K C=true
 sa:PySem.W.findIn K (.ref C) "__setattr__" = some (some (.builtin "object.__setattr__"))
theorem Cls.get{K:PySem.W.Frag}{C:Addr}(c:Cls K C)(f:Str):PySem.W.plainGet K C f=true:=c.pg
section
variable {X:Cx}{pins:List (Addr×Obj)}{σ:St}{H:Hp}{s:Shared}{a C dx:Addr}{fs:List (Str×V)}{f:Str}{v:V}{A:Around}{E:Value->Shared->Prop}
theorem Inv.made(I:Inv X pins σ H s):Inv X pins σ (upd (upd H s.heap.objs.size (.own (s.heap.objs.size+1))) (s.heap.objs.size+1) (.ins C s.heap.objs.size []))
  { s with heap:=(s.heap.push PySem.W.emptyDict).push (PySem.W.instObj C s.heap.objs.size) }:=by
 have e1:(s.heap.push PySem.W.emptyDict).get? s.heap.objs.size=some PySem.W.emptyDict:=wy s.heap rfl;have e2:((s.heap.push PySem.W.emptyDict).push (PySem.W.instObj C s.heap.objs.size)).get? (s.heap.objs.size+1)=some (PySem.W.instObj C s.heap.objs.size):=by
  have:=wy (s.heap.push PySem.W.emptyDict) (o:=PySem.W.instObj C s.heap.objs.size) rfl
  rwa [Wf]at this
 have e3:(s.heap.push PySem.W.emptyDict).Ns s.heap.objs.size (λ_=>none):=⟨PySem.W.emptyDict,#[],_,e1,rfl,(λe he=>absurd he (by simp)),λ_=>rfl⟩;have I1:=I.laid (a:=s.heap.objs.size) (o := .own (s.heap.objs.size+1)) (h':=s.heap.push PySem.W.emptyDict) (t':=s.toks) (λb u q=>wd _ q) (wx _) ⟨_,e1⟩;refine I1.laid (a:=s.heap.objs.size+1) (o := .ins C s.heap.objs.size []) (t':=s.toks) (λb u q=>wd _ q) (Vv (Wf _ _)) ?_;have ne:s.heap.objs.size≠s.heap.objs.size+1:=wV (Wb _);refine⟨by rw[z0r ne,z0V],wQ _,ne,e2,λ_=>none,(Heap.Ns1.of_empty e3).at λo q=>wd _ q,λ_=>True.intro,λy hy=>absurd rfl hy⟩
end
section
variable {X:Cx}{o e value:Expr}{f:Str}{pos pos' tpos:Pos}{ta tv:TE}
end
section
variable {X:Cx}{pins:List (Addr×Obj)}{σ:St}{H:Hp}{s:Shared}{A:Around}{E:Value->Shared->Prop}{Q:Value->Shared->Prop}{c:Value}{b:Bool}
inductive TyOf (K:PySem.W.Frag) (H:Hp):V->Value->Prop where
 | non:TyOf K H .non (.type "NoneType")
 | bl (x:Bool):TyOf K H (.bl x) (.type "bool")
 | int (i:Int):TyOf K H (.int i) (.type "int")
 | str (x:Str):TyOf K H (.str x) (.type "str")
 | flt (x:UInt64):TyOf K H (.flt x) (.type "float")
 | lst {a:Addr} {xs:List V} (e:H a=some (.lst xs)):TyOf K H (.ref a) (.type "list")
 | frz {a:Addr} {o:Obj} {xs:List V} (e:H a=some (.frz o (.lst xs))):TyOf K H (.ref a) (.type "list")
 | tup {a:Addr} {xs:List V} (e:H a=some (.tup xs)):TyOf K H (.ref a) (.type "tuple")
 | dK {a:Addr} {kvs:List (Key×V)} (e:H a=some (.dK kvs)):TyOf K H (.ref a) (.type "dict")
 | dT {a:Addr} {kvs:List (List Key×V)} (e:H a=some (.dT kvs)):TyOf K H (.ref a) (.type "dict")
 | ins {a C dx:Addr} {fs:List (Str×V)} (e:H a=some (.ins C dx fs)) (cl:Cls K C) (ha:PySem.W.findIn K (.ref C) "__class__" = some (some (.builtin "object.__class__")))
  (hn:PySem.W.specialIn K (.builtin "object.__class__") "__get__" = some (some (.builtin "getset_descriptor.__get__"))) (htk:PySem.W.takesIn K (.builtin "object.__class__")=some true)
  (hm:PySem.W.mroIn K C (.type "object")=some true):TyOf K H (.ref a) (.ref C)
theorem z5x{x:V}{u t:Value}(I:Inv X pins σ H s)(rx:RelV x u)(ty:TyOf X.K H x t)(e:PySem.W.kitOne X.K t c=some b)(h:∀ tk,Q (.bool b) { s with toks:=tk }):
  wpAny (model X.prog X.w) A (call (.builtin "isinstance") [u,c]) Q E s:=by
 cases ty with
 | non=>cases (show u=Value.none from rx);exact PySem.W.kia_one PySem.W.kitx_none I.kIn True.intro e (λz=>nomatch z) h
 | bl y=>cases (show u=Value.bool y from rx);exact PySem.W.kia_one PySem.W.kitx_bool I.kIn True.intro e (λz=>nomatch z) h
 | int i=>obtain⟨t,q⟩:=(show ∃ t,u=Value.int i t from rx);cases q;exact PySem.W.kia_one PySem.W.kitx_int I.kIn True.intro e (λz=>nomatch z) h
 | str y=>obtain⟨t,q⟩:=(show ∃ t,u=Value.str y t from rx);cases q;exact PySem.W.kia_one PySem.W.kitx_str I.kIn True.intro e (λz=>nomatch z) h
 | flt y=>obtain⟨t,q⟩:=(show ∃ t,u=Value.float y t from rx);cases q;exact PySem.W.kia_one PySem.W.kitx_float I.kIn True.intro e (λz=>nomatch z) h
 | @lst a xs ea =>
  cases (show u=Value.ref a from rx);obtain⟨_,_,n,_,h1⟩:=(show ObjOk X.prog X.w H s.heap a (.lst xs)from I.hok a _ ea);exact PySem.W.kia_one PySem.W.kitx_list I.kIn ⟨_,h1,rfl⟩ e (λz=>nomatch z) h
 | @frz a ob xs ea =>
  cases (show u=Value.ref a from rx);obtain⟨_,_,_,n,_,h1⟩:=(show ObjOk X.prog X.w H s.heap a (.frz ob (.lst xs))from I.hok a _ ea);exact PySem.W.kia_one PySem.W.kitx_list I.kIn ⟨_,h1,rfl⟩ e (λz=>nomatch z) h
 | @tup a xs ea =>
  cases (show u=Value.ref a from rx);obtain⟨_,_,_,p⟩:=(show ObjOk X.prog X.w H s.heap a (.tup xs)from I.hok a _ ea);obtain⟨o,h1,h2,_⟩:=p;exact PySem.W.kia_one PySem.W.kitx_tuple I.kIn ⟨o,h1,h2⟩ e (λz=>nomatch z) h
 | @dK a kvs ea =>
  cases (show u=Value.ref a from rx);obtain⟨_,_,vs,_,p⟩:=(show ObjOk X.prog X.w H s.heap a (.dK kvs)from I.hok a _ ea);obtain⟨o,es,ep,h1,h2,_⟩:=p;exact PySem.W.kia_one PySem.W.kitx_dict I.kIn ⟨o,h1,h2.1⟩ e (λz=>nomatch z) h
 | @dT a kvs ea =>
  cases (show u=Value.ref a from rx);obtain⟨_,_,xs,_,o,es,ep,h1,h2,_⟩:=(show ObjOk X.prog X.w H s.heap a (.dT kvs)from I.hok a _ ea);exact PySem.W.kia_one PySem.W.kitx_dict I.kIn ⟨o,h1,h2.1⟩ e (λz=>nomatch z) h
 | @ins a C dx fs ea cl ha hn htk hm =>
  cases (show u=Value.ref a from rx);obtain⟨mA,O,_⟩:=zoc I.hok ea;obtain⟨od,J,_⟩:=O.look;exact PySem.W.kia_one (PySem.W.kitx_own (cl.get _) cl.hd ha hn htk hm) I.kIn J e (λz=>nomatch z) h
end
end L2
namespace L2
open PySem PySem.Spec PyProof.Rows
structure Room(k:Nat)(A:Around):Prop where
 hd:A.handled=none
 dp:A.depth+3*k+5<recursionLimit
 un:A.units+16*k+200<cLine
theorem Room.mono{j k:Nat}{A:Around}(r:Room k A)(h:j<=k):Room j A:=⟨r.hd,by have:=r.dp;rfl',by have:=r.un;rfl'⟩
theorem Room.deeper{k:Nat}{A:Around}(r:Room (k+1) A)(env:Env):Room k (A.deeper env) :=
 ⟨r.hd,by have:=r.dp;show A.depth+1+3*k+5<_;rfl',by have:=r.un;show A.units+3+16*k+200<_;rfl'⟩
theorem Room.in1{k:Nat}{A:Around}(r:Room (k+1) A):Room k A.in1 :=
 ⟨r.hd,by have:=r.dp;show A.depth+3*k+5<_;rfl',by have:=r.un;show A.units+1+16*k+200<_;rfl'⟩
theorem Room.depth{k:Nat}{A:Around}(r:Room k A):A.depth<recursionLimit:=by have:=r.dp;rfl'
theorem Room.units{k:Nat}{A:Around}(r:Room k A):A.units+64<cLine:=by have:=r.un;rfl'
def tNil:TA:=λ_ H Q=>Q [] H
def tCons(ta:TE)(tr:TA):TA:=λσ H Q=>ta σ H λx H1=>tr σ H1 λxs H2=>Q (x::xs) H2
section
variable {X:Cx}{e:Expr}{es:List Expr}{te:TE}{t:TA}{pos:Pos}
theorem z9d:PA X [] tNil:=λ_ _ _ _ H Q I h=>Calls.spliced_nil ⟨[],H,I,.nil,h⟩
theorem z4f(ha:PE X e te)(hr:PA X es t)(hs:starEach (e::es) X.env=(false,eval e X.env)::starEach es X.env:=by rfl):PA X (e::es) (tCons te t):=by
 intro pos pins s σ H Q I h;rw[hs];show wpAny _ _ (spliced ((false,eval e X.env)::backTo pos (starEach es X.env))) _ _ s;refine Calls.spliced_cons (thn (ha pins s σ H _ I h) ?_);rintro u s1 ⟨x,H1,I1,r1,q1⟩;exact thn (hr pos pins s1 σ H1 _ I1 q1) λus s2⟨xs,H2,I2,r2,q2⟩=>⟨x::xs,H2,I2,.cons r1 r2,q2⟩
def tTup(t:TA):TE:=λσ H Q=>t σ H λxs H1=>xs.length<=sizeLine/\∀ p,H1 p=none->Q (.ref p) (upd H1 p (.tup xs))
def tLst(t:TA):TE:=λσ H Q=>t σ H λxs H1=>xs.length<=sizeLine/\∀ p,H1 p=none->Q (.ref p) (upd H1 p (.lst xs))
theorem pe_tup{x1}(h:PA X es t):PE X (.Tuple es x1 pos) (tTup t):=by
 intro pins s σ H Q I hq;refine wpAny_Tuple_spliced (thn (h pos pins s σ H _ I hq) λus s1⟨xs,H1,I1,r,z,q⟩=>⟨by rw[←r.length];exact z,?_⟩);have hf:H1 s1.heap.objs.size=none:=I1.hok.fresh (wx _);refine⟨.ref s1.heap.objs.size,upd H1 s1.heap.objs.size (.tup xs),I1.laid (t':=s1.toks) (λb u e=>wd _ e) (wx _) ?_,rfl,q _ hf⟩;exact⟨z,us,r,⟨_,wy _ rfl,rfl,_,rfl⟩⟩
theorem pe_lst(h:PA X es t):PE X (.List es pos) (tLst t):=by
 intro pins s σ H Q I hq;refine wpAny_List_spliced (thn (h pos pins s σ H _ I hq) λus s1⟨xs,H1,I1,r,z,q⟩=>⟨by rw[←r.length];exact z,?_⟩);have hf:H1 s1.heap.objs.size=none:=I1.hok.fresh (wx _);refine⟨.ref s1.heap.objs.size,upd H1 s1.heap.objs.size (.lst xs),I1.laid (t':=s1.toks) (λb u e=>wd _ e) (wx _) ?_,rfl,q _ hf⟩;exact⟨z,us,0,r,wy _ rfl⟩
end
abbrev Sp:=List V->Hp->VK->XK->Prop
abbrev CXT:=List Env->Hp->Shared->XK->Value->Shared->Prop
structure Env0(P:Program)(w:World)(K:PySem.W.Frag)(mg:Str->Option Value)(base:Heap)(A:Around)(outer:List Env)(s:Shared)(H:Hp):Prop where
 frames:A.frames=some outer
 mod:Mod K mg base
 bs:∀ b o,base.get? b=some o->s.heap.get? b=some o/\H b=none
 bsz:base.objs.size<=s.heap.objs.size
 funs:s.heap.FunFrames base outer
 frf:∀ b∈frs outer,H b=none
 hok:HOk P w H s.heap
 bare:AllBare s.gens
def CE(outer:List Env)(P:Program)(w:World)(H:Hp)(s:Shared)(Q:VK)(u:Value)(s':Shared):Prop :=
 ∃ v H',s'.os=s.os/\AllBare s'.gens/\Un (frs outer) [] H H' s.heap s'.heap/\HOk P w H' s'.heap/\RelV v u/\Q v H'
def CR(CX:CXT)(outer:List Env)(P:Program)(w:World)(H:Hp)(s:Shared)(Q:VK)(E:XK)(r:Result)(s':Shared):Prop :=
 match r with
 | .ok (.ret u)=>CE outer P w H s Q u s'
 | .ok _=>False
 | .error e=>CX outer H s E e s'
structure FnOk(P:Program)(w:World)(K:PySem.W.Frag)(mg:Str->Option Value)(base:Heap)(CX:CXT)(k:Nat)(f:Addr)(fd:FuncData)(ps:List Str)(sp:Sp):Prop where
 len:∀ vs H Q E,sp vs H Q E->vs.length=ps.length
 run:∀(A:Around) (outer:List Env) (s:Shared) (H:Hp) (args:Args) (us:List Value) (vs:List V) (Q:VK) (E:XK),Room k A->Env0 P w K mg base A outer s H->BindsTo s fd args (ps.zip us)->Vals vs us->sp vs H Q E ->
  codeAny (model P w) A (.call (.ref f) args) (CR CX outer P w H s Q E) s
theorem FnOk.mono{P:Program}{w:World}{K:PySem.W.Frag}{mg:Str->Option Value}{base:Heap}{CX:CXT}{j k:Nat}{f:Addr}{fd:FuncData}{ps:List Str}{sp:Sp}(F:FnOk P w K mg base CX j f fd ps sp)(h:j<=k):
 FnOk P w K mg base CX k f fd ps sp:=⟨F.len,λA outer s H args us vs Q E hr=>F.run A outer s H args us vs Q E (hr.mono h)⟩
theorem FnOk.imp{P:Program}{w:World}{K:PySem.W.Frag}{mg:Str->Option Value}{base:Heap}{CX:CXT}{k:Nat}{f:Addr}{fd:FuncData}{ps:List Str}{sp sp':Sp}(F:FnOk P w K mg base CX k f fd ps sp)
  (h:∀ vs H Q E,sp' vs H Q E->sp vs H Q E):FnOk P w K mg base CX k f fd ps sp' :=
 ⟨λvs H Q E q=>F.len vs H Q E (h _ _ _ _ q),λA outer s H args us vs Q E hr he hb hv hs=>F.run A outer s H args us vs Q E hr he hb hv (h _ _ _ _ hs)⟩
theorem Env0.in1{P:Program}{w:World}{K:PySem.W.Frag}{mg:Str->Option Value}{base:Heap}{A:Around}{outer:List Env}{s:Shared}{H:Hp}(e:Env0 P w K mg base A outer s H):
 Env0 P w K mg base A.in1 outer s H:=⟨e.frames,e.mod,e.bs,e.bsz,e.funs,e.frf,e.hok,e.bare⟩
section
variable {X:Cx}{pins:List (Addr×Obj)}{σ:St}{H:Hp}{s s':Shared}
theorem Inv.env0(I:Inv X pins σ H s):Env0 X.prog X.w X.K X.mg X.base X.A X.stack s H :=
 ⟨I.ok.frames,I.ok.mod,I.bs,wG I.ok.bsz I.sz,I.stack,I.stkFree,I.hok,I.bare⟩
theorem Inv.after{Q:VK}{u:Value}(I:Inv X pins σ H s)(h:CE X.stack X.prog X.w H s Q u s'):EP X pins σ Q u s':=by
 obtain⟨v,H',os,bare,un,hok,r,q⟩:=h;obtain⟨hh,g,d,t,os'⟩:=s';obtain rfl:os'=s.os:=os;exact⟨v,H',I.call (h':=hh) (g':=g) (d':=d) (t':=t) (ch:=[]) un hok bare (λb z=>absurd z (by simp)),r,q⟩
end
def tCall(sp:Sp)(dvs:List V)(E:XK)(t:TA):TE:=λσ H Q=>t σ H λvs H1=>sp (vs++dvs) H1 Q E
def Binds(K:PySem.W.Frag)(fd:FuncData)(ps:List Str)(ds:List Value):Prop :=
 ∀(s:Shared) (us:List Value),K.In s.heap->(us++ds).length=ps.length->BindsTo s fd ⟨us,[]⟩ (ps.zip (us++ds))
theorem Binds.all{K:PySem.W.Frag}{fd:FuncData}{ps:List Str}(h:∀ us:List Value,us.length=ps.length->bindArgs fd ⟨us,[]⟩=pure (ps.zip us)):Binds K fd ps []:=λs us _ hl=>by
 rw[vc]at hl ⊢;exact .of_eq (h us hl)
def zc7(CX:CXT)(X:Cx)(E:XK):Prop:=∀(pins:List (Addr×Obj)) (σ:St) (H:Hp) (s:Shared) (e:Value) (s':Shared),Inv X pins σ H s->CX X.stack H s E e s'->X.xe e s'
section
variable {X:Cx}{CX:CXT}{k:Nat}{f C:Addr}{fd:FuncData}{ps:List Str}{sp:Sp}{dvs:List V}{ds:List Value}{E:XK}{x m:Str}{p pos apos:Pos}{e o:Expr}{es:List Expr}{ta:TE}{t:TA}
theorem run_fn{pins:List (Addr×Obj)}{σ:St}{H:Hp}{s:Shared}{Q:VK}{us:List Value}{vs:List V}(F:FnOk X.prog X.w X.K X.mg X.base CX k f fd ps sp)(hr:Room k X.A)(hb:Binds X.K fd ps ds)(hd:Vals dvs ds)(hx:zc7 CX X E)
  (I:Inv X pins σ H s) (r:Vals vs us) (h:sp (vs++dvs) H Q E):wpAny (model X.prog X.w) X.A (call (.ref f) us) (EP X pins σ Q) X.xe s:=by
 have r2:Vals (vs++dvs) (us++ds):=r.append hd;have hl:(us++ds).length=ps.length:=by rw[←r2.length];exact F.len _ _ _ _ h
 refine wpAny_call (codeAny_mono (F.run X.A X.stack s H ⟨us,[]⟩ (us++ds) (vs++dvs) Q E hr I.env0 (hb s us I.kIn hl) r2 h) λr s' hq=>?_);cases r with
 | error e=>exact hx pins σ H s e s' I hq
 | ok fl =>
  cases fl with
  | ret u=>exact I.after hq
  | next=>exact False.elim hq
  | brk=>exact False.elim hq
  | cont=>exact False.elim hq
theorem zod(F:FnOk X.prog X.w X.K X.mg X.base CX k f fd ps sp)(hr:Room k X.A)(hg:Gl X x)(hm:X.mg x=some (.ref f))(hk:PySem.W.keepIn X.K (.ref f)=true)(hb:Binds X.K fd ps ds)(hd:Vals dvs ds)(hx:zc7 CX X E)
  (ha:PA X (e::es) t) (hdb:(x==("__debug__" : Str))=false:=by decide) (he:starEach (e::es) X.env=(false,eval e X.env)::starEach es X.env:=by rfl) (hpl:(backTo pos (starEach es X.env)).any (·.1)=false:=by rfl) :
  PE X (.Call (.Name x p) (e::es) [] pos) (tCall sp dvs E t):=by
 intro pins s σ H Q I h;refine wpAny_Call_Name_kw (zit I hg hm ?_ hdb);refine PySem.W.callWith_K (h₀:=X.base) I.ok.mod.kin hk (thn (ha pos pins s σ H _ I h) λus s1⟨vs,H1,I1,r,q⟩=>⟨I1.kIn,?_⟩) he hpl;exact run_fn F hr hb hd hx I1 r q
end
def PK(X:Cx)(kws:List Keyword)(t:TA):Prop :=
 ∀(pos:Pos) (pins:List (Addr×Obj)) (s:Shared) (σ:St) (H:Hp) (Q:List V->Hp->Prop),Inv X pins σ H s->t σ H Q->wpAny (model X.prog X.w) X.A (evalAll ((backToKw pos (keywordEach kws X.env)).map (·.2))) (AP X pins σ Q) X.xe s
section
variable {X:Cx}{CX:CXT}{k:Nat}{f C:Addr}{fd:FuncData}{ps ks:List Str}{sp:Sp}{E:XK}{x m:Str}{p pos apos kpos:Pos}{e o:Expr}{es:List Expr}{kws:List Keyword}{te ta:TE}{t tk:TA}{nm:Option Str}
theorem zkv:PK X [] tNil:=λ_ _ _ _ H Q I h=>wpAny_evalAll_nil ⟨[],H,I,.nil,h⟩
theorem zix(ha:PE X e te)(hr:PK X kws t):PK X (⟨nm,e,kpos⟩::kws) (tCons te t):=by
 intro pos pins s σ H Q I h;show wpAny _ _ (evalAll ((do let v ←eval e X.env;standAt pos;pure v)::(backToKw pos (keywordEach kws X.env)).map (·.2))) _ _ s;refine wpAny_evalAll_cons (wpAny_bind (thn (ha pins s σ H _ I h) λu s1⟨x,H1,I1,r1,q1⟩=>wpAny_bind (wpAny_standAt (wpAny_pure ?_))));exact thn (hr pos pins s1 σ H1 _ I1 q1) λus s2⟨xs,H2,I2,r2,q2⟩=>⟨x::xs,H2,I2,.cons r1 r2,q2⟩
variable {g:List Value->List Value->List Value}{gV:List V->List V->List V}
end
structure FnScope(N P:List Str)(sc:Scope):Prop where
 kind:sc.kind = .function
 co:sc.isCoroutine=false
 gen:sc.isGenerator=false
 nd:N.Nodup
 pre:N.take P.length=P
 par:∀ x∈P,sc.names.lookup x=some .local\/sc.names.lookup x=some .cell
 nofree:∀ y∈sc.names,y.2 ≠ .free
theorem zaM{kindOf:Str->Option NameKind}{x:Str}:∀{binds:List (Str×Value)} {m:Str->Option Value},(∀ v,(x,v) ∉ binds)->bindL kindOf binds m x=m x
 | [],_,_=>rfl
 | (n,v)::r,m,h=>by
  unfold bindL;rw[zaM λw hw=>h w (wa _ hw)];split
  · have:x≠n:=by rintro rfl;exact h v wc
    simp[this]
  · rfl
theorem zaN{kindOf:Str->Option NameKind}{x:Str}:∀{binds:List (Str×Value)} {m:Str->Option Value},(∀ v,(x,v) ∉ binds)->bindC kindOf binds m x=m x
 | [],_,_=>rfl
 | (n,v)::r,m,h=>by
  unfold bindC;rw[zaN λw hw=>h w (wa _ hw)];split
  · rfl
  · have:x≠n:=by rintro rfl;exact h v wc
    simp[this]
theorem zaO{kindOf:Str->Option NameKind}{x:Str}{v:Value}:∀{P:List Str} {vs:List Value} {i:Nat} {m:Str->Option Value},P.Nodup->P[i]?=some x->vs[i]?=some v->kindOf x=some .local ->
  bindL kindOf (P.zip vs) m x=some v
 | [],_,_,_,_,h,_,_=>by simp at h
 | _::_,[],_,_,_,_,h,_=>by simp at h
 | p::P,w::vs,0,m,nd,h1,h2,hk=>by
  simp at h1 h2;subst h1;subst h2;show bindL kindOf ((p,w)::P.zip vs) m p=_;unfold bindL;rw[zaM λv hv=>(Wh.mp nd).1 (Wt hv).1,if_pos hk];simp
 | p::P,w::vs,i+1,m,nd,h1,h2,hk=>by
  show bindL kindOf ((p,w)::P.zip vs) m x=_;unfold bindL;exact zaO (i:=i) (Wh.mp nd).2 (by simpa using h1) (by simpa using h2) hk
theorem zaP{kindOf:Str->Option NameKind}{x:Str}{v:Value}:∀{P:List Str} {vs:List Value} {i:Nat} {m:Str->Option Value},P.Nodup->P[i]?=some x->vs[i]?=some v->kindOf x≠some .local ->
  bindC kindOf (P.zip vs) m x=some v
 | [],_,_,_,_,h,_,_=>by simp at h
 | _::_,[],_,_,_,_,h,_=>by simp at h
 | p::P,w::vs,0,m,nd,h1,h2,hk=>by
  simp at h1 h2;subst h1;subst h2;show bindC kindOf ((p,w)::P.zip vs) m p=_;unfold bindC;rw[zaN λv hv=>(Wh.mp nd).1 (Wt hv).1,if_neg hk];simp
 | p::P,w::vs,i+1,m,nd,h1,h2,hk=>by
  show bindC kindOf ((p,w)::P.zip vs) m x=_;unfold bindC;exact zaP (i:=i) (Wh.mp nd).2 (by simpa using h1) (by simpa using h2) hk
def start(N:List Str)(vs:List V):St:=vs.map some++List.replicate (N.length-vs.length) none
def cxOf(CX:CXT)(P:Program)(w:World)(K:PySem.W.Frag)(mg:Str->Option Value)(base:Heap)(N:List Str)(qual:Str)(scope:Scope)(f:Addr)(cd:Value)(A:Around)(outer:List Env)(s:Shared)(H:Hp)(E:XK):Cx where
 prog:=P
 w:=w
 K:=K
 mg:=mg
 base:=base
 A:=A.deeper (envOfC qual scope s.heap.objs.size f cd)
 N:=N
 s₀:=s
 H₀:=H
 env:=envOfC qual scope s.heap.objs.size f cd
 outer:=outer
 stack:=envOfC qual scope s.heap.objs.size f cd::outer
 ex:=[]
 calm:=true
 fn:=λ_=>true
 pn:=[]
 xe:=λe s'=>wpAny (model P w) (A.deeper (envOfC qual scope s.heap.objs.size f cd)) (leaving (envOfC qual scope s.heap.objs.size f cd) e) (λ_ s''=>CX outer H s E e s'') (λe' s''=>CX outer H s E e' s'') s'
theorem zd1{sc:Scope}{n:Nat}{x:Str}(h:sc.names.lookup x=some .cell):∃ c,(cellsFrom n sc.names []).lookup x=some c:=by
 have q:=PySem.W.cellsFrom_some sc.names n [] (.inl h);exact v9.mp q
theorem zjy{CX:CXT}{P:Program}{w:World}{K:PySem.W.Frag}{mg:Str->Option Value}{base:Heap}{N ps:List Str}{qual:Str}{scope:Scope}{f:Addr}{cd:Value}{A:Around}{outer:List Env}{s s1:Shared}{H:Hp}{E:XK}{us:List Value}{vs:List V}
   (S:FnScope N ps scope) (hd:A.handled=none) (e0:Env0 P w K mg base A outer s H) (hl:vs.length=ps.length) (r:Vals vs us)
   (x:InCallC s s.heap.objs.size (bindL (envOfC qual scope s.heap.objs.size f cd).kindOf (ps.zip us) λ_=>none) (cellsFrom (s.heap.objs.size+1) scope.names []) (bindC (envOfC qual scope s.heap.objs.size f cd).kindOf (ps.zip us) λ_=>none) s1) :
   Inv (cxOf CX P w K mg base N qual scope f cd A outer s H E) [] (start N vs) H s1:=by
 have hpl:ps.length<=N.length:=by have:=congrArg List.length S.pre;rw[Wq]at this;rfl'
 obtain⟨h1,tk,rfl,hk⟩:=x.done;have noA:∀ b:Addr,b ∉ (cxOf CX P w K mg base N qual scope f cd A outer s H E).ex:=λb z=>absurd (show b∈([]:List Addr)from z) (by simp);refine⟨⟨e0.mod,S.kind,rfl,rfl,wx _,λy z c h1 h2=>?_,λy hy=>?_,λy c _ h=>?_,λ_=>hd,Around.frames_deeper e0.frames,.inr ⟨rfl,rfl⟩,λb z=>absurd z (noA b),e0.bs,e0.bsz,λb _ _=>noA b,λb z=>absurd z (noA b),e0.funs,e0.frf⟩,
   rfl,e0.bare,Un.kept hk,⟨_,x.toInCall.ns,λi y v h1 h2 h3=>?_⟩,λy c h=>⟨_,x.cell y c h⟩,e0.hok.fresh (wx _),λy c h=>?_,λp hp=>absurd (show p∈([]:List (Addr×Obj))from hp) (by simp),e0.hok.kept hk,?_⟩
 · exact name_of_addr x.apart (PySem.mem_of_lookup h1) (PySem.mem_of_lookup h2)
 · have hy:scope.names.lookup y=some .cell\/scope.names.lookup y=some .free:=hy;rcases hy with hy|hy
   · exact zd1 hy
   · exact absurd rfl (S.nofree _ (PySem.mem_of_lookup hy))
 · exact Wx (x.above y c (PySem.mem_of_lookup h))
 · have hi:i<vs.length:=by
     unfold start at h2;by_cases hi:i<vs.length
     · exact hi
     · rw[W7 (by simpa using hi)]at h2;rw[W8]at h2;split at h2<;>cases h2
   have ha:vs[i]?=some v:=by
     unfold start at h2;rw[wY (by simpa using hi),wu]at h2;cases e:vs[i]? with
     | none=>rw[e]at h2;cases h2
     | some a=>rw[e]at h2;cases h2;rfl
   obtain⟨u,hu,rv⟩:=r.get ha;have hp:ps[i]?=some y:=by
     rw[←S.pre,List.getElem?_take_of_lt (by rfl')];exact h1
   have ndP:ps.Nodup:=by rw[←S.pre];exact S.nd.sublist (List.take_sublist _ _)
   refine⟨u,rv,?_⟩;rcases S.par y (WZ hp)with k|k
   · exact .inl ⟨k,zaO ndP hp hu k⟩
   · obtain⟨c,e⟩:=zd1 (n:=s.heap.objs.size+1) k;refine .inr ⟨.inl k,c,e,?_⟩;have q:=x.cell y c e;rw[zaP ndP hp hu (by show scope.names.lookup y≠_;rw[k];decide)]at q;exact q
 · exact e0.hok.fresh (Wx (x.above y c (PySem.mem_of_lookup h)))
 · unfold start;show _=N.length;rw[wI,wo,Wo];rfl'
theorem fn_of{CX:CXT}{P:Program}{w:World}{K:PySem.W.Frag}{mg:Str->Option Value}{base:Heap}{k:Nat}{f:Addr}{name qual:Str}{params:Arguments}{body:List Stmt}{scope:Scope}{dV kV doc pm cdv ct oc:Value}{an od:Option Addr}
  {osl:Array (Option Value)} {N ps:List Str} {sp:Sp} (lk:K.lookup f=some ⟨oc,od,.func (PySem.W.fnOf name qual params body scope dV kV doc pm an cdv ct),osl⟩) (hcd:PySem.W.codeIn K cdv qual=true) (S:FnScope N ps scope)
  (len:∀ vs H Q E,sp vs H Q E->vs.length=ps.length)
  (hbody:∀(A:Around) (outer:List Env) (s:Shared) (H:Hp) (vs:List V) (Q:VK) (E:XK),Room k (A.deeper (envOfC qual scope s.heap.objs.size f cdv))->sp vs H Q E ->
    ∃ t,PSs (cxOf CX P w K mg base N qual scope f cdv A outer s H E) body t/\t { nx:=λ_ H'=>Q .non H',rt:=Q } (start N vs) H) :
  FnOk P w K mg base CX (k+1) f (PySem.W.fnOf name qual params body scope dV kV doc pm an cdv ct) ps sp:=by
 refine⟨len,λA outer s H args us vs Q E hr e0 hb r hsp=>?_⟩;have hl:=len _ _ _ _ hsp;have KX:K.In s.heap:=e0.mod.kin.keeps λb o e=>(e0.bs b o e).1;have lim:s.heap.NoLimit:=e0.mod.nolimit.keeps λb o e=>(e0.bs b o e).1;have hkind:∀ y∈ps.zip us,scope.names.lookup y.1=some .local\/(scope.names.lookup y.1=some .cell/\((cellsFrom (s.heap.objs.size+1) scope.names []).lookup y.1).isSome=true):=λ⟨n,v⟩ hy=>by
  rcases S.par n (Wt hy).1 with q|q
  · exact .inl q
  · exact .inr ⟨q,PySem.W.cellsFrom_some _ _ _ (.inl q)⟩
 refine codeAny_call_function hr.depth (KX _ _ lk) rfl S.co S.gen rfl (PySem.W.codeRec_of KX hcd) (hb _ _ _ _ ?_);refine wpAny_newFunctionEnv_cells S.kind hkind λenv he s1 x=>?_;subst he;refine⟨lim.keeps x.toInCall.keep,codeAny_func ?_⟩;obtain⟨t,ht,hq⟩:=hbody A outer s H vs Q E (hr.deeper _) hsp;have I:Inv (cxOf CX P w K mg base N qual scope f cdv A outer s H E) [] (start N vs) H s1:=zjy S hr.hd e0 hl r x;refine wpAny_mono (ht [] s1 (start N vs) H _ I hq) (λfl s' hs=>?_) λe s' hs=>hs;have fin:∀{σ':St} {H':Hp} {v:V} {u:Value},Inv (cxOf CX P w K mg base N qual scope f cdv A outer s H E) [] σ' H' s'->RelV v u->Q v H'->CE outer P w H s Q u s' :=
  λ{σ' H' v u} J rv q=>⟨v,H',J.os,J.bare,J.base,J.hok,rv,q⟩
 cases fl with
 | ret u =>
  obtain⟨v,σ',H',J,rv,q⟩:=hs;exact fin J rv q
 | next =>
  obtain⟨σ',H',J,q⟩:=hs;exact fin (v:=V.non) (u:=Value.none) J rfl q
 | brk =>
  obtain⟨_,_,_,q⟩:=hs;exact False.elim q
 | cont =>
  obtain⟨_,_,_,q⟩:=hs;exact False.elim q
end L2
namespace L2
open PySem PySem.Spec PyProof.Rows
section
variable {X:Cx}{x:Str}{p pos:Pos}{e:Expr}{es:List Expr}{t:TA}{id T:String}{r:List V->Hp->VK->Prop}
def tCB(r:List V->Hp->VK->Prop)(t:TA):TE:=λσ H Q=>t σ H λvs H1=>r vs H1 Q
theorem zd2(hc:CallR X (.builtin id) r)(hg:Gl X x)(hm:X.mg x=none)(hv:bootBuiltins x=some (.builtin id))(ha:PA X (e::es) t)(hn:x ≠ "__name__" := by decide)(hdb:(x==("__debug__" : Str))=false:=by decide)
  (he:starEach (e::es) X.env=(false,eval e X.env)::starEach es X.env:=by rfl) (hpl:(backTo pos (starEach es X.env)).any (·.1)=false:=by rfl):PE X (.Call (.Name x p) (e::es) [] pos) (tCB r t):=by
 intro pins s σ H Q I h;refine wpAny_Call_Name_kw (z4d I hg hm hv ?_ hn hdb);exact PyProof.Rows.callWith_builtin1 (thn (ha pos pins s σ H _ I h) λus s1⟨vs,H1,I1,r1,q1⟩=>hc pins s1 σ H1 vs us Q I1 r1 q1) he hpl
theorem zjz(hc:CallR X (.type T) r)(hg:Gl X x)(hm:X.mg x=none)(hv:bootBuiltins x=some (.type T))(ha:PA X (e::es) t)(hn:x ≠ "__name__" := by decide)(hdb:(x==("__debug__" : Str))=false:=by decide)
  (he:starEach (e::es) X.env=(false,eval e X.env)::starEach es X.env:=by rfl) (hpl:(backTo pos (starEach es X.env)).any (·.1)=false:=by rfl):PE X (.Call (.Name x p) (e::es) [] pos) (tCB r t):=by
 intro pins s σ H Q I h;refine wpAny_Call_Name_kw (z4d I hg hm hv ?_ hn hdb);exact PyProof.Rows.callWith_type1 (thn (ha pos pins s σ H _ I h) λus s1⟨vs,H1,I1,r1,q1⟩=>hc pins s1 σ H1 vs us Q I1 r1 q1) he hpl
end
end L2
namespace HT
open PySem PyProof.Rows
section
open PySem.SeqAt
open PySem.AutoSeq1 (wpAny_loadPart')
open PySem.MeetsSeq PySem.MeetsSeq2 PySem.MeetsSeq3
end
section
variable {prog:Program}{w:World}{A:Around}{E:Value->Shared->Prop}{s:Shared}
def sIx(n d:Nat):Option Int->Nat
 | none=>d
 | some v=>if v<0 then(v+(n:Int)).toNat else min v.toNat n
theorem sIx_none(n d:Nat):sIx n d none=d:=rfl
theorem sIx_nat(n d k:Nat):sIx n d (some (k:Int))=min k n:=by
 show(if(k:Int)<0 then((k:Int)+(n:Int)).toNat else min (k:Int).toNat n)=min k n;rw[if_neg (by rfl'),vO]
end
end HT
namespace L2
open PySem PySem.Spec PyProof.Rows
abbrev TO:=St->Hp->(Option Int->Hp->Prop)->Prop
def PO(X:Cx)(e:Option Expr)(t:TO):Prop :=
 ∀(pins:List (Addr×Obj)) (s:Shared) (σ:St) (H:Hp) (Q:Option Int->Hp->Prop),Inv X pins σ H s->t σ H Q ->
  wpAny (model X.prog X.w) X.A (evalPart e X.env) (λu s'=>∃ o H',Inv X pins σ H' s'/\IsPart u o/\Q o H') X.xe s
def zoe:TO:=λ_ H Q=>Q none H
def tPart(t:TE):TO:=λσ H Q=>t σ H λx H1=>∃ i,x = .int i/\Q (some i) H1
section
variable {X:Cx}{e:Expr}{te:TE}{lo hi:Option Expr}{tl th:TO}{pos p2:Pos}
theorem zof:PO X none zoe:=by
 intro pins s σ H Q I h;rw[evalPart_none];exact wpAny_pure ⟨none,H,I,.none,h⟩
theorem zog(h:PE X e te):PO X (some e) (tPart te):=by
 intro pins s σ H Q I hw;rw[evalPart_some];refine thn (h pins s σ H _ I hw) ?_;rintro u s1 ⟨x,H1,I1,r1,q1⟩;obtain⟨i,rfl,q⟩:=q1;obtain⟨t,rfl⟩:=r1;exact⟨some i,H1,I1,.int i t,q⟩
def SlR(X:Cx)(r:V->Option Int->Option Int->Hp->VK->Prop):Prop :=
 ∀(pins:List (Addr×Obj)) (s:Shared) (σ:St) (H:Hp) (x:V) (v vl vu:Value) (lo hi:Option Int) (sl:Addr) (Q:VK),Inv X pins σ H s->RelV x v->s.heap.IsSliceOf sl vl vu .none->IsPart vl lo->IsPart vu hi->r x lo hi H Q ->
  ∃ T id,typeLookup (.type T) "__getitem__" = pure (some (.builtin id))/\s.TypeIs v T/\wpAny (model X.prog X.w) X.A (getItem v (.ref sl)) (EP X pins σ Q) X.xe s
theorem SlR.or{r r':V->Option Int->Option Int->Hp->VK->Prop}(h:SlR X r)(h':SlR X r'):SlR X (λx lo hi H Q=>r x lo hi H Q\/r' x lo hi H Q):=by
 intro pins s σ H x v vl vu lo hi sl Q I rx hs pl pu q;rcases q with q|q
 · exact h pins s σ H x v vl vu lo hi sl Q I rx hs pl pu q
 · exact h' pins s σ H x v vl vu lo hi sl Q I rx hs pl pu q
def tSl(r:V->Option Int->Option Int->Hp->VK->Prop)(te:TE)(tl th:TO):TE:=λσ H Q=>te σ H λx H1=>tl σ H1 λl H2=>th σ H2 λu H3=>r x l u H3 Q
theorem zkw{r:V->Option Int->Option Int->Hp->VK->Prop}(hr:SlR X r)(he:PE X e te)(hl:PO X lo tl)(hu:PO X hi th):PE X (.Subscript e (.Slice lo hi none p2) pos) (tSl r te tl th):=by
 intro pins s σ H Q I h;refine Subscript_ (thn (he pins s σ H _ I h) ?_);rintro v s1 ⟨x,H1,I1,r1,q1⟩;refine wpAny_Slice (thn (hl pins s1 σ H1 _ I1 q1) λvl s2⟨l,H2,I2,pl,q2⟩=>thn (hu pins s2 σ H2 _ I2 q2) ?_);rintro vu s3 ⟨u,H3,I3,pu,q3⟩;rw[evalPart_none];refine wpAny_pure ?_;have I4:Inv X pins σ H3 { s3 with heap:=s3.heap.push { cls := .type "slice",data := .fields #[vl,vu,.none] } }:=I3.kept (t':=s3.toks) λb ob q=>wd _ q;obtain⟨T,id,hT,ht,hg⟩:=hr pins { s3 with heap:=s3.heap.push { cls := .type "slice",data := .fields #[vl,vu,.none] } } σ H3 x v vl vu l u s3.heap.objs.size Q I4 r1 (Heap.IsSliceOf.new ..) pl pu q3;show wpAny (model X.prog X.w) X.A (subscriptTail e (.Slice lo hi none p2) v (.ref s3.heap.objs.size)) (EP X pins σ Q) X.xe { s3 with heap:=s3.heap.push { cls := .type "slice",data := .fields #[vl,vu,.none] } };exact tail_any (ops:=[.ref s3.heap.objs.size,v]) ht hT hg (by with_unfolding_all rfl)
def cutV(xs:List V)(lo hi:Option Int):List V:=(xs.drop (HT.sIx xs.length 0 lo)).take (HT.sIx xs.length xs.length hi-HT.sIx xs.length 0 lo)
theorem zd3(xs:List V)(lo hi:Option Int):(cutV xs lo hi).length<=xs.length:=by
 unfold cutV;rw[Wq,Wc];rfl'
end
end L2
namespace L2
open PySem PySem.Spec PyProof.Rows
def ixN(n:Nat)(i:Int):Option Nat:=if 0<=i then(if i<n then some i.toNat else none) else if -(n:Int)<=i then some (i+n).toNat else none
def atI{α:Type}(xs:List α)(i:Int):Option α:=(ixN xs.length i).bind λj=>xs[j]?
theorem ziy{n:Nat}{i:Int}{j:Nat}(h:ixN n i=some j):seqIndex? i n=some j/\j<n /\ -(n:Int)<=i/\i<n:=by
 unfold ixN at h;by_cases h0:0<=i
 · rw[if_pos h0]at h;by_cases h1:i<n
   · rw[if_pos h1]at h;have e:i.toNat=j:=Option.some.inj h;exact⟨by rw[seqIndex_of h0 h1,e],by rfl',by rfl',h1⟩
   · rw[if_neg h1]at h;cases h
 · rw[if_neg h0]at h;by_cases h1 : -(n:Int)<=i
   · rw[if_pos h1]at h;have e:(i+n).toNat=j:=Option.some.inj h;exact⟨by rw[seqIndex_neg (by rfl') h1,e],by rfl',h1,by rfl'⟩
   · rw[if_neg h1]at h;cases h
theorem zc8{α:Type}{xs:List α}{i:Int}{v:α}(h:atI xs i=some v):∃ j,seqIndex? i xs.length=some j/\xs[j]?=some v/\j<xs.length /\ -(xs.length:Int)<=i/\i<xs.length:=by
 unfold atI at h;cases e:ixN xs.length i with
 | none=>rw[e]at h;cases h
 | some j =>
  rw[e]at h;obtain⟨h1,h2,h3,h4⟩:=ziy e;exact⟨j,h1,h,h2,h3,h4⟩
theorem z2y{α:Type}{xs:List α}{j:Nat}{v:α}(h:xs[j]?=some v):atI xs (j:Int)=some v:=by
 have hj:j<xs.length:=(Wu.mp h).1;have e:ixN xs.length (j:Int)=some j:=by
  unfold ixN;rw[if_pos (by rfl'),if_pos (by rfl')];simp
 unfold atI;rw[e];exact h
def zc9(b:Expr):Prop:=∀ o i,subscripted b false o i=operate [o,i] (getItem o i)
def IxR(X:Cx)(r:R2):Prop :=
 ∀(value slice:Expr) (pins:List (Addr×Obj)) (s:Shared) (σ:St) (H:Hp) (x y:V) (v u:Value) (Q:VK),Inv X pins σ H s->RelV x v->RelV y u->r x y H Q ->
  subscripted slice false v u=operate [v,u] (getItem v u)->wpAny (model X.prog X.w) X.A (subscriptTail value slice v u) (EP X pins σ Q) X.xe s
def MtR(X:Cx)(id:String)(r:V->List V->Hp->VK->Prop):Prop :=
 ∀(pins:List (Addr×Obj)) (s:Shared) (σ:St) (H:Hp) (x:V) (xs:List V) (v:Value) (us:List Value) (Q:VK),Inv X pins σ H s->RelV x v->Vals xs us->r x xs H Q ->
  wpAny (model X.prog X.w) X.A (call (.builtin id) (v::us)) (EP X pins σ Q) X.xe s
section
variable {X:Cx}{a b:Expr}{ta tb:TE}{pos:Pos}
theorem IxR.or{r r':R2}(h:IxR X r)(h':IxR X r'):IxR X (λx y H Q=>r x y H Q\/r' x y H Q):=by
 intro value slice pins s σ H x y v u Q I rx ry q hs;rcases q with q|q
 · exact h value slice pins s σ H x y v u Q I rx ry q hs
 · exact h' value slice pins s σ H x y v u Q I rx ry q hs
theorem MtR.or{id:String}{r r':V->List V->Hp->VK->Prop}(h:MtR X id r)(h':MtR X id r'):MtR X id (λx xs H Q=>r x xs H Q\/r' x xs H Q):=by
 intro pins s σ H x xs v us Q I rx rs q;rcases q with q|q
 · exact h pins s σ H x xs v us Q I rx rs q
 · exact h' pins s σ H x xs v us Q I rx rs q
theorem pe_ix{r:R2}(hr:IxR X r)(ha:PE X a ta)(hb:PE X b tb)(hs:zc9 b):PE X (.Subscript a b pos) (tOp r ta tb):=by
 intro pins s σ H Q I h;exact Subscript_ (binT ha hb I h λv u s2 x y H2 I2 rx ry q=>hr a b pins s2 σ H2 x y v u Q I2 rx ry q (hs _ _))
def rIxL(K:PySem.W.Frag):R2:=λx y H Q=>∃ p xs i v,x = .ref p/\y = .int i/\SqL K H p xs/\atI xs i=some v/\Q v H
def rIxT(K:PySem.W.Frag):R2:=λx y H Q=>∃ p xs i v,x = .ref p/\y = .int i/\SqT K H p xs/\atI xs i=some v/\Q v H
def rIxS:R2:=λx y H Q=>∃ z i c,x = .str z/\y = .int i/\z.length<=sizeLine/\atI z.cps.toList i=some c/\Q (.str ⟨#[c]⟩) H
theorem zoh:IxR X (rIxL X.K):=by
 intro value slice pins s σ H x y v u Q I rx ry h hs;obtain⟨p,xs,i,z,rfl,rfl,hq,he,q⟩:=h;cases rx;obtain⟨t,rfl⟩:=ry;obtain⟨its,r,pl,hz⟩:=I.list hq;obtain⟨j,h1,h2,h3,h4,h5⟩:=zc8 he;obtain⟨w,ew,rw'⟩:=r.get h2;have hl:=r.length;have hn:=z7B;have fin:EP X pins σ Q w s:=⟨z,H,I,rw',q⟩;by_cases h0:0<=i
 · have hj:i.toNat=j:=by
    rw[seqIndex_of h0 h5]at h1;exact Option.some.inj h1
   exact item_listR pl.isList h0 (by rfl') (by rw[hj];simpa using ew) fin hs
 · have hj:(i+(its.toArray.size:Int)).toNat=j:=by
    rw[seqIndex_neg (by rfl') h4]at h1;rw[wB,←hl];exact Option.some.inj h1
   exact subscriptTail_builtinR (x:=w) pl.isList.typeIs slot_list_getitem.lookup
    (wpAny_getItem_list_neg (Q:=λr s'=>r=w/\EP X pins σ Q r s') pl.isList (by rfl') (by rw[wB]<;>rfl') (by rfl') (by rw[hj];simpa using ew) ⟨rfl,fin⟩) hs
theorem ix_tup:IxR X (rIxT X.K):=by
 intro value slice pins s σ H x y v u Q I rx ry h hs;obtain⟨p,xs,i,z,rfl,rfl,hq,he,q⟩:=h;cases rx;obtain⟨t,rfl⟩:=ry;obtain⟨its,r,pl,hz⟩:=I.tuple hq;obtain⟨j,h1,h2,h3,h4,h5⟩:=zc8 he;obtain⟨w,ew,rw'⟩:=r.get h2;have hl:=r.length;have hn:=z7B;have fin:EP X pins σ Q w s:=⟨z,H,I,rw',q⟩;exact subscriptTail_builtinR (x:=w) pl.typeIs slot_tuple_getitem.lookup
  (getItem_tuple (j:=j) (Q:=λr s'=>r=w/\EP X pins σ Q r s') pl (by rfl') (by rfl') (by rw[wB,←hl];exact h1) (by simpa using ew) ⟨rfl,fin⟩) hs
theorem ix_str:IxR X rIxS:=by
 intro value slice pins s σ H x y v u Q I rx ry h hs;obtain⟨z,i,c,rfl,rfl,hz,he,q⟩:=h;obtain⟨t,rfl⟩:=rx;obtain⟨t',rfl⟩:=ry;obtain⟨j,h1,h2,h3,h4,h5⟩:=zc8 he;have hl:z.cps.toList.length=z.length:=by simp[Str.length]
 rw[hl]at h1 h4 h5;have hn:=z7B;exact tail_any (typeIs_str s z t) slot_str_getitem.lookup (getItem_str (c:=c) (by
  have e1:decide (i < -(2 ^ 63:Int))=false:=decide_eq_false (by rfl');have e2:decide (i≥2 ^ 63)=false:=decide_eq_false (by rfl');rw[e1,e2,Bool.or_false]) (by rw[h1];simpa using h2) ⟨.str ⟨#[c]⟩,H,I.tok _,⟨_,rfl⟩,q⟩) hs
def rIx(K:PySem.W.Frag):R2:=λx y H Q=>rIxL K x y H Q\/rIxT K x y H Q\/rIxS x y H Q
theorem ix_seq:IxR X (rIx X.K):=zoh.or (ix_tup.or ix_str)
theorem zen(its:List Value)(n j:Nat)(u:Value):Obj.mapSeq (·.setIfInBounds j u) { cls := .type "list",data := .seq its.toArray n }={ cls := .type "list",data := .seq (its.set j u).toArray n }:=by
 simp[Obj.mapSeq]
theorem Inv.lst{pins:List (Addr×Obj)}{σ:St}{H:Hp}{s:Shared}{p:Addr}{xs:List V}(I:Inv X pins σ H s)(h:H p=some (.lst xs)):
  ∃(its:List Value) (n:Nat),Vals xs its/\s.heap.get? p=some { cls := .type "list",data := .seq its.toArray n }/\xs.length<=sizeLine:=by
 obtain⟨z,its,n,r,e⟩:=I.hok p _ h;exact⟨its,n,r,e,z⟩
theorem Inv.lstUpd{pins:List (Addr×Obj)}{σ:St}{H:Hp}{s:Shared}{p:Addr}{xs ys:List V}{its its':List Value}{n n':Nat}{f:Obj->Obj}(I:Inv X pins σ H s)(h:H p=some (.lst xs))
  (ho:s.heap.get? p=some { cls := .type "list",data := .seq its.toArray n }) (hf:f { cls := .type "list",data := .seq its.toArray n }={ cls := .type "list",data := .seq its'.toArray n' }) (r:Vals ys its') (hz:ys.length<=sizeLine) (t:Nat) :
  Inv X pins σ (upd H p (.lst ys)) { s with heap:=s.heap.update p f,toks:=t }:=by
 have e:(s.heap.update p f).get? p=some { cls := .type "list",data := .seq its'.toArray n' }:=by
  rw[Vd f ho (by rw[hf]<;>rfl),hf]
 refine I.write (x:=p) (e:=p) (by rw[h];trivial) (.inl rfl) (λb u hb q=>(V7 _ _ (Ne.symm hb)).trans q) ⟨_,e⟩ ?_;exact⟨hz,its',n',r,e⟩
def rSetL:V->V->V->Hp->(Hp->Prop)->Prop:=λo i v H Q=>∃ p xs k j,o = .ref p/\i = .int k/\H p=some (.lst xs)/\ixN xs.length k=some j/\Q (upd H p (.lst (xs.set j v)))
theorem zkx:PSet X rSetL:=by
 intro pins s σ H o i v ov iv u Q I ro ri rv h;obtain⟨p,xs,k,j,rfl,rfl,hp,hj,q⟩:=h;cases ro;obtain⟨t,rfl⟩:=ri;obtain⟨its,n,r,ho,hz⟩:=I.lst hp;obtain⟨h1,h2,h3,h4⟩:=ziy hj;have hl:=r.length;have hn:=z7B;have I':Inv X pins σ (upd H p (.lst (xs.set j v))) { s with heap:=s.heap.update p (Obj.mapSeq (·.setIfInBounds j u)) } :=
   I.lstUpd hp ho (zen its n j u) (r.set rv j) (by rw[Wj];exact hz) s.toks
 by_cases h0:0<=k
 · have hk:k.toNat=j:=by
    rw[seqIndex_of h0 h4]at h1;exact Option.some.inj h1
   exact PySem.W.ki_setAt ho h0 (by rfl') (by rw[wB,←hl];exact h4) (by rw[hk];exact⟨_,I',q⟩)
 · have hk:(k+(its.toArray.size:Int)).toNat=j:=by
    rw[seqIndex_neg (by rfl') h3]at h1;rw[wB,←hl];exact Option.some.inj h1
   exact PySem.W.ki_setBack ho (by rfl') (by rw[wB,←hl];exact h3) (by rfl') (by rw[hk];exact⟨_,I',q⟩)
theorem zca(lo hi:Option Int)(n:Nat):(sliceBounds lo hi none n).1=((HT.sIx n 0 lo:Nat):Int)/\(sliceBounds lo hi none n).2.1=((HT.sIx n n hi:Nat):Int)/\(sliceBounds lo hi none n).2.2=1:=by
 refine⟨?_,?_,rfl⟩
 · cases lo with
   | none=>simp[sliceBounds,HT.sIx]
   | some i =>
    simp only[sliceBounds,HT.sIx,VF,show(1:Int) > 0 by decide,if_true];by_cases h:i<0
    · simp only[h,if_true]<;>rfl'
    · simp only[h,if_false]<;>rfl'
 · cases hi with
   | none=>simp[sliceBounds,HT.sIx]
   | some i =>
    simp only[sliceBounds,HT.sIx,VF,show(1:Int) > 0 by decide,if_true];by_cases h:i<0
    · simp only[h,if_true]<;>rfl'
    · simp only[h,if_false]<;>rfl'
theorem zaC(its:List Value)(lo hi:Option Int):slicePick its.toArray lo hi none=((its.drop (HT.sIx its.length 0 lo)).take (HT.sIx its.length its.length hi-HT.sIx its.length 0 lo)).toArray:=by
 obtain⟨h1,h2,h3⟩:=zca lo hi its.toArray.size;unfold slicePick;rw[h1,h2,h3];simp only[sliceRange_one,pick_run,wB]<;>rfl
def rSlL(K:PySem.W.Frag):V->Option Int->Option Int->Hp->VK->Prop:=λx lo hi H Q=>∃ a xs,x = .ref a/\SqL K H a xs/\∀ p,H p=none->Q (.ref p) (upd H p (.lst (cutV xs lo hi)))
theorem zoi:SlR X (rSlL X.K):=by
 intro pins s σ H x v vl vu lo hi sl Q I rx hs pl pu h;obtain⟨a,xs,rfl,hx,q⟩:=h;cases rx;obtain⟨its,r,ht,hz⟩:=I.list hx;have hlen:=r.length;refine⟨"list",_,slot_list_getitem.lookup,ht.isList.typeIs,?_⟩;refine wpAny_getItem_list_slice ht.isList hs pl pu .none (by simp) ?_ (by rw[wB]<;>rfl');rw[zaC,←hlen];refine⟨.ref s.heap.objs.size,_,I.laid (t':=s.toks) (o := .lst (cutV xs lo hi)) (λb ob q=>wd _ q) (wx _) ?_,rfl,q _ (I.hok.fresh (wx _))⟩;exact⟨wG (zd3 xs lo hi) hz,_,0,(r.drop (HT.sIx xs.length 0 lo)).take (HT.sIx xs.length xs.length hi-HT.sIx xs.length 0 lo),wy _ rfl⟩
theorem z4g:CallR X (.builtin "len") (λxs H Q=>∃ p ys,xs=[.ref p]/\(SqL X.K H p ys\/SqT X.K H p ys)/\Q (.int ys.length) H):=by
 intro pins s σ H xs us Q I r h;obtain⟨p,ys,rfl,hq,q⟩:=h;obtain⟨u,rfl,rx⟩:=ziw r;cases rx;have hn:=z7B;rcases hq with hq|hq
 · obtain⟨its,r',pl,hz⟩:=I.list hq;have hlen:=r'.length;exact Calls.call_len_list pl.isList (by simp only[wB]<;>rfl') ⟨.int ys.length,H,I.tok _,⟨s.toks+1,by rw[wB,hlen]⟩,q⟩
 · obtain⟨its,r',pl,hz⟩:=I.tuple hq;have hlen:=r'.length;exact len_tuple pl (by simp only[wB]<;>rfl') ⟨.int ys.length,H,I.tok _,⟨s.toks+1,by rw[wB,hlen]⟩,q⟩
theorem CallR.or{f:Value}{r r':List V->Hp->VK->Prop}(h:CallR X f r)(h':CallR X f r'):CallR X f (λxs H Q=>r xs H Q\/r' xs H Q):=by
 intro pins s σ H xs us Q I rs q;rcases q with q|q
 · exact h pins s σ H xs us Q I rs q
 · exact h' pins s σ H xs us Q I rs q
theorem z6N:CallR X (.type "list") (λxs H Q=>∃ p ys,xs=[.ref p]/\(SqL X.K H p ys\/SqT X.K H p ys)/\∀ l,H l=none->Q (.ref l) (upd H l (.lst ys))):=by
 intro pins s σ H xs us Q I r h;obtain⟨p,ys,rfl,hq,q⟩:=h;obtain⟨u,rfl,rx⟩:=ziw r;cases rx;have fin:∀(its:List Value),Vals ys its->ys.length<=sizeLine->∀(h':Heap) (c':Nat),(∀ b o',s.heap.get? b=some o'->h'.get? b=some o') ->
    h'.get? s.heap.objs.size=some { cls := .type "list",dict:=none,data := .seq its.toArray c',slots:=#[] }->EP X pins σ Q (.ref s.heap.objs.size) { s with heap:=h' }:=λits r' hz h' c' kp e =>
   ⟨.ref s.heap.objs.size,_,I.laid (t':=s.toks) kp (wx _) (show ObjOk X.prog X.w _ h' _ (.lst ys) from⟨hz,its,c',r',e⟩),rfl,q _ (I.hok.fresh (wx _))⟩
 rcases hq with hq|hq
 · obtain⟨its,r',pl,hz⟩:=I.list hq;have hlen:=r'.length;obtain⟨o,ho,hc,n,hd⟩:=pl.isList;exact call_list_seq p (.inl rfl) ho hc hd (λh' c' kp e=>fin its r' hz h' c' kp e) (by simp only[wB]<;>rfl')
 · obtain⟨its,r',pl,hz⟩:=I.tuple hq;have hlen:=r'.length;obtain⟨o,ho,hc,n,hd⟩:=pl;exact call_list_seq p (.inr rfl) ho hc hd (λh' c' kp e=>fin its r' hz h' c' kp e) (by simp only[wB]<;>rfl')
theorem z67:CallR X (.type "tuple") (λxs H Q=>∃ p ys,xs=[.ref p]/\((SqL X.K H p ys/\∀ l,H l=none->Q (.ref l) (upd H l (.tup ys)))\/(SqT X.K H p ys/\Q (.ref p) H))):=by
 intro pins s σ H xs us Q I r h;obtain⟨p,ys,rfl,h⟩:=h;obtain⟨u,rfl,rx⟩:=ziw r;cases rx;rcases h with⟨hq,q⟩|⟨hq,q⟩
 · obtain⟨its,r',pl,hz⟩:=I.list hq;have hlen:=r'.length;refine call_tuple_list pl.isList (λh' kp=>?_) (by simp only[wB]<;>rfl');have I1:Inv X pins σ H { s with heap:=h' }:=I.kept (t':=s.toks) kp;have I2:Inv X pins σ (upd H h'.objs.size (.tup ys)) { s with heap:=h'.push { cls := .type "tuple",data := .seq its.toArray } } :=
    I1.laid (t':=s.toks) (λb o e=>wd _ e) (wx _) (show ObjOk X.prog X.w _ _ _ (.tup ys) from⟨hz,its,r',IsTup.new _ _⟩)
   exact⟨.ref h'.objs.size,_,I2,rfl,q _ (I1.hok.fresh (wx _))⟩
 · obtain⟨its,r',pl,hz⟩:=I.tuple hq;exact call_tuple_same pl ⟨.ref p,H,I,rfl,q⟩
def tyV(K:PySem.W.Frag)(T:String)(x:V)(H:Hp):Prop:=match x with
 | .str _=>T = "str"
 | .int _=>T = "int"
 | .ref p=>(T = "list" /\ ∃ xs,SqL K H p xs)\/(T = "tuple" /\ ∃ o,K.lookup p=some o/\o.cls = .type "tuple" /\ o.dict=none) \/
  (T = "dict" /\ ((∃ kvs,H p=some (.dK kvs))\/∃ kvs,H p=some (.dT kvs)))\/(T = "set" /\ ∃ S n,H p=some (.set S n))
 | _=>False
theorem tyV_is{pins:List (Addr×Obj)}{σ:St}{H:Hp}{s:Shared}{T:String}{x:V}{v:Value}(I:Inv X pins σ H s)(r:RelV x v)(ty:tyV X.K T x H):
  s.TypeIs v T/\∀ a,v = .ref a->∃ ob,s.heap.get? a=some ob/\ob.dict=none:=by
 cases x with
 | str z =>
  obtain⟨t,rfl⟩:=r;cases (show T = "str" from ty);exact⟨typeIs_str s z t,λ_ e=>nomatch e⟩
 | int i =>
  obtain⟨t,rfl⟩:=r;cases (show T = "int" from ty);exact⟨typeIs_int s i t,λ_ e=>nomatch e⟩
 | ref p =>
  cases r;rcases ty with⟨rfl,xs,hq⟩|⟨rfl,o,hk,hc,hd⟩|⟨rfl,hk⟩|⟨rfl,S,n,hk⟩
  · obtain⟨its,_,pl,_⟩:=I.list hq;refine⟨pl.isList.typeIs,λa e=>?_⟩;cases e;obtain⟨o,n,e,c,hd,_⟩:=pl;exact⟨o,e,hd⟩
  · refine⟨⟨o,I.kIn p o hk,hc⟩,λa e=>?_⟩;cases e;exact⟨o,I.kIn _ o hk,hd⟩
  · have z:∃ o,s.heap.get? p=some o/\o.ExactDict:=by
     rcases hk with⟨kvs,hk⟩|⟨kvs,hk⟩
     · obtain⟨_,_,_,_,o,_,_,e,ex,_⟩:=I.hok p _ hk;exact⟨o,e,ex⟩
     · obtain⟨_,_,_,_,o,_,_,e,ex,_⟩:=I.hok p _ hk;exact⟨o,e,ex⟩
    obtain⟨o,e,ex⟩:=z;refine⟨⟨o,e,ex.1⟩,λa e2=>?_⟩;cases e2;exact⟨o,e,ex.2.1⟩
  · obtain⟨o,_,_,_,e,ex,_⟩:=I.hok p _ hk;refine⟨⟨o,e,ex.1⟩,λa e2=>?_⟩;cases e2;exact⟨o,e,ex.2.1⟩
 | _=>exact False.elim ty
def tBM(K:PySem.W.Frag)(T:String)(r:V->List V->Hp->VK->Prop)(to:TE)(t:TA):TE:=λσ H Q=>to σ H λx H1=>tyV K T x H1/\t σ H1 λxs H2=>r x xs H2 Q
variable {o e:Expr}{es:List Expr}{to:TE}{t:TA}{name:Str}{apos cpos:Pos}{T id:String}{r:V->List V->Hp->VK->Prop}
theorem pe_bm(pa:PlainAttrs T)(slot:Slot T name id)(hty:typeOf (.builtin id)=pure (.type "method_descriptor"))(hm:MtR X id r)(ho:PE X o to)(ha:PA X (e::es) t)
  (hbase:attributeBase o name X.env (eval o X.env)=eval o X.env:=by rfl)
  (hfew:((backTo cpos (starEach (e::es) X.env)).all (fun x=>!x.1)&&(backToKw cpos (keywordEach [] X.env)).all (fun x=>x.1.isSome)
   && decide ((e::es).length+([]:List Keyword).length+(if([]:List Keyword).isEmpty then 0 else 1)<30))=true:=by rfl)
  (hline:(apos.endLine==cpos.line)=true:=by rfl) (hs:starEach (e::es) X.env=(false,eval e X.env)::starEach es X.env:=by rfl) (hplain:(backTo cpos (starEach es X.env)).any (·.1)=false:=by rfl) :
  PE X (.Call (.Attribute o name apos) (e::es) [] cpos) (tBM X.K T r to t):=by
 intro pins s σ H Q I h;refine wpAny_Call_method_late hbase hfew hline rfl (thn (ho pins s σ H _ I h) ?_);rintro v s1 ⟨x,H1,I1,r1,ty,q1⟩;obtain⟨h1,h2⟩:=tyV_is I1 r1 ty;refine⟨T,id,pa,slot,hty,h1,h2,?_⟩;have hA:=ha cpos pins s1 σ H1 _ I1 q1;rw[hs]at hA ⊢;refine Calls.callWith_builtin (by show(false||(backTo cpos (starEach es X.env)).any (·.1))=false;rw[hplain]<;>rfl) (Calls.evalArgs_plain ?_);exact thn hA λus s2⟨vs,H2,I2,r2,q2⟩=>hm pins s2 σ H2 x vs v us Q I2 r1 r2 q2
end
end L2
namespace L2
open PySem PySem.Spec PyProof.Rows
def MtM(X:Cx)(id:String)(r:V->List V->Hp->VK->Prop):Prop :=
 ∀(pins:List (Addr×Obj)) (s:Shared) (σ:St) (H:Hp) (x:V) (xs:List V) (v:Value) (us:List Value) (Q:VK),Inv X pins σ H s->RelV x v->Vals xs us->r x xs H Q ->
  wpAny (model X.prog X.w) X.A (call (.builtin id) (v::us)) (EP X pins σ Q) X.xe s
theorem Vals.zero:∀{us:List Value},Vals [] us->us=[]
 | _,.nil=>rfl
theorem Vals.uncons{x:V}{xs:List V}{us:List Value}(h:Vals (x::xs) us):∃ u vs,us=u::vs/\RelV x u/\Vals xs vs:=by
 cases h with
 | cons r t=>exact⟨_,_,rfl,r,t⟩
theorem Vals.one{x:V}{us:List Value}(h:Vals [x] us):∃ u,us=[u]/\RelV x u:=by
 obtain⟨u,vs,e,r,t⟩:=h.uncons;rw[t.zero]at e;exact⟨u,e,r⟩
theorem Vals.two{x y:V}{us:List Value}(h:Vals [x,y] us):∃ u v,us=[u,v]/\RelV x u/\RelV y v:=by
 obtain⟨u,vs,e,r,t⟩:=h.uncons;obtain⟨v,e2,q⟩:=t.one;rw[e2]at e;exact⟨u,v,e,r,q⟩
theorem Vals.reverse{xs:List V}{us:List Value}(h:Vals xs us):Vals xs.reverse us.reverse:=by
 induction h with
 | nil=>exact .nil
 | cons r t ih=>rw[vj,vj];exact Vals.append ih (.cons r .nil)
section
variable {X:Cx}{pins:List (Addr×Obj)}{σ:St}{H:Hp}{s:Shared}{l b:Addr}{xs ys zs:List V}
theorem Inv.lset{its its':List Value}{n:Nat}{f:Array Value->Array Value}{t':Nat}(I:Inv X pins σ H s)(hH:H l=some (.lst xs))
  (e:s.heap.get? l=some { cls := .type "list",data := .seq its.toArray n }) (hf:f its.toArray=its'.toArray) (hv:Vals ys its') (hz:ys.length<=sizeLine) :
  Inv X pins σ (upd H l (.lst ys)) { s with heap:=s.heap.update l (Obj.mapSeq f),toks:=t' }:=by
 have q:=PySem.IsL.update e f;rw[hf]at q;refine I.write (x:=l) (e:=l) (by rw[hH];exact trivial) (.inl rfl) (λb' u hb hu=>(V7 s.heap (Obj.mapSeq f) (Ne.symm hb)).trans hu) ⟨_,q⟩ ?_;exact⟨hz,its',_,hv,q⟩
theorem Inv.lnew{its:List Value}{t':Nat}(I:Inv X pins σ H s)(hv:Vals ys its)(hz:ys.length<=sizeLine):
  Inv X pins σ (upd H s.heap.objs.size (.lst ys)) { s with heap:=s.heap.push { cls := .type "list",data := .seq its.toArray },toks:=t' } :=
 I.laid (λ_ _ q=>wd _ q) (wx _) ⟨hz,its,0,hv,wy _ rfl⟩
theorem Inv.fresh(I:Inv X pins σ H s):H s.heap.objs.size=none:=I.hok.fresh (wx _)
theorem Inv.lstM(I:Inv X pins σ H s)(hH:H l=some (.lst xs)):xs.length<=sizeLine/\∃(its:List Value) (n:Nat),Vals xs its/\xs.length=its.length/\s.heap.get? l=some { cls := .type "list",data := .seq its.toArray n }:=by
 obtain⟨z,its,n,r,e⟩:=I.hok l _ hH;exact⟨z,its,n,r,r.length,e⟩
end
section
variable {X:Cx}
def zoj:V->List V->Hp->VK->Prop:=λx vs H Q=>∃ l xs y,x = .ref l/\vs=[y]/\H l=some (.lst xs)/\xs.length<sizeLine/\Q .non (upd H l (.lst (xs++[y])))
theorem zaQ:MtM X "list.append" zoj:=by
 intro pins s σ H x vs v us Q I rx rv h;obtain⟨l,xs,y,rfl,rfl,hH,hz,q⟩:=h;cases rx;obtain⟨u,rfl,ru⟩:=rv.one;obtain⟨z,its,n,r,hl,e⟩:=I.lstM hH;refine call_meets F.slot_list_append ⟨_,e,rfl⟩ F.entry_list_append (F.args_list_append_2 _ _) (PySem.list_append l its.toArray n u (by rw[wB];rfl')) ⟨e,?_⟩;refine⟨.non,_,I.lset (its':=its++[u]) hH e (by simp) (r.append (.cons ru .nil)) ?_,rfl,q⟩;rw[wI,List.length_singleton];rfl'
def rCat:R2:=λx y H Q=>∃ l b xs zs,x = .ref l/\y = .ref b/\H l=some (.lst xs)/\H b=some (.lst zs)/\xs.length+zs.length<=sizeLine/\∀ p,H p=none->Q (.ref p) (upd H p (.lst (xs++zs)))
theorem op_cat:OpR X (binaryOp .Add) rCat:=by
 intro pins s σ H x y v u Q I rx ry h;obtain⟨l,b,xs,zs,rfl,rfl,hH,hB,hz,q⟩:=h;cases rx;cases ry;obtain⟨z,its,n,r,hl,e⟩:=I.lstM hH;obtain⟨z2,its2,n2,r2,hl2,e2⟩:=I.lstM hB;refine PySem.P.add_list e e2 ?_ (by rw[wB,wB];rfl');have ea:its.toArray++its2.toArray=(its++its2).toArray:=by simp
 rw[ea];exact⟨.ref _,_,I.lnew (t':=s.toks) (r.append r2) (by rw[wI];rfl'),rfl,q _ I.fresh⟩
end
section
variable {prog:Program}{w:World}{A:Around}{E:Value->Shared->Prop}{s:Shared}
end
section
variable {X:Cx}
end
end L2
namespace Att
open PySem PySem.W PySem.Calls PyProof.Rows
theorem z8T{P:Params}{h:Heap}:∀(ns:List Int) (vs:List Value),WellAll P h vs (ns.map WData.int)->IntsAre vs ns:=by
 intro ns
 induction ns with
 | nil =>
  intro vs w;rw[Vw]at w;cases w;exact .nil
 | cons n ns ih =>
  intro vs w;rw[wv]at w;cases w with
  | cons a b =>
   cases a;exact .cons _ _ (ih _ b)
theorem zjA{l:OpenLaw}{n:Nat}(hn:l.most=some n){P:Params}{h:Heap}{args:List WData}{vals:List Value}
  (hpre:l.row.toRowW.claim.pre args=true) (hwl:WellAll P h vals args) :
  ∃ a vs ns,vals=[Value.ref a]/\args=[WData.list (ns.map WData.int)]/\h.get? a=some { cls := .type "list",data := .seq vs.toArray }/\IntsAre vs ns/\ns.length<=n:=by
 have hsh:WShape.hasAll [] args [.list .int]=true:=(pre_splitW hpre).1;have hc:l.pre.holds [] { args:=args }=true:=(pre_splitW hpre).2;obtain⟨d,r,rfl,h1,h2⟩:=hasAllW_cons hsh;obtain rfl:=hasAllW_nil h2;obtain⟨xs,rfl,h3⟩:=hasW_list h1;obtain⟨ns,rfl⟩:=items_int h3;have hlen:ns.length<=n:=by
  unfold OpenLaw.pre at hc;have h4:(WTm.not (.lt (.lit (.int (n:Int))) (.len (.arg 0)))).holds [] { args:=[.list (ns.map .int)] }=true:=by
   have h4:=(holds_andW hc).1;rw[hn]at h4;exact h4
  have h5:=condW_of h4 (w_not (w_lt w_lit (w_len_list (w_arg rfl))));rw[wo]at h5;refine Ww λq=>?_;have q':(n:Int)<((ns.length:Nat):Int):=by rfl'
  first
   | (rw[decide_eq_true q']at h5;exact absurd h5 (by decide))
   | (simp at h5;rfl')
 cases hwl with
 | cons w1 w2 =>
  cases w2;cases w1 with
  | list ho hall=>exact⟨_,_,ns,rfl,rfl,ho,z8T ns _ hall,hlen⟩
theorem zjB(l:OpenLaw)(args:List WData):l.row.toRowW.claim.post args (.bool true) args=true :=
 postW_of (r:=l.row.toRowW) (X:=(true==true))
  (show WShape.has [] (.bool true) .bool=true by first|rfl|decide|simp[WShape.has,WShape.arms,WShape.armsAll])
  (show(WTm.eq .res (.lit (.bool true))).value [] { args:=args,res:=some (.bool true),after:=args }=some (.bool (true==true))from w_eq_bool (w_res rfl) w_lit) rfl
theorem attach_call{l:OpenLaw}{n:Nat}{q:Program}{loose:List Str}{XP:(Str->Option Value)->Heap->Prop}{YP:World->Heap->Prop}{d:DefRec}
  (hn:l.most=some n) (hdf:d.params.defaults=[])
  (call:∀(w:World) (s₀ s₁:Shared) (mg mb:Str→Option Value) (fa:Addr) (o:Obj) (pm cd doc:Value) (a:Addr) (vs:List Value) (ns:List Int),
   Ground q loose [] XP w s₀ mg mb s₁.heap->YP w s₁.heap ->
   s₁.heap.get? fa=some o->o.data = .func (docDef d.name d.params d.body d.scope pm cd doc)->s₁.heap.CodeRec cd d.name->mg d.name=some (.ref fa) ->
   s₁.heap.get? a=some { cls := .type "list",data := .seq vs.toArray }->IntsAre vs ns->ns.length<=n->s₁.gens=#[] ->
   codeAny (model l.prog w) callerA (.call (.ref fa) ⟨[.ref a],[]⟩) (λr s'=>r = .ok (.ret (.bool true))/\OldK s₁.heap s'.heap/\s'.os=s₁.os/\AllBare s'.gens) s₁) :
  WalkO q loose XP YP l.row.toRowW d [] (λf vs=>PySem.call f vs):=by
 intro w s₀ s₁ mg mb G Y fa o pm cd doc dV kV ho hd hcd hD hmg hg args vals as hpre hlay hrd hwl hlo;obtain rfl:dV = .none:=Dflts.none hD hdf;obtain rfl:kV = .none:=Dflts.noKw hD;obtain⟨a,vs,ns,rfl,rfl,hobj,hints,hlen⟩:=zjA hn hpre hwl;refine enter_call (codeAny_mono (call w s₀ s₁ mg mb fa o pm cd doc a vs ns G Y ho (fd_plain hd) hcd hmg hobj hints hlen hg) λr s' hq=>?_);obtain⟨rfl,h2,h3,h4⟩:=hq;exact⟨.inl ⟨.bool true,.bool true,[],rfl,λ_=>rfl,.bool true,zjB l _,λ_=>⟨List.Pairwise.nil,λ_ hm=>(nomatch hm)⟩⟩,h2,h3,h4⟩
section
variable {prog:Program}{w:World}{A:Around}{E:Value->Shared->Prop}{s:Shared}{K:Frag}
end
end Att
namespace L2
open PySem PySem.Spec PyProof.Rows
theorem zaR:∀{vs:List Value} {ns:List Int},IntsAre vs ns->Vals (ns.map V.int) vs
 | _,_,.nil => .nil
 | _,_,.cons n t h => .cons ⟨t,rfl⟩ (zaR h)
def Only(H:Hp):Prop:=∀ b,H b=none\/∃ o xs,H b=some (.frz o (.lst xs))
theorem zky{P:Program}{w:World}{K:PySem.W.Frag}{mg mb:Str->Option Value}{CX:CXT}{k:Nat}{fa a:Addr}{fd:FuncData}{x:Str}{sp:Sp}{s₁:Shared}{vs:List Value}{ns:List Int}
  (KX:K.In s₁.heap) (hns:s₁.heap.Ns mainGlobals mg) (hb:s₁.heap.Ns builtinsNs mb) (hbb:∀ x:Str,x ≠ "__name__" -> mb x=bootBuiltins x) (hlim:s₁.heap.NoLimit) (hg:s₁.gens=#[])
  (ha:s₁.heap.get? a=some { cls := .type "list",data := .seq vs.toArray }) (hi:IntsAre vs ns) (hl:ns.length<=sizeLine) (hr:Room k callerA)
  (F:∀ base:Heap,K.In base->base.Ns mainGlobals mg->FnOk P w K mg base CX k fa fd [x] sp) (hbind:∀(s:Shared) (u:Value),BindsTo s fd ⟨[u],[]⟩ [(x,u)])
  (hsp:∀ H:Hp,Only H->SqL K H a (ns.map V.int)->sp [.ref a] H (λv _=>v = .bl true) λ_ _ _=>False)
  (hCX:∀ H e s',CX [] H s₁ (λ_ _ _=>False) e s'->False) :
  codeAny (model P w) callerA (.call (.ref fa) ⟨[.ref a],[]⟩) (λr s'=>r = .ok (.ret (.bool true))/\OldK s₁.heap s'.heap/\s'.os=s₁.os/\AllBare s'.gens) s₁:=by
 have rv:=zaR hi;have lenV:=hi.length
 have core:∀ H:Hp,Only H→SqL K H a (ns.map V.int)→HOk P w H s₁.heap→(∀ b,H b≠none→b=a)→(H a≠none→K.lookup a=none) →
    codeAny (model P w) callerA (.call (.ref fa) ⟨[.ref a],[]⟩) (λr s'=>r = .ok (.ret (.bool true))/\OldK s₁.heap s'.heap/\s'.os=s₁.os/\AllBare s'.gens) s₁:=by
  intro H hO hS hok hA hK;have base_of:∀{b:Addr} {o:Obj},s₁.heap.get? b=some o->H b=none->(hidT s₁.heap H).get? b=some o:=λe n=>zkk e n;have noA:∀{b:Addr} {o:Obj} {es:Array DictEntry} {ep:Nat},s₁.heap.get? b=some o->o.data = .dict es ep->H b=none:=λ{b o es ep} e d=>by
    cases q:H b with
    | none=>rfl
    | some u =>
      have e':b=a:=hA b (by rw[q];simp);subst e';rw[ha]at e;cases e;have d':Data.seq vs.toArray _=Data.dict es ep:=d;cases d'
  have nsK:∀{b:Addr} {m:Str->Option Value},s₁.heap.Ns b m->(hidT s₁.heap H).Ns b m:=λ{b m} ⟨o,es,ep,e,d,r⟩=>⟨o,es,ep,base_of e (noA e d),d,r⟩;have hKb:K.In (hidT s₁.heap H):=λb o e=>base_of (KX b o e) (by
    cases q:H b with
    | none=>rfl
    | some u =>
      have e':b=a:=hA b (by rw[q];simp);subst e';rw[hK (by rw[q];simp)]at e;cases e)
  have hM:Mod K mg (hidT s₁.heap H):=⟨hKb,nsK hns,⟨mb,nsK hb,hbb⟩,let ⟨mc,h1,h2⟩:=hlim;⟨mc,nsK h1,h2⟩⟩;have e0:Env0 P w K mg (hidT s₁.heap H) callerA [] s₁ H:=⟨rfl,hM,λb o e=>zo3 e,Vv (zjt _ _),trivial,λb hb=>absurd (show b∈([]:List Addr)from hb) (by simp),hok,.of_eq hg⟩;refine codeAny_mono ((F _ hKb (nsK hns)).run callerA [] s₁ H ⟨[.ref a],[]⟩ [.ref a] [.ref a] _ _ hr e0 (hbind s₁ (.ref a)) (.cons rfl .nil) (hsp H hO hS)) λr s' h=>?_;cases r with
  | error e=>exact(hCX H e s' h).elim
  | ok fl =>
    cases fl with
    | next=>exact False.elim h
    | brk=>exact False.elim h
    | cont=>exact False.elim h
    | ret u =>
      obtain⟨v,H',os,bare,un,hok',r',q⟩:=h;have q':v = .bl true:=q;subst q';obtain rfl:u=Value.bool true:=r';refine⟨rfl,OldK.of_keep λb o e=>?_,os,bare⟩;cases q:H b with
      | none=>exact un.keep b o e q (by intro z;exact absurd (show b∈([]:List Addr)from z) (by simp)) (by simp)
      | some u =>
       rcases hO b with z|⟨ob,xs,z⟩
       · rw[q]at z;cases z
       · have z2:=un.frzs b ob _ z;obtain⟨e1,_⟩:=hok b _ z;obtain⟨e2,_⟩:=hok' b _ z2;rw[e]at e1;cases e1;exact e2
 cases hk:K.lookup a with
 | some o =>
  have e:=KX a o hk;rw[ha]at e;cases e;refine core (λ_=>none) (λ_ => .inl rfl) (.inr ⟨_,vs.toArray,_,hk,rfl,rfl,rfl,by rw[wB,lenV];exact hl,by simpa using rv⟩) (λb u z=>by have z':(none:Option HO)=some u:=z;cases z') (λb z=>absurd rfl z) λz=>absurd rfl z
 | none =>
  refine core (λb=>if b=a then some (.frz { cls := .type "list",data := .seq vs.toArray } (.lst (ns.map V.int))) else none) (λb=>?_) (.inl (.inr ⟨{ cls := .type "list",data := .seq vs.toArray },if_pos rfl⟩)) (λb u z=>?_) (λb z=>?_) λ_=>hk
  · by_cases hb:b=a
    · exact .inr ⟨_,_,if_pos hb⟩
    · exact .inl (if_neg hb)
  · by_cases hb:b=a
    · have z':=(if_pos hb).symm.trans z;cases z';subst hb;exact⟨ha,by rw[wo];exact hl,vs,_,rv,ha⟩
    · have z':=(if_neg hb).symm.trans z;cases z'
  · by_cases hb:b=a
    · exact hb
    · exact absurd (if_neg hb) z
end L2
namespace L2
open PySem PySem.Spec PyProof.Rows
theorem zok{l:PySem.W.OpenLaw}{n k:Nat}{q:Program}{loose:List Str}{XP:(Str->Option Value)->Heap->Prop}{YP:World->Heap->Prop}{d:DefRec}{K:Params->PySem.W.Frag}{CX:World->CXT}{sp:World->Sp}{x:Str}
  (hn:l.most=some n) (hn2:n<=sizeLine) (hdf:d.params.defaults=[]) (hr:Room k callerA)
  (hY:∀(w:World) (h:Heap),YP w h->(K w.params).In h)
  (F:∀(w:World) (mg:Str→Option Value) (fa:Addr) (h:Heap),(K w.params).In h→h.Ns mainGlobals mg→mg d.name=some (.ref fa) →
   ∃ fd:FuncData,(∀(s:Shared) (u:Value),BindsTo s fd ⟨[u],[]⟩ [(x,u)]) /\
    ∀ base:Heap,(K w.params).In base->base.Ns mainGlobals mg->FnOk l.prog w (K w.params) mg base (CX w) k fa fd [x] (sp w))
  (hsp:∀(w:World) (H:Hp) (a:Addr) (ns:List Int),ns.length<=n->Only H->SqL (K w.params) H a (ns.map V.int)->sp w [.ref a] H (λv _=>v = .bl true) λ_ _ _=>False)
  (hCX:∀(w:World) (H:Hp) (s:Shared) (e:Value) (s':Shared),CX w [] H s (λ_ _ _=>False) e s'->False) :
  PySem.W.WalkO q loose XP YP l.row.toRowW d [] (λf vs=>PySem.call f vs):=by
 refine Att.attach_call hn hdf λw s₀ s₁ mg mb fa o pm cd doc a vs ns G Y ho hd hcd hmg hobj hints hlen hg=>?_;have KX:=hY w _ Y;obtain⟨fd,hb,hF⟩:=F w mg fa _ KX G.T.g hmg;exact zky KX G.T.g G.T.b G.T.builtins G.T.nolimit hg hobj hints (wG hlen hn2) hr hF hb (λH hO hS=>hsp w H a ns hlen hO hS) λH e s'=>hCX w H s₁ e s'
end L2
namespace L2
open PySem PySem.Spec PyProof.Rows
def z2z(s:Stmt):Arguments:=match s with
 | .FunctionDef _ a _ _ _ _ _ _ _ _=>a
 | _=>{ posonlyargs:=[],args:=[],vararg:=none,kwonlyargs:=[],kw_defaults:=[],kwarg:=none,defaults:=[] }
def z1v(s:Stmt):List Stmt:=match s with
 | .FunctionDef _ _ b _ _ _ _ _ _ _=>b
 | _=>[]
def z04(s:Stmt):Scope:=match s with
 | .FunctionDef _ _ _ _ _ _ sc _ _ _=>sc
 | _=>{ kind := .function,names:=[],isGenerator:=false,isCoroutine:=false }
abbrev CX0:CXT:=λ_ _ _ _ _ _=>False
abbrev E0:XK:=λ_ _ _=>False
theorem pass0{X:Cx}:zc7 CX0 X E0:=λ_ _ _ _ _ _ _ h=>h.elim
structure Fun(K:PySem.W.Frag)(x qual:Str)(st:Stmt)(f:Addr)(fd:FuncData):Prop where
 ex:∃(oc:Value) (od:Option Addr) (kV doc pm:Value) (an:Option Addr) (cdv ct:Value) (osl:Array (Option Value)),
  fd=PySem.W.fnOf x qual (z2z st) (z1v st) (z04 st) .none kV doc pm an cdv ct/\K.lookup f=some ⟨oc,od,.func fd,osl⟩/\PySem.W.codeIn K cdv qual=true
 kp:PySem.W.keepIn K (.ref f)=true
section
variable {P:Program}{w:World}{K:PySem.W.Frag}{mg:Str->Option Value}{base:Heap}
theorem Fun.ok{x qual:Str}{st:Stmt}{f:Addr}{fd:FuncData}{N ps:List Str}{k:Nat}{sp:Sp}(F:Fun K x qual st f fd)(S:FnScope N ps (z04 st))(len:∀ vs H Q E,sp vs H Q E->vs.length=ps.length)
  (hbody:∀(cdv:Value) (A:Around) (outer:List Env) (s:Shared) (H:Hp) (vs:List V) (Q:VK) (E:XK),Room k (A.deeper (envOfC qual (z04 st) s.heap.objs.size f cdv))→sp vs H Q E →
   ∃ t,PSs (cxOf CX0 P w K mg base N qual (z04 st) f cdv A outer s H E).nox (z1v st) t/\t { nx:=λ_ H'=>Q .non H',rt:=Q } (start N vs) H):FnOk P w K mg base CX0 (k+1) f fd ps sp:=by
 obtain⟨oc,od,kV,doc,pm,an,cdv,ct,osl,rfl,lk,hcd⟩:=F.ex;refine fn_of lk hcd S len λA outer s H vs Q E hr hsp=>?_;obtain⟨t,h,q⟩:=hbody cdv A outer s H vs Q E hr hsp;exact⟨t,h.nox,q⟩
theorem Fun.binds{x qual:Str}{st:Stmt}{f:Addr}{fd:FuncData}{ps:List Str}(F:Fun K x qual st f fd)
  (h:∀(kV doc pm:Value) (an:Option Addr) (cdv ct:Value) (us:List Value),us.length=ps.length->bindArgs (PySem.W.fnOf x qual (z2z st) (z1v st) (z04 st) .none kV doc pm an cdv ct) ⟨us,[]⟩=pure (ps.zip us)):Binds K fd ps []:=by
 obtain⟨oc,od,kV,doc,pm,an,cdv,ct,osl,rfl,lk,hcd⟩:=F.ex;exact .all (h kV doc pm an cdv ct)
theorem zkz{x qual:Str}{st:Stmt}{f:Addr}{oc:Value}{od an:Option Addr}{osl:Array (Option Value)}{kV doc pm cdv ct:Value}(l:K.lookup f=some ⟨oc,od,.func (PySem.W.fnOf x qual (z2z st) (z1v st) (z04 st) .none kV doc pm an cdv ct),osl⟩)
 (c:PySem.W.codeIn K cdv qual=true) (k:PySem.W.keepIn K (.ref f)=true):Fun K x qual st f (PySem.W.fnOf x qual (z2z st) (z1v st) (z04 st) .none kV doc pm an cdv ct):=⟨⟨oc,od,kV,doc,pm,an,cdv,ct,osl,rfl,l,c⟩,k⟩
end
section
variable {X:Cx}
end
def Same(H H':Hp):Prop:=∀ b o,H b=some o->H' b=some o
theorem Same.refl(H:Hp):Same H H:=λ_ _ h=>h
theorem Same.trans{H H1 H2:Hp}(a:Same H H1)(b:Same H1 H2):Same H H2:=λc o h=>b c o (a c o h)
theorem Same.free{H H':Hp}(e:Same H H'){l:Addr}(h:H' l=Option.none):H l=Option.none:=by
 cases q:H l with
 | none=>rfl
 | some o =>
  rw[e l o q]at h;cases h
theorem Same.seq{K:PySem.W.Frag}{H H':Hp}{a:Addr}{xs:List V}(e:Same H H')(h:SqL K H a xs):SqL K H' a xs:=by
 rcases h with(h|⟨o,h⟩)|h
 · exact .inl (.inl (e _ _ h))
 · exact .inl (.inr ⟨o,e _ _ h⟩)
 · exact .inr h
end L2

end
section
namespace L2
open PySem PySem.Spec PyProof.Rows
theorem zkA{x:Str}{lo:Nat}:∀(names:List (Str×NameKind)) (n:Nat) (acc:List (Str×Addr)) (c:Addr),lo<=n->(∀ c,acc.lookup x=some c->lo<=c)->(cellsFrom n names acc).lookup x=some c->lo<=c
 | [],_,_,_,_,h,e=>h _ e
 | (y,k)::r,n,acc,c,hn,h,e=>by
  unfold cellsFrom at e;split at e
  · refine zkA r (n+1) _ c (vP hn) (λc' e'=>?_) e;rw[wR]at e';split at e'
    · cases e';exact hn
    · exact h c' e'
  · exact zkA r n acc c hn h e
theorem zeo{x:Str}:∀(names:List (Str×NameKind)) (n:Nat) (acc:List (Str×Addr)) (c:Addr),names.lookup x=some .cell->(cellsFrom n names acc).lookup x=some c->n<=c
 | [],_,_,_,h,_=>by cases h
 | (y,k)::r,n,acc,c,h,e=>by
  rw[wR]at h;unfold cellsFrom at e;cases hb:x==y with
  | true =>
   rw[hb]at h;have hk:k = .cell:=by cases h;rfl
   subst hk;rw[if_pos (show(NameKind.cell==NameKind.cell)=true from rfl)]at e;refine zkA r (n+1) _ c (Nat.le_succ _) (λc' e'=>?_) e;rw[wR,hb]at e';cases e';exact wx _
  | false =>
   rw[hb]at h;split at e
   · exact vk (zeo r (n+1) _ c h e)
   · exact zeo r n acc c h e
theorem zep{x:Str}:∀(names:List (Str×NameKind)) (n:Nat) (acc:List (Str×Addr)),(∀ y∈names,y.1=x->y.2 ≠ .cell)->(cellsFrom n names acc).lookup x=acc.lookup x
 | [],_,_,_=>rfl
 | (y,k)::r,n,acc,h=>by
  unfold cellsFrom;have hr:∀ y∈r,y.1=x->y.2 ≠ .cell:=λz hz=>h z (wa _ hz);split
  · rename_i hk;rw[zep r (n+1) _ hr,wR];have hne:(x==y)=false:=by
     cases hb:x==y with
     | false=>rfl
     | true=>exact absurd (beq_iff_eq.mp hk) (h (y,k) wc (beq_iff_eq.mp hb).symm)
    rw[hne]
  · exact zep r n acc hr
theorem zeq:∀(names:List (Str×NameKind)) (n:Nat) (acc:List (Str×Addr)) (p:Str×Addr),p∈cellsFrom n names acc->n<=p.2\/p∈acc
 | [],_,_,_,e => .inr e
 | (y,k)::r,n,acc,p,e=>by
  unfold cellsFrom at e;split at e
  · rcases zeq r (n+1) _ p e with q|q
    · exact .inl (vk q)
    · rcases wn.mp q with q|q
      · subst q;exact .inl (wx _)
      · exact .inr q
  · exact zeq r n acc p e
theorem z9e:∀(names:List (Str×NameKind)) (n:Nat) (acc:List (Str×Addr)),(∀ p∈acc,p.2<n)->(acc.Pairwise λx y=>x.2≠y.2)->(cellsFrom n names acc).Pairwise λx y=>x.2≠y.2
 | [],_,_,_,h=>h
 | (y,k)::r,n,acc,hl,h=>by
  unfold cellsFrom;split
  · refine z9e r (n+1) _ (λp hp=>?_) (wZ.mpr ⟨λp hp e=>?_,h⟩)
    · rcases wn.mp hp with q|q
      · subst q;exact Wb _
      · exact Vx (hl p q)
    · have e':n=p.2:=e;have q:=hl p hp;rw[←e']at q;exact absurd q (Wp _)
  · exact z9e r n acc hl h
theorem z9f:∀(names:List (Str×NameKind)) (n:Nat) (acc:List (Str×Addr)),cellsFrom n names acc=cellsFrom n names []++acc
 | [],_,_=>rfl
 | (y,k)::r,n,acc=>by
  unfold cellsFrom;split
  · rw[z9f r (n+1) ((y,n)::acc),z9f r (n+1) [(y,n)],WL];rfl
  · exact z9f r n acc
def z0D(env:Env):List (Str×NameKind)->List (Str×Addr)->List (Str×Addr)
 | [],acc=>acc
 | (y,k)::r,acc=>if k == .free then z0D env r (match env.cells.lookup y with|some c=>(y,c)::acc|none=>acc) else z0D env r acc
theorem z3I{env:Env}{x:Str}:∀(names:List (Str×NameKind)) (acc:List (Str×Addr)),(∀ c,acc.lookup x=some c->env.cells.lookup x=some c)->∀ c,(z0D env names acc).lookup x=some c->env.cells.lookup x=some c
 | [],_,h=>h
 | (y,k)::r,acc,h=>by
  unfold z0D;split
  · refine z3I r _ λc e=>?_;cases hy:env.cells.lookup y with
    | none=>rw[hy]at e;exact h c e
    | some d =>
     rw[hy]at e;dsimp only at e;rw[wR]at e;split at e
     · rename_i hb;cases e;rw[beq_iff_eq.mp hb];exact hy
     · exact h c e
  · exact z3I r acc h
theorem z6i{env:Env}:∀(names:List (Str×NameKind)) (acc:List (Str×Addr)) (p:Str×Addr),p∈z0D env names acc->p∈acc\/env.cells.lookup p.1=some p.2
 | [],_,_,h => .inl h
 | (y,k)::r,acc,p,h=>by
  unfold z0D at h;split at h
  · rcases z6i r _ p h with q|q
    · cases hy:env.cells.lookup y with
      | none=>rw[hy]at q;exact .inl q
      | some d =>
       rw[hy]at q;rcases wn.mp q with q|q
       · subst q;exact .inr hy
       · exact .inl q
    · exact .inr q
  · exact z6i r acc p h
theorem z4h{env:Env}{x:Str}:∀(names:List (Str×NameKind)) (acc:List (Str×Addr)),(acc.lookup x).isSome=true->((z0D env names acc).lookup x).isSome=true
 | [],_,h=>h
 | (y,k)::r,acc,h=>by
  unfold z0D;split
  · refine z4h r _ ?_;cases hy:env.cells.lookup y with
    | none=>exact h
    | some d =>
     show(List.lookup x ((y,d)::acc)).isSome=true;rw[wR];split
     · rfl
     · exact h
  · exact z4h r acc h
theorem z6j{env:Env}{x:Str}{c:Addr}:∀(names:List (Str×NameKind)) (acc:List (Str×Addr)),names.lookup x=some .free->env.cells.lookup x=some c->((z0D env names acc).lookup x).isSome=true
 | [],_,h,_=>by cases h
 | (y,k)::r,acc,h,hc=>by
  rw[wR]at h;unfold z0D;cases hb:x==y with
  | true =>
   rw[hb]at h;have hk:k = .free:=by cases h;rfl
   subst hk;rw[if_pos (show(NameKind.free==NameKind.free)=true from rfl)];refine z4h r _ ?_;have hxy:x=y:=beq_iff_eq.mp hb;subst hxy;rw[hc];show(List.lookup x ((x,c)::acc)).isSome=true;rw[wR,hb];rfl
  | false =>
   rw[hb]at h;split
   · exact z6j r _ h hc
   · exact z6j r _ h hc
theorem z6k{env:Env}:∀(names:List (Str×NameKind)) (acc:List (Str×Addr)) (f:Str×NameKind->List (Str×Addr)->Sem (ForInStep (List (Str×Addr)))),
  (∀ name kind cs,f (name,kind) cs=if kind == .free then(do let a ←cellOf env name;pure (.yield ((name,a)::cs))) else pure (.yield cs)) ->
  (∀ y∈names,y.2 = .free->∃ c,env.cells.lookup y.1=some c)->forIn names acc f=(pure (z0D env names acc):Sem _)
 | [],acc,f,hf,h=>by rw[vm];rfl
 | (y,k)::r,acc,f,hf,h=>by
  have hr:∀ z∈r,z.2 = .free->∃ c,env.cells.lookup z.1=some c:=λz hz=>h z (wa _ hz);rw[vz,hf];unfold z0D;by_cases hk:(k==NameKind.free)=true
  · rw[if_pos hk,if_pos hk];obtain⟨c,hc⟩:=h (y,k) wc (beq_iff_eq.mp hk);have hc':env.cells.lookup y=some c:=hc;have e:cellOf env y=(pure c:Sem Addr):=by unfold cellOf;rw[hc']
    rw[e,hc'];simp only[pure_bind];exact z6k r _ f hf hr
  · rw[if_neg hk,if_neg hk];simp only[pure_bind];exact z6k r _ f hf hr
theorem zer{scope:Scope}{env:Env}(h:∀ y∈scope.names,y.2 = .free->∃ c,env.cells.lookup y.1=some c):closureFor scope env=pure (z0D env scope.names []):=by
 unfold closureFor;simp only[];rw[z6k scope.names [] _ (λname kind cs=>by cases hk:kind==NameKind.free<;>simp[hk]) h];rfl
end L2

end
section
namespace L2
open PySem
section
variable {prog:Program}{w:World}{A:Around}{R:Result->Shared->Prop}{s:Shared}
theorem zcb{elt target iter:Expr}{ifs:List Expr}{scope:Scope}{pos:Pos}{it acc:Value}{env:Env}(I:Nat->Shared->Prop)
  (turn:∀ n s,I n s→wpAny (model prog w) A (pyNext it) (fun r s₁=>match r with
   | none=>R (.ok .next) s₁
   | some v=>wpAny (model prog w) A (letOwnedTupleGo target it v) (fun _ s₁'=>wpAny (model prog w) A (assign target env v) (fun _ s₂ =>
    wpAny (model prog w) A (forIn ifs true λc r=>if r=true then do let ok ←isTrue c env (eval c env);pure (ForInStep.yield ok) else pure (ForInStep.yield r)) (λok s₃ =>
     if ok=true then wpAny (model prog w) A (eval elt env) (λx s₄ =>
      wpAny (model prog w) A (call (.builtin "list.append") [acc,x]) (λ_ s₅=>∃ m,m<n/\I m s₅) (notedBy (model prog w) A env λe s'=>R (.error e) s') s₄) (notedBy (model prog w) A env λe s'=>R (.error e) s') s₃
     else ∃ m,m<n/\I m s₃) (notedBy (model prog w) A env λe s'=>R (.error e) s') s₂) (notedBy (model prog w) A env λe s'=>R (.error e) s') s₁')
    (notedBy (model prog w) A env λe s'=>R (.error e) s') s₁) (notedBy (model prog w) A env λe s'=>R (.error e) s') s)
  (n:Nat) (h:I n s) :
  codeAny (model prog w) A (.compLoop (.ListComp elt [⟨target,iter,ifs,0⟩] scope pos) 0 it acc env) R s:=by
 refine codeAny_loop rfl I (λn s hI=>?_) n h;show wpAny _ A ((compTurn (.ListComp elt [⟨target,iter,ifs,0⟩] scope pos) 0 it acc env).onRaise (λx=>do noteFrame x env;theTreesLotGoes x)) _ _ s;refine wpAny_noted ?_;rw[compTurn_list];refine wpAny_bind (wpAny_standAt (wpAny_bind (wpAny_mono (turn n s hI) (λr s₁ h₁=>?_) λ_ _ h'=>h')));cases r with
 | none=>exact wpAny_pure h₁
 | some v =>
  refine wpAny_bind (wpAny_mono h₁ (λ_ s₁' h₁'=>?_) λ_ _ h'=>h');refine wpAny_bind (wpAny_mono h₁' (λ_ s₂ h₂=>wpAny_bind (wpAny_mono h₂ (λok s₃ h₃=>?_) λ_ _ h'=>h')) λ_ _ h'=>h');cases ok with
  | false=>exact wpAny_pure ⟨rfl,h₃⟩
  | true =>
   exact wpAny_bind (wpAny_bind (wpAny_mono h₃ (λx s₄ h₄=>wpAny_bind (wpAny_mono h₄ (λ_ s₅ h₅=>wpAny_pure (wpAny_pure ⟨rfl,h₅⟩)) λ_ _ h'=>h')) λ_ _ h'=>h'))
theorem zkB{M:Model}{E:Value->Shared->Prop}{scope:Scope}{globals:Addr}{cl:List (Str×Addr)}{qual:Str}{func:Option Addr}{code:Value}{env:Env}{Q:Env->Shared->Prop}
  (hQ:∀ h',h'.Ns s.heap.objs.size (fun _=>none)→(∀ b o,s.heap.get? b=some o→h'.get? b=some o)→(∀ n c,(n,c)∈cellsFrom (s.heap.objs.size+1) scope.names []→h'.IsCell c none) →
   Q (newEnv scope s.heap.objs.size globals (cellsFrom (s.heap.objs.size+1) scope.names cl) qual func code (some env) builtinsNs) { s with heap:=h' }) :
  wpAny M A (newFunctionEnv scope globals cl [] qual func code (some env)) Q E s:=by
 simp only[newFunctionEnv,Option.isSome_some,if_true];refine wpAny_bind (wpAny_alloc ?_);refine wpAny_bind (wpAny_layCells _ (λname kind cells=>by cases hkc:kind==NameKind.cell<;>simp[hkc]) _ _ _ _ ?_);have ok:=cellsFrom_ok scope.names (s.heap.push { cls := .type "dict",data := .dict #[] }) (s.heap.objs.size+1) [] ⟨λ_ _ hm=>(nomatch hm),List.Pairwise.nil⟩ (by rw[Wf];exact wx _);rw[Wf]at ok;rw[show({ s with heap:=s.heap.push { cls := .type "dict",data := .dict #[] } }:Shared).heap.objs.size=s.heap.objs.size+1 from Wf ..];refine wpAny_bind ?_;rw[vm];refine wpAny_pure (wpAny_pure ?_);exact hQ _ ((Heap.Ns.new s.heap (.type "dict")).keeps (pushCells_keeps _ _)) (λb o e=>pushCells_keeps _ _ b o (wd _ e)) λn c hm=>(ok.empty n c hm).1
end
end L2

end
section
namespace L2
open PySem PySem.Spec PyProof.Rows
def z0M(X:Cx)(N:List Str)(scope:Scope)(cl:List (Str×Addr))(C:Addr)(fp:List Addr)(s:Shared)(H:Hp):Cx where
 prog:=X.prog
 w:=X.w
 K:=X.K
 mg:=X.mg
 base:=X.base
 A:=X.A
 N:=N
 s₀:=s
 H₀:=H
 env:=compEnvC scope cl C X.env
 outer:=X.stack
 stack:=X.stack
 ex:=fp
 fn:=λx=>scope.names.lookup x==some .cell
 calm:=X.calm
 pn:=[]
 xe:=λ_ _=>False
structure CompScope(X:Cx)(N:List Str)(scope:Scope)(nt:Nat)(js:List Nat):Prop where
 kind:scope.kind = .function
 nd:(scope.names.map (·.1)).Nodup
 loc:∀ x∈scope.names,x.2 = .local->scope.names.lookup x.1=some .local
 len:N.length=nt+js.length
 names:∀ k j,js[k]?=some j->∃ x,N[nt+k]?=some x/\X.N[j]?=some x/\scope.names.lookup x=some .free
 fre:∀ x∈scope.names,x.2 = .free->X.env.kindOf x.1=some .cell\/X.env.kindOf x.1=some .free
def sig(nt:Nat)(js:List Nat)(σ:St):St:=List.replicate nt none++js.map λj=>(σ[j]?).join
def PTs(X:Cx)(ifs:List Expr)(t:TT):Prop :=
 ∀(pins:List (Addr×Obj)) (s:Shared) (σ:St) (H:Hp) (Q:Bool->Hp->Prop),Inv X pins σ H s->t σ H Q ->
  wpAny (model X.prog X.w) X.A (forIn ifs true λc r=>if r=true then do let ok ←isTrue c X.env (eval c X.env);pure (ForInStep.yield ok) else pure (ForInStep.yield r)) (TP X pins σ Q) X.xe s
def tYes:TT:=λ_ H Q=>Q true H
theorem zol{X:Cx}:PTs X [] tYes:=λpins s σ H Q I h=>wpAny_tests_nil ⟨H,I,h⟩
theorem zom{X:Cx}{c:Expr}{t:TT}(hc:PT X c t):PTs X [c] t:=λpins s σ H Q I h=>wpAny_tests_one (hc pins s σ H Q I h)
theorem nlt{a b:Nat}(h1:a+1<=b)(h2:b<a):False:=by rfl'
theorem z2N{α:Type}:∀{l:List (Str×α)} {p:Str×α},(l.map (·.1)).Nodup->p∈l->l.lookup p.1=some p.2
 | [],_,_,h=>by cases h
 | (y,k)::r,p,nd,h=>by
  have nd:(y::r.map (·.1)).Nodup:=nd;obtain⟨n1,n2⟩:=Wh.mp nd;rw[wR];rcases wn.mp h with e|e
  · subst e;show(match y==y with|true=>some k|false=>_)=some k;rw[beq_self_eq_true]
  · cases hb:p.1==y with
    | true =>
     rw[←beq_iff_eq.mp hb]at n1;exact absurd (wf.mpr ⟨p,e,rfl⟩) n1
    | false=>exact z2N n2 e
theorem z4O{env:Env}{x:Str}:∀{names:List (Str×NameKind)} {k:NameKind},names.lookup x=some k ->
  (names.map λ(n,k)=>if(k==NameKind.free&&env.scope.kind == .function&&env.kindOf n==some .cell) then(n,NameKind.cell) else(n,k)).lookup x=some (if(k==NameKind.free&&env.scope.kind == .function&&env.kindOf x==some .cell)=true then .cell else k)
 | [],_,h=>by cases h
 | (y,k')::r,k,h=>by
  rw[wR]at h;show List.lookup x ((if(k'==NameKind.free&&env.scope.kind == .function&&env.kindOf y==some .cell)=true then(y,NameKind.cell) else(y,k'))::_)=_;cases hb:x==y with
  | true =>
   rw[hb]at h;have hk:k'=k:=by cases h;rfl
   have hxy:x=y:=beq_iff_eq.mp hb;subst hk;subst hxy;split<;>(rw[wR];rw[hb])
  | false =>
   rw[hb]at h;have ih:=@z4O env x r k h;split<;>(rw[wR];rw[hb];exact ih)
theorem z4i{env:Env}{x:Str}{k:NameKind}:∀{names:List (Str×NameKind)},
  (names.map λ(n,k)=>if(k==NameKind.free&&env.scope.kind == .function&&env.kindOf n==some .cell) then(n,NameKind.cell) else(n,k)).lookup x=some k->∃ k',names.lookup x=some k'/\(k=k'\/(k' = .free/\k = .cell))
 | [],h=>by cases h
 | (y,k')::r,h=>by
  have h:List.lookup x ((if(k'==NameKind.free&&env.scope.kind == .function&&env.kindOf y==some .cell)=true then(y,NameKind.cell) else(y,k'))::r.map λ(n,k)=>if(k==NameKind.free&&env.scope.kind == .function&&env.kindOf n==some .cell) then(n,NameKind.cell) else(n,k))=some k:=h;rw[wR];cases hb:x==y with
  | true =>
   split at h
   · rename_i hc;rw[wR,hb]at h;have hf:(k'==NameKind.free)=true:=by
      rw[wO,wO]at hc;exact hc.1.1
     cases h;exact⟨k',rfl,.inr ⟨beq_iff_eq.mp hf,rfl⟩⟩
   · rw[wR,hb]at h;cases h;exact⟨k,rfl,.inl rfl⟩
  | false =>
   split at h
   all_goals
     rw[wR,hb]at h;exact z4i h
section
variable {X:Cx}{N:List Str}{scope:Scope}{nt:Nat}{js:List Nat}{pins:List (Addr×Obj)}{σ:St}{H:Hp}{s:Shared}{fp:List Addr}
theorem zkC{s2:Shared}{H2:Hp}(S:CompScope X N scope nt js)(I2:Inv X pins σ H2 s2)(I:Inv X pins σ H s)(hu:Un (frs X.stack) fp H2 H s2.heap s.heap)(hos:s.os=s2.os)(hz:s2.heap.objs.size<=s.heap.objs.size)
   (hf:∀ b∈fp,FpOk X pins H b) (ho:∀ b∈fp,∃ o,s.heap.get? b=some o) {h':Heap}
   (ns:h'.Ns s.heap.objs.size (λ_=>none)) (k:∀ b o,s.heap.get? b=some o->h'.get? b=some o) (nc:∀ n c,(n,c)∈cellsFrom (s.heap.objs.size+1) scope.names []->h'.IsCell c none) :
   Inv (z0M X N scope (cellsFrom (s.heap.objs.size+1) scope.names (z0D X.env scope.names [])) s.heap.objs.size fp s2 H2) [] (sig nt js σ) H { s with heap:=h' }:=by
 have ok:=I.ok;have hcl:∀ p∈z0D X.env scope.names [],X.env.cells.lookup p.1=some p.2:=λp hp=>(z6i _ _ p hp).resolve_left (by simp);have hlt:∀ x c,X.env.cells.lookup x=some c->c<s.heap.objs.size:=λx c e=>by
   obtain⟨v,o,ho,_⟩:=I.cell x c e;exact ww ho
 have mem:∀ x c,(cellsFrom (s.heap.objs.size+1) scope.names (z0D X.env scope.names [])).lookup x=some c->s.heap.objs.size+1<=c\/X.env.cells.lookup x=some c:=λx c e=>by
   rcases zeq _ _ _ _ (PySem.mem_of_lookup e)with q|q
   · exact .inl q
   · exact .inr (hcl _ q)
 have frec:∀ x,scope.names.lookup x=some .free->∃ c,X.env.cells.lookup x=some c/\(cellsFrom (s.heap.objs.size+1) scope.names (z0D X.env scope.names [])).lookup x=some c:=λx hx=>by
   obtain⟨c,hc⟩:=ok.has x (S.fre (x,.free) (PySem.mem_of_lookup hx) rfl);refine⟨c,hc,?_⟩;rw[zep _ _ _ λy hy e=>?_]
   · obtain⟨d,hd⟩:=v9.mp (z6j (env:=X.env) scope.names [] hx hc);have:=z3I (env:=X.env) (x:=x) scope.names [] (λc e=>by simp at e) d hd;rw[hc]at this;cases this;exact hd
   · have q:=z2N S.nd hy;rw[e,hx]at q;intro z;rw[z]at q;cases q
 refine⟨⟨ok.mod,S.kind,ok.glob,ok.blt,hz,λx y c hx hy=>?_,λx hx=>?_,λx c hx e=>?_,ok.hd,ok.frames,.inl rfl,λb hb=>⟨?_,λx c e=>?_⟩,λb o e=>?_,?_,λb o e hb=>?_,λb hb=>?_,I2.stack,I2.stkFree⟩,
   hos,I.bare,hu.trans (Un.kept k),⟨_,ns,λi x v h1 h2 h3=>?_⟩,λx c e=>?_,?_,λx c e=>?_,λp hp=>absurd (show p∈([]:List (Addr×Obj))from hp) (by simp),I.hok.kept k,?_⟩
 ·
   rcases mem x c hx with q|q
   · rcases mem y c hy with q'|q'
     · have in1:∀ z:Str,(z,c)∈cellsFrom (s.heap.objs.size+1) scope.names (z0D X.env scope.names [])->(z,c)∈cellsFrom (s.heap.objs.size+1) scope.names []:=λz hz=>by
         rw[z9f]at hz;rcases wq.mp hz with hz|hz
         · exact hz
         · exact(nlt q (hlt _ _ (hcl _ hz))).elim
       exact name_of_addr (z9e scope.names (s.heap.objs.size+1) [] (λp hp=>by simp at hp) List.Pairwise.nil) (in1 x (PySem.mem_of_lookup hx)) (in1 y (PySem.mem_of_lookup hy))
     · exact(nlt q (hlt _ _ q')).elim
   · rcases mem y c hy with q'|q'
     · exact(nlt q' (hlt _ _ q)).elim
     · exact ok.inj x y c q q'
 ·
   have hx:(relabel scope X.env).names.lookup x=some .cell\/(relabel scope X.env).names.lookup x=some .free:=hx;have cs:scope.names.lookup x=some .cell\/scope.names.lookup x=some .free:=by
     rcases hx with q|q
     · obtain⟨k',e1,e2⟩:=z4i q;rcases e2 with e2|⟨e2,_⟩
       · rw[←e2]at e1;exact .inl e1
       · rw[e2]at e1;exact .inr e1
     · obtain⟨k',e1,e2⟩:=z4i q;rcases e2 with e2|⟨_,e2⟩
       · rw[←e2]at e1;exact .inr e1
       · cases e2
   rcases cs with q|q
   · exact v9.mp (PySem.W.cellsFrom_some scope.names _ _ (.inl q))
   · obtain⟨c,_,e⟩:=frec x q;exact⟨c,e⟩
 ·
   have hx:(scope.names.lookup x==some .cell)=true:=hx;exact wG hz (vk (zeo scope.names _ _ c (beq_iff_eq.mp hx) e))
 ·
   intro e;obtain⟨o,hb'⟩:=ho b hb;exact absurd (ww hb') (by rw[e];exact Wp _)
 · rcases mem x c e with q|q
   · intro z;obtain⟨o,hb'⟩:=ho b hb;have:=ww hb';rw[←z]at this;exact nlt q this
   · exact(hf b hb).2.2.2.2.1 x c q
 · exact I2.bs b o e
 · exact wG ok.bsz I2.sz
 ·
   rcases(hf b hb).2.2.2.1 with q|q
   · exact ok.noex b o e q
   · exact absurd (wD (ww e) (wG ok.bsz q)) (Wp _)
 ·
   intro z;rcases wn.mp (I.stkSub b z)with q|q
   · exact(hf b hb).2.1 q
   · exact(hf b hb).2.2.1 q
 ·
   have hi:nt<=i:=by
     by_cases hi:i<nt
     · unfold sig at h2;rw[wY (by simpa using hi),W8]at h2;split at h2<;>cases h2
     · rfl'
   unfold sig at h2;rw[W7 (by simpa using hi),Wo,wu]at h2;cases ej:js[i-nt]? with
   | none=>rw[ej]at h2;cases h2
   | some j =>
     rw[ej]at h2;have h2:(σ[j]?).join=some v:=Option.some.inj h2;obtain⟨y,n1,n2,n3⟩:=S.names _ _ ej;have hxy:x=y:=by
       have e:nt+(i-nt)=i:=by rfl'
       rw[e]at n1;have h1:N[i]?=some x:=h1;rw[h1]at n1;exact Option.some.inj n1
     subst hxy;have h2':σ[j]?=some (some v):=by
       cases eσ:σ[j]? with
       | none=>rw[eσ]at h2;cases h2
       | some a =>
         rw[eσ]at h2;have h2:a=some v:=h2;rw[h2]
     obtain⟨m,hn,hl⟩:=I.loc;have kd:=S.fre (x,.free) (PySem.mem_of_lookup n3) rfl;obtain⟨u,ru,lk⟩:=hl j x v n2 h2' (.inr kd);refine⟨u,ru,?_⟩;obtain⟨c,c1,c2⟩:=frec x n3;rcases lk with⟨z,_⟩|⟨_,d,d1,d2⟩
     · have kd':X.env.kindOf x=some .cell\/X.env.kindOf x=some .free:=kd;rw[z]at kd';rcases kd' with q|q<;>cases q
     · rw[c1]at d1;cases d1;refine .inr ⟨?_,c,c2,d2.keeps k⟩;have:=z4O (env:=X.env) n3;show(relabel scope X.env).names.lookup x=some .cell\/(relabel scope X.env).names.lookup x=some .free;unfold relabel;dsimp only;rw[this];split
       · exact .inl rfl
       · exact .inr rfl
 ·
   have e:(cellsFrom (s.heap.objs.size+1) scope.names (z0D X.env scope.names [])).lookup x=some c:=e;have hm:=PySem.mem_of_lookup e;rw[z9f]at hm;rcases wq.mp hm with q|q
   · exact⟨none,nc x c q⟩
   · obtain⟨v,hv⟩:=I.cell x c (hcl _ q);exact⟨v,hv.keeps k⟩
 · exact I.hok.fresh (wx _)
 · rcases mem x c e with q|q
   · exact I.hok.fresh (vk q)
   · exact I.freeC x c q
 · show(sig nt js σ).length=N.length;unfold sig;rw[wI,Wo,wo,S.len]
end
end L2

end
section
namespace L2
open PySem PySem.Spec PyProof.Rows
def ziz(nt:Nat)(js:List Nat)(wi:TI)(g:TG)(tc:Hp->TT)(te:Hp->TE):TE:=λσ H Q=>wi σ H λJ H1=>∀ D,H1 D=none ->
 ∃ W:Nat→Nat→List V→Hp→Prop,(∃ m,W 0 m [] (upd H1 D (.lst [])))∧∀ i m ys H,W i m ys H →
  (J.stop i H∧Q (.ref D) H)∨(J.go i H∧∀ x H',J.yld i H x H'→g x (sig nt js σ) H' fun σ2 H2=>tc H1 σ2 H2 fun b H3 =>
   if b=true then te H1 σ2 H3 λv H4=>H4 D=some (.lst ys)/\ys.length<sizeLine/\∃ m',m'<m/\W (i+1) m' (ys++[v]) (upd H4 D (.lst (ys++[v])))
   else ∃ m',m'<m/\W (i+1) m' ys H3)
section
variable {X:Cx}{N:List Str}{scope:Scope}{nt:Nat}{js:List Nat}{tg elt iter:Expr}{ifs:List Expr}{wi:TI}{g:TG}{tc:Hp->TT}{te:Hp->TE}{pos:Pos}
theorem zkD{σ σ2:St}(hl:σ2.length=(sig nt js σ).length)(h:∀ i,nt<=i->σ2[i]?=(sig nt js σ)[i]?):∀(i:Nat) v,(sig nt js σ)[i]?=some (some v)->σ2[i]?=some (some v):=λi v e=>by
 by_cases hi:nt<=i
 · rw[h i hi];exact e
 · unfold sig at e;rw[wY (by rw[Wo];rfl'),W8]at e;split at e<;>cases e
def TgOk(nt:Nat)(g:TG):Prop:=∀ x σ H (Q:St->Hp->Prop),g x σ H Q->g x σ H λσ2 H2=>(σ2.length=σ.length/\∀ i,nt<=i->σ2[i]?=σ[i]?)/\Q σ2 H2
theorem zd4(S:CompScope X N scope nt js)(hc:X.calm=true)(hi:PI X tg iter wi)
  (hg:∀ cl C fp s H,PG (z0M X N scope cl C fp s H) tg g) (ht:TgOk nt g) (hcs:∀ cl C fp s H,PTs (z0M X N scope cl C fp s H) ifs (tc H)) (he:∀ cl C fp s H,PE (z0M X N scope cl C fp s H) elt (te H))
  {use:Option (Value->Sem Unit)} {pins:List (Addr×Obj)} {s:Shared} {σ:St} {H:Hp} {Q:VK} {Q':Value->Shared->Prop} (I:Inv X pins σ H s) (h:ziz nt js wi g tc te σ H Q)
  (hs:∀ x,foldedSetIterable iter X.env x=pure x)
  (fin:∀(D C:Addr) (H':Hp) (s':Shared),Inv X pins σ H' s'->Q (.ref D) H'->H' C=none->C≠X.env.locals->(X.s₀.heap.objs.size<=C)->(∀ x c,X.env.cells.lookup x=some c->c≠C)->(∀ p∈X.pn++pins,p.1≠C)->(∃ m,s'.heap.Ns C m) ->
    compPost (model X.prog X.w) X.A X.xe use Q' (.ref D) C (.ok .next) s') :
  wpAny (model X.prog X.w) X.A (comprehension (.ListComp elt [⟨tg,iter,ifs,0⟩] scope pos) scope X.env (firstIterPos [⟨tg,iter,ifs,0⟩] pos) (newList []) false (eval iter X.env) use) Q' X.xe s:=by
 have clo:closureFor scope X.env=pure (z0D X.env scope.names []):=zer λy hy e=>I.ok.has y.1 (S.fre y hy e);refine wpAny_comprehension_free (cl:=z0D X.env scope.names []) rfl hs clo S.kind S.loc (thn (hi pins s σ H _ I h) λxv s1 h1=>thn h1 λitv s2 h2=>?_);obtain⟨it,fp,tn,J,H2,rfl,I2,T,st2,f2,q2⟩:=h2;refine wpAny_newObj_type (hd:=by size_fits) ?_;have fresh2:H2 s2.heap.objs.size=none:=I2.fresh;have I3:=I2.lnew (ys:=[]) (its:=[]) (t':=s2.toks) .nil (wQ _);obtain⟨W,⟨m0,w0⟩,turn⟩:=q2 s2.heap.objs.size fresh2;have ltf:∀ b∈fp,b<s2.heap.objs.size:=λb hb=>by
  obtain⟨o,e,_⟩:=T.obj 0 _ st2 b hb;exact ww e
 have ned:∀ b∈fp,b≠s2.heap.objs.size:=λb hb=>wV (ltf b hb);have f3:∀ b∈fp,FpOk X pins (upd H2 s2.heap.objs.size (.lst [])) b:=λb hb=>⟨by rw[z0r (ned b hb)];exact(f2 b hb).1,(f2 b hb).2⟩;generalize e3:({ s2 with heap:=s2.heap.push { cls := .type "list",dict:=none,data := .seq ([]:List Value).toArray } }:Shared)=s3 at *;have k3:∀ b o,s2.heap.get? b=some o->s3.heap.get? b=some o:=λb o e=>by rw[←e3];exact wd _ e
 have os3:s3.os=s2.os:=by rw[←e3]
 have sz3:s2.heap.objs.size<s3.heap.objs.size:=by rw[←e3];show _<(s2.heap.push _).objs.size;rw[Wf];exact Wb _
 refine zkB λh4 ns4 k4 nc4=>?_;have I4:=zkC S I2 I3 (Un.laid k3 (wx _) fresh2) os3 (Wx sz3) f3 (λb hb=>by obtain⟨o,e,_⟩:=T.obj 0 _ st2 b hb;exact⟨o,k3 b o e⟩) ns4 k4 nc4;have st4:tn 0 h4:=T.keep _ _ _ st2 λb _ o e=>k4 b o (k3 b o e);generalize eC:s3.heap.objs.size=C at *;have stat:∀{H':Hp},(∀ b∈fp,H' b=none)->∀ b∈fp,FpOk (z0M X N scope (cellsFrom (C+1) scope.names (z0D X.env scope.names [])) C fp s2 H2) [] H' b:=λhn b hb =>
  ⟨hn b hb,(I4.ok.exf b hb).1,I4.ok.exfs b hb,.inl hb,(I4.ok.exf b hb).2,λp hp=>absurd (show p∈([]:List (Addr×Obj))from hp) (by simp)⟩
 have loop:∀ s4:Shared,s4={ s3 with heap:=h4 }→codeAny (model X.prog X.w) X.A (.compLoop (.ListComp elt [⟨tg,iter,ifs,0⟩] scope pos) 0 (.ref it) (.ref s2.heap.objs.size) (compEnvC scope (cellsFrom (C+1) scope.names (z0D X.env scope.names [])) C X.env))
    (compPost (model X.prog X.w) X.A X.xe use Q' (.ref s2.heap.objs.size) C) s4:=by
  rintro s4 rfl;refine zcb (λn s'=>∃ i ys H',Inv (z0M X N scope (cellsFrom (C+1) scope.names (z0D X.env scope.names [])) C fp s2 H2) [] (sig nt js σ) H' s'/\tn i s'.heap/\(∀ b∈fp,H' b=none)/\W i n ys H') ?_ m0
    ⟨0,[],_,I4,st4,λb hb=>(f3 b hb).1,w0⟩
  rintro n s5 ⟨i,ys,H5,I5,st5,fr5,w5⟩;rcases turn i n ys H5 w5 with⟨stop,q⟩|⟨go,step⟩
  · refine wpAny_mono (T.done (z0M X N scope (cellsFrom (C+1) scope.names (z0D X.env scope.names [])) C fp s2 H2) rfl rfl rfl hc i [] s5 _ H5 _ I5 (stat fr5) st5 stop) (λr s6⟨hr,I6⟩=>?_) λ_ _ z=>z;subst hr;have u:Un (frs X.stack) fp H2 H5 s2.heap s6.heap:=I6.base;have J6:Inv X pins σ H5 s6:=I2.call' I6.os u I6.hok I6.bare λb hb=>⟨(f2 b hb).2.2.2.1,(f2 b hb).2.1,(f2 b hb).2.2.2.2.1,(f2 b hb).2.2.2.2.2⟩;have hCs:s2.heap.objs.size<=C:=Wx sz3;refine fin _ C H5 s6 J6 q I6.free (λz=>?_) (wG I2.sz hCs) (λx c e z=>?_) (λp hp z=>?_) ?_
    · exact absurd I2.lt (by rw[←z];exact u6.mpr hCs)
    · obtain⟨v,o,ho,_⟩:=I2.cell x c e;exact absurd (ww ho) (by rw[z];exact u6.mpr hCs)
    · exact absurd (ww (I2.pin p hp).1) (by rw[z];exact u6.mpr hCs)
    · obtain⟨m,hm,_⟩:=I6.loc;exact⟨m,hm⟩
  · refine wpAny_mono (T.item (z0M X N scope (cellsFrom (C+1) scope.names (z0D X.env scope.names [])) C fp s2 H2) rfl rfl rfl hc i [] s5 _ H5 _ I5 (stat fr5) st5 go) (λr s6⟨u,hr,h6⟩=>?_) λ_ _ z=>z;subst hr;refine wpAny_mono h6 (λ_ s7⟨x,H7,I7,r7,y7,st7,fr7⟩=>?_) λ_ _ z=>z;have I7':=I7.pinned (stat fr7) (T.obj _ _ st7);refine wpAny_mono (hg _ _ _ _ _ _ s7 _ H7 x u _ I7' r7 (ht _ _ _ _ (step x H7 y7))) (λ_ s8 ⟨σ8,H8,I8,⟨l8,o8⟩,q8⟩=>?_) λ_ _ z=>z.elim;have again:∀{s9:Shared} {H9:Hp} {ys9:List V},Inv (z0M X N scope (cellsFrom (C+1) scope.names (z0D X.env scope.names [])) C fp s2 H2) ([]++z9b fp s7.heap) σ8 H9 s9->(∃ m',m'<n/\W (i+1) m' ys9 H9) ->
       ∃ m,m<n/\∃ i ys H',Inv (z0M X N scope (cellsFrom (C+1) scope.names (z0D X.env scope.names [])) C fp s2 H2) [] (sig nt js σ) H' s9/\tn i s9.heap/\(∀ b∈fp,H' b=none)/\W i m ys H':=λ{s9 H9 ys9} I9 ⟨m',hm,w9⟩=>by
      refine⟨m',hm,i+1,ys9,H9,I9.unpinned.weak l8.symm (zkD l8 o8),T.keep _ _ _ st7 λb hb o e=>(I9.pin (b,o) (wK _ (wK _ (z4e hb e)))).1,λb hb=>?_,w9⟩;obtain⟨o,e,_⟩:=T.obj _ _ st7 b hb;exact(I9.pin (b,o) (wK _ (wK _ (z4e hb e)))).2.1
    refine wpAny_mono (hcs _ _ _ _ _ _ s8 σ8 H8 _ I8 q8) (λok s9⟨H9,I9,q9⟩=>?_) λ_ _ z=>z.elim;cases ok with
    | false =>
      rw[if_neg wX]at q9 ⊢;exact again I9 q9
    | true =>
      rw[if_pos rfl]at q9 ⊢;refine wpAny_mono (he _ _ _ _ _ _ s9 σ8 H9 _ I9 q9) (λy s10⟨v,H10,I10,r10,d10,l10,w10⟩=>?_) λ_ _ z=>z.elim;refine wpAny_mono (zaQ (X:=z0M X N scope (cellsFrom (C+1) scope.names (z0D X.env scope.names [])) C fp s2 H2) _ s10 σ8 H10 (.ref s2.heap.objs.size) [v] (.ref s2.heap.objs.size) [y] (λz H'=>∃ m',m'<n/\W (i+1) m' (ys++[v]) H') I10 rfl (.cons r10 .nil) ⟨_,ys,v,rfl,rfl,d10,l10,w10⟩) (λ_ s11⟨_,H11,I11,_,w11⟩=>?_) λ_ _ z=>z.elim;exact again I11 w11
 exact codeAny_compStart_list (loop _ rfl) (T.self _ _ _ _ _ st4 (loop _ rfl))
theorem zon(S:CompScope X N scope nt js)(hc:X.calm=true)(hi:PI X tg iter wi)
  (hg:∀ cl C fp s H,PG (z0M X N scope cl C fp s H) tg g) (ht:TgOk nt g) (hcs:∀ cl C fp s H,PTs (z0M X N scope cl C fp s H) ifs (tc H)) (he:∀ cl C fp s H,PE (z0M X N scope cl C fp s H) elt (te H))
  (hs:∀ x,foldedSetIterable iter X.env x=pure x:=by intro _;rfl):PE X (.ListComp elt [⟨tg,iter,ifs,0⟩] scope pos) (ziz nt js wi g tc te):=by
 intro pins s σ H Q I h;rw[eval_ListComp];refine zd4 (use:=none) S hc hi hg ht hcs he I h hs ?_;rintro D C H' s' I' q hC hL hz hcl hpn ⟨m,hm⟩;exact⟨m,hm,λh' sb=>⟨.ref D,H',I'.turned (λb o hb e=>sb.extBut b o hb e) hC hL (.inr hz) hcl hpn,rfl,q⟩⟩
theorem zoo{i:Nat}{x:Str}{pos' spos:Pos}(hN:X.N.Nodup)(hix:X.N[i]?=some x)(hx:X.env.scope.names.lookup x=some .local)(S:CompScope X N scope nt js)(hc:X.calm=true)(hi:PI X tg iter wi)
  (hg:∀ cl C fp s H,PG (z0M X N scope cl C fp s H) tg g) (ht:TgOk nt g) (hcs:∀ cl C fp s H,PTs (z0M X N scope cl C fp s H) ifs (tc H)) (he:∀ cl C fp s H,PE (z0M X N scope cl C fp s H) elt (te H))
  (hsw:swapsWith (.ListComp elt [⟨tg,iter,ifs,0⟩] scope pos) (some (.Name x pos')) spos.line X.env=pure true)
  (hs:∀ x,foldedSetIterable iter X.env x=pure x:=by intro _;rfl):PS X (.Assign [.Name x pos'] (.ListComp elt [⟨tg,iter,ifs,0⟩] scope pos) spos) (tAsg (ziz nt js wi g tc te) (z9a i)):=by
 intro pins s σ H D0 I h;rw[exec_Assign_Name_used _ _ _ _ hsw];refine wpAny_bind (wpAny_standAt (wpAny_bind ?_));show wpAny _ X.A (do let _ ←comprehension (.ListComp elt [⟨tg,iter,ifs,0⟩] scope pos) scope X.env _ (newList []) false (eval iter X.env) (some (assign (.Name x pos') X.env))) _ _ s;refine wpAny_bind (wpAny_mono (zd4 (use:=some (assign (.Name x pos') X.env)) (Q':=λ_ s'=>SP X pins D0 .next s') S hc hi hg ht hcs he I h hs λD C H' s' I' q hC hL hz hcl hpn⟨m,hm⟩=>?_) (λ_ s' hq=>wpAny_pure (wpAny_pure hq)) λ_ _ e=>e);show wpAny _ X.A (assign (.Name x pos') X.env (.ref D)) _ _ s';refine wpAny_assign_Name (zaK (v := .ref D) I' hN hix (.inl hx) rfl (λs'' I''⟨a,sb,ha⟩=>?_) (.inr hx));have hCa:C≠a:=by
  rintro rfl;rcases ha with ha|ha
  · exact hL ha
  · exact hcl x C ha rfl
 refine⟨m,hm.sameBut sb hCa,λh' sb'=>⟨_,H',I''.turned (λb o hb e=>sb'.extBut b o hb e) hC hL (.inr hz) hcl hpn,q⟩⟩
end
end L2

end
section
namespace L2
open PySem PySem.Spec PyProof.Rows
section
variable {X:Cx}
def CDivG(_ j:Int):Prop:=j≠0/\j.natAbs.log2<9000
theorem zkE:OpR X (binaryOp .FloorDiv) (rI CDivG λi j => .int (i.fdiv j)):=opI λ_ _ _ _ _ _ _ hc q=>floordiv_int hc.1 q (.inl (PyProof.noPylong_of_log2 hc.2))
theorem log2_lt{n k:Nat}(h:n<2 ^ k)(hk:0<k):n.log2<k:=by
 by_cases h0:n=0
 · subst h0;exact hk
 · exact(Vf h0).mpr h
theorem zcc{i:Int}{k:Nat}(h:i.natAbs<2 ^ k):Builtin.Int.intBits i<=k:=by
 unfold Builtin.Int.intBits;split
 · exact wQ _
 · rename_i h0;have h1:i.natAbs≠0:=by
    intro e;apply h0;have:i=0:=Vr.mp e;subst this;rfl
   exact Nat.succ_le_of_lt ((Vf h1).mpr h)
theorem pe_ty{x:Str}{T:String}{pos:Pos}(hg:Gl X x)(hm:X.mg x=none)(hv:bootBuiltins x=some (.type T))(hn:x ≠ "__name__" := by decide)(hd:(x==("__debug__" : Str))=false:=by decide):PE X (.Name x pos) (tC (.ty T)):=zo5 (v:=V.ty T) hg hm hv rfl hn hd
end
end L2

end
section
namespace L2
open PySem PySem.Spec PyProof.Rows
def hidL(A:List Addr)(H:Hp):Hp:=λb=>if b∈A then none else H b
def z1b(A:List Addr)(H H':Hp):Hp:=λb=>if b∈A then H b else H' b
section
variable {A:List Addr}{H H' H1:Hp}{a b:Addr}{o:HO}
theorem z2A(h:b∈A):hidL A H b=none:=if_pos h
theorem z0j(h:b ∉ A):hidL A H b=H b:=if_neg h
theorem z4j(h:hidL A H b=some o):b ∉ A/\H b=some o:=by
 unfold hidL at h;split at h
 · cases h
 · rename_i q;exact⟨q,h⟩
theorem z0B:Same (hidL A H) H:=λb o e=>(z4j e).2
theorem zd5:hidL [] H=H:=funext λb=>by unfold hidL;simp
theorem z5y(h:b∈A):z1b A H H' b=H b:=if_pos h
theorem z15(h:b ∉ A):z1b A H H' b=H' b:=if_neg h
theorem Same.glue(h:Same (hidL A H) H')(hn:∀ a∈A,H' a=none):Same H (z1b A H H'):=λb o e=>by
 by_cases q:b∈A
 · rw[z5y q];exact e
 · rw[z15 q];exact h b o (by rw[z0j q];exact e)
theorem z3f(hn:∀ a∈A,H' a=none):hidL A (z1b A H H')=H':=funext λb=>by
 by_cases q:b∈A
 · rw[z2A q,hn b q]
 · rw[z0j q,z15 q]
end
def OwnL(X:Cx)(A:List Addr)(H:Hp):Prop:=∀ a∈A,(∃ vs,H a=some (.lst vs))/\X.H₀ a=none
section
variable {X:Cx}{A:List Addr}{pins:List (Addr×Obj)}{σ:St}{H H':Hp}{s s':Shared}
def zd6(h:Heap)(A:List Addr):List (Addr×Obj):=A.filterMap λa=>(h.get? a).map λo=>(a,o)
theorem zaS{h:Heap}{a:Addr}{o:Obj}(ha:a∈A)(e:h.get? a=some o):(a,o)∈zd6 h A:=Wv.mpr ⟨a,ha,by rw[e];rfl⟩
theorem zkF{h:Heap}{p:Addr×Obj}(hp:p∈zd6 h A):p.1∈A/\h.get? p.1=some p.2:=by
 obtain⟨a,ha,e⟩:=Wv.mp hp;cases q:h.get? a with
 | none=>rw[q]at e;cases e
 | some o=>rw[q]at e;cases e;exact⟨ha,q⟩
theorem Inv.fsFree(I:Inv X pins σ H s){b:Addr}(hb:b∈X.fs):H b=none:=by
 obtain⟨_,o,ho,_⟩:=I.ok.funs.mem hb;exact I.base.free b o ho (I.ok.frf b hb) λz=>I.ok.exfs b z hb
theorem Inv.hide(I:Inv X pins σ H s)(hA:OwnL X A H):Inv X (pins++zd6 s.heap A) σ (hidL A H) s:=by
 have nl:∀ b o,H b=some o->(∀ vs,o ≠ .lst vs)->b ∉ A:=λb o e n hb=>by
   obtain⟨⟨vs,q⟩,_⟩:=hA b hb;rw[e]at q;exact n vs (Option.some.inj q)
 refine⟨I.ok,I.os,I.bare,⟨I.base.keep,I.base.slot,λb o e n hx=>?_,I.base.there,λb xs e=>?_,λb o u e=>?_,λb ps e=>?_⟩,I.loc,I.cell,?_,λx c e=>?_,λp hp=>?_,λa o e=>?_,I.len⟩
 · have:=I.base.free b o e n hx;unfold hidL;split
   · rfl
   · exact this
 · have:=I.base.tups b xs e;rw[z0j (nl b _ this λ_ z=>by cases z)];exact this
 · have:=I.base.frzs b o u e;rw[z0j (nl b _ this λ_ z=>by cases z)];exact this
 · obtain⟨more,this⟩:=I.base.tbls b ps e;exact⟨more,by rw[z0j (nl b _ this λ_ z=>by cases z)];exact this⟩
 · have:=I.free;unfold hidL;split
   · rfl
   · exact this
 · have:=I.freeC x c e;unfold hidL;split
   · rfl
   · exact this
 · rw[←WL]at hp;rcases wq.mp hp with hp|hp
   · obtain⟨q1,q2,q3⟩:=I.pin p hp;refine⟨q1,?_,q3⟩;unfold hidL;split
     · rfl
     · exact q2
   · obtain⟨q1,q2⟩:=zkF hp;obtain⟨⟨vs,q⟩,_⟩:=hA _ q1;refine⟨q2,z2A q1,λz=>?_,λz=>?_,λv z=>?_⟩
     · rw[z,I.free]at q;cases q
     · rw[I.fsFree z]at q;cases q
     · obtain⟨_,its,n,_,e⟩:=I.hok _ _ q;rw[q2]at e;have e:=Option.some.inj e;rw[e]at z;cases z
 · obtain⟨q1,q2⟩:=z4j e;refine(I.hok a o q2).stay (λb u _ z=>z) (λb z=>?_) (λb xs z=>?_)
   · rw[z0j (nl b _ z λ_ z=>by cases z)];exact z
   · rw[z0j (nl b _ z λ_ z=>by cases z)];exact z
theorem Inv.unhide{σ':St}(I:Inv X pins σ H s)(hA:OwnL X A H)(J:Inv X (pins++zd6 s.heap A) σ' H' s'):(∀ a∈A,H' a=none)/\Inv X pins σ' (z1b A H H') s':=by
 have pn:∀ a∈A,∃ o,s.heap.get? a=some o/\s'.heap.get? a=some o/\H' a=none:=λa ha=>by
   obtain⟨⟨vs,q⟩,_⟩:=hA a ha;obtain⟨_,its,n,_,e⟩:=I.hok _ _ q;have:=J.pin _ (wK _ (wK _ (zaS ha e)));exact⟨_,e,this.1,this.2.1⟩
 have hn:∀ a∈A,H' a=none:=λa ha=>by obtain⟨o,_,_,q⟩:=pn a ha;exact q
 have out:∀ b,H b=none->b ∉ A:=λb e hb=>by
   obtain⟨⟨vs,q⟩,_⟩:=hA b hb;rw[e]at q;cases q
 have tr:∀ b o,H' b=some o->b ∉ A:=λb o e hb=>by rw[hn b hb]at e;cases e
 refine⟨hn,J.ok,J.os,J.bare,⟨J.base.keep,J.base.slot,λb o e n hx=>?_,J.base.there,λb xs e=>?_,λb o u e=>?_,λb ps e=>?_⟩,J.loc,J.cell,?_,λx c e=>?_,λp hp=>?_,λa o e=>?_,J.len⟩
 · rw[z15 (out b (I.base.free b o e n hx))];exact J.base.free b o e n hx
 · have:=J.base.tups b xs e;rw[z15 (tr b _ this)];exact this
 · have:=J.base.frzs b o u e;rw[z15 (tr b _ this)];exact this
 · obtain⟨more,this⟩:=J.base.tbls b ps e;exact⟨more,by rw[z15 (tr b _ this)];exact this⟩
 · rw[z15 (out _ I.free)];exact J.free
 · rw[z15 (out _ (I.freeC x c e))];exact J.freeC x c e
 · have hp':p∈X.pn++(pins++zd6 s.heap A):=by
     rw[←WL];exact WK _ hp
   obtain⟨q1,q2,q3⟩:=J.pin p hp';refine⟨q1,?_,q3⟩;rw[z15 (out _ (I.pin p hp).2.1)];exact q2
 · by_cases ha:a∈A
   · rw[z5y ha]at e;obtain⟨⟨vs,q⟩,_⟩:=hA a ha;rw[q]at e;cases e;obtain⟨hz,its,n,r,e1⟩:=I.hok _ _ q;obtain⟨o,e2,e3,_⟩:=pn a ha;rw[e1]at e2;cases e2;exact⟨hz,its,n,r,e3⟩
   · rw[z15 ha]at e;refine(J.hok a o e).stay (λb u _ z=>z) (λb z=>?_) (λb xs z=>?_)
     · rw[z15 (tr b _ z)];exact z
     · rw[z15 (tr b _ z)];exact z
theorem PE.frame{e:Expr}{t:TE}(h:PE X e t):PE X e (λσ H Q=>∃ A,OwnL X A H/\t σ (hidL A H) λv H'=>(∀ a∈A,H' a=none)->Q v (z1b A H H')):=by
 intro pins s σ H Q I ⟨A,hA,z⟩;refine thn (h _ s σ _ _ (I.hide hA) z) ?_;rintro u s' ⟨v,H',J,r,q⟩;obtain⟨hn,J'⟩:=I.unhide hA J;exact⟨v,_,J',r,q hn⟩
theorem PA.frame{es:List Expr}{t:TA}(h:PA X es t):PA X es (λσ H Q=>∃ A,OwnL X A H/\t σ (hidL A H) λv H'=>(∀ a∈A,H' a=none)->Q v (z1b A H H')):=by
 intro pos pins s σ H Q I ⟨A,hA,z⟩;refine thn (h pos _ s σ _ _ (I.hide hA) z) ?_;rintro u s' ⟨v,H',J,r,q⟩;obtain⟨hn,J'⟩:=I.unhide hA J;exact⟨v,_,J',r,q hn⟩
theorem PT.frame{e:Expr}{t:TT}(h:PT X e t):PT X e (λσ H Q=>∃ A,OwnL X A H/\t σ (hidL A H) λv H'=>(∀ a∈A,H' a=none)->Q v (z1b A H H')):=by
 intro pins s σ H Q I ⟨A,hA,z⟩;refine thn (h _ s σ _ _ (I.hide hA) z) ?_;rintro u s' ⟨H',J,q⟩;obtain⟨hn,J'⟩:=I.unhide hA J;exact⟨_,J',q hn⟩
def hidD(A:List Addr)(H:Hp)(D:Ends):Ends where
 nx:=λσ H'=>(∀ a∈A,H' a=none)->D.nx σ (z1b A H H')
 rt:=λv H'=>(∀ a∈A,H' a=none)->D.rt v (z1b A H H')
 bk:=λσ H'=>(∀ a∈A,H' a=none)->D.bk σ (z1b A H H')
 ct:=λσ H'=>(∀ a∈A,H' a=none)->D.ct σ (z1b A H H')
theorem PS.frame{st:Stmt}{t:TS}(h:PS X st t):PS X st (λD σ H=>∃ A,OwnL X A H/\t (hidD A H D) σ (hidL A H)):=by
 intro pins s σ H D I ⟨A,hA,z⟩;refine thn (h _ s σ _ _ (I.hide hA) z) λf s' q=>?_;cases f with
 | next=>obtain⟨σ',H',J,q⟩:=q;obtain⟨hn,J'⟩:=I.unhide hA J;exact⟨_,_,J',q hn⟩
 | brk=>obtain⟨σ',H',J,q⟩:=q;obtain⟨hn,J'⟩:=I.unhide hA J;exact⟨_,_,J',q hn⟩
 | cont=>obtain⟨σ',H',J,q⟩:=q;obtain⟨hn,J'⟩:=I.unhide hA J;exact⟨_,_,J',q hn⟩
 | ret u=>obtain⟨v,σ',H',J,r,q⟩:=q;obtain⟨hn,J'⟩:=I.unhide hA J;exact⟨_,_,_,J',r,q hn⟩
theorem PI.frame{tg e:Expr}{t:TI}(h:PI X tg e t):PI X tg e (λσ H R=>∃ A,OwnL X A H/\t σ (hidL A H) λJ H'=>(∀ a∈A,H' a=none)->R J (z1b A H H')):=by
 intro pins s σ H R I ⟨A,hA,z⟩;refine thn (h _ s σ _ _ (I.hide hA) z) λv s1 q=>thn q ?_;rintro itv s2 ⟨it,fp,tn,J,H',e,I2,T,st,hf,r⟩;obtain⟨hn,I3⟩:=I.unhide hA I2;refine⟨it,fp,tn,J,_,e,I3,T,st,λb hb=>?_,r hn⟩;obtain⟨f1,f2,f3,f4,f5,f6⟩:=hf b hb;have hbA:b ∉ A:=λha=>by
  obtain⟨⟨vs,q⟩,_⟩:=hA b ha;obtain⟨_,its,n,_,e⟩:=I.hok _ _ q;exact f6 _ (wK _ (wK _ (zaS ha e))) rfl
 refine⟨by rw[z15 hbA];exact f1,f2,f3,f4,f5,λp hp=>f6 p ?_⟩;rw[←WL];exact WK _ hp
end
end L2

end
section
namespace L2
open PySem PySem.Spec PyProof.Rows
inductive Dt where
 | non|bl (b:Bool)|int (i:Int)|str (x:Str)|lst (xs:List Dt)|tup (xs:List Dt)|scr (ns:List Int)|dic
def emp:Hp:=λ_=>none
theorem z9g{A C:List Addr}{H:Hp}:hidL A (hidL C H)=hidL C (hidL A H):=funext λb=>by
 unfold hidL;by_cases p:b∈A<;>by_cases q:b∈C<;>simp[p,q]
theorem z1F{A:List Addr}{H H':Hp}(h:Same H H'):Same (hidL A H) (hidL A H'):=λb o e=>by
 obtain⟨q1,q2⟩:=z4j e;rw[z0j q1];exact h b o q2
theorem z3R{A B:List Addr}{H:Hp}(h:∀ a∈B,a∈A):Same (hidL A H) (hidL B H):=λb o e=>by
 obtain⟨q1,q2⟩:=z4j e;rw[z0j λz=>q1 (h b z)];exact q2
theorem Same.seqT{K:PySem.W.Frag}{H H':Hp}{a:Addr}{xs:List V}(e:Same H H')(h:SqT K H a xs):SqT K H' a xs:=by
 rcases h with(h|⟨o,h⟩)|h
 · exact .inl (.inl (e _ _ h))
 · exact .inl (.inr ⟨o,e _ _ h⟩)
 · exact .inr h
theorem Same.emp{H:Hp}:Same emp H:=λ_ _ e=>by cases e
def dicAt(a:Addr)(h:Heap):Prop:=h.get? a=some { cls := .type "dict",data := .dict #[] }
mutual
def Rp(K:PySem.W.Frag)(B:Hp):Dt->Hp->V->Prop
 | .non,_,v=>v = .non
 | .bl b,_,v=>v = .bl b
 | .int i,_,v=>v = .int i
 | .str x,_,v=>v = .str x
 | .dic,H,v=>∃ a,v = .ref a/\H a=some (.ext (dicAt a))
 | .lst ds,H,v=>∃ a vs,v = .ref a/\B a=none/\H a=some (.lst vs)/\Rps K B ds (hidL [a] H) vs
 | .tup ds,H,v=>∃ a vs,v = .ref a/\SqT K H a vs/\Rps K B ds H vs
 | .scr ns,H,v=>∃ a,v = .ref a/\B a=none/\SqL K H a (ns.map V.int)
def Rps(K:PySem.W.Frag)(B:Hp):List Dt->Hp->List V->Prop
 | [],_,vs=>vs=[]
 | d::ds,H,vs=>∃ v r,vs=v::r/\Rp K B d H v/\Rps K B ds H r
end
section
variable {K:PySem.W.Frag}{B B' H H':Hp}
theorem Rp.int_{i:Int}{v:V}:Rp K B (.int i) H v↔v = .int i:=by unfold Rp;exact Iff.rfl
theorem Rp.bl_{b:Bool}{v:V}:Rp K B (.bl b) H v↔v = .bl b:=by unfold Rp;exact Iff.rfl
theorem Rp.non_{v:V}:Rp K B .non H v↔v = .non:=by unfold Rp;exact Iff.rfl
theorem Rp.str_{x:Str}{v:V}:Rp K B (.str x) H v↔v = .str x:=by unfold Rp;exact Iff.rfl
theorem Rp.dic_{v:V}:Rp K B .dic H v↔∃ a,v = .ref a/\H a=some (.ext (dicAt a)):=by unfold Rp;exact Iff.rfl
theorem Rp.lst_{ds:List Dt}{v:V}:Rp K B (.lst ds) H v↔∃ a vs,v = .ref a/\B a=none/\H a=some (.lst vs)/\Rps K B ds (hidL [a] H) vs:=by rw[Rp]
theorem Rp.tup_{ds:List Dt}{v:V}:Rp K B (.tup ds) H v↔∃ a vs,v = .ref a/\SqT K H a vs/\Rps K B ds H vs:=by rw[Rp]
theorem Rp.scr_{ns:List Int}{v:V}:Rp K B (.scr ns) H v↔∃ a,v = .ref a/\B a=none/\SqL K H a (ns.map V.int):=by rw[Rp]
theorem Rps.nil_{vs:List V}:Rps K B [] H vs↔vs=[]:=by rw[Rps]
theorem Rps.cons_{d:Dt}{ds:List Dt}{vs:List V}:Rps K B (d::ds) H vs↔∃ v r,vs=v::r/\Rp K B d H v/\Rps K B ds H r:=by rw[Rps]
mutual
theorem Rp.mono:∀(d:Dt) {H H':Hp} {v:V},Same H H'->Rp K B d H v->Rp K B d H' v
 | .non,_,_,v,e,h=>by unfold Rp at h ⊢;exact h
 | .bl b,_,_,v,e,h=>by unfold Rp at h ⊢;exact h
 | .int i,_,_,v,e,h=>by unfold Rp at h ⊢;exact h
 | .str x,_,_,v,e,h=>by unfold Rp at h ⊢;exact h
 | .dic,_,_,v,e,h=>by unfold Rp at h ⊢;obtain⟨a,q,r⟩:=h;exact⟨a,q,e _ _ r⟩
 | .lst ds,_,_,v,e,h=>by
  unfold Rp at h ⊢;obtain⟨a,vs,rfl,h0,h1,h2⟩:=h;exact⟨a,vs,rfl,h0,e _ _ h1,Rps.mono ds (z1F e) h2⟩
 | .tup ds,_,_,v,e,h=>by
  unfold Rp at h ⊢;obtain⟨a,vs,rfl,h1,h2⟩:=h;exact⟨a,vs,rfl,e.seqT h1,Rps.mono ds e h2⟩
 | .scr ns,_,_,v,e,h=>by
  unfold Rp at h ⊢;obtain⟨a,rfl,h0,h1⟩:=h;exact⟨a,rfl,h0,e.seq h1⟩
theorem Rps.mono:∀(ds:List Dt) {H H':Hp} {vs:List V},Same H H'->Rps K B ds H vs->Rps K B ds H' vs
 | [],_,_,vs,e,h=>by unfold Rps at h ⊢;exact h
 | d::ds,_,_,vs,e,h=>by
  unfold Rps at h ⊢;obtain⟨v,r,rfl,h1,h2⟩:=h;exact⟨v,r,rfl,Rp.mono d e h1,Rps.mono ds e h2⟩
end
mutual
theorem Rp.anti(e:Same B' B):∀(d:Dt) {H:Hp} {v:V},Rp K B d H v->Rp K B' d H v
 | .non,_,v,h=>by unfold Rp at h ⊢;exact h
 | .bl b,_,v,h=>by unfold Rp at h ⊢;exact h
 | .int i,_,v,h=>by unfold Rp at h ⊢;exact h
 | .str x,_,v,h=>by unfold Rp at h ⊢;exact h
 | .dic,_,v,h=>by unfold Rp at h ⊢;exact h
 | .lst ds,_,v,h=>by
  unfold Rp at h ⊢;obtain⟨a,vs,rfl,h0,h1,h2⟩:=h;exact⟨a,vs,rfl,e.free h0,h1,Rps.anti e ds h2⟩
 | .tup ds,_,v,h=>by
  unfold Rp at h ⊢;obtain⟨a,vs,rfl,h1,h2⟩:=h;exact⟨a,vs,rfl,h1,Rps.anti e ds h2⟩
 | .scr ns,_,v,h=>by
  unfold Rp at h ⊢;obtain⟨a,rfl,h0,h1⟩:=h;exact⟨a,rfl,e.free h0,h1⟩
theorem Rps.anti(e:Same B' B):∀(ds:List Dt) {H:Hp} {vs:List V},Rps K B ds H vs->Rps K B' ds H vs
 | [],_,vs,h=>by unfold Rps at h ⊢;exact h
 | d::ds,_,vs,h=>by
  unfold Rps at h ⊢;obtain⟨v,r,rfl,h1,h2⟩:=h;exact⟨v,r,rfl,Rp.anti e d h1,Rps.anti e ds h2⟩
end
theorem SqT.hid{A:List Addr}{a:Addr}{xs:List V}(hA:∀ b∈A,∀ o,H b=some o->∃ vs,o = .lst vs)(h:SqT K H a xs):SqT K (hidL A H) a xs:=by
 rcases h with(h|⟨o,h⟩)|h
 · refine .inl (.inl ?_);rw[z0j λz=>by obtain⟨vs,e⟩:=hA a z _ h;cases e];exact h
 · refine .inl (.inr ⟨o,?_⟩);rw[z0j λz=>by obtain⟨vs,e⟩:=hA a z _ h;cases e];exact h
 · exact .inr h
theorem SqL.hid{A:List Addr}{a:Addr}{xs:List V}(hA:a ∉ A)(h:SqL K H a xs):SqL K (hidL A H) a xs:=by
 rcases h with(h|⟨o,h⟩)|h
 · exact .inl (.inl (by rw[z0j hA];exact h))
 · exact .inl (.inr ⟨o,by rw[z0j hA];exact h⟩)
 · exact .inr h
mutual
theorem Rp.hid{A:List Addr}(hB:∀ b∈A,B b≠none):∀(d:Dt) {H:Hp} {v:V},(∀ b∈A,∀ o,H b=some o->∃ vs,o = .lst vs)->Rp K B d H v->Rp K B d (hidL A H) v
 | .non,_,v,_,h=>by unfold Rp at h ⊢;exact h
 | .bl b,_,v,_,h=>by unfold Rp at h ⊢;exact h
 | .int i,_,v,_,h=>by unfold Rp at h ⊢;exact h
 | .str x,_,v,_,h=>by unfold Rp at h ⊢;exact h
 | .dic,_,v,hA,h=>by unfold Rp at h ⊢;obtain⟨a,q,r⟩:=h;exact⟨a,q,by rw[z0j λz=>by obtain⟨vs,e⟩:=hA a z _ r;cases e];exact r⟩
 | .lst ds,H,v,hA,h=>by
  unfold Rp at h ⊢;obtain⟨a,vs,rfl,h0,h1,h2⟩:=h;refine⟨a,vs,rfl,h0,by rw[z0j λz=>hB a z h0];exact h1,?_⟩;rw[z9g];exact Rps.hid hB ds (λb hb o e=>hA b hb o (z4j e).2) h2
 | .tup ds,H,v,hA,h=>by
  unfold Rp at h ⊢;obtain⟨a,vs,rfl,h1,h2⟩:=h;exact⟨a,vs,rfl,h1.hid hA,Rps.hid hB ds hA h2⟩
 | .scr ns,H,v,hA,h=>by
  unfold Rp at h ⊢;obtain⟨a,rfl,h0,h1⟩:=h;exact⟨a,rfl,h0,h1.hid λz=>hB a z h0⟩
theorem Rps.hid{A:List Addr}(hB:∀ b∈A,B b≠none):∀(ds:List Dt) {H:Hp} {vs:List V},(∀ b∈A,∀ o,H b=some o->∃ vs,o = .lst vs)->Rps K B ds H vs->Rps K B ds (hidL A H) vs
 | [],_,vs,_,h=>by unfold Rps at h ⊢;exact h
 | d::ds,_,vs,hA,h=>by
  unfold Rps at h ⊢;obtain⟨v,r,rfl,h1,h2⟩:=h;exact⟨v,r,rfl,Rp.hid hB d hA h1,Rps.hid hB ds hA h2⟩
end
end
mutual
def Dt.flat:Dt->Bool
 | .lst _=>false
 | .scr _=>false
 | .tup ds=>z1n ds
 | _=>true
def z1n:List Dt->Bool
 | []=>true
 | d::ds=>d.flat&&z1n ds
end
section
variable {K:PySem.W.Frag}{B B' H H':Hp}
mutual
theorem Rp.flat:∀(d:Dt) {H:Hp} {v:V},d.flat=true->Rp K B d H v->Rp K B' d H v
 | .non,_,v,_,h=>by unfold Rp at h ⊢;exact h
 | .bl b,_,v,_,h=>by unfold Rp at h ⊢;exact h
 | .int i,_,v,_,h=>by unfold Rp at h ⊢;exact h
 | .str x,_,v,_,h=>by unfold Rp at h ⊢;exact h
 | .dic,_,v,_,h=>by unfold Rp at h ⊢;exact h
 | .lst ds,_,v,f,h=>by unfold Dt.flat at f;cases f
 | .tup ds,_,v,f,h=>by
  unfold Dt.flat at f;unfold Rp at h ⊢;obtain⟨a,vs,rfl,h1,h2⟩:=h;exact⟨a,vs,rfl,h1,Rps.flat ds f h2⟩
 | .scr ns,_,v,f,h=>by unfold Dt.flat at f;cases f
theorem Rps.flat:∀(ds:List Dt) {H:Hp} {vs:List V},z1n ds=true->Rps K B ds H vs->Rps K B' ds H vs
 | [],_,vs,_,h=>by unfold Rps at h ⊢;exact h
 | d::ds,_,vs,f,h=>by
  unfold z1n at f;rw[wO]at f;unfold Rps at h ⊢;obtain⟨v,r,rfl,h1,h2⟩:=h;exact⟨v,r,rfl,Rp.flat d f.1 h1,Rps.flat ds f.2 h2⟩
end
theorem Rps.length:∀{ds:List Dt} {vs:List V},Rps K B ds H vs->vs.length=ds.length
 | [],vs,h=>by rw[Rps.nil_.mp h];rfl
 | d::ds,vs,h=>by
  obtain⟨v,r,rfl,_,h2⟩:=Rps.cons_.mp h;rw[wj,wj,Rps.length h2]
theorem Rps.get:∀{ds:List Dt} {vs:List V} {i:Nat} {d:Dt},Rps K B ds H vs->ds[i]?=some d->∃ v,vs[i]?=some v/\Rp K B d H v
 | [],vs,i,d,_,e=>by simp at e
 | c::ds,vs,0,d,h,e=>by
  obtain⟨v,r,rfl,h1,_⟩:=Rps.cons_.mp h;simp at e;subst e;exact⟨v,rfl,h1⟩
 | c::ds,vs,i+1,d,h,e=>by
  obtain⟨v,r,rfl,_,h2⟩:=Rps.cons_.mp h;have e:ds[i]?=some d:=by simpa using e
  obtain⟨u,q1,q2⟩:=Rps.get h2 e;exact⟨u,by simpa using q1,q2⟩
theorem Rps.append:∀{ds ds':List Dt} {vs vs':List V},Rps K B ds H vs->Rps K B ds' H vs'->Rps K B (ds++ds') H (vs++vs')
 | [],ds',vs,vs',h,h'=>by rw[Rps.nil_.mp h];exact h'
 | d::ds,ds',vs,vs',h,h'=>by
  obtain⟨v,r,rfl,h1,h2⟩:=Rps.cons_.mp h;exact Rps.cons_.mpr ⟨v,r++vs',rfl,h1,Rps.append h2 h'⟩
theorem Rps.one{d:Dt}{v:V}(h:Rp K B d H v):Rps K B [d] H [v]:=Rps.cons_.mpr ⟨v,[],rfl,h,Rps.nil_.mpr rfl⟩
theorem Rps.take:∀{ds:List Dt} {vs:List V} (n:Nat),Rps K B ds H vs->Rps K B (ds.take n) H (vs.take n)
 | ds,vs,0,_=>by rw[u7,u7];exact Rps.nil_.mpr rfl
 | [],vs,n+1,h=>by rw[Rps.nil_.mp h];exact Rps.nil_.mpr rfl
 | d::ds,vs,n+1,h=>by
  obtain⟨v,r,rfl,h1,h2⟩:=Rps.cons_.mp h;exact Rps.cons_.mpr ⟨v,r.take n,rfl,h1,Rps.take n h2⟩
theorem Rps.drop:∀{ds:List Dt} {vs:List V} (n:Nat),Rps K B ds H vs->Rps K B (ds.drop n) H (vs.drop n)
 | ds,vs,0,h=>h
 | [],vs,n+1,h=>by rw[Rps.nil_.mp h];exact Rps.nil_.mpr rfl
 | d::ds,vs,n+1,h=>by
  obtain⟨v,r,rfl,h1,h2⟩:=Rps.cons_.mp h;exact Rps.drop n h2
theorem Rps.set:∀{ds:List Dt} {vs:List V} (i:Nat) {d:Dt} {v:V},Rps K B ds H vs->Rp K B d H v->Rps K B (ds.set i d) H (vs.set i v)
 | [],vs,i,d,v,h,_=>by rw[Rps.nil_.mp h];exact Rps.nil_.mpr rfl
 | c::ds,vs,0,d,v,h,q=>by
  obtain⟨u,r,rfl,h1,h2⟩:=Rps.cons_.mp h;exact Rps.cons_.mpr ⟨v,r,rfl,q,h2⟩
 | c::ds,vs,i+1,d,v,h,q=>by
  obtain⟨u,r,rfl,h1,h2⟩:=Rps.cons_.mp h;exact Rps.cons_.mpr ⟨u,r.set i v,rfl,h1,Rps.set i h2 q⟩
theorem Rps.reverse:∀{ds:List Dt} {vs:List V},Rps K B ds H vs->Rps K B ds.reverse H vs.reverse
 | [],vs,h=>by rw[Rps.nil_.mp h];exact Rps.nil_.mpr rfl
 | d::ds,vs,h=>by
  obtain⟨v,r,rfl,h1,h2⟩:=Rps.cons_.mp h;rw[vj,vj];exact Rps.append (Rps.reverse h2) (Rps.one h1)
theorem zd7{p:Addr}{o:HO}(h:H p=none):hidL [p] (upd H p o)=H:=funext λb=>by
 by_cases q:b=p
 · subst q;rw[z2A (by simp),h]
 · rw[z0j (by simpa using q),z0r q]
theorem z1d{p:Addr}{o:HO}(h:H p=none):Same H (upd H p o):=λb u e=>by rw[z0r (z2k e h)];exact e
theorem Rp.new{ds:List Dt}{vs:List V}{p:Addr}(hp:H p=none)(hB:B p=none)(r:Rps K B ds H vs):Rp K B (.lst ds) (upd H p (.lst vs)) (.ref p) :=
 Rp.lst_.mpr ⟨p,vs,rfl,hB,z0V,by rw[zd7 hp];exact r⟩
end
inductive Fl where
 | sh|tn|fr|nw
def Fl.isNw:Fl->Bool
 | .nw=>true
 | _=>false
def Fl.isFr:Fl->Bool
 | .nw=>true
 | .fr=>true
 | _=>false
abbrev Dv:=Fl×Dt
def nrm(f:Fl)(d:Dt):Dv:=(if d.flat then .nw else f,d)
structure Ky where
 K:PySem.W.Frag
 H₀:Hp
abbrev Cx.ky(X:Cx):Ky:=⟨X.K,X.H₀⟩
def RpF(X:Ky)(H:Hp)(f:Fl)(d:Dt)(H':Hp)(v:V):Prop:=match f with
 | .sh=>Rp X.K emp d H' v
 | .tn=>Rp X.K emp d H' v/\(∃ ds,d = .lst ds)/\∀ a,v = .ref a->H a=none
 | .fr=>Rp X.K X.H₀ d H' v
 | .nw=>Rp X.K H d H' v
section
variable {X:Ky}{H H' H1:Hp}{f:Fl}{d:Dt}{v:V}
theorem RpF.sh(h:RpF X H f d H' v):Rp X.K emp d H' v:=by
 cases f with
 | sh=>exact h
 | tn=>exact h.1
 | fr=>exact Rp.anti Same.emp d h
 | nw=>exact Rp.anti Same.emp d h
theorem RpF.fr(h0:Same X.H₀ H)(e:f.isFr=true)(h:RpF X H f d H' v):Rp X.K X.H₀ d H' v:=by
 cases f with
 | sh=>cases e
 | tn=>cases e
 | fr=>exact h
 | nw=>exact Rp.anti h0 d h
theorem RpF.mono(h:RpF X H f d H' v)(s:Same H' H1):RpF X H f d H1 v:=by
 cases f with
 | sh=>exact Rp.mono d s h
 | tn=>exact⟨Rp.mono d s h.1,h.2⟩
 | fr=>exact Rp.mono d s h
 | nw=>exact Rp.mono d s h
theorem RpF.early(s:Same H H1)(h:RpF X H1 f d H' v):RpF X H f d H' v:=by
 cases f with
 | sh=>exact h
 | tn=>exact⟨h.1,h.2.1,λa e=>s.free (h.2.2 a e)⟩
 | fr=>exact h
 | nw=>exact Rp.anti s d h
theorem RpF.nrm(h:RpF X H f d H' v):RpF X H (nrm f d).1 d H' v:=by
 unfold L2.nrm;by_cases q:d.flat=true
 · rw[if_pos q];exact Rp.flat d q h.sh
 · rw[if_neg q];exact h
theorem RpF.scal(q:d.flat=true)(h:Rp X.K emp d H' v):RpF X H .nw d H' v:=Rp.flat d q h
end
inductive Cell where
 | no|sh (f:Bool) (d:Dt)|ow (f:Bool) (ds:List Dt)|ex
abbrev Rho:=List Cell
def flOf(f:Bool):Fl:=if f then .fr else .sh
def Cell.val:Cell->Option Dv
 | .no=>none
 | .ex=>none
 | .sh f d=>some (nrm (flOf f) d)
 | .ow f ds=>some (flOf f,.lst ds)
def zaT(ρ:Rho)(i:Nat):Option Dv:=(ρ[i]?).bind Cell.val
def bsOf(X:Ky)(f:Bool):Hp:=if f then X.H₀ else emp
def ExcAt(K:PySem.W.Frag)(a:Addr)(h:Heap):Prop:=∃ oe C,h.get? a=some oe/\oe.cls = .ref C/\PySem.W.kitCls K (.ref C) (.type "ValueError")=some true
def RpC(X:Ky)(H:Hp):Cell->Option V->Prop
 | .no,_=>True
 | .ex,o=>∃ a φ,o=some (.ref a)/\H a=some (.ext φ)/\∀ h,φ h->ExcAt X.K a h
 | .sh f d,o=>∃ v,o=some v/\Rp X.K (bsOf X f) d H v
 | .ow f ds,o=>∃ v,o=some v/\Rp X.K (bsOf X f) (.lst ds) H v
structure RepS(X:Ky)(H:Hp)(ρ:Rho)(σ:St):Prop where
 len:ρ.length=σ.length
 base:Same X.H₀ H
 at_:∀(i:Nat) (c:Cell),ρ[i]?=some c->∃ o,σ[i]?=some o/\RpC X H c o
section
variable {X:Ky}{H H':Hp}{ρ:Rho}{σ:St}
theorem RpC.mono(e:Same H H'){c:Cell}{o:Option V}(h:RpC X H c o):RpC X H' c o:=by
 cases c with
 | no=>trivial
 | ex=>obtain⟨a,φ,q,r,z⟩:=h;exact⟨a,φ,q,e _ _ r,z⟩
 | sh f d=>obtain⟨v,q,r⟩:=h;exact⟨v,q,Rp.mono d e r⟩
 | ow f ds=>obtain⟨v,q,r⟩:=h;exact⟨v,q,Rp.mono _ e r⟩
theorem RepS.mono(h:RepS X H ρ σ)(e:Same H H'):RepS X H' ρ σ:=⟨h.len,h.base.trans e,λi c q=>by obtain⟨o,q1,q2⟩:=h.at_ i c q;exact⟨o,q1,q2.mono e⟩⟩
theorem zkG{f:Bool}{d:Dt}{v:V}(h:Rp X.K (bsOf X f) d H v):RpF X H (flOf f) d H v:=by
 cases f with
 | false=>exact h
 | true=>exact h
theorem RepS.val(h:RepS X H ρ σ){i:Nat}{f:Fl}{d:Dt}(e:zaT ρ i=some (f,d)):∃ v,σ[i]?=some (some v)/\RpF X H f d H v:=by
 unfold zaT at e;cases q:ρ[i]? with
 | none=>rw[q]at e;cases e
 | some c =>
  rw[q]at e;obtain⟨o,q1,q2⟩:=h.at_ i c q;cases c with
  | no=>cases e
  | ex=>cases e
  | sh f' d' =>
   obtain⟨v,rfl,r⟩:=q2;have e:nrm (flOf f') d'=(f,d):=Option.some.inj e;have r':=(zkG r).nrm;refine⟨v,q1,?_⟩;have e1:d'=d:=congrArg Prod.snd e;subst e1;rw[e]at r';exact r'
  | ow f' ds =>
   obtain⟨v,rfl,r⟩:=q2;cases e;exact⟨v,q1,zkG r⟩
end
end L2

end
section
namespace L2
open PySem PySem.Spec PyProof.Rows
theorem PE.imp{X:Cx}{e:Expr}{t t':TE}(h:PE X e t)(q:∀ σ H Q,t' σ H Q->t σ H Q):PE X e t':=λpins s σ H Q I z=>h pins s σ H Q I (q σ H Q z)
theorem PT.imp{X:Cx}{e:Expr}{t t':TT}(h:PT X e t)(q:∀ σ H Q,t' σ H Q->t σ H Q):PT X e t':=λpins s σ H Q I z=>h pins s σ H Q I (q σ H Q z)
theorem PW.imp{X:Cx}{e:Expr}{t t':TT}(h:PW X e t)(q:∀ σ H Q,t' σ H Q->t σ H Q):PW X e t':=λwhole pins s σ H Q I z=>h whole pins s σ H Q I (q σ H Q z)
theorem PA.imp{X:Cx}{es:List Expr}{t t':TA}(h:PA X es t)(q:∀ σ H Q,t' σ H Q->t σ H Q):PA X es t':=λpos pins s σ H Q I z=>h pos pins s σ H Q I (q σ H Q z)
theorem z05{α β:Type}{o:Option α}{f:α->Option β}{b:β}(h:o.bind f=some b):∃ a,o=some a/\f a=some b:=by
 cases o with
 | none=>cases h
 | some a=>exact⟨a,rfl,h⟩
section
variable {X:Ky}{H H':Hp}
theorem RpF.i_{i:Int}:RpF X H .nw (.int i) H' (.int i):=(Rp.int_ (K:=X.K) (B:=H) (H:=H')).mpr rfl
theorem RpF.b_{i:Bool}:RpF X H .nw (.bl i) H' (.bl i):=(Rp.bl_ (K:=X.K) (B:=H) (H:=H')).mpr rfl
end
abbrev FE:=Rho->Option Dv
abbrev FT:=Rho->Option Bool
abbrev FA:=Rho->Option (List Dv)
def upK(Y:Ky)(F:FE):TE:=λσ H Q=>∃ ρ f d,RepS Y H ρ σ/\F ρ=some (f,d)/\∀ v H',Same H H'->RpF Y H f d H' v->Q v H'
abbrev upF(X:Cx)(F:FE):TE:=upK X.ky F
def PF(X:Cx)(e:Expr)(F:FE):Prop:=PE X e (upF X F)
def upBK(Y:Ky)(F:FT):TT:=λσ H Q=>∃ ρ b,RepS Y H ρ σ/\F ρ=some b/\∀ H',Same H H'->Q b H'
abbrev upB(X:Cx)(F:FT):TT:=upBK X.ky F
def PFT(X:Cx)(e:Expr)(F:FT):Prop:=PT X e (upB X F)
def PFW(X:Cx)(e:Expr)(F:FT):Prop:=PW X e (upB X F)
theorem PFW.pt{X:Cx}{e:Expr}{F:FT}(h:PFW X e F):PFT X e F:=PW.pt h
section
variable {X:Cx}{a b c e:Expr}{Fa Fb Fc:FE}{pos:Pos}
def fN(i:Nat):FE:=λρ=>zaT ρ i
theorem z01(i:Nat){x:Str}{pos:Pos}(hN:X.N[i]?=some x:=by rfl)(hv:Vis X.env.scope x:=by first|exact Or.inl rfl|exact Or.inr (Or.inl rfl)|exact Or.inr (Or.inr rfl))(hd:(x==("__debug__" : Str))=false:=by decide)
  (hcd:(x==("__classdict__" : Str))=false:=by decide):PF X (.Name x pos) (fN i) :=
 (zc5 hN hv hd hcd).imp fun σ H Q ⟨ρ,f,d,rs,e,k⟩=>by
  obtain⟨v,e1,e2⟩:=rs.val e;exact⟨v,e1,k v H (Same.refl H) e2⟩
def fC(d:Dt):FE:=λ_=>some (.nw,d)
theorem z0a{i:Int}{j:Nat}:PF X (.Constant (.int i) j pos) (fC (.int i)):=pe_int.imp (by rintro σ H Q ⟨ρ,f,d,rs,e,k⟩;cases e;exact k _ H (Same.refl H) RpF.i_)
theorem p_bl{v:Bool}{j:Nat}:PF X (.Constant (.bool v) j pos) (fC (.bl v)):=pe_bl.imp (by rintro σ H Q ⟨ρ,f,d,rs,e,k⟩;cases e;exact k _ H (Same.refl H) RpF.b_)
theorem zkH{x:Str}{i:Int}{t:Tok}(hg:Gl X x)(hm:X.mg x=some (.int i t))(hd:(x==("__debug__" : Str))=false:=by decide):PF X (.Name x pos) (fC (.int i)) :=
 (ziu (v:=V.int i) hg hm ⟨t,rfl⟩ hd).imp (by rintro σ H Q ⟨ρ,f,d,rs,e,k⟩;cases e;exact k _ H (Same.refl H) RpF.i_)
abbrev FO:=Dt->Dt->Option Dv
def OpF(X:Cx)(f:Value->Value->Sem Value)(r:FO):Prop :=
 OpR X f (λx y H Q=>∃ dx dy f d,Rp X.K emp dx H x/\Rp X.K emp dy H y/\r dx dy=some (f,d)/\∀ v H',Same H H'->RpF X.ky H f d H' v->Q v H')
def fOp(r:FO)(Fa Fb:FE):FE:=λρ=>(Fa ρ).bind λx=>(Fb ρ).bind λy=>r x.2 y.2
theorem zes{r:FO}{σ:St}{H:Hp}{Q:VK}(h:upF X (fOp r Fa Fb) σ H Q):
  upF X Fa σ H λx H1=>upF X Fb σ H1 λy H2=>∃ dx dy f d,Rp X.K emp dx H2 x/\Rp X.K emp dy H2 y/\r dx dy=some (f,d)/\∀ v H',Same H2 H'->RpF X.ky H2 f d H' v->Q v H':=by
 obtain⟨ρ,f,d,rs,e,k⟩:=h;obtain⟨⟨fa,da⟩,ea,e⟩:=z05 e;obtain⟨⟨fb,db⟩,eb,e⟩:=z05 e;exact⟨ρ,fa,da,rs,ea,λv H1 s1 r1=>⟨ρ,fb,db,rs.mono s1,eb,λu H2 s2 r2=>⟨da,db,f,d,Rp.mono _ s2 r1.sh,r2.sh,e,λw H' s' r'=>k w H' (s1.trans (s2.trans s')) (r'.early (s1.trans s2))⟩⟩⟩
theorem p_op{op:Operator}{r:FO}(ho:OpF X (binaryOp op) r)(ha:PF X a Fa)(hb:PF X b Fb):PF X (.BinOp a op b pos) (fOp r Fa Fb):=(pe_op ho ha hb).imp λσ H Q h=>zes h
theorem p_cmp{op:CmpOp}{r:FO}(ho:OpF X (compareOp op) r)(ha:PF X a Fa)(hb:PF X b Fb)(hm:behindInMarks op b=false):PF X (.Compare a [op] [b] pos) (fOp r Fa Fb):=(zoa ho ha hb hm).imp λσ H Q h=>zes h
def rII(C:Int->Int->Bool)(g:Int->Int->Dt):FO
 | .int i,.int j=>if C i j then some (.nw,g i j) else none
 | _,_=>none
theorem zcd{f:Value->Value->Sem Value}{P:Int->Int->Prop}{C:Int->Int->Bool}{g:Int->Int->V}{g':Int->Int->Dt}(ho:OpR X f (rI P g))(hP:∀ i j,C i j=true->P i j)(hf:∀ i j,(g' i j).flat=true)(hg:∀ i j H,Rp X.K emp (g' i j) H (g i j)):OpF X f (rII C g') :=
 λpins s σ H x y v u Q I r1 r2 ⟨d1,d2,f,d,q1,q2,e,k⟩=>by
  unfold rII at e;split at e
  · rename_i i j;split at e
    · rename_i hc;cases e;rw[Rp.int_]at q1 q2;exact ho pins s σ H x y v u Q I r1 r2 ⟨i,j,q1,q2,hP i j hc,k _ H (Same.refl H) (RpF.scal (hf i j) (hg i j H))⟩
    · cases e
  · cases e
theorem z5z{f:Value->Value->Sem Value}{g:Int->Int->V}{g':Int->Int->Dt}(ho:OpR X f (rI0 g))(hf:∀ i j,(g' i j).flat=true)(hg:∀ i j H,Rp X.K emp (g' i j) H (g i j)):OpF X f (rII (λ_ _=>true) g') :=
 λpins s σ H x y v u Q I r1 r2 ⟨d1,d2,f,d,q1,q2,e,k⟩=>by
  unfold rII at e;split at e
  · rename_i i j;rw[if_pos rfl]at e;cases e;rw[Rp.int_]at q1 q2;exact ho pins s σ H x y v u Q I r1 r2 ⟨i,j,q1,q2,k _ H (Same.refl H) (RpF.scal (hf i j) (hg i j H))⟩
  · cases e
def OpF.or{f:Value->Value->Sem Value}{r r':FO}(h:OpF X f r)(h':OpF X f r'):OpF X f (λx y=>(r x y).orElse λ_=>r' x y) :=
 λpins s σ H x y v u Q I r1 r2⟨d1,d2,f,d,q1,q2,e,k⟩=>by
  replace e:((r d1 d2).orElse λ_=>r' d1 d2)=some (f,d):=e;cases q:r d1 d2 with
  | some z =>
   rw[q]at e;cases e;exact h pins s σ H x y v u Q I r1 r2 ⟨d1,d2,_,_,q1,q2,q,k⟩
  | none =>
   rw[q]at e;exact h' pins s σ H x y v u Q I r1 r2 ⟨d1,d2,_,_,q1,q2,e,k⟩
def z1e(i j:Int):Bool:=decide (Builtin.Int.intBits i+Builtin.Int.intBits j<=134217728)||(decide (i.natAbs<2 ^ 64)||decide (j.natAbs<2 ^ 64))
def z21(_ j:Int):Bool:=decide (j≠0)&&decide (j.natAbs.log2<9000)
def z3v(_ j:Int):Bool:=decide (j≠0)
def z4P(i j:Int):Bool:=decide (0<=j)&&decide (j<=1000000)&&decide (i.natAbs<2 ^ 64)
theorem zop:OpR X (binaryOp .Mult) (rI (λi j=>z1e i j=true) λi j => .int (i*j)):=opI λi j _ _ _ _ _ hc q=>by
 refine mul_int q ?_;unfold z1e at hc;rw[vA,vA]at hc;rcases hc with hc|hc|hc
 · exact IntMulOk.of_le (wx _) (wx _) (of_decide_eq_true hc)
 · have:=of_decide_eq_true hc;exact CMul.ok (.inl ⟨by rfl',by rfl'⟩)
 · have:=of_decide_eq_true hc;exact CMul.ok (.inr ⟨by rfl',by rfl'⟩)
def zkI:FO:=rII (λ_ _=>true) λi j => .int (i+j)
def z68:FO:=rII (λ_ _=>true) λi j => .int (i-j)
def z1R:FO:=rII z1e λi j => .int (i*j)
def z3g:FO:=rII z21 λi j => .int (i.fdiv j)
def z1P:FO:=rII z3v λi j => .int (i.fmod j)
def z8m:FO:=rII z4P λi j => .int (i ^ j.toNat)
def opLt:FO:=rII (λ_ _=>true) λi j => .bl (decide (i<j))
def opLe:FO:=rII (λ_ _=>true) λi j => .bl (decide (i<=j))
def opGt:FO:=rII (λ_ _=>true) λi j => .bl (decide (j<i))
def opGe:FO:=rII (λ_ _=>true) λi j => .bl (decide (j<=i))
theorem o_addI:OpF X (binaryOp .Add) zkI:=z5z op_add (λ_ _=>rfl) λ_ _ _=>Rp.int_.mpr rfl
theorem zd8:OpF X (binaryOp .Sub) z68:=z5z op_sub (λ_ _=>rfl) λ_ _ _=>Rp.int_.mpr rfl
theorem z6O:OpF X (binaryOp .Mult) z1R:=zcd zop (λ_ _ h=>h) (λ_ _=>rfl) λ_ _ _=>Rp.int_.mpr rfl
theorem z3h:OpF X (binaryOp .FloorDiv) z3g:=zcd zkE (λi j h=>by unfold z21 at h;rw[wO]at h;exact⟨of_decide_eq_true h.1,of_decide_eq_true h.2⟩) (λ_ _=>rfl) λ_ _ _=>Rp.int_.mpr rfl
theorem z2j:OpF X (binaryOp .Mod) z1P:=zcd zo9 (λi j h=>of_decide_eq_true h) (λ_ _=>rfl) λ_ _ _=>Rp.int_.mpr rfl
theorem zd9:OpF X (binaryOp .Pow) z8m:=zcd op_pow (λi j h=>by unfold z4P at h;rw[wO,wO]at h;exact⟨of_decide_eq_true h.1.1,of_decide_eq_true h.1.2,of_decide_eq_true h.2⟩) (λ_ _=>rfl) λ_ _ _=>Rp.int_.mpr rfl
theorem o_lt:OpF X (compareOp .Lt) opLt:=z5z op_lt (λ_ _=>rfl) λ_ _ _=>Rp.bl_.mpr rfl
theorem o_le:OpF X (compareOp .LtE) opLe:=z5z op_le (λ_ _=>rfl) λ_ _ _=>Rp.bl_.mpr rfl
theorem o_gt:OpF X (compareOp .Gt) opGt:=z5z op_gt (λ_ _=>rfl) λ_ _ _=>Rp.bl_.mpr rfl
theorem o_ge:OpF X (compareOp .GtE) opGe:=z5z op_ge (λ_ _=>rfl) λ_ _ _=>Rp.bl_.mpr rfl
def lfl(ds:List Dt):Fl:=if z1n ds then .nw else .tn
def newL(ds:List Dt):Dv:=(lfl ds,.lst ds)
theorem z6P{X:Ky}{H:Hp}{ds:List Dt}{vs:List V}{p:Addr}(hp:H p=none)(r:Rps X.K emp ds H vs):RpF X H (lfl ds) (.lst ds) (upd H p (.lst vs)) (.ref p):=by
 unfold lfl;by_cases q:z1n ds=true
 · rw[if_pos q];exact Rp.new hp hp (Rps.flat ds q r)
 · rw[if_neg q];exact⟨Rp.new hp rfl r,⟨ds,rfl⟩,λa e=>by cases e;exact hp⟩
def z4Q:FO
 | .lst xs,.lst ys=>if xs.length+ys.length<=1000000 then some (newL (xs++ys)) else none
 | _,_=>none
theorem Rp.items{K:PySem.W.Frag}{B H:Hp}{ds:List Dt}{v:V}(h:Rp K B (.lst ds) H v):∃ a vs,v = .ref a/\B a=none/\H a=some (.lst vs)/\Rps K B ds H vs:=by
 obtain⟨a,vs,e,h0,h1,h2⟩:=Rp.lst_.mp h;exact⟨a,vs,e,h0,h1,Rps.mono _ z0B h2⟩
theorem o_cat:OpF X (binaryOp .Add) z4Q:=by
 rintro pins s σ H x y v u Q I r1 r2 ⟨d1,d2,f,d,q1,q2,e,k⟩;unfold z4Q at e;split at e
 · rename_i xs ys;split at e
   · rename_i hc;cases e;obtain⟨a,vs,rfl,_,ha,ra⟩:=q1.items;obtain⟨b,ws,rfl,_,hb,rb⟩:=q2.items;exact op_cat pins s σ H _ _ v u Q I r1 r2 ⟨a,b,vs,ws,rfl,rfl,ha,hb,wG (by rw[ra.length,rb.length];exact hc) (by decide),λp hp=>k _ _ (z1d hp) (z6P hp (ra.append rb))⟩
   · cases e
 · cases e
def z0w:FO:=λx y=>(zkI x y).orElse λ_=>z4Q x y
theorem z3w:OpF X (binaryOp .Add) z0w:=o_addI.or o_cat
def truD:Dt->Option Bool
 | .non=>some false
 | .bl b=>some b
 | .int i=>some (i != 0)
 | .lst ds=>some (!ds.isEmpty)
 | .tup ds=>some (!ds.isEmpty)
 | _=>none
theorem Rps.isEmpty{K:PySem.W.Frag}{B H:Hp}{ds:List Dt}{vs:List V}(h:Rps K B ds H vs):(!vs.isEmpty)=!ds.isEmpty:=by
 have:=h.length;cases ds<;>cases vs<;>first|rfl|(simp at this)
theorem zoq{H:Hp}{d:Dt}{v:V}{k:Bool}(r:Rp X.K emp d H v)(e:truD d=some k):TruV X.K v H k:=by
 cases d with
 | non=>rw[Rp.non_.mp r];cases e;rfl
 | bl b=>rw[Rp.bl_.mp r];cases e;rfl
 | int i=>rw[Rp.int_.mp r];cases e;rfl
 | str x=>cases e
 | dic=>cases e
 | scr x=>cases e
 | lst ds =>
  obtain⟨p,vs,rfl,_,h1,h2⟩:=r.items;cases e;exact .inl ⟨vs,SqL.of h1,h2.isEmpty.symm⟩
 | tup ds =>
  obtain⟨p,vs,rfl,h1,h2⟩:=Rp.tup_.mp r;cases e;exact .inr (.inl ⟨vs,h1,h2.isEmpty.symm⟩)
def blD:Dt->Option Bool
 | .bl b=>some b
 | _=>none
def z0m(F:FE):FT:=λρ=>(F ρ).bind λx=>blD x.2
def fTru(F:FE):FT:=λρ=>(F ρ).bind λx=>truD x.2
theorem t_cmp{op:CmpOp}{r:FO}(ho:OpF X (compareOp op) r)(ha:PF X a Fa)(hb:PF X b Fb)(hm:behindInMarks op b=false):PFT X (.Compare a [op] [b] pos) (z0m (fOp r Fa Fb)) :=
 (zob ho ha hb hm).imp fun σ H Q hZ=>hZ.elim fun ρ hZ=>hZ.elim fun k hZ=>hZ.elim fun rs hZ=>hZ.elim fun e q=>by
  obtain⟨⟨f,d⟩,e1,e2⟩:=z05 e;refine zes ⟨ρ,f,d,rs,e1,λv H' s r=>?_⟩;cases d<;>first|cases e2|skip
  exact⟨k,Rp.bl_.mp r.sh,q H' s⟩
theorem z4R(ha:PF X a Fa)(he:∀ whole,isTrue a X.env whole=(do let v ←whole;standAt a.pos;holding [v] (truthy v))):PFT X a (fTru Fa) :=
 (zkt ha he).imp fun σ H Q hZ=>hZ.elim fun ρ hZ=>hZ.elim fun k hZ=>hZ.elim fun rs hZ=>hZ.elim fun e q=>by
  obtain⟨⟨f,d⟩,e1,e2⟩:=z05 e;exact⟨ρ,f,d,rs,e1,λv H' s r=>⟨k,zoq r.sh e2,q H' s⟩⟩
def fNot(F:FT):FT:=λρ=>(F ρ).map not
theorem z69{F:FT}(ha:PFT X a F):PFT X (.UnaryOp .Not a pos) (fNot F):=(pt_not ha).imp λσ H Q⟨ρ,k,rs,e,q⟩=>by
 unfold fNot at e;cases h:F ρ with
 | none=>rw[h]at e;cases e
 | some b=>rw[h]at e;cases e;exact⟨ρ,b,rs,h,q⟩
def fAnd(F G:FT):FT:=λρ=>(F ρ).bind λb=>if b then G ρ else some false
def fOr(F G:FT):FT:=λρ=>(F ρ).bind λb=>if b then some true else G ρ
theorem zda{F:FT}(ha:PFT X a F):PFW X (.BoolOp .Or [a] pos) F:=pw_or1 ha
theorem w_or{rest:List Expr}{F G:FT}(ha:PFT X a F)(hb:PFW X (.BoolOp .Or (b::rest) pos) G):PFW X (.BoolOp .Or (a::b::rest) pos) (fOr F G) :=
 (pw_or ha hb).imp fun σ H Q hZ=>hZ.elim fun ρ hZ=>hZ.elim fun k hZ=>hZ.elim fun rs hZ=>hZ.elim fun e q=>by
  obtain⟨z,e1,e2⟩:=z05 e;refine⟨ρ,z,rs,e1,λH' s=>?_⟩;dsimp only;cases z with
  | true=>rw[if_pos rfl]at e2 ⊢;cases e2;exact q H' s
  | false=>rw[if_neg wX]at e2 ⊢;exact⟨ρ,k,rs.mono s,e2,λH'' s'=>q H'' (s.trans s')⟩
def vAnd(F G:FE):FE:=λρ=>(z0m F ρ).bind λb=>if b then G ρ else some (.nw,.bl false)
def vOr(F G:FE):FE:=λρ=>(z0m F ρ).bind λb=>if b then some (.nw,.bl true) else G ρ
def vNot(F:FE):FE:=λρ=>(z0m F ρ).map λb=>(.nw,.bl (!b))
theorem zdb{op}(h:PF X a Fa):PF X (.BoolOp op [a] pos) Fa:=pe_one h
theorem zaU{rest:List Expr}(ha:PF X a Fa)(hb:PF X (.BoolOp .And (b::rest) pos) Fb):PF X (.BoolOp .And (a::b::rest) pos) (vAnd Fa Fb) :=
 (pe_and ha hb).imp fun σ H Q hZ=>hZ.elim fun ρ hZ=>hZ.elim fun f hZ=>hZ.elim fun d hZ=>hZ.elim fun rs hZ=>hZ.elim fun e k=>by
  obtain⟨z,e1,e2⟩:=z05 e;obtain⟨⟨f1,d1⟩,e3,e4⟩:=z05 e1;refine⟨ρ,f1,d1,rs,e3,λv H' s r=>?_⟩;cases d1<;>first|cases e4|skip
  refine⟨z,Rp.bl_.mp r.sh,?_⟩;cases z with
  | true=>rw[if_pos rfl]at e2 ⊢;exact⟨ρ,f,d,rs.mono s,e2,λv H'' s' r=>k v H'' (s.trans s') (r.early s)⟩
  | false=>rw[if_neg wX]at e2 ⊢;cases e2;exact k _ H' s RpF.b_
theorem p_not(ha:PF X a Fa):PF X (.UnaryOp .Not a pos) (vNot Fa):=(pe_not ha).imp λσ H Q⟨ρ,f,d,rs,e,k⟩=>by
 unfold vNot at e;cases h:z0m Fa ρ with
 | none=>rw[h]at e;cases e
 | some z =>
  rw[h]at e;cases e;obtain⟨⟨f1,d1⟩,e3,e4⟩:=z05 h;refine⟨ρ,f1,d1,rs,e3,λv H' s r=>?_⟩;cases d1<;>first|cases e4|skip
  exact⟨z,Rp.bl_.mp r.sh,k _ H' s RpF.b_⟩
def fIf(F:FT)(Fa Fb:FE):FE:=λρ=>(F ρ).bind λb=>if b then Fa ρ else Fb ρ
theorem p_if{F:FT}(hc:PFT X c F)(ha:PF X a Fa)(hb:PF X b Fb):PF X (.IfExp c a b pos) (fIf F Fa Fb) :=
 (zkl hc ha hb).imp fun σ H Q hZ=>hZ.elim fun ρ hZ=>hZ.elim fun f hZ=>hZ.elim fun d hZ=>hZ.elim fun rs hZ=>hZ.elim fun e k=>by
  obtain⟨z,e1,e2⟩:=z05 e;refine⟨ρ,z,rs,e1,λH' s=>?_⟩;dsimp only;cases z with
  | true=>rw[if_pos rfl]at e2 ⊢;exact⟨ρ,f,d,rs.mono s,e2,λv H'' s' r=>k v H'' (s.trans s') (r.early s)⟩
  | false=>rw[if_neg wX]at e2 ⊢;exact⟨ρ,f,d,rs.mono s,e2,λv H'' s' r=>k v H'' (s.trans s') (r.early s)⟩
def fNeg(F:FE):FE:=λρ=>(F ρ).bind λx=>match x.2 with|.int i=>some (.nw,.int (-i))|_=>none
theorem zdc(ha:PF X a Fa):PF X (.UnaryOp .USub a pos) (fNeg Fa):=(pe_un un_neg ha).imp λσ H Q ⟨ρ,f,d,rs,e,k⟩=>by
 obtain⟨⟨f1,d1⟩,e1,e2⟩:=z05 e;refine⟨ρ,f1,d1,rs,e1,λv H' s r=>?_⟩;cases d1<;>first|cases e2|skip
 rename_i i;exact⟨i,Rp.int_.mp r.sh,k _ H' s RpF.i_⟩
def z9h(r r':FO)(Fa Fb Fc:FE):FE:=λρ=>(Fa ρ).bind λx=>(Fb ρ).bind λy=>(r x.2 y.2).bind λz=>(blD z.2).bind λk=>if k then(Fc ρ).bind λw=>r' y.2 w.2 else some (.nw,.bl false)
theorem zjC{r r':FO}{σ:St}{H:Hp}{Q:VK}(h:upF X (z9h r r' Fa Fb Fc) σ H Q):
  zkr (λx y H Q=>∃ dx dy f d,Rp X.K emp dx H x/\Rp X.K emp dy H y/\r dx dy=some (f,d)/\∀ v H',Same H H'->RpF X.ky H f d H' v->Q v H') (λx y H Q=>∃ dx dy f d,Rp X.K emp dx H x/\Rp X.K emp dy H y/\r' dx dy=some (f,d)/\∀ v H',Same H H'->RpF X.ky H f d H' v->Q v H')
   (upF X Fa) (upF X Fb) (upF X Fc) σ H Q:=by
 obtain⟨ρ,f,d,rs,e0,k⟩:=h;obtain⟨⟨fa,da⟩,ea,e1⟩:=z05 e0;obtain⟨⟨fb,db⟩,eb,e2⟩:=z05 e1;obtain⟨⟨fz,dz⟩,ez,e3⟩:=z05 e2;obtain⟨z,ek,e⟩:=z05 e3;clear e3 e2 e1 e0;refine⟨ρ,fa,da,rs,ea,λv H1 s1 r1=>⟨ρ,fb,db,rs.mono s1,eb,λu H2 s2 r2=>⟨da,db,fz,dz,Rp.mono _ s2 r1.sh,r2.sh,ez,λw H3 s3 r3=>?_⟩⟩⟩;cases dz<;>first|cases ek|skip
 refine⟨z,Rp.bl_.mp r3.sh,?_⟩;cases z with
 | true =>
  rw[if_pos rfl]at e ⊢;obtain⟨⟨fc,dc⟩,ec,e⟩:=z05 e;exact⟨ρ,fc,dc,rs.mono (s1.trans (s2.trans s3)),ec,λw' H4 s4 r4=>⟨db,dc,f,d,Rp.mono _ (s3.trans s4) r2.sh,r4.sh,e,λy H' s' r'=>k y H' (s1.trans (s2.trans (s3.trans (s4.trans s')))) (r'.early (s1.trans (s2.trans (s3.trans s4))))⟩⟩
 | false =>
  rw[if_neg wX]at e ⊢;cases e;exact k _ _ (s1.trans (s2.trans s3)) RpF.b_
theorem zor{op op':CmpOp}{r r':FO}(ho:OpF X (compareOp op) r)(ho':OpF X (compareOp op') r')(ha:PF X a Fa)(hb:PF X b Fb)(hc:PF X c Fc)
 (hm:lastMarks [op,op'] [b,c]=false:=by with_unfolding_all rfl):PF X (.Compare a [op,op'] [b,c] pos) (z9h r r' Fa Fb Fc):=(zks ho ho' ha hb hc hm).imp λσ H Q h=>zjC h
theorem z4k{K:PySem.W.Frag}{B H:Hp}{ds:List Dt}{vs:List V}{i:Int}{d:Dt}(h:Rps K B ds H vs)(e:atI ds i=some d):∃ v,atI vs i=some v/\Rp K B d H v:=by
 unfold atI at e ⊢;rw[h.length];cases q:ixN ds.length i with
 | none=>rw[q]at e;cases e
 | some j =>
  rw[q]at e;exact h.get e
def Fl.item:Fl->Fl
 | .tn => .sh
 | f=>f
def opAt(x:Dv)(y:Dv):Option Dv:=match x.2,y.2 with
 | .lst ds,.int i=>(atI ds i).map (nrm x.1.item)
 | .tup ds,.int i=>(atI ds i).map (nrm x.1.item)
 | .scr ns,.int i=>(atI ns i).map λn=>(.nw,.int n)
 | _,_=>none
def fAt(Fa Fb:FE):FE:=λρ=>(Fa ρ).bind λx=>(Fb ρ).bind λy=>opAt x y
theorem RpF.item{X:Ky}{H H':Hp}{f:Fl}{ds:List Dt}{v:V}{i:Int}{d:Dt}(h:RpF X H f (.lst ds) H' v)(e:atI ds i=some d):∃ a vs w,v = .ref a/\SqL X.K H' a vs/\atI vs i=some w/\RpF X H f.item d H' w:=by
 cases f with
 | sh=>obtain⟨a,vs,rfl,_,h1,h2⟩:=Rp.items h;obtain⟨w,e1,e2⟩:=z4k h2 e;exact⟨a,vs,w,rfl,SqL.of h1,e1,e2⟩
 | tn=>obtain⟨a,vs,rfl,_,h1,h2⟩:=Rp.items h.1;obtain⟨w,e1,e2⟩:=z4k h2 e;exact⟨a,vs,w,rfl,SqL.of h1,e1,e2⟩
 | fr=>obtain⟨a,vs,rfl,_,h1,h2⟩:=Rp.items h;obtain⟨w,e1,e2⟩:=z4k h2 e;exact⟨a,vs,w,rfl,SqL.of h1,e1,e2⟩
 | nw=>obtain⟨a,vs,rfl,_,h1,h2⟩:=Rp.items h;obtain⟨w,e1,e2⟩:=z4k h2 e;exact⟨a,vs,w,rfl,SqL.of h1,e1,e2⟩
theorem RpF.itemT{X:Ky}{H H':Hp}{f:Fl}{ds:List Dt}{v:V}{i:Int}{d:Dt}(h:RpF X H f (.tup ds) H' v)(e:atI ds i=some d):∃ a vs w,v = .ref a/\SqT X.K H' a vs/\atI vs i=some w/\RpF X H f.item d H' w:=by
 cases f with
 | sh=>obtain⟨a,vs,rfl,h1,h2⟩:=Rp.tup_.mp h;obtain⟨w,e1,e2⟩:=z4k h2 e;exact⟨a,vs,w,rfl,h1,e1,e2⟩
 | tn=>obtain⟨⟨_,h2⟩,_⟩:=h.2;cases h2
 | fr=>obtain⟨a,vs,rfl,h1,h2⟩:=Rp.tup_.mp h;obtain⟨w,e1,e2⟩:=z4k h2 e;exact⟨a,vs,w,rfl,h1,e1,e2⟩
 | nw=>obtain⟨a,vs,rfl,h1,h2⟩:=Rp.tup_.mp h;obtain⟨w,e1,e2⟩:=z4k h2 e;exact⟨a,vs,w,rfl,h1,e1,e2⟩
theorem zos{α β:Type}{g:α->β}{xs:List α}{i:Int}{x:α}(h:atI xs i=some x):atI (xs.map g) i=some (g x):=by
 unfold atI at h ⊢;rw[wo];cases q:ixN xs.length i with
 | none=>rw[q]at h;cases h
 | some j=>rw[q]at h;have h:xs[j]?=some x:=h;show(xs.map g)[j]?=_;rw[wu,h];rfl
theorem p_ix(ha:PF X a Fa)(hb:PF X b Fb)(hs:zc9 b):PF X (.Subscript a b pos) (fAt Fa Fb) :=
 (pe_ix ix_seq ha hb hs).imp fun σ H Q hZ=>hZ.elim fun ρ hZ=>hZ.elim fun f hZ=>hZ.elim fun d hZ=>hZ.elim fun rs hZ=>hZ.elim fun e0 k=>by
  obtain⟨⟨fa,da⟩,ea,e1⟩:=z05 e0;obtain⟨⟨fb,db⟩,eb,e⟩:=z05 e1;clear e1 e0;refine⟨ρ,fa,da,rs,ea,λv H1 s1 r1=>⟨ρ,fb,db,rs.mono s1,eb,λu H2 s2 r2=>?_⟩⟩;have r1:=r1.mono s2;unfold opAt at e;split at e
  · rename_i ds i ed ei;cases ed;cases ei;cases q:atI ds i with
    | none=>rw[q]at e;cases e
    | some d0 =>
     rw[q]at e;obtain⟨p,vs,w,rfl,h1,h2,h3⟩:=r1.item q;have e:nrm fa.item d0=(f,d):=Option.some.inj e;have h4:=h3.nrm;have e1:d0=d:=congrArg Prod.snd e;subst e1;rw[e]at h4;exact .inl ⟨p,vs,i,w,rfl,Rp.int_.mp r2.sh,h1,h2,k _ _ (s1.trans s2) h4⟩
  · rename_i ds i ed ei;cases ed;cases ei;cases q:atI ds i with
    | none=>rw[q]at e;cases e
    | some d0 =>
     rw[q]at e;obtain⟨p,vs,w,rfl,h1,h2,h3⟩:=r1.itemT q;have e:nrm fa.item d0=(f,d):=Option.some.inj e;have h4:=h3.nrm;have e1:d0=d:=congrArg Prod.snd e;subst e1;rw[e]at h4;exact .inr (.inl ⟨p,vs,i,w,rfl,Rp.int_.mp r2.sh,h1,h2,k _ _ (s1.trans s2) h4⟩)
  · rename_i ns i ed ei;cases ed;cases ei;cases q:atI ns i with
    | none=>rw[q]at e;cases e
    | some n =>
     rw[q]at e;cases e;obtain⟨p,rfl,_,h1⟩:=Rp.scr_.mp r1.sh;exact .inl ⟨p,_,i,_,rfl,Rp.int_.mp r2.sh,h1,zos q,k _ _ (s1.trans s2) RpF.i_⟩
  · cases e
end
end L2

end
section
local macro_rules|`(tactic|rfl')=>`(tactic|first|lia|omega +splitDisjunctions)
namespace L2
open PySem PySem.Spec PyProof.Rows
mutual
def Dt.py:Dt->PyData
 | .non => .none
 | .bl b => .bool b
 | .int i => .int i
 | .str x => .str x
 | .lst ds => .list (pys ds)
 | .tup ds => .tuple (pys ds)
 | .scr ns => .list (ns.map .int)
 | .dic => .dict []
def pys:List Dt->List PyData
 | []=>[]
 | d::ds=>d.py::pys ds
end
mutual
def Dt.okN:Nat->Dt->Bool
 | _,.str x=>PyData.strOk x
 | 0,.lst _=>false
 | 0,.tup _=>false
 | n+1,.lst ds=>oksN n ds
 | n+1,.tup ds=>oksN n ds
 | 0,.scr _=>false
 | _,.dic=>false
 | _,_=>true
def oksN:Nat->List Dt->Bool
 | _,[]=>true
 | n,d::ds=>d.okN n&&oksN n ds
end
theorem zce:∀ ns:List Int,PyData.canLayAll0 (ns.map PyData.int)=true/\PyData.depthAll (ns.map PyData.int)=0
 | []=>⟨rfl,rfl⟩
 | n::ns=>⟨by rw[wv,PyData.canLayAll0,(zce ns).1];rfl,by rw[wv,PyData.depthAll,(zce ns).2];rfl⟩
mutual
theorem ziA:∀(n:Nat) (d:Dt),d.okN n=true->d.py.canLay0=true/\d.py.depth<=n
 | n,.non,_=>⟨rfl,by rw[Dt.py,PyData.depth];exact wQ _⟩
 | n,.bl b,_=>⟨rfl,by rw[Dt.py,PyData.depth];exact wQ _⟩
 | n,.int i,_=>⟨rfl,by rw[Dt.py,PyData.depth];exact wQ _⟩
 | n,.str x,h=>by
  have h:PyData.strOk x=true:=by cases n<;>simpa[Dt.okN]using h
  exact⟨by rw[Dt.py,PyData.canLay0];exact h,by rw[Dt.py,PyData.depth];exact wQ _⟩
 | 0,.lst ds,h=>by rw[Dt.okN]at h;cases h
 | 0,.tup ds,h=>by rw[Dt.okN]at h;cases h
 | 0,.scr ds,h=>by rw[Dt.okN]at h;cases h
 | n,.dic,h=>by cases n<;>(unfold Dt.okN at h;cases h)
 | n+1,.lst ds,h=>by
  rw[Dt.okN]at h;obtain⟨h1,h2⟩:=z9i n ds h;exact⟨by rw[Dt.py,PyData.canLay0];exact h1,by rw[Dt.py,PyData.depth];rfl'⟩
 | n+1,.tup ds,h=>by
  rw[Dt.okN]at h;obtain⟨h1,h2⟩:=z9i n ds h;exact⟨by rw[Dt.py,PyData.canLay0];exact h1,by rw[Dt.py,PyData.depth];rfl'⟩
 | n+1,.scr ns,h=>by
  obtain⟨h1,h2⟩:=zce ns;exact⟨by rw[Dt.py,PyData.canLay0];exact h1,by rw[Dt.py,PyData.depth];rfl'⟩
theorem z9i:∀(n:Nat) (ds:List Dt),oksN n ds=true->PyData.canLayAll0 (pys ds)=true/\PyData.depthAll (pys ds)<=n
 | n,[],_=>⟨rfl,by rw[pys,PyData.depthAll];exact wQ _⟩
 | n,d::ds,h=>by
  rw[oksN,wO]at h;obtain⟨h1,h2⟩:=ziA n d h.1;obtain⟨h3,h4⟩:=z9i n ds h.2;refine⟨by rw[pys,PyData.canLayAll0,h1,h3];rfl,?_⟩;rw[pys,PyData.depthAll];exact Nat.max_le.mpr ⟨h2,h4⟩
end
theorem z5A{d:Dt}{n:Nat}(h:d.okN n=true)(hn:n<=64):SeqAt.shaped d.py=true:=by
 obtain⟨h1,h2⟩:=ziA n d h;unfold SeqAt.shaped;rw[h1,Bool.true_and];exact decide_eq_true (wG h2 hn)
section
variable {X:Cx}{pins:List (Addr×Obj)}{σ:St}{H:Hp}{s:Shared}
theorem z9j{h:Heap}:∀{ns:List Int} {us:List Value},Vals (ns.map V.int) us->∃ as,ReadsAll h us (ns.map PyData.int) as
 | [],us,r=>by cases r;exact⟨_,.nil⟩
 | n::ns,us,r=>by
  rw[wv]at r;cases r with
  | cons r1 r2 =>
   obtain⟨t,rfl⟩:=r1;obtain⟨as,q⟩:=z9j r2;exact⟨_,.cons (.int n t) q⟩
mutual
theorem z4S(I:Inv X pins σ H s):∀(d:Dt) {v:V} {u:Value},Rp X.K emp d H v->RelV v u->∃ as,Reads s.heap u d.py as
 | .non,v,u,h,r=>by rw[Rp.non_]at h;subst h;cases r;exact⟨_,.none⟩
 | .bl b,v,u,h,r=>by rw[Rp.bl_]at h;subst h;cases r;exact⟨_,.bool b⟩
 | .int i,v,u,h,r=>by rw[Rp.int_]at h;subst h;obtain⟨t,rfl⟩:=r;exact⟨_,.int i t⟩
 | .str x,v,u,h,r=>by rw[Rp.str_]at h;subst h;obtain⟨t,rfl⟩:=r;exact⟨_,.str x t⟩
 | .dic,v,u,h,r=>by
  obtain⟨a,rfl,h1⟩:=Rp.dic_.mp h;cases r;exact⟨_,by rw[Dt.py];exact .dict (I.hok a _ h1).1 rfl rfl .nil .nil⟩
 | .lst ds,v,u,h,r=>by
  obtain⟨a,vs,rfl,_,h1,h2⟩:=Rp.lst_.mp h;cases r;obtain⟨its,rv,⟨o,n,e,c,dd,dt⟩,_⟩:=I.list (SqL.of (K:=X.K) h1);obtain⟨as,q⟩:=z4T I ds (Rps.mono ds z0B h2) rv;exact⟨_,by rw[Dt.py];exact .list e c dt q⟩
 | .tup ds,v,u,h,r=>by
  obtain⟨a,vs,rfl,h1,h2⟩:=Rp.tup_.mp h;cases r;obtain⟨its,rv,⟨o,e,c,n,dt⟩,_⟩:=I.tuple h1;obtain⟨as,q⟩:=z4T I ds h2 rv;exact⟨_,by rw[Dt.py];exact .tuple e c dt q⟩
 | .scr ns,v,u,h,r=>by
  obtain⟨a,rfl,_,h1⟩:=Rp.scr_.mp h;cases r;obtain⟨its,rv,⟨o,n,e,c,dd,dt⟩,_⟩:=I.list h1;obtain⟨as,q⟩:=z9j (h:=s.heap) rv;exact⟨_,by rw[Dt.py];exact .list e c dt q⟩
theorem z4T(I:Inv X pins σ H s):∀(ds:List Dt) {vs:List V} {us:List Value},Rps X.K emp ds H vs->Vals vs us->∃ as,ReadsAll s.heap us (pys ds) as
 | [],vs,us,h,r=>by rw[Rps.nil_]at h;subst h;cases r;exact⟨_,by rw[pys];exact .nil⟩
 | d::ds,vs,us,h,r=>by
  obtain⟨v,ws,rfl,h1,h2⟩:=Rps.cons_.mp h;cases r with
  | cons r1 r2 =>
   obtain⟨as,q1⟩:=z4S I d h1 r1;obtain⟨bs,q2⟩:=z4T I ds h2 r2;exact⟨_,by rw[pys];exact .cons q1 q2⟩
end
end
def eqD(x y:Dt):Bool:=PyData.eqv x.py y.py
section
variable {X:Cx}{a b c e:Expr}{Fa Fb Fc:FE}{pos:Pos}
def opEq:FO:=λx y=>if x.okN 8&&y.okN 8 then some (.nw,.bl (eqD x y)) else none
def opNe:FO:=λx y=>if x.okN 8&&y.okN 8 then some (.nw,.bl (!eqD x y)) else none
theorem o_eq(hu:X.A.units+64<cLine):OpF X (compareOp .Eq) opEq:=by
 rintro pins s σ H x y v u Q I r1 r2 ⟨d1,d2,f,d,q1,q2,e,k⟩;unfold opEq at e;split at e
 · rename_i h;rw[wO]at h;cases e;obtain⟨as,ra⟩:=z4S I d1 q1 r1;obtain⟨bs,rb⟩:=z4S I d2 q2 r2;exact eq_dataH ra rb (z5A h.1 (by decide)) (z5A h.2 (by decide)) hu ⟨.bl _,H,I,rfl,k _ H (Same.refl H) RpF.b_⟩
 · cases e
theorem o_ne(hu:X.A.units+64<cLine):OpF X (compareOp .NotEq) opNe:=by
 rintro pins s σ H x y v u Q I r1 r2 ⟨d1,d2,f,d,q1,q2,e,k⟩;unfold opNe at e;split at e
 · rename_i h;rw[wO]at h;cases e;obtain⟨as,ra⟩:=z4S I d1 q1 r1;obtain⟨bs,rb⟩:=z4S I d2 q2 r2;exact ne_dataH ra rb (z5A h.1 (by decide)) (z5A h.2 (by decide)) hu ⟨.bl _,H,I,rfl,k _ H (Same.refl H) RpF.b_⟩
 · cases e
end
def RpFs(X:Ky)(H:Hp):List Dv->Hp->List V->Prop
 | [],_,vs=>vs=[]
 | x::xs,H',vs=>∃ v r,vs=v::r/\RpF X H x.1 x.2 H' v/\RpFs X H xs H' r
def upAs(X:Cx)(F:FA):TA:=λσ H Q=>∃ ρ xs,RepS X.ky H ρ σ/\F ρ=some xs/\∀ vs H',Same H H'->RpFs X.ky H xs H' vs->Q vs H'
def PFA(X:Cx)(es:List Expr)(F:FA):Prop:=PA X es (upAs X F)
def sndL:List Dv->List Dt
 | []=>[]
 | x::xs=>x.2::sndL xs
def z3S:List Dv->Bool
 | []=>true
 | x::xs=>x.1.isNw&&z3S xs
def z2T:List Dv->Bool
 | []=>true
 | x::xs=>x.1.isFr&&z2T xs
section
variable {X:Ky}{H H' H1:Hp}
theorem RpFs.sh:∀{xs:List Dv} {vs:List V},RpFs X H xs H' vs->Rps X.K emp (sndL xs) H' vs
 | [],vs,h=>Rps.nil_.mpr h
 | x::xs,vs,⟨v,r,e,h1,h2⟩=>Rps.cons_.mpr ⟨v,r,e,h1.sh,RpFs.sh h2⟩
theorem RpFs.nw:∀{xs:List Dv} {vs:List V},z3S xs=true->RpFs X H xs H' vs->Rps X.K H (sndL xs) H' vs
 | [],vs,_,h=>Rps.nil_.mpr h
 | ⟨f,d⟩::xs,vs,q,⟨v,r,e,h1,h2⟩=>by
  unfold z3S at q;rw[wO]at q;cases f<;>first|(exact absurd q.1 wX)|exact Rps.cons_.mpr ⟨v,r,e,h1,RpFs.nw q.2 h2⟩
theorem RpFs.fr(h0:Same X.H₀ H):∀{xs:List Dv} {vs:List V},z2T xs=true->RpFs X H xs H' vs->Rps X.K X.H₀ (sndL xs) H' vs
 | [],vs,_,h=>Rps.nil_.mpr h
 | ⟨f,d⟩::xs,vs,q,⟨v,r,e,h1,h2⟩=>by
  unfold z2T at q;rw[wO]at q;exact Rps.cons_.mpr ⟨v,r,e,h1.fr h0 q.1,RpFs.fr h0 q.2 h2⟩
theorem RpFs.mono:∀{xs:List Dv} {vs:List V},RpFs X H xs H' vs->Same H' H1->RpFs X H xs H1 vs
 | [],vs,h,_=>h
 | x::xs,vs,⟨v,r,e,h1,h2⟩,s=>⟨v,r,e,h1.mono s,RpFs.mono h2 s⟩
theorem RpFs.early(s:Same H H1):∀{xs:List Dv} {vs:List V},RpFs X H1 xs H' vs->RpFs X H xs H' vs
 | [],vs,h=>h
 | x::xs,vs,⟨v,r,e,h1,h2⟩=>⟨v,r,e,h1.early s,RpFs.early s h2⟩
end
section
variable {X:Cx}{a b c e:Expr}{es:List Expr}{Fa Fb Fe:FE}{Fs:FA}{pos:Pos}
def fNil:FA:=λ_=>some []
def z02(Fa:FE)(Fs:FA):FA:=λρ=>(Fa ρ).bind λx=>(Fs ρ).bind λxs=>some (x::xs)
theorem z08:PFA X [] fNil:=z9d.imp (by rintro σ H Q ⟨ρ,xs,rs,e,k⟩;cases e;exact k [] H (Same.refl H) rfl)
theorem z03(ha:PF X e Fe)(hr:PFA X es Fs)(hs:starEach (e::es) X.env=(false,eval e X.env)::starEach es X.env:=by rfl):PFA X (e::es) (z02 Fe Fs) :=
 (z4f ha hr hs).imp fun σ H Q hZ=>hZ.elim fun ρ hZ=>hZ.elim fun xs hZ=>hZ.elim fun rs hZ=>hZ.elim fun e0 k=>by
  obtain⟨⟨f,d⟩,e1,e2⟩:=z05 e0;obtain⟨ys,e3,e4⟩:=z05 e2;cases e4;exact⟨ρ,f,d,rs,e1,λv H1 s1 r1=>⟨ρ,ys,rs.mono s1,e3,λvs H2 s2 r2=>k _ _ (s1.trans s2) ⟨v,vs,rfl,r1.mono s2,r2.early s1⟩⟩⟩
theorem RpFs.length{X:Ky}{H H':Hp}:∀{xs:List Dv} {vs:List V},RpFs X H xs H' vs->vs.length=xs.length
 | [],vs,h=>by rw[show vs=[]from h];rfl
 | x::xs,vs,⟨v,r,e,_,h2⟩=>by rw[e,wj,wj,RpFs.length h2]
def fLst(Fs:FA):FE:=λρ=>(Fs ρ).bind λxs=>if xs.length<=1000 then some (if z3S xs then .nw else .tn,.lst (sndL xs)) else none
def fTup(Fs:FA):FE:=λρ=>(Fs ρ).bind λxs=>if xs.length<=1000 then some (if z3S xs then .nw else if z2T xs then .fr else .sh,.tup (sndL xs)) else none
theorem z6Q(h:PFA X es Fs):PF X (.List es pos) (fLst Fs):=(pe_lst h).imp λσ H Q⟨ρ,f,d,rs,e0,k⟩=>by
 obtain⟨xs,e1,e2⟩:=z05 e0;split at e2
 · rename_i hl;cases e2;refine⟨ρ,xs,rs,e1,λvs H1 s1 r1=>⟨wG (by rw[r1.length];exact hl) (by decide),λp hp=>k _ _ (s1.trans (z1d hp)) ?_⟩⟩;have hp0:H p=none:=s1.free hp;by_cases q:z3S xs=true
   · rw[if_pos q];exact Rp.new (K:=X.K) (B:=H) hp hp0 (r1.nw q)
   · rw[if_neg q];exact⟨Rp.new hp rfl r1.sh,⟨_,rfl⟩,λa e=>by cases e;exact hp0⟩
 · cases e2
theorem z6a{x1}(h:PFA X es Fs):PF X (.Tuple es x1 pos) (fTup Fs):=(pe_tup h).imp λσ H Q⟨ρ,f,d,rs,e0,k⟩=>by
 obtain⟨xs,e1,e2⟩:=z05 e0;split at e2
 · rename_i hl;cases e2;refine⟨ρ,xs,rs,e1,λvs H1 s1 r1=>⟨wG (by rw[r1.length];exact hl) (by decide),λp hp=>k _ _ (s1.trans (z1d hp)) ?_⟩⟩;have r2:=r1.mono (z1d (o := .tup vs) hp);by_cases q:z3S xs=true
   · rw[if_pos q];exact(Rp.tup_ (K:=X.K) (B:=H)).mpr ⟨p,vs,rfl,SqT.of z0V,r2.nw q⟩
   · rw[if_neg q];by_cases q2:z2T xs=true
     · rw[if_pos q2];exact(Rp.tup_ (K:=X.K) (B:=X.H₀)).mpr ⟨p,vs,rfl,SqT.of z0V,r2.fr rs.base q2⟩
     · rw[if_neg q2];exact(Rp.tup_ (K:=X.K) (B:=emp)).mpr ⟨p,vs,rfl,SqT.of z0V,r2.sh⟩
 · cases e2
abbrev FC:=List Dt->Option Dt
def spc(K:PySem.W.Frag)(fr:Bool)(c:FC):Sp:=λvs H Q _=>∃ ds d,Rps K emp ds H vs/\c ds=some d/\∀ v H',Same H H'->Rp K (if fr then H else emp) d H' v->Q v H'
def z06(fr:Bool)(c:FC)(Fs:FA):FE:=λρ=>(Fs ρ).bind λxs=>(c (sndL xs)).map (nrm (if fr then .nw else .sh))
theorem zkJ{X:Ky}{fr:Bool}{H H1 H':Hp}{d:Dt}{v:V}(s:Same H H1)(r:Rp X.K (if fr then H1 else emp) d H' v):RpF X H (nrm (if fr then .nw else .sh) d).1 d H' v:=by
 cases fr with
 | true=>exact RpF.nrm (f := .nw) (RpF.early s (show RpF X H1 .nw d H' v from r))
 | false=>exact RpF.nrm (f := .sh) r
theorem p_call{fr:Bool}{k:Nat}{f:Addr}{fd:FuncData}{ps:List Str}{ct:FC}{x:Str}{p:Pos}(F:FnOk X.prog X.w X.K X.mg X.base CX0 k f fd ps (spc X.K fr ct))(hr:Room k X.A)(hg:Gl X x)(hm:X.mg x=some (.ref f))(hk:PySem.W.keepIn X.K (.ref f)=true)(hb:Binds X.K fd ps [])
  (ha:PFA X (e::es) Fs) (hdb:(x==("__debug__" : Str))=false:=by decide) (hst:starEach (e::es) X.env=(false,eval e X.env)::starEach es X.env:=by rfl) (hpl:(backTo pos (starEach es X.env)).any (·.1)=false:=by rfl):PF X (.Call (.Name x p) (e::es) [] pos) (z06 fr ct Fs) :=
 (zod (E:=E0) (dvs:=[]) F hr hg hm hk hb .nil pass0 ha hdb hst hpl).imp fun σ H Q hZ=>hZ.elim fun ρ hZ=>hZ.elim fun f hZ=>hZ.elim fun d hZ=>hZ.elim fun rs hZ=>hZ.elim fun e0 k=>by
  obtain⟨xs,e1,e2⟩:=z05 e0;cases q:ct (sndL xs) with
  | none=>rw[q]at e2;cases e2
  | some d0 =>
   rw[q]at e2;have e2:nrm (if fr then .nw else .sh) d0=(f,d):=Option.some.inj e2;have e3:d0=d:=congrArg Prod.snd e2;subst e3;refine⟨ρ,xs,rs,e1,λvs H1 s1 r1=>?_⟩;dsimp only;rw[vc];refine⟨_,d0,r1.sh,q,λv H' s' r'=>k v H' (s1.trans s') ?_⟩;have:=zkJ (X:=X.ky) s1 r';rw[e2]at this;exact this
abbrev FB:=List Dt->Option Dv
def z4U(X:Cx)(f:Value)(r:FB):Prop:=CallR X f (λxs H Q=>∃ ds f d,Rps X.K emp ds H xs/\r ds=some (f,d)/\∀ v H',Same H H'->RpF X.ky H f d H' v->Q v H')
def fBlt(r:FB)(Fs:FA):FE:=λρ=>(Fs ρ).bind λxs=>r (sndL xs)
theorem ziB{r:FB}{σ:St}{H:Hp}{Q:VK}(h:upF X (fBlt r Fs) σ H Q):upAs X Fs σ H λvs H1=>∃ ds f d,Rps X.K emp ds H1 vs/\r ds=some (f,d)/\∀ v H',Same H1 H'->RpF X.ky H1 f d H' v->Q v H':=by
 obtain⟨ρ,f,d,rs,e0,k⟩:=h;obtain⟨xs,e1,e2⟩:=z05 e0;exact⟨ρ,xs,rs,e1,λvs H1 s1 r1=>⟨_,f,d,r1.sh,e2,λv H' s' r'=>k v H' (s1.trans s') (r'.early s1)⟩⟩
theorem zot{id:String}{r:FB}{x:Str}{p:Pos}(hc:z4U X (.builtin id) r)(hg:Gl X x)(hm:X.mg x=none)(hv:bootBuiltins x=some (.builtin id))(ha:PFA X (e::es) Fs)(hn:x ≠ "__name__" := by decide)(hdb:(x==("__debug__" : Str))=false:=by decide)(hst:starEach (e::es) X.env=(false,eval e X.env)::starEach es X.env:=by rfl)(hpl:(backTo pos (starEach es X.env)).any (·.1)=false:=by rfl):
 PF X (.Call (.Name x p) (e::es) [] pos) (fBlt r Fs):=(zd2 hc hg hm hv ha hn hdb hst hpl).imp λσ H Q h=>ziB h
theorem zkK{T:String}{r:FB}{x:Str}{p:Pos}(hc:z4U X (.type T) r)(hg:Gl X x)(hm:X.mg x=none)(hv:bootBuiltins x=some (.type T))(ha:PFA X (e::es) Fs)(hn:x ≠ "__name__" := by decide)(hdb:(x==("__debug__" : Str))=false:=by decide)(hst:starEach (e::es) X.env=(false,eval e X.env)::starEach es X.env:=by rfl)(hpl:(backTo pos (starEach es X.env)).any (·.1)=false:=by rfl):
 PF X (.Call (.Name x p) (e::es) [] pos) (fBlt r Fs):=(zjz hc hg hm hv ha hn hdb hst hpl).imp λσ H Q h=>ziB h
end
section
variable {X:Cx}
theorem Rps.one'{K:PySem.W.Frag}{B H:Hp}{d:Dt}{vs:List V}(h:Rps K B [d] H vs):∃ v,vs=[v]/\Rp K B d H v:=by
 obtain⟨v,r,rfl,h1,h2⟩:=Rps.cons_.mp h;rw[Rps.nil_.mp h2];exact⟨v,rfl,h1⟩
def bLen:FB
 | [.lst xs]=>some (.nw,.int xs.length)
 | [.tup xs]=>some (.nw,.int xs.length)
 | [.scr xs]=>some (.nw,.int xs.length)
 | _=>none
theorem z3x:z4U X (.builtin "len") bLen:=by
 rintro pins s σ H xs us Q I r ⟨ds,f,d,rs,e,k⟩;unfold bLen at e;split at e
 · cases e;obtain⟨v,rfl,h⟩:=rs.one';obtain⟨p,vs,rfl,_,q1,q2⟩:=h.items;exact z4g pins s σ H _ us Q I r ⟨p,vs,rfl,.inl (SqL.of q1),by rw[q2.length];exact k _ H (Same.refl H) RpF.i_⟩
 · cases e;obtain⟨v,rfl,h⟩:=rs.one';obtain⟨p,vs,rfl,q1,q2⟩:=Rp.tup_.mp h;exact z4g pins s σ H _ us Q I r ⟨p,vs,rfl,.inr q1,by rw[q2.length];exact k _ H (Same.refl H) RpF.i_⟩
 · cases e;obtain⟨v,rfl,h⟩:=rs.one';obtain⟨p,rfl,_,q1⟩:=Rp.scr_.mp h;exact z4g pins s σ H _ us Q I r ⟨p,_,rfl,.inl q1,by rw[wo];exact k _ H (Same.refl H) RpF.i_⟩
 · cases e
def bTup:FB
 | [.lst xs]=>some (if z1n xs then .nw else .sh,.tup xs)
 | [.tup xs]=>some (if z1n xs then .nw else .sh,.tup xs)
 | _=>none
theorem ziC{X:Ky}{H H':Hp}{xs:List Dt}{v:V}(h:Rp X.K emp (.tup xs) H' v):RpF X H (if z1n xs then .nw else .sh) (.tup xs) H' v:=by
 by_cases q:z1n xs=true
 · rw[if_pos q];exact RpF.scal (by rw[Dt.flat];exact q) h
 · rw[if_neg q];exact h
theorem zkL:z4U X (.type "tuple") bTup:=by
 rintro pins s σ H xs us Q I r ⟨ds,f,d,rs,e,k⟩;unfold bTup at e;split at e
 · cases e;obtain⟨v,rfl,h⟩:=rs.one';obtain⟨p,vs,rfl,_,q1,q2⟩:=h.items;exact z67 pins s σ H _ us Q I r ⟨p,vs,rfl,.inl ⟨SqL.of q1,λl hl=>k _ _ (z1d hl) (ziC (Rp.tup_.mpr ⟨l,vs,rfl,SqT.of z0V,Rps.mono _ (z1d hl) q2⟩))⟩⟩
 · cases e;obtain⟨v,rfl,h⟩:=rs.one';obtain⟨p,vs,rfl,q1,q2⟩:=Rp.tup_.mp h;exact z67 pins s σ H _ us Q I r ⟨p,vs,rfl,.inr ⟨q1,k _ H (Same.refl H) (ziC h)⟩⟩
 · cases e
def bLst:FB
 | [.lst xs]=>some (newL xs)
 | [.tup xs]=>some (newL xs)
 | _=>none
theorem z6R:z4U X (.type "list") bLst:=by
 rintro pins s σ H xs us Q I r ⟨ds,f,d,rs,e,k⟩;unfold bLst at e;split at e
 · cases e;obtain⟨v,rfl,h⟩:=rs.one';obtain⟨p,vs,rfl,_,q1,q2⟩:=h.items;exact z6N pins s σ H _ us Q I r ⟨p,vs,rfl,.inl (SqL.of q1),λl hl=>k _ _ (z1d hl) (z6P hl q2)⟩
 · cases e;obtain⟨v,rfl,h⟩:=rs.one';obtain⟨p,vs,rfl,q1,q2⟩:=Rp.tup_.mp h;exact z6N pins s σ H _ us Q I r ⟨p,vs,rfl,.inr q1,λl hl=>k _ _ (z1d hl) (z6P hl q2)⟩
 · cases e
def bAbs:FB
 | [.int i]=>some (.nw,.int (if i<0 then -i else i))
 | _=>none
theorem c_abs:z4U X (.builtin "abs") bAbs:=by
 rintro pins s σ H xs us Q I r ⟨ds,f,d,rs,e,k⟩;unfold bAbs at e;split at e
 · rename_i i;cases e;obtain⟨v,rfl,h⟩:=rs.one';rw[Rp.int_]at h;subst h;exact zku pins s σ H _ us Q I r ⟨i,rfl,k _ H (Same.refl H) RpF.i_⟩
 · cases e
def z6b:List Dt->Option (List Bool)
 | []=>some []
 | .bl b::ds=>(z6b ds).map (b::·)
 | _=>none
def z4l:List Dt->Option (List Int)
 | []=>some []
 | .int i::ds=>(z4l ds).map (i::·)
 | _=>none
theorem z7C{K:PySem.W.Frag}{B H:Hp}:∀{ds:List Dt} {bs:List Bool} {vs:List V},z6b ds=some bs->Rps K B ds H vs->vs=bs.map V.bl
 | [],bs,vs,e,r=>by cases e;exact Rps.nil_.mp r
 | .bl b::ds,bs,vs,e,r=>by
  obtain⟨v,ws,rfl,h1,h2⟩:=Rps.cons_.mp r;unfold z6b at e;cases q:z6b ds with
  | none=>rw[q]at e;cases e
  | some cs=>rw[q]at e;cases e;rw[Rp.bl_.mp h1,z7C q h2];rfl
 | .non::ds,bs,vs,e,r=>by cases e
 | .int _::ds,bs,vs,e,r=>by cases e
 | .str _::ds,bs,vs,e,r=>by cases e
 | .lst _::ds,bs,vs,e,r=>by cases e
 | .tup _::ds,bs,vs,e,r=>by cases e
 | .scr _::ds,bs,vs,e,r=>by cases e
 | .dic::ds,bs,vs,e,r=>by cases e
theorem z9k{K:PySem.W.Frag}{B H:Hp}:∀{ds:List Dt} {bs:List Int} {vs:List V},z4l ds=some bs->Rps K B ds H vs->vs=bs.map V.int
 | [],bs,vs,e,r=>by cases e;exact Rps.nil_.mp r
 | .int b::ds,bs,vs,e,r=>by
  obtain⟨v,ws,rfl,h1,h2⟩:=Rps.cons_.mp r;unfold z4l at e;cases q:z4l ds with
  | none=>rw[q]at e;cases e
  | some cs=>rw[q]at e;cases e;rw[Rp.int_.mp h1,z9k q h2];rfl
 | .non::ds,bs,vs,e,r=>by cases e
 | .bl _::ds,bs,vs,e,r=>by cases e
 | .str _::ds,bs,vs,e,r=>by cases e
 | .lst _::ds,bs,vs,e,r=>by cases e
 | .tup _::ds,bs,vs,e,r=>by cases e
 | .scr _::ds,bs,vs,e,r=>by cases e
 | .dic::ds,bs,vs,e,r=>by cases e
def bAll:FB
 | [.lst xs]=>(z6b xs).map λbs=>(.nw,.bl (bs.all id))
 | _=>none
def bAny:FB
 | [.lst xs]=>(z6b xs).map λbs=>(.nw,.bl (bs.any id))
 | _=>none
def bSum:FB
 | [.lst xs]=>(z4l xs).map λns=>(.nw,.int ns.sum)
 | _=>none
theorem zjD(bs:List Bool):(List.range bs.length).all (λi=>bs.getD i false)=bs.all id:=by
 rw[Vc,vt,vt];constructor
 · intro h b hb;obtain⟨i,hi,e⟩:=wH hb;have:=h i (wM.mpr hi);simp[List.getD,w8 hi,e]at this;exact this
 · intro h i hi;have hi:=wM.mp hi;have:=h _ (W4 hi);simpa[List.getD,w8 hi]using this
theorem zjE(bs:List Bool):(List.range bs.length).any (λi=>bs.getD i false)=bs.any id:=by
 rw[Vc,VG,VG];constructor
 · rintro⟨i,hi,h⟩;have hi:=wM.mp hi;exact⟨_,W4 hi,by simpa[List.getD,w8 hi]using h⟩
 · rintro⟨b,hb,h⟩;obtain⟨i,hi,e⟩:=wH hb;exact⟨i,wM.mpr hi,by simp[List.getD,w8 hi,e];exact h⟩
theorem z8n(ns:List Int):∀ k,k<=ns.length->preSum (λi=>ns.getD i 0) k=(ns.take k).sum
 | 0,_=>by simp[preSum]
 | k+1,h=>by
  have hk:k<ns.length:=h;rw[preSum,z8n ns k (by rfl'),List.take_succ,w8 hk,List.sum_append];simp[List.getD,w8 hk]
theorem ziD{bs:List Bool}{us:List Value}(r:Vals (bs.map V.bl) us){prog:Program}{w:World}{A:Around}:TruthOf prog w A (λi v=>us.toArray[i]?=some v) (λi=>bs.getD i false):=by
 intro i v s Q E hP hQ;have e:us[i]?=some v:=by simpa using hP
 cases q:bs[i]? with
 | none =>
  have:=r.none_of (i:=i) (by rw[wu,q];rfl);rw[this]at e;cases e
 | some b =>
  obtain⟨u,h1,h2⟩:=r.get (i:=i) (x:=V.bl b) (by rw[wu,q];rfl);rw[e]at h1;cases h1;cases h2;have hQ':Q b s:=by simpa[List.getD,q]using hQ
  exact wpAny_truthy_bool hQ'
theorem c_all(hc:X.calm=true):z4U X (.builtin "all") bAll:=by
 rintro pins s σ H xs us Q I r ⟨ds,f,d,rs,e,k⟩;unfold bAll at e;split at e
 · rename_i ys;cases q:z6b ys with
   | none=>rw[q]at e;cases e
   | some bs =>
    rw[q]at e;cases e;obtain⟨v,rfl,h⟩:=rs.one';obtain⟨p,vs,rfl,_,q1,q2⟩:=h.items;obtain⟨u,rfl,ru⟩:=r.one;cases ru;have ev:=z7C q q2;subst ev;obtain⟨its,rv,pl,hz⟩:=I.list (SqL.of (K:=X.K) q1);have hlen:its.toArray.size=bs.length:=by rw[wB,←rv.length,wo]
    refine call_all_walk (wpAny_pyIter_list pl.isList ?_);have hne:p≠s.heap.objs.size:=wV (by obtain⟨o,e,_⟩:=pl.isList;exact ww e);refine⟨_,_,_,_,_,_,λi=>bs.getD i false,rfl,Walks.list (A:=X.A.in1) (I.ok.hd hc) s.heap.objs.size p hne its.toArray,⟨⟨_,wy _ rfl,rfl,rfl⟩,pl.isList.at λo e=>wd _ e⟩,ziD rv,λh' tk hk=>?_⟩;rw[hlen,zjD];exact⟨.bl _,H,I.kept λb o e=>hk b o (by simp;exact wV (ww e)) (wd _ e),rfl,k _ H (Same.refl H) RpF.b_⟩
 · cases e
theorem c_any(hc:X.calm=true):z4U X (.builtin "any") bAny:=by
 rintro pins s σ H xs us Q I r ⟨ds,f,d,rs,e,k⟩;unfold bAny at e;split at e
 · rename_i ys;cases q:z6b ys with
   | none=>rw[q]at e;cases e
   | some bs =>
    rw[q]at e;cases e;obtain⟨v,rfl,h⟩:=rs.one';obtain⟨p,vs,rfl,_,q1,q2⟩:=h.items;obtain⟨u,rfl,ru⟩:=r.one;cases ru;have ev:=z7C q q2;subst ev;obtain⟨its,rv,pl,hz⟩:=I.list (SqL.of (K:=X.K) q1);have hlen:its.toArray.size=bs.length:=by rw[wB,←rv.length,wo]
    refine call_any_walk (wpAny_pyIter_list pl.isList ?_);have hne:p≠s.heap.objs.size:=wV (by obtain⟨o,e,_⟩:=pl.isList;exact ww e);refine⟨_,_,_,_,_,_,λi=>bs.getD i false,rfl,Walks.list (A:=X.A.in1) (I.ok.hd hc) s.heap.objs.size p hne its.toArray,⟨⟨_,wy _ rfl,rfl,rfl⟩,pl.isList.at λo e=>wd _ e⟩,ziD rv,λh' tk hk=>?_⟩;rw[hlen,zjE];exact⟨.bl _,H,I.kept λb o e=>hk b o (by simp;exact wV (ww e)) (wd _ e),rfl,k _ H (Same.refl H) RpF.b_⟩
 · cases e
theorem c_sum(hc:X.calm=true):z4U X (.builtin "sum") bSum:=by
 rintro pins s σ H xs us Q I r ⟨ds,f,d,rs,e,k⟩;unfold bSum at e;split at e
 · rename_i ys;cases q:z4l ys with
   | none=>rw[q]at e;cases e
   | some ns =>
    rw[q]at e;cases e;obtain⟨v,rfl,h⟩:=rs.one';obtain⟨p,vs,rfl,_,q1,q2⟩:=h.items;obtain⟨u,rfl,ru⟩:=r.one;cases ru;have ev:=z9k q q2;subst ev;obtain⟨its,rv,pl,hz⟩:=I.list (SqL.of (K:=X.K) q1);have hlen:its.toArray.size=ns.length:=by rw[wB,←rv.length,wo]
    refine call_sum_walkG (wpAny_pyIter_list pl.isList ?_);have hlt:p<s.heap.objs.size:=by obtain⟨o,e,_⟩:=pl.isList;exact ww e
    have hne:p≠s.heap.objs.size:=wV hlt;refine⟨_,_,_,_,_,_,λi=>ns.getD i 0,rfl,Walks.list (A:=X.A.in1) (I.ok.hd hc) s.heap.objs.size p hne its.toArray,⟨⟨_,wy _ rfl,rfl,rfl⟩,pl.isList.at λo e=>wd _ e⟩,λb hb=>?_,λi v hP=>?_,λh' tk t' hk=>?_⟩
    · show b<(s.heap.push _).objs.size;rw[Wf];rcases wn.mp hb with e|hb
      · rw[e];exact Wb _
      · rw[wP.mp hb];exact Vx hlt
    · have e:its[i]?=some v:=by simpa using hP
      cases q:ns[i]? with
      | none =>
        have:=rv.none_of (i:=i) (by rw[wu,q];rfl);rw[this]at e;cases e
      | some n =>
        obtain⟨u,h1,h2⟩:=rv.get (i:=i) (x:=V.int n) (by rw[wu,q];rfl);rw[e]at h1;cases h1;obtain⟨t,rfl⟩:=h2;exact⟨t,by simp[List.getD,q]⟩
    · rw[hlen,z8n ns ns.length (wx _),VH];exact⟨.int _,H,I.kept λb o e=>hk b o (by simp;exact wV (ww e)) (wd _ e),⟨t',rfl⟩,k _ H (Same.refl H) RpF.i_⟩
 · cases e
def tyN:Dt->String
 | .non => "NoneType"
 | .bl _ => "bool"
 | .int _ => "int"
 | .str _ => "str"
 | .lst _ => "list"
 | .scr _ => "list"
 | .tup _ => "tuple"
 | .dic => "dict"
def zdd(t T:String):Bool:=t==T||(t == "bool" && T == "int")
def okT(T:String):Bool:=T == "int" || T == "bool" || T == "str" || T == "list" || T == "tuple" || T == "dict"
theorem zjF{T:String}(h:okT T=true):T = "int" \/ T = "bool" \/ T = "str" \/ T = "list" \/ T = "tuple" \/ T = "dict" := by
 unfold okT at h;simp only[vA,beq_iff_eq]at h;rcases h with((((h|h)|h)|h)|h)|h
 · exact .inl h
 · exact .inr (.inl h)
 · exact .inr (.inr (.inl h))
 · exact .inr (.inr (.inr (.inl h)))
 · exact .inr (.inr (.inr (.inr (.inl h))))
 · exact .inr (.inr (.inr (.inr (.inr h))))
theorem kit_D{K:PySem.W.Frag}{d:Dt}{T:String}(h:okT T=true):PySem.W.kitOne K (.type (tyN d)) (.type T)=some (zdd (tyN d) T):=by
 rcases zjF h with rfl|rfl|rfl|rfl|rfl|rfl<;>cases d<;>rfl
def fIsi(T:String)(F:FE):FE:=λρ=>(F ρ).map λx=>(.nw,.bl (zdd (tyN x.2) T))
theorem zou{T:String}(hT:okT T=true):CallR X (.builtin "isinstance") (λxs H Q=>∃ d v,xs=[v,.ty T]/\Rp X.K emp d H v/\Q (.bl (zdd (tyN d) T)) H):=by
 intro pins s σ H xs us Q I r ⟨d,v,ex,h1,fin⟩;subst ex;have e:=kit_D (K:=X.K) (d:=d) hT;obtain⟨u,u',rfl,r1,r2⟩:=vals2 r;cases r2;cases d with
 | non=>rw[Rp.non_.mp h1]at r1;exact z5x I r1 .non e λtk=>⟨.bl _,H,I.tok tk,rfl,fin⟩
 | bl b=>rw[Rp.bl_.mp h1]at r1;exact z5x I r1 (.bl b) e λtk=>⟨.bl _,H,I.tok tk,rfl,fin⟩
 | int i=>rw[Rp.int_.mp h1]at r1;exact z5x I r1 (.int i) e λtk=>⟨.bl _,H,I.tok tk,rfl,fin⟩
 | str x=>rw[Rp.str_.mp h1]at r1;exact z5x I r1 (.str x) e λtk=>⟨.bl _,H,I.tok tk,rfl,fin⟩
 | dic =>
  obtain⟨a,rfl,q⟩:=Rp.dic_.mp h1;cases r1;exact PySem.W.kia_one PySem.W.kitx_dict I.kIn ⟨_,(I.hok a _ q).1,rfl⟩ e (λz=>nomatch z) λtk=>⟨.bl _,H,I.tok tk,rfl,fin⟩
 | lst ys =>
  obtain⟨p,vs,rfl,_,q1,q2⟩:=h1.items;cases r1;obtain⟨its,_,pl,_⟩:=I.list (SqL.of (K:=X.K) q1);obtain⟨o,ho,hc,_⟩:=pl.isList;exact PySem.W.kia_one PySem.W.kitx_list I.kIn ⟨o,ho,hc⟩ e (λz=>nomatch z) λtk=>⟨.bl _,H,I.tok tk,rfl,fin⟩
 | scr ys =>
  obtain⟨p,rfl,_,q1⟩:=Rp.scr_.mp h1;cases r1;obtain⟨its,_,pl,_⟩:=I.list q1;obtain⟨o,ho,hc,_⟩:=pl.isList;exact PySem.W.kia_one PySem.W.kitx_list I.kIn ⟨o,ho,hc⟩ e (λz=>nomatch z) λtk=>⟨.bl _,H,I.tok tk,rfl,fin⟩
 | tup ys =>
  obtain⟨p,vs,rfl,q1,q2⟩:=Rp.tup_.mp h1;cases r1;obtain⟨its,_,pl,_⟩:=I.tuple q1;obtain⟨o,ho,hc,_⟩:=pl;exact PySem.W.kia_one PySem.W.kitx_tuple I.kIn ⟨o,ho,hc⟩ e (λz=>nomatch z) λtk=>⟨.bl _,H,I.tok tk,rfl,fin⟩
theorem z9l{a:Expr}{Fa:FE}{x:Str}{T:String}{p q pos:Pos}(hT:okT T=true)(hg:Gl X "isinstance")(hm:X.mg "isinstance" = none)(hgT:Gl X x)(hmT:X.mg x=none)(hvT:bootBuiltins x=some (.type T))(ha:PF X a Fa)
  (hn:x ≠ "__name__" := by decide) (hd:(x==("__debug__" : Str))=false:=by decide) (hs1:starEach [.Name x q] X.env=[(false,eval (.Name x q) X.env)]:=by rfl)
  (hs:starEach [a,.Name x q] X.env=(false,eval a X.env)::starEach [.Name x q] X.env:=by rfl):PF X (.Call (.Name "isinstance" p) [a,.Name x q] [] pos) (fIsi T Fa) :=
 (zd2 (zou hT) hg hm boot_isinstance (z4f ha (z4f (pe_ty hgT hmT hvT hn hd) z9d hs1) hs) (by decide) (by decide) hs (by rw[hs1];rfl)).imp fun σ H Q hZ=>hZ.elim fun ρ hZ=>hZ.elim fun f hZ=>hZ.elim fun d hZ=>hZ.elim fun rs hZ=>hZ.elim fun e0 k=>by
  unfold fIsi at e0;cases h:Fa ρ with
  | none=>rw[h]at e0;cases e0
  | some z =>
   rw[h]at e0;cases e0;exact⟨ρ,z.1,z.2,rs,h,λv H1 s1 r1=>⟨z.2,v,rfl,r1.sh,k _ H1 s1 RpF.b_⟩⟩
abbrev FP:=Rho->Option (Option Int)
def upP(X:Cx)(F:FP):TO:=λσ H Q=>∃ ρ o,RepS X.ky H ρ σ/\F ρ=some o/\∀ H',Same H H'->Q o H'
def PFP(X:Cx)(e:Option Expr)(F:FP):Prop:=PO X e (upP X F)
def z0E:FP:=λ_=>some none
def intD:Dt->Option Int
 | .int i=>some i
 | _=>none
def z1w(F:FE):FP:=λρ=>(F ρ).bind λx=>(intD x.2).map some
theorem PO.imp{e:Option Expr}{t t':TO}(h:PO X e t)(q:∀ σ H Q,t' σ H Q->t σ H Q):PO X e t':=λpins s σ H Q I z=>h pins s σ H Q I (q σ H Q z)
theorem z4m:PFP X none z0E:=zof.imp (by rintro σ H Q ⟨ρ,o,rs,e,k⟩;cases e;exact k H (Same.refl H))
theorem z4n{e:Expr}{F:FE}(h:PF X e F):PFP X (some e) (z1w F):=(zog h).imp λσ H Q ⟨ρ,o,rs,e,k⟩=>by
 obtain⟨⟨f,d⟩,e1,e2⟩:=z05 e;refine⟨ρ,f,d,rs,e1,λv H1 s1 r1=>?_⟩;cases d<;>first|cases e2|skip
 rename_i i;exact⟨i,Rp.int_.mp r1.sh,k H1 s1⟩
def cutD{α:Type}(xs:List α)(lo hi:Option Int):List α:=(xs.drop (HT.sIx xs.length 0 lo)).take (HT.sIx xs.length xs.length hi-HT.sIx xs.length 0 lo)
def fSl(F:FE)(L U:FP):FE:=λρ=>(F ρ).bind λx=>(L ρ).bind λlo=>(U ρ).bind λhi=>match x.2 with|.lst ds=>some (newL (cutD ds lo hi))|_=>none
theorem z2W{e:Expr}{F:FE}{lo hi:Option Expr}{L U:FP}{pos p2:Pos}(he:PF X e F)(hl:PFP X lo L)(hu:PFP X hi U):PF X (.Subscript e (.Slice lo hi none p2) pos) (fSl F L U) :=
 (zkw zoi he hl hu).imp fun σ H Q hZ=>hZ.elim fun ρ hZ=>hZ.elim fun f hZ=>hZ.elim fun d hZ=>hZ.elim fun rs hZ=>hZ.elim fun e0 k=>by
  obtain⟨⟨fx,dx⟩,e1,e2⟩:=z05 e0;obtain⟨l,e3,e4⟩:=z05 e2;obtain⟨u,e5,e6⟩:=z05 e4;clear e0 e2 e4;refine⟨ρ,fx,dx,rs,e1,λv H1 s1 r1=>⟨ρ,l,rs.mono s1,e3,λH2 s2=>⟨ρ,u,rs.mono (s1.trans s2),e5,λH3 s3=>?_⟩⟩⟩;have ex:∃ ds,dx = .lst ds/\newL (cutD ds l u)=(f,d):=by
   cases dx<;>first|(rename_i ds;exact⟨ds,rfl,Option.some.inj e6⟩)|cases e6
  obtain⟨ds,rfl,e7⟩:=ex;cases e7;obtain⟨p,vs,rfl,_,q1,q2⟩:=(Rp.mono _ (s2.trans s3) r1.sh).items;refine⟨p,vs,rfl,SqL.of q1,λa ha=>k _ _ ((s1.trans (s2.trans s3)).trans (z1d ha)) ?_⟩;have h1:Rps X.K emp (cutD ds l u) H3 (cutV vs l u):=by
   unfold cutD cutV;rw[q2.length];exact Rps.take _ (Rps.drop _ q2)
  exact(z6P ha h1).early (s1.trans (s2.trans s3))
end
end L2

end
section
local macro_rules|`(tactic|rfl')=>`(tactic|first|lia|omega +splitDisjunctions)
namespace L2
open PySem PySem.Spec PyProof.Rows
def Walk(K:PySem.W.Frag)(J:It)(items:List Dt)(H1:Hp):Prop:=∀(A:List Addr) (H:Hp),Same H1 (hidL A H)->(∀ a∈A,∃ o,H a=some o) ->
 (∀(i:Nat) (d:Dt),items[i]?=some d->J.go i H/\∀ x H',J.yld i H x H'->Same (hidL A H) (hidL A H')/\(∀ a∈A,H' a=H a)/\Rp K emp d (hidL A H') x)/\∀ i,items.length<=i->J.stop i H
abbrev FI:=Rho->Option (List Dt)
def upIK(Y:Ky)(F:FI):TI:=λσ H R=>∃ ρ items,RepS Y H ρ σ/\F ρ=some items/\∀ J H',Same H H'->items.length<=sizeLine->Walk Y.K J items H'->R J H'
abbrev upI(X:Cx)(F:FI):TI:=upIK X.ky F
def PFI(X:Cx)(tg e:Expr)(F:FI):Prop:=PI X tg e (upI X F)
theorem PI.imp{X:Cx}{tg e:Expr}{t t':TI}(h:PI X tg e t)(q:∀ σ H Q,t' σ H Q->t σ H Q):PI X tg e t':=λpins s σ H Q I z=>h pins s σ H Q I (q σ H Q z)
section
variable {X:Cx}{tg a b e:Expr}{Fa Fb Fe:FE}{pos:Pos}
theorem zjG{K:PySem.W.Frag}{p:Addr}{ds:List Dt}{vs:List V}{H1:Hp}(h1:SqL K H1 p vs)(h2:Rps K emp ds H1 vs):Walk K (Itl K p) ds H1:=by
 intro A H sm hA;have s2:Same H1 H:=sm.trans z0B;refine⟨λi d e=>?_,λi hi=>⟨vs,s2.seq h1,by rw[h2.length];exact hi⟩⟩;obtain⟨v,e1,e2⟩:=h2.get e;refine⟨⟨vs,v,s2.seq h1,e1⟩,?_⟩;rintro x H' ⟨z,y⟩;subst z;have hx:=y vs (s2.seq h1);rw[e1]at hx;cases hx;exact⟨Same.refl _,λ_ _=>rfl,Rp.mono _ sm e2⟩
theorem zkM{K:PySem.W.Frag}{p:Addr}{ds:List Dt}{vs:List V}{H1:Hp}(h1:SqT K H1 p vs)(h2:Rps K emp ds H1 vs):Walk K (Itt K p) ds H1:=by
 intro A H sm hA;have s2:Same H1 H:=sm.trans z0B;refine⟨λi d e=>?_,λi hi=>⟨vs,s2.seqT h1,by rw[h2.length];exact hi⟩⟩;obtain⟨v,e1,e2⟩:=h2.get e;refine⟨⟨vs,v,s2.seqT h1,e1⟩,?_⟩;rintro x H' ⟨z,y⟩;subst z;have hx:=y vs (s2.seqT h1);rw[e1]at hx;cases hx;exact⟨Same.refl _,λ_ _=>rfl,Rp.mono _ sm e2⟩
def z2l(lo:Int)(n:Nat):List Dt:=(List.range n).map λ(k:Nat) => .int (lo+(k:Int))
theorem z6l{K:PySem.W.Frag}{lo:Int}{n:Nat}{H1:Hp}:Walk K (Itr lo n) (z2l lo n) H1:=by
 intro A H sm hA;refine⟨λi d e=>?_,λi hi=>by unfold z2l at hi;rw[wo,Wr]at hi;exact hi⟩;unfold z2l at e;rw[wu]at e;have hi:i<n:=by
  by_cases hi:i<n
  · exact hi
  · rw[wN (by simp;rfl')]at e;cases e
 rw[Wz hi]at e;cases e;refine⟨hi,λx H'⟨z,y⟩=>?_⟩;subst z;subst y;exact⟨Same.refl _,λ_ _=>rfl,Rp.int_.mpr rfl⟩
def seqD:Dt->Option (List Dt)
 | .lst ds=>some ds
 | .tup ds=>some ds
 | _=>none
def iSeq(F:FE):FI:=λρ=>(F ρ).bind λx=>seqD x.2
theorem z1o(ha:PF X a Fa):PFI X tg a (iSeq Fa):=by
 intro pins s σ H R I ⟨ρ,items,rs,e0,k⟩;obtain⟨⟨f,d⟩,e1,e2⟩:=z05 e0;refine thn (ha pins s σ H (λx H1=>Same H H1/\Rp X.K emp d H1 x) I ⟨ρ,f,d,rs,e1,λv H1 s1 r1=>⟨s1,r1.sh⟩⟩) λv s1⟨x,H1,I1,r1,sm,rd⟩=>?_;cases d<;>first|cases e2|skip
 · rename_i ds;obtain⟨p,vs,rfl,_,h1,h2⟩:=rd.items;cases r1;obtain⟨its,rv,pl,hz⟩:=I1.list (SqL.of (K:=X.K) h1);refine wpAny_pyIter_list pl.isList ?_;refine⟨s1.heap.objs.size,[s1.heap.objs.size],_,_,H1,rfl,I1.kept (t':=s1.toks) λb o e=>wd _ e,zju p _,⟨_,wy _ rfl,rfl,rfl⟩,λb hb=>?_,k _ H1 sm (by rw[←h2.length];exact hz) (zjG (SqL.of h1) h2)⟩;have e:b=s1.heap.objs.size:=by simpa using hb
   subst e;exact I1.fpOk (wx _) (I1.hok.fresh (wx _))
 · rename_i ds;obtain⟨p,vs,rfl,h1,h2⟩:=Rp.tup_.mp rd;cases r1;obtain⟨its,rv,pl,hz⟩:=I1.tuple h1;refine wpAny_pyIter_tuple (show s1.heap.IsTuple p its.toArray from pl) ?_;refine⟨s1.heap.objs.size,[s1.heap.objs.size],_,_,H1,rfl,I1.kept (t':=s1.toks) λb o e=>wd _ e,zek p _,⟨_,wy _ rfl,rfl,rfl⟩,λb hb=>?_,k _ H1 sm (by rw[←h2.length];exact hz) (zkM h1 h2)⟩;have e:b=s1.heap.objs.size:=by simpa using hb
   subst e;exact I1.fpOk (wx _) (I1.hok.fresh (wx _))
def z2U(i:Int):Bool:=decide (-1000000<=i)&&decide (i<=1000000)
theorem zcf{i:Int}(h:z2U i=true): -1000000<=i/\i<=1000000:=by
 unfold z2U at h;rw[wO]at h;exact⟨of_decide_eq_true h.1,of_decide_eq_true h.2⟩
def z0l(F:FE):FI:=λρ=>(F ρ).bind λx=>(intD x.2).bind λj=>if z2U j then some (z2l 0 j.toNat) else none
theorem z6m{lo:Int}{n:Nat}:(z2l lo n).length=n:=by unfold z2l;simp
theorem z5B{d:Dt}{i:Int}(h:intD d=some i):d = .int i:=by
 cases d<;>first|cases h|skip
 rfl
theorem z1x{p:Pos}(hg:Gl X "range")(hm:X.mg "range" = none)(ha:PF X a Fa)(hs:starEach [a] X.env=[(false,eval a X.env)]:=by rfl):PFI X tg (.Call (.Name "range" p) [a] [] pos) (z0l Fa) :=
 (zaL hg hm (z4f ha z9d hs) hs).imp fun σ H R hZ=>hZ.elim fun ρ hZ=>hZ.elim fun items hZ=>hZ.elim fun rs hZ=>hZ.elim fun e0 k=>by
  obtain⟨⟨f,d⟩,e1,e2⟩:=z05 e0;obtain⟨j,e3,e4⟩:=z05 e2;clear e0 e2;have ed:=z5B e3;cases (show d = .int j from ed);split at e4
  · rename_i hr;cases e4;obtain⟨h1,h2⟩:=zcf hr;refine⟨ρ,f,_,rs,e1,λv H1 s1 r1=>⟨j,by rw[Rp.int_.mp r1.sh],by rfl',by rfl',k _ H1 s1 ?_ z6l⟩⟩;rw[z6m];have:sizeLine=16777216:=rfl;rfl'
  · cases e4
def z8V(F G:FE):FI:=λρ=>(F ρ).bind λx=>(G ρ).bind λy=>(intD x.2).bind λi=>(intD y.2).bind λj=>if z2U i&&z2U j then some (z2l i (j-i).toNat) else none
end
inductive Tg where
 | one (i:Nat)|many (is:List Nat)
def z28:List Nat->TGs
 | []=>gNil
 | i::is=>gCons (z9a i) (z28 is)
def Tg.low(K:PySem.W.Frag):Tg->TG
 | .one i=>z9a i
 | .many is=>gTup K is.length (z28 is)
def z29:Rho->List Nat->List Dt->Rho
 | ρ,i::is,d::ds=>z29 (ρ.set i (.sh false d)) is ds
 | ρ,_,_=>ρ
def Tg.put:Tg->Dt->Rho->Option Rho
 | .one i,d,ρ=>some (ρ.set i (.sh false d))
 | .many is,.tup ds,ρ=>if ds.length=is.length then some (z29 ρ is ds) else none
 | .many _,_,_=>none
def Tg.below(nt:Nat):Tg->Prop
 | .one i=>i<nt
 | .many is=>∀ i∈is,i<nt
def KeepS(nt:Nat)(σ σ':St):Prop:=σ'.length=σ.length/\∀ i,nt<=i->σ'[i]?=σ[i]?
theorem KeepS.refl{nt:Nat}{σ:St}:KeepS nt σ σ:=⟨rfl,λ_ _=>rfl⟩
theorem KeepS.set{nt i:Nat}{σ:St}{v:V}(h:i<nt):KeepS nt σ (σ.set i (some v)):=⟨Wj,λj hj=>We (by rfl')⟩
theorem KeepS.trans{nt:Nat}{a b c:St}(h:KeepS nt a b)(k:KeepS nt b c):KeepS nt a c:=⟨k.1.trans h.1,λi hi=>(k.2 i hi).trans (h.2 i hi)⟩
theorem z8o:∀{is:List Nat} {vs:List V} {σ:St} {H:Hp} {Q Q':St->Hp->Prop},z28 is vs σ H Q->(∀ σ H,Q σ H->Q' σ H)->z28 is vs σ H Q':=by
 intro is
 induction is with
 | nil=>intro vs σ H Q Q' ⟨e,q⟩ k;exact⟨e,k _ _ q⟩
 | cons j js ih=>intro vs σ H Q Q' ⟨v,r,e,q⟩ k;exact⟨v,r,e,ih q k⟩
theorem zaV{nt:Nat}:∀{is:List Nat} {vs:List V} {σ:St} {H:Hp} {Q:St->Hp->Prop},(∀ i∈is,i<nt)->z28 is vs σ H Q->z28 is vs σ H λσ2 H2=>KeepS nt σ σ2/\Q σ2 H2
 | [],vs,σ,H,Q,_,⟨e,q⟩=>⟨e,KeepS.refl,q⟩
 | i::is,vs,σ,H,Q,hi,⟨v,r,e,q⟩=>by
  refine⟨v,r,e,?_⟩;have q:z28 is r (σ.set i (some v)) H Q:=q;have z:=zaV (nt:=nt) (λj hj=>hi j (wa _ hj)) q;show z28 is r (σ.set i (some v)) H _;exact z8o z λσ2 H2⟨k1,k2⟩=>⟨(KeepS.set (hi i wc)).trans k1,k2⟩
theorem Tg.ok{K:PySem.W.Frag}{nt:Nat}{g:Tg}(h:g.below nt):TgOk nt (g.low K):=by
 intro x σ H Q q;cases g with
 | one i=>exact⟨KeepS.set h,q⟩
 | many is =>
  obtain⟨a,xs,e,hq,hl,q⟩:=q;exact⟨a,xs,e,hq,hl,zaV h q⟩
theorem Tg.low_mono{K:PySem.W.Frag}{g:Tg}{v:V}{σ:St}{H:Hp}{Q Q':St->Hp->Prop}(h:g.low K v σ H Q)(k:∀ σ H,Q σ H->Q' σ H):g.low K v σ H Q':=by
 cases g with
 | one i=>exact k _ _ h
 | many is =>
  obtain⟨a,xs,e,hq,hl,q⟩:=h;exact⟨a,xs,e,hq,hl,z8o q k⟩
section
variable {Y:Ky}{H H':Hp}{ρ:Rho}{σ:St}
theorem RepS.set(h:RepS Y H ρ σ){i:Nat}{f:Bool}{d:Dt}{v:V}(r:Rp Y.K (bsOf Y f) d H v):RepS Y H (ρ.set i (.sh f d)) (σ.set i (some v)):=by
 refine⟨by rw[Wj,Wj];exact h.len,h.base,λj c q=>?_⟩;by_cases e:i=j
 · subst e;rw[Wn]at q ⊢;rw[if_pos rfl]at q ⊢;split at q
   · rename_i hl;cases q;rw[if_pos (by rw[←h.len];exact hl)];exact⟨_,rfl,v,rfl,r⟩
   · cases q
 · rw[We e]at q ⊢;exact h.at_ j c q
theorem z9m{Hh:Hp}{ρ':Rho}:∀{is:List Nat} {ds:List Dt} {vs:List V} {ρ:Rho} {σ:St},RepS Y Hh ρ σ->Rps Y.K emp ds Hh vs->ds.length=is.length->z29 ρ is ds=ρ' ->
  z28 is vs σ H λσ' H'=>H'=H/\RepS Y Hh ρ' σ'
 | [],[],vs,ρ,σ,rs,r,hl,q=>⟨Rps.nil_.mp r,rfl,by rw[←q];exact rs⟩
 | [],d::ds,vs,ρ,σ,rs,r,hl,q=>by cases hl
 | i::is,[],vs,ρ,σ,rs,r,hl,q=>by cases hl
 | i::is,d::ds,vs,ρ,σ,rs,r,hl,q=>by
  obtain⟨v,r',rfl,h1,h2⟩:=Rps.cons_.mp r;exact⟨v,r',rfl,z9m (rs.set (f:=false) h1) h2 (by simpa using hl) q⟩
theorem Tg.sim{Hh:Hp}{g:Tg}{d:Dt}{v:V}{ρ':Rho}(sm:Same Hh H)(rs:RepS Y Hh ρ σ)(r:Rp Y.K emp d Hh v)(h:g.put d ρ=some ρ'):
  g.low Y.K v σ H λσ' H'=>H'=H/\RepS Y Hh ρ' σ':=by
 cases g with
 | one i=>cases h;exact⟨rfl,rs.set (f:=false) r⟩
 | many is =>
  cases d<;>first|cases h|skip
  rename_i ds;replace h:(if ds.length=is.length then some (z29 ρ is ds) else none)=some ρ':=h;split at h
  · rename_i hl;obtain⟨a,vs,rfl,h1,h2⟩:=Rp.tup_.mp r;exact⟨a,vs,rfl,sm.seqT h1,by rw[h2.length];exact hl,z9m rs h2 hl (Option.some.inj h)⟩
  · cases h
end
section
variable {X:Cx}{pos:Pos}
theorem z3y{i:Nat}{x:Str}(hN:X.N.Nodup)(hi:X.N[i]?=some x)(hx:Loc X.env.scope x)(hf:X.fn x=true\/X.env.scope.names.lookup x=some .local):PG X (.Name x pos) ((Tg.one i).low X.K):=z0t hN hi hx hf
theorem z2a:PGs X [] (z28 []):=zo8
theorem z0u{e:Expr}{es:List Expr}{i:Nat}{is:List Nat}(h1:PG X e (z9a i))(h2:PGs X es (z28 is))(hs:(assignEach (e::es) X.env).map (·.2)=assign e X.env::(assignEach es X.env).map (·.2):=by rfl):PGs X (e::es) (z28 (i::is)):=zkn h1 h2 hs
theorem z2b{es:List Expr}{k:Nat}{is:List Nat}(hc:X.calm=true)(h:PGs X es (z28 is))(hn:(assignEach es X.env).length=is.length:=by rfl)(hst:(assignEach es X.env).findIdx? (·.1)=none:=by rfl):PG X (.Tuple es k pos) ((Tg.many is).low X.K):=pg_tup hc h hn hst
end
def z4V(g:Tg)(Fc:FT)(Fe:FE)(ρ0:Rho):List Dt->Option (List Dv)
 | []=>some []
 | x::xs=>(g.put x ρ0).bind λρ1=>(Fc ρ1).bind λb=>if b then(Fe ρ1).bind λv=>(z4V g Fc Fe ρ0 xs).bind λr=>some (v::r) else z4V g Fc Fe ρ0 xs
def z6S:Cell->Cell
 | .no => .no
 | .ex => .no
 | .sh _ d => .sh false d
 | .ow _ ds => .sh false (.lst ds)
def sigD(nt:Nat)(js:List Nat)(ρ:Rho):Rho:=List.replicate nt Cell.no++js.map λj=>match ρ[j]? with|some c=>z6S c|none => .no
def z0b(nt:Nat)(js:List Nat)(Fi:FI)(g:Tg)(Fc:FT)(Fe:FE):FE:=λρ=>(Fi ρ).bind λitems=>(z4V g Fc Fe (sigD nt js ρ) items).bind λvs=>some (if z2T vs then .nw else .tn,.lst (sndL vs))
theorem z7D{g:Tg}{Fc:FT}{Fe:FE}{ρ0:Rho}:∀{xs:List Dt} {vs:List Dv},z4V g Fc Fe ρ0 xs=some vs->vs.length<=xs.length
 | [],vs,h=>by cases h;exact wx _
 | x::xs,vs,h=>by
  unfold z4V at h;obtain⟨ρ1,_,h⟩:=z05 h;obtain⟨b,_,h⟩:=z05 h;split at h
  · obtain⟨v,_,h⟩:=z05 h;obtain⟨r,h1,h⟩:=z05 h;cases h;have:=z7D h1;rw[wj,wj];rfl'
  · have:=z7D h;rw[wj];rfl'
def PFTs(X:Cx)(ifs:List Expr)(F:FT):Prop:=PTs X ifs (upB X F)
def fYes:FT:=λ_=>some true
theorem z2m{X:Cx}:PFTs X [] fYes:=λpins s σ H Q I⟨ρ,b,rs,e,k⟩=>by cases e;exact zol pins s σ H Q I (k H (Same.refl H))
theorem zet{X:Cx}{c:Expr}{F:FT}(h:PFT X c F):PFTs X [c] F:=zom h
theorem RpC.shS{Y:Ky}{H H1:Hp}{c:Cell}{o:Option V}(h:RpC Y H c o):RpC ⟨Y.K,H1⟩ H (z6S c) o:=by
 cases c with
 | no=>trivial
 | ex=>trivial
 | sh f d=>obtain⟨v,q,r⟩:=h;exact⟨v,q,Rp.anti Same.emp d r⟩
 | ow f ds=>obtain⟨v,q,r⟩:=h;exact⟨v,q,Rp.anti Same.emp _ r⟩
theorem RepS.sigs{Y:Ky}{H H1:Hp}{ρ:Rho}{σ:St}{nt:Nat}{js:List Nat}(h:RepS Y H ρ σ)(hj:∀ j∈js,j<σ.length)(h1:Same H1 H):RepS ⟨Y.K,H1⟩ H (sigD nt js ρ) (sig nt js σ):=by
 unfold sigD sig;refine⟨by simp,h1,λi c q=>?_⟩;by_cases hi:i<nt
 · rw[wY (by simpa using hi),W8,if_pos hi]at q;cases q;exact⟨none,by rw[wY (by simpa using hi),W8,if_pos hi],trivial⟩
 · rw[W7 (by simp;rfl'),Wo,wu]at q;rw[W7 (by simp;rfl'),Wo,wu];cases ej:js[i-nt]? with
   | none=>rw[ej]at q;cases q
   | some j =>
    rw[ej]at q;have hlt:=hj j (WZ ej);have hlt':j<ρ.length:=by rw[h.len];exact hlt
    rw[VU,w8 hlt']at q;cases q;obtain⟨o,e1,e2⟩:=h.at_ j _ (w8 hlt');refine⟨o,?_,e2.shS⟩;rw[VU,e1];rfl
def frE(t:Hp->TE)(H1:Hp):TE:=λσ H Q=>∃ A:List Addr,(∀ a∈A,(∃ vs,H a=some (.lst vs))/\H1 a=none)/\t H1 σ (hidL A H) λv H'=>(∀ a∈A,H' a=none)->Q v (z1b A H H')
def frT(t:Hp->TT)(H1:Hp):TT:=λσ H Q=>∃ A:List Addr,(∀ a∈A,(∃ vs,H a=some (.lst vs))/\H1 a=none)/\t H1 σ (hidL A H) λv H'=>(∀ a∈A,H' a=none)->Q v (z1b A H H')
theorem PTs.frame{Y:Cx}{ifs:List Expr}{t:Hp->TT}(h:PTs Y ifs (t Y.H₀)):PTs Y ifs (frT t Y.H₀):=by
 intro pins s σ H Q I ⟨A,hA,z⟩;refine thn (h _ s σ _ _ (I.hide hA) z) ?_;rintro u s' ⟨H',J,q⟩;obtain⟨hn,J'⟩:=I.unhide hA J;exact⟨_,J',q hn⟩
theorem zcg{D:Addr}{H:Hp}{o:HO}:hidL [D] (upd H D o)=hidL [D] H:=funext λb=>by
 by_cases q:b=D
 · subst q;rw[z2A (by simp),z2A (by simp)]
 · rw[z0j (by simpa using q),z0j (by simpa using q),z0r q]
theorem zkN{D:Addr}{H:Hp}(h:H D=none):hidL [D] H=H:=funext λb=>by
 by_cases q:b=D
 · subst q;rw[z2A (by simp),h]
 · rw[z0j (by simpa using q)]
section
variable {X:Cx}{N:List Str}{scope:Scope}{nt:Nat}{js:List Nat}{tg elt iter:Expr}{ifs:List Expr}{Fi:FI}{g:Tg}{Fc:FT}{Fe:FE}{pos:Pos}
theorem RpFs.append{Y:Ky}{H H':Hp}:∀{xs ys:List Dv} {vs ws:List V},RpFs Y H xs H' vs->RpFs Y H ys H' ws->RpFs Y H (xs++ys) H' (vs++ws)
 | [],ys,vs,ws,h,h'=>by rw[show vs=[]from h];exact h'
 | x::xs,ys,vs,ws,⟨v,r,e,h1,h2⟩,h'=>⟨v,r++ws,by rw[e];rfl,h1,RpFs.append h2 h'⟩
def RpE(Y:Ky)(x:Dv)(H':Hp)(v:V):Prop:=if x.1.isFr then Rp Y.K Y.H₀ x.2 H' v else Rp Y.K emp x.2 H' v
def RpEs(Y:Ky):List Dv->Hp->List V->Prop
 | [],_,vs=>vs=[]
 | x::xs,H',vs=>∃ v r,vs=v::r/\RpE Y x H' v/\RpEs Y xs H' r
theorem RpE.of{Y:Ky}{H H':Hp}{x:Dv}{v:V}(h0:Same Y.H₀ H)(h:RpF Y H x.1 x.2 H' v):RpE Y x H' v:=by
 unfold RpE;by_cases q:x.1.isFr=true
 · rw[if_pos q];exact h.fr h0 q
 · rw[if_neg q];exact h.sh
theorem RpE.mono{Y:Ky}{H H':Hp}{x:Dv}{v:V}(h:RpE Y x H v)(s:Same H H'):RpE Y x H' v:=by
 unfold RpE at h ⊢;by_cases q:x.1.isFr=true
 · rw[if_pos q]at h ⊢;exact Rp.mono _ s h
 · rw[if_neg q]at h ⊢;exact Rp.mono _ s h
theorem RpEs.mono{Y:Ky}{H H':Hp}(s:Same H H'):∀{xs:List Dv} {vs:List V},RpEs Y xs H vs->RpEs Y xs H' vs
 | [],vs,h=>h
 | x::xs,vs,⟨v,r,e,h1,h2⟩=>⟨v,r,e,h1.mono s,RpEs.mono s h2⟩
theorem RpEs.append{Y:Ky}{H':Hp}:∀{xs ys:List Dv} {vs ws:List V},RpEs Y xs H' vs->RpEs Y ys H' ws->RpEs Y (xs++ys) H' (vs++ws)
 | [],ys,vs,ws,h,h'=>by rw[show vs=[]from h];exact h'
 | x::xs,ys,vs,ws,⟨v,r,e,h1,h2⟩,h'=>⟨v,r++ws,by rw[e];rfl,h1,RpEs.append h2 h'⟩
theorem RpEs.length{Y:Ky}{H':Hp}:∀{xs:List Dv} {vs:List V},RpEs Y xs H' vs->vs.length=xs.length
 | [],vs,h=>by rw[show vs=[]from h];rfl
 | x::xs,vs,⟨v,r,e,_,h2⟩=>by rw[e,wj,wj,RpEs.length h2]
theorem RpEs.sh{Y:Ky}{H':Hp}:∀{xs:List Dv} {vs:List V},RpEs Y xs H' vs->Rps Y.K emp (sndL xs) H' vs
 | [],vs,h=>Rps.nil_.mpr h
 | x::xs,vs,⟨v,r,e,h1,h2⟩=>by
  refine Rps.cons_.mpr ⟨v,r,e,?_,RpEs.sh h2⟩;unfold RpE at h1;split at h1
  · exact Rp.anti Same.emp _ h1
  · exact h1
theorem RpEs.fr{Y:Ky}{H':Hp}:∀{xs:List Dv} {vs:List V},z2T xs=true->RpEs Y xs H' vs->Rps Y.K Y.H₀ (sndL xs) H' vs
 | [],vs,_,h=>Rps.nil_.mpr h
 | x::xs,vs,q,⟨v,r,e,h1,h2⟩=>by
  unfold z2T at q;rw[wO]at q;refine Rps.cons_.mpr ⟨v,r,e,?_,RpEs.fr q.2 h2⟩;unfold RpE at h1;rw[if_pos q.1]at h1;exact h1
theorem ziE{σ:St}{H:Hp}{Q:VK}(hj:∀ j∈js,j<σ.length)(h:upF X (z0b nt js Fi g Fc Fe) σ H Q):
   ziz nt js (upI X Fi) (g.low X.K) (frT λH1=>upBK ⟨X.K,H1⟩ Fc) (frE λH1=>upK ⟨X.K,H1⟩ Fe) σ H Q:=by
 obtain⟨ρ,f,d,rs,e0,k⟩:=h;obtain⟨items,ei,e1⟩:=z05 e0;obtain⟨vs0,ec,e2⟩:=z05 e1;cases e2;clear e0 e1;refine⟨ρ,items,rs,ei,λJ H1 sm hsz wk D hD=>?_⟩;have nD:H D=none:=sm.free hD;refine⟨λi m ys H2=>m=items.length-i/\H2 D=some (.lst ys)/\Same H1 (hidL [D] H2)/\∃ ds rest,RpEs ⟨X.K,H1⟩ ds (hidL [D] H2) ys/\z4V g Fc Fe (sigD nt js ρ) (items.drop i)=some rest/\ds++rest=vs0,⟨_,rfl,z0V,?_,[],vs0,rfl,ec,rfl⟩,?_⟩
 · rw[zcg,zkN hD];exact Same.refl _
 rintro i m ys H2 ⟨rfl,e2,s2,ds,rest,r2,c2,es⟩;obtain⟨w1,w2⟩:=wk [D] H2 s2 (λa ha=>by rw[wP.mp ha];exact⟨_,e2⟩);by_cases hlt:i<items.length
 · obtain⟨x,hx⟩:∃ x,items[i]?=some x:=⟨_,w8 hlt⟩;have hdrop:items.drop i=x::items.drop (i+1):=by
     rw[v7 hlt];rw[w8 hlt]at hx;cases hx;rfl
   rw[hdrop]at c2;unfold z4V at c2;obtain⟨ρ1,p1,c3⟩:=z05 c2;obtain⟨b,p2,c4⟩:=z05 c3;obtain⟨go,yl⟩:=w1 i x hx;refine .inr ⟨go,λxv H3 y3=>?_⟩;obtain⟨s3,k3,r3⟩:=yl xv H3 y3;have e3:H3 D=some (.lst ys):=by rw[k3 D (by simp)];exact e2
   have s13:Same H1 (hidL [D] H3):=s2.trans s3;refine Tg.low_mono (Tg.sim (Y:=⟨X.K,H1⟩) (Hh:=hidL [D] H3) z0B ((rs.mono (sm.trans s13)).sigs hj s13) r3 p1) ?_;rintro σ4 H4 ⟨eH,rs4⟩;subst eH;have own:∀{H':Hp},H' D=some (.lst ys)->∀ a∈[D],(∃ vs,H' a=some (.lst vs))/\H1 a=none:=λ{H'} z a ha=>by
     rw[wP.mp ha];exact⟨⟨ys,z⟩,hD⟩
   refine⟨[D],own e3,ρ1,b,rs4,p2,λH5 s5 n5=>?_⟩;have h5:hidL [D] (z1b [D] H4 H5)=H5:=z3f n5;have e5:z1b [D] H4 H5 D=some (.lst ys):=by rw[z5y (by simp)];exact e3
   have m5:items.length-(i+1)<items.length-i:=by rfl'
   dsimp only;cases b with
   | true =>
     rw[if_pos rfl]at c4 ⊢;obtain⟨⟨fv,dv⟩,p3,c5⟩:=z05 c4;obtain⟨rest',p4,c6⟩:=z05 c5;cases c6;have rs5:RepS ⟨X.K,H1⟩ H5 ρ1 σ4:=rs4.mono s5;refine⟨[D],own e5,ρ1,fv,dv,by rw[h5];exact rs5,p3,λv H6 s6 r6 n6=>?_⟩;rw[h5]at s6 r6;have h6:hidL [D] (z1b [D] (z1b [D] H4 H5) H6)=H6:=z3f n6;have r2':RpEs ⟨X.K,H1⟩ ds H6 ys:=r2.mono (s3.trans (s5.trans s6));have hlen:ys.length<sizeLine:=by
       have a1:=z7D ec;have a2:=r2.length;rw[←es,wI,wj]at a1;rfl'
     refine⟨by rw[z5y (by simp)];exact e5,hlen,_,m5,rfl,z0V,?_,ds++[(fv,dv)],rest',?_,p4,by rw[WL];exact es⟩
     · rw[zcg,h6];exact s13.trans (s5.trans s6)
     · rw[zcg,h6];exact r2'.append ⟨v,[],rfl,RpE.of rs5.base r6,rfl⟩
   | false =>
     rw[if_neg wX]at c4 ⊢;refine⟨_,m5,rfl,e5,?_,ds,rest,?_,c4,es⟩
     · rw[h5];exact s13.trans s5
     · rw[h5];exact r2.mono (s3.trans s5)
 · have hd:items.drop i=[]:=WB (by rfl');rw[hd]at c2;cases c2;rw[vc]at es;subst es;refine .inl ⟨w2 i (by rfl'),k _ H2 (sm.trans (s2.trans z0B)) ?_⟩;by_cases q:z2T ds=true
   · rw[if_pos q];exact(Rp.lst_ (K:=X.K) (B:=H)).mpr ⟨D,ys,rfl,nD,e2,Rps.anti (show Same H H1 from sm) _ (r2.fr q)⟩
   · rw[if_neg q];exact⟨Rp.lst_.mpr ⟨D,ys,rfl,rfl,e2,r2.sh⟩,⟨_,rfl⟩,λa e=>by cases e;exact nD⟩
theorem z2c(S:CompScope X N scope nt js)(hc:X.calm=true)(hi:PFI X tg iter Fi)(hg:∀ cl C fp s H,PG (z0M X N scope cl C fp s H) tg (g.low X.K))(hb:g.below nt)
  (hcs:∀ cl C fp s H,PFTs (z0M X N scope cl C fp s H) ifs Fc) (he:∀ cl C fp s H,PF (z0M X N scope cl C fp s H) elt Fe) (hj:∀ j∈js,j<X.N.length)
  (hs:∀ x,foldedSetIterable iter X.env x=pure x:=by intro _;rfl):PF X (.ListComp elt [⟨tg,iter,ifs,0⟩] scope pos) (z0b nt js Fi g Fc Fe):=by
 intro pins s σ H Q I h;exact zon S hc hi hg (Tg.ok hb) (λcl C fp s H=>PTs.frame (t:=λH1=>upBK ⟨X.K,H1⟩ Fc) (hcs cl C fp s H)) (λcl C fp s H=>PE.frame (he cl C fp s H)) hs pins s σ H Q I (ziE (λj z=>by rw[I.len];exact hj j z) h)
end
end L2

end
section
namespace L2
open PySem PySem.Spec PySem.W PyProof.Rows
def Fly(h0:Heap)(H:Hp)(e C:Addr)(h:Heap):Prop :=
 h0.get? e=none/\H e=none/\∃ oe vs T oT ts a0,h.get? e=some oe/\oe.cls = .ref C/\vs[0]?=some a0/\oe.data = .fields vs/\vs[1]?=some (.ref T)/\h0.get? T=none/\H T=none/\T≠e/\h.get? T=some oT/\oT.data = .fields ts/\ts[3]?=some .none
theorem zov{l:List Env}{env:Env}{a:Addr}(h:env∈l)(e:env.frame=some a):a∈frs l:=Wv.mpr ⟨env,h,e⟩
theorem UpToSlots.trans{h h1 h2:Heap}(a:h.UpToSlots h1)(b:h1.UpToSlots h2):h.UpToSlots h2:=λc o e n=>by
 obtain⟨sl,e1⟩:=a c o e n;obtain⟨sl2,e2⟩:=b c _ e1 n;exact⟨sl2,e2⟩
section
variable {P:Program}{w:World}{fs ex:List Addr}{H0 H:Hp}{h0 h h':Heap}{l:List Env}{bas:Heap}{e C:Addr}
theorem un_fly(u:Un fs ex H0 H h0 h)(k:∀ b o o',h0.get? b=some o->h.get? b=some o'->b ∉ frs l->h'.get? b=some o')(sl:∀ b∈frs l,∀ o,h.get? b=some o->∃ z,h'.get? b=some { o with slots:=z })
  (hf:∀ b∈frs l,b∈fs\/h0.get? b=none):Un fs ex H0 H h0 h' where
 keep:=λb o q n hb hx=>k b o o q (u.keep b o q n hb hx) λz=>(hf b z).elim hb λe=>by rw[e]at q;cases q
 slot:=λb o q n hb hx=>by
  obtain⟨z,e⟩:=u.slot b o q n hb hx;by_cases m:b∈frs l
  · obtain⟨z',e'⟩:=sl b m _ e;exact⟨z',e'⟩
  · exact⟨z,k b o _ q e m⟩
 free:=u.free
 there:=λb o q hx=>by
  obtain⟨o',e⟩:=u.there b o q hx;by_cases m:b∈frs l
  · obtain⟨z',e'⟩:=sl b m _ e;exact⟨_,e'⟩
  · exact⟨_,k b o _ q e m⟩
 tups:=u.tups
 frzs:=u.frzs
 tbls:=u.tbls
theorem ObjOk.obj{a:Addr}{o:HO}(x:ObjOk P w H h a o):∃ ob,h.get? a=some ob:=by
 cases o with
 | lst xs=>obtain⟨_,_,_,_,e⟩:=x;exact⟨_,e⟩
 | tup xs=>obtain⟨_,_,_,_,e,_⟩:=x;exact⟨_,e⟩
 | dK kvs=>obtain⟨_,_,_,_,o,_,_,e,_⟩:=x;exact⟨_,e⟩
 | dT kvs=>obtain⟨_,_,_,_,o,_,_,e,_⟩:=x;exact⟨_,e⟩
 | set S n=>obtain⟨o,_,_,_,e,_⟩:=x;exact⟨_,e⟩
 | ins C dx fs=>obtain⟨_,_,_,e,_⟩:=x;exact⟨_,e⟩
 | own y=>obtain⟨_,e⟩:=x;exact⟨_,e⟩
 | xd fs=>obtain⟨_,⟨_,_,_,e,_⟩,_⟩:=x;exact⟨_,e⟩
 | rng lo hi=>obtain⟨_,_,_,e⟩:=x;exact⟨_,e⟩
 | frz ob u=>obtain⟨e,_⟩:=x;exact⟨_,e⟩
 | tbl ps=>exact⟨_,show h.get? a=some _ from x⟩
 | met f y=>exact⟨_,show h.get? a=some _ from x⟩
 | ext φ=>obtain⟨_,⟨_,e⟩,_⟩:=x;exact⟨_,e⟩
theorem zow(hok:HOk P w H h)(k:∀ b o,H b≠none->h.get? b=some o->h'.get? b=some o):HOk P w H h':=λb ob e =>
 (hok b ob e).stay (fun c v hc q=>k c v (by
  rcases hc with rfl|hc
  · rw[e];exact λz=>nomatch z
  · rw[hc];exact λz=>nomatch z) q) (λ_ q=>q) λ_ _ q=>q
theorem Fly.base(f:Fly h0 H e C h)(ff:h.FunFrames bas l):∃ T a0,h0.get? T=none/\H T=none/\(hideAll h (e::T::frs l)).FlyingW l e (.ref C) a0 h:=by
 obtain⟨n,n2,oe,vs,T,oT,ts,a0,q1,q2,q3,q4,q5,q6,q7,q8,q9,q10,q11⟩:=f;refine⟨T,a0,q6,q7,λb o z=>of_hideAll _ z,hideAll_none _ (by simp),funFrames_hide ff λenv he a ea=>by simp[zov he ea],oe,vs,T,oT,ts,q1,⟨q2,q3⟩,q4,q5,hideAll_none _ (by simp),q8,q9,q10,q11⟩
theorem Fly.step{T:Addr}{l':List Env}{a0:Value}(n:h0.get? e=none)(n2:H e=none)(n3:h0.get? T=none)(n4:H T=none)(ff:h.FunFrames bas l)(st:∀ b∈frs l,H b=none)(hok:HOk P w H h)(u:Un fs ex H0 H h0 h)
   (f:(hideAll h (e::T::frs l)).FlyingW l' e (.ref C) a0 h') (us:h.UpToSlots h') (hf:∀ b∈frs l,b∈fs\/h0.get? b=none) (hx:∀ b o,h0.get? b=some o->b ∉ ex):Fly h0 H e C h'/\HOk P w H h'/\Un fs ex H0 H h0 h':=by
 have sl:∀ b∈frs l,∀ o,h.get? b=some o->∃ z,h'.get? b=some { o with slots:=z }:=λb hb o q=>by
   obtain⟨_,o',q',nf⟩:=ff.mem hb;rw[q]at q';cases q';exact us b o q nf
 have k:∀ b o,h.get? b=some o->b ∉ (e::T::frs l)->h'.get? b=some o:=λb o q m=>f.1 b o (hideAll_get _ q m);obtain⟨s1,s2,s3,oe,vs,T',oT,ts,q1,⟨q2,q3⟩,q4,q5,q6,q7,q8,q9,q10⟩:=f;have hT:T'=T\/h.get? T'=none:=by
   by_cases m:T'∈(e::T::frs l)
   · rcases wn.mp m with z|m
     · exact absurd z q7
     · rcases wn.mp m with z|m
       · exact .inl z
       · obtain⟨_,o,e1,nf⟩:=ff.mem m;obtain⟨z,e2⟩:=sl T' m o e1;rw[q8]at e2;cases e2;exact absurd q9 (nf ts)
   · refine .inr ?_;cases z:h.get? T' with
     | none=>rfl
     | some o=>rw[hideAll_get _ z m]at q6;cases q6
 refine⟨⟨n,n2,oe,vs,T',oT,ts,a0,q1,q2,q3,q4,q5,?_,?_,q7,q8,q9,q10⟩,zow hok λb o hb q=>k b o q λm=>?_,un_fly u (λb o o' q q' m=>k b o' q' λz=>?_) sl hf⟩
 · rcases hT with z|z
   · rw[z];exact n3
   · cases y:h0.get? T' with
     | none=>rfl
     | some o=>obtain⟨o',e'⟩:=u.there T' o y (hx T' o y);rw[z]at e';cases e'
 · rcases hT with z|z
   · rw[z];exact n4
   · cases y:H T' with
     | none=>rfl
     | some o =>
       obtain⟨ob,q⟩:=(hok T' o y).obj;rw[z]at q;cases q
 · rcases wn.mp m with z|m
   · exact hb (z ▸ n2)
   · rcases wn.mp m with z|m
     · exact hb (z ▸ n4)
     · exact hb (st b m)
 · rcases wn.mp z with z|z
   · rw[z,n]at q;cases q
   · rcases wn.mp z with z|z
     · rw[z,n3]at q;cases q
     · exact m z
end
def CX1(P:Program)(w:World):CXT:=λouter H s E e s' =>
 ∃ ea C H',e = .ref ea/\s'.os=s.os/\AllBare s'.gens/\Un (frs outer) [] H H' s.heap s'.heap/\HOk P w H' s'.heap/\Fly s.heap H' ea C s'.heap/\E (.ref C) none H'
section
variable {P:Program}{w:World}{K:PySem.W.Frag}{mg:Str->Option Value}{base:Heap}{N:List Str}{qual:Str}{scope:Scope}{f:Addr}{cd:Value}{A:Around}{outer:List Env}{s₀:Shared}{H₀:Hp}{E:XK}
end
def exN:Nat->Str
 | 0 => "HallError"
 | 1 => "NoHall"
 | 2 => "NoBasket"
 | 3 => "NoPlace"
 | 4 => "NoText"
 | 5 => "Unlike"
 | 6 => "TooMany"
 | _ => "NotWithin"
def XOk(X:Cx)(H₀:Hp)(C:Addr):Prop:=∃ E:XK,(∀ H,Same H₀ H->E (.ref C) none H)/\zc7 (CX1 X.prog X.w) X E /\
 ∀(pins:List (Addr×Obj)) (σ:St) (H:Hp) (s s':Shared) (ea:Addr) (args:List Value),Inv X pins σ H s->s.heap.MadeExcOf s'.heap ea (.ref C) args->s'.os=s.os->s'.gens=s.gens->E (.ref C) none H->X.xe (.ref ea) s'
theorem XOk.base{X:Cx}{H₀ H1:Hp}{C:Addr}(h:XOk X H₀ C)(s:Same H₀ H1):XOk X H1 C:=by
 obtain⟨E,a,b,c⟩:=h;exact⟨E,λH z=>a H (s.trans z),b,c⟩
end L2

end
section
local macro_rules|`(tactic|rfl')=>`(tactic|first|lia|omega +splitDisjunctions)
namespace L2
open PySem PySem.Spec PyProof.Rows
abbrev Own:=List (Nat×Addr)
abbrev Own.adr(O:Own):List Addr:=O.map (·.2)
def CellB(X:Cx)(H:Hp)(O:Own)(i:Nat):Cell->Option V->Prop
 | .no,_=>True
 | .ex,o=>∃ a φ,o=some (.ref a)/\hidL O.adr H a=some (.ext φ)/\∀ h,φ h->ExcAt X.K a h
 | .sh f d,o=>∃ v,o=some v/\Rp X.K (bsOf X.ky f) d (hidL O.adr H) v
 | .ow f ds,o=>∃ a vs,(i,a)∈O/\o=some (.ref a)/\H a=some (.lst vs)/\Rps X.K (bsOf X.ky f) ds (hidL O.adr H) vs
structure RepO(X:Cx)(H₀ H:Hp)(O:Own)(ρ:Rho)(σ:St):Prop where
 ndA:O.adr.Nodup
 ndI:(O.map (·.1)).Nodup
 own:OwnL X O.adr H
 len:ρ.length=σ.length
 b0:Same X.H₀ H₀
 same:Same H₀ (hidL O.adr H)
 at_:∀(i:Nat) (c:Cell),ρ[i]?=some c->∃ o,σ[i]?=some o/\CellB X H O i c o
def RepB(X:Cx)(H₀ H:Hp)(ρ:Rho)(σ:St):Prop:=∃ O,RepO X H₀ H O ρ σ
def z4W:Cell->Cell
 | .ow _ _ => .no
 | c=>c
def z1y:Rho->Rho
 | []=>[]
 | c::ρ=>z4W c::z1y ρ
theorem zaW:∀ ρ:Rho,z1y ρ=ρ.map z4W
 | []=>rfl
 | c::ρ=>by rw[z1y,zaW ρ,wv]
section
variable {X:Cx}{H₀ H H':Hp}{O:Own}{ρ:Rho}{σ:St}
theorem RepO.mono(h:RepO X H₀ H O ρ σ)(sm:Same H H'):RepO X H₀ H' O ρ σ:=by
 refine⟨h.ndA,h.ndI,λa ha=>?_,h.len,h.b0,h.same.trans (z1F sm),λi c e=>?_⟩
 · obtain⟨⟨vs,q⟩,z⟩:=h.own a ha;exact⟨⟨vs,sm _ _ q⟩,z⟩
 · obtain⟨o,e1,e2⟩:=h.at_ i c e;refine⟨o,e1,?_⟩;cases c with
   | no=>trivial
   | ex=>obtain⟨a,φ,q,r,z⟩:=e2;exact⟨a,φ,q,z1F sm _ _ r,z⟩
   | sh f d=>obtain⟨v,q,r⟩:=e2;exact⟨v,q,Rp.mono _ (z1F sm) r⟩
   | ow f ds=>obtain⟨a,vs,q1,q2,q3,r⟩:=e2;exact⟨a,vs,q1,q2,sm _ _ q3,Rps.mono _ (z1F sm) r⟩
theorem RepO.base(h:RepO X H₀ H O ρ σ){H1:Hp}(sm:Same H1 H₀)(b:Same X.H₀ H1):RepO X H1 H O ρ σ:=⟨h.ndA,h.ndI,h.own,h.len,b,sm.trans h.same,h.at_⟩
theorem RepO.below(h:RepO X H₀ H O ρ σ):Same X.H₀ H:=h.b0.trans (h.same.trans z0B)
theorem RepO.bsFree(h:RepO X H₀ H O ρ σ){a:Addr}(ha:a∈O.adr)(f:Bool):bsOf X.ky f a=none:=by
 cases f with
 | false=>rfl
 | true=>exact(h.own a ha).2
theorem z4o{i:Nat}{a:Addr}(h:(i,a)∈O):a∈O.adr:=wf.mpr ⟨_,h,rfl⟩
theorem RepO.all(h:RepO X H₀ H O ρ σ):RepS X.ky H ρ σ:=by
 refine⟨h.len,h.below,λi c e=>?_⟩;obtain⟨o,e1,e2⟩:=h.at_ i c e;refine⟨o,e1,?_⟩;cases c with
 | no=>trivial
 | ex=>obtain⟨a,φ,q,r,z⟩:=e2;exact⟨a,φ,q,z0B _ _ r,z⟩
 | sh f d=>obtain⟨v,q,r⟩:=e2;exact⟨v,q,Rp.mono _ z0B r⟩
 | ow f ds =>
  obtain⟨a,vs,q1,q2,q3,r⟩:=e2;exact⟨_,q2,Rp.lst_.mpr ⟨a,vs,rfl,h.bsFree (z4o q1) f,q3,Rps.mono _ (z3R λb hb=>by rw[wP.mp hb];exact z4o q1) r⟩⟩
theorem RepO.rest(h:RepO X H₀ H O ρ σ):RepS X.ky (hidL O.adr H) (z1y ρ) σ:=by
 rw[zaW];refine⟨by rw[wo];exact h.len,h.b0.trans h.same,λi c e=>?_⟩;rw[wu]at e;cases q:ρ[i]? with
 | none=>rw[q]at e;cases e
 | some c' =>
  rw[q]at e;obtain⟨o,e1,e2⟩:=h.at_ i c' q;refine⟨o,e1,?_⟩;cases c' with
  | no=>cases e;trivial
  | ex=>cases e;exact e2
  | sh f d=>cases e;obtain⟨v,q,r⟩:=e2;exact⟨v,q,r⟩
  | ow f ds=>cases e;trivial
def z3T(O:Own)(i:Nat):Own:=O.filter λp=>p.1 != i
theorem z2n{p:Nat×Addr}{i:Nat}:p∈z3T O i↔p∈O/\p.1≠i:=by
 unfold z3T;rw[W3];simp
theorem z1G{i:Nat}:∀ a∈(z3T O i).adr,a∈O.adr:=λa ha=>by
 obtain⟨p,hp,e⟩:=wf.mp ha;exact wf.mpr ⟨p,(z2n.mp hp).1,e⟩
theorem RepO.set(h:RepO X H₀ H O ρ σ){i:Nat}{f:Bool}{d:Dt}{v:V}(r:Rp X.K (bsOf X.ky f) d (hidL O.adr H) v):RepO X H₀ H (z3T O i) (ρ.set i (.sh f d)) (σ.set i (some v)):=by
 have sm:Same (hidL O.adr H) (hidL (z3T O i).adr H):=z3R z1G;refine⟨h.ndA.sublist (List.Sublist.map _ (Wm)),h.ndI.sublist (List.Sublist.map _ (Wm)),λa ha=>h.own a (z1G a ha),by rw[Wj,Wj];exact h.len,h.b0,h.same.trans sm,λj c q=>?_⟩;by_cases e:i=j
 · subst e;rw[Wn,if_pos rfl]at q;rw[Wn,if_pos rfl];split at q
   · rename_i hl;cases q;rw[if_pos (by rw[←h.len];exact hl)];exact⟨_,rfl,v,rfl,Rp.mono _ sm r⟩
   · cases q
 · rw[We e]at q ⊢;obtain⟨o,e1,e2⟩:=h.at_ j c q;refine⟨o,e1,?_⟩;cases c with
   | no=>trivial
   | ex=>obtain⟨a,φ,q,r,z⟩:=e2;exact⟨a,φ,q,sm _ _ r,z⟩
   | sh f d=>obtain⟨v,q,r⟩:=e2;exact⟨v,q,Rp.mono _ sm r⟩
   | ow f ds=>obtain⟨a,vs,q1,q2,q3,r⟩:=e2;exact⟨a,vs,z2n.mpr ⟨q1,λz=>e z.symm⟩,q2,q3,Rps.mono _ sm r⟩
theorem z9n{D:Addr}{A:List Addr}{H:Hp}:hidL A (hidL [D] H)=hidL (D::A) H:=funext λb=>by
 unfold hidL;by_cases q1:b=D
 · subst q1;simp
 · by_cases q2:b∈A
   · simp[q1,q2]
   · simp[q1,q2]
theorem RepO.setNew(h:RepO X H₀ H' O ρ σ){i:Nat}{D:Addr}{f:Bool}{ds:List Dt}{vs:List V}(hi:i<ρ.length)(sm0:Same H' H)(hN:H' D=none)(hD:H D=some (.lst vs))(hn:D ∉ O.adr)(hX:X.H₀ D=none)
   (r:Rps X.K (bsOf X.ky f) ds (hidL (D::O.adr) H) vs):RepO X H₀ H ((i,D)::z3T O i) (ρ.set i (.ow f ds)) (σ.set i (some (.ref D))):=by
 have sub:∀ a∈(Own.adr ((i,D)::z3T O i)),a∈D::O.adr:=λa ha=>by
   rcases wn.mp ha with z|z
   · rw[z];exact wc
   · exact wa _ (z1G a z)
 have sm:Same (hidL (D::O.adr) H) (hidL (Own.adr ((i,D)::z3T O i)) H):=z3R sub;have sm1:Same H' (hidL [D] H):=λb o e=>by
   rw[z0j (by rw[wP];rintro rfl;rw[hN]at e;cases e)];exact sm0 _ _ e
 have sm2:Same (hidL O.adr H') (hidL (D::O.adr) H):=by rw[←z9n];exact z1F sm1
 have nD:D ∉ (z3T O i).adr:=λz=>hn (z1G D z);refine⟨Wh.mpr ⟨nD,h.ndA.sublist (List.Sublist.map _ (Wm))⟩,Wh.mpr ⟨λz=>?_,h.ndI.sublist (List.Sublist.map _ (Wm))⟩,λa ha=>?_,by rw[Wj,Wj];exact h.len,h.b0,h.same.trans (sm2.trans sm),λj c q=>?_⟩
 · obtain⟨p,hp,e⟩:=wf.mp z;exact(z2n.mp hp).2 e
 · rcases wn.mp ha with z|z
   · rw[z];exact⟨⟨vs,hD⟩,hX⟩
   · obtain⟨⟨ws,q⟩,z2⟩:=h.own a (z1G a z);exact⟨⟨ws,sm0 _ _ q⟩,z2⟩
 · by_cases e:i=j
   · subst e;rw[Wn,if_pos rfl,if_pos hi]at q;rw[Wn,if_pos rfl,if_pos (by rw[←h.len];exact hi)];cases q;exact⟨_,rfl,D,vs,wc,rfl,hD,Rps.mono _ sm r⟩
   · rw[We e]at q ⊢;obtain⟨o,e1,e2⟩:=h.at_ j c q;refine⟨o,e1,?_⟩;cases c with
     | no=>trivial
     | ex=>obtain⟨a,φ,q,r,z⟩:=e2;exact⟨a,φ,q,(sm2.trans sm) _ _ r,z⟩
     | sh f d=>obtain⟨v,q,r⟩:=e2;exact⟨v,q,Rp.mono _ (sm2.trans sm) r⟩
     | ow f ds' =>
      obtain⟨a,vs',q1,q2,q3,r⟩:=e2;exact⟨a,vs',wa _ (z2n.mpr ⟨q1,λz=>e z.symm⟩),q2,sm0 _ _ q3,Rps.mono _ (sm2.trans sm) r⟩
theorem ziF{O:Own}(nd:O.adr.Nodup):∀{p q:Nat×Addr},p∈O->q∈O->p.2=q.2->p=q:=by
 induction O with
 | nil=>intro p q hp;cases hp
 | cons o O ih =>
  intro p q hp hq e;have nd:(o.2::O.map (·.2)).Nodup:=nd;obtain⟨n1,n2⟩:=Wh.mp nd;rcases wn.mp hp with hp|hp<;>rcases wn.mp hq with hq|hq
  · rw[hp,hq]
  · exact absurd (wf.mpr ⟨q,hq,by rw[←e,hp]⟩) n1
  · exact absurd (wf.mpr ⟨p,hp,by rw[e,hq]⟩) n1
  · exact ih n2 hp hq e
theorem zox{O:Own}(nd:(O.map (·.1)).Nodup):∀{p q:Nat×Addr},p∈O->q∈O->p.1=q.1->p=q:=by
 induction O with
 | nil=>intro p q hp;cases hp
 | cons o O ih =>
  intro p q hp hq e;have nd:(o.1::O.map (·.1)).Nodup:=nd;obtain⟨n1,n2⟩:=Wh.mp nd;rcases wn.mp hp with hp|hp<;>rcases wn.mp hq with hq|hq
  · rw[hp,hq]
  · exact absurd (wf.mpr ⟨q,hq,by rw[←e,hp]⟩) n1
  · exact absurd (wf.mpr ⟨p,hp,by rw[e,hq]⟩) n1
  · exact ih n2 hp hq e
theorem zeu{A:List Addr}{a:Addr}{o:HO}{H:Hp}(h:a∈A):hidL A (upd H a o)=hidL A H:=funext λb=>by
 by_cases q:b∈A
 · rw[z2A q,z2A q]
 · rw[z0j q,z0j q,z0r λz=>q (by rw[z];exact h)]
theorem RepO.upd(h:RepO X H₀ H O ρ σ){i:Nat}{a:Addr}{f g:Bool}{ds ds0:List Dt}{vs:List V}(hc:ρ[i]?=some (.ow g ds0))(hi:(i,a)∈O)(r:Rps X.K (bsOf X.ky f) ds (hidL O.adr H) vs):
   RepO X H₀ (upd H a (.lst vs)) O (ρ.set i (.ow f ds)) σ:=by
 have ha:a∈O.adr:=z4o hi;have hh:hidL O.adr (L2.upd H a (.lst vs))=hidL O.adr H:=zeu ha;have hlt:i<ρ.length:=by
   by_cases hlt:i<ρ.length
   · exact hlt
   · rw[wN (by rfl')]at hc;cases hc
 refine⟨h.ndA,h.ndI,λb hb=>?_,by rw[Wj];exact h.len,h.b0,by rw[hh];exact h.same,λj c q=>?_⟩
 · by_cases e:b=a
   · subst e;exact⟨⟨vs,z0V⟩,(h.own b hb).2⟩
   · rw[z0r e];exact h.own b hb
 · by_cases e:i=j
   · subst e;rw[Wn,if_pos rfl,if_pos hlt]at q;cases q;obtain⟨o,e1,a',vs',q1,q2,q3,r'⟩:=h.at_ i _ hc;have e2:(i,a')=(i,a):=zox h.ndI q1 hi rfl;cases e2;exact⟨o,e1,a,vs,hi,q2,z0V,by rw[hh];exact r⟩
   · rw[We e]at q;obtain⟨o,e1,e2⟩:=h.at_ j c q;refine⟨o,e1,?_⟩;cases c with
     | no=>trivial
     | ex=>obtain⟨b,φ,q,r,z⟩:=e2;exact⟨b,φ,q,by rw[hh];exact r,z⟩
     | sh f d=>obtain⟨v,q,r⟩:=e2;exact⟨v,q,by rw[hh];exact r⟩
     | ow f ds' =>
      obtain⟨b,vs',q1,q2,q3,r'⟩:=e2;have hne:b≠a:=λz=>by
       have:=ziF h.ndA q1 hi z;exact e (congrArg Prod.fst this).symm
      exact⟨b,vs',q1,q2,by rw[z0r hne];exact q3,by rw[hh];exact r'⟩
def relC:Cell->Cell
 | .ow f ds => .sh f (.lst ds)
 | c=>c
def zaX(ρ:Rho)(i:Nat):Rho:=match ρ[i]? with|some c=>ρ.set i (relC c)|none=>ρ
def relS:List Nat->Rho->Rho
 | [],ρ=>ρ
 | i::is,ρ=>relS is (zaX ρ i)
theorem RepO.rel(h:RepO X H₀ H O ρ σ)(i:Nat):RepO X H₀ H (z3T O i) (zaX ρ i) σ:=by
 have sm:Same (hidL O.adr H) (hidL (z3T O i).adr H):=z3R z1G;have hl:(zaX ρ i).length=ρ.length:=by
  unfold zaX;split
  · exact Wj
  · rfl
 refine⟨h.ndA.sublist (List.Sublist.map _ (Wm)),h.ndI.sublist (List.Sublist.map _ (Wm)),λa ha=>h.own a (z1G a ha),hl.trans h.len,h.b0,h.same.trans sm,λj c q=>?_⟩;have other:∀{c:Cell},ρ[j]?=some c->(∀ f ds,c = .ow f ds->j≠i)->∃ o,σ[j]?=some o/\CellB X H (z3T O i) j c o:=λ{c} q hne=>by
  obtain⟨o,e1,e2⟩:=h.at_ j c q;refine⟨o,e1,?_⟩;cases c with
  | no=>trivial
  | ex=>obtain⟨a,φ,q,r,z⟩:=e2;exact⟨a,φ,q,sm _ _ r,z⟩
  | sh f d=>obtain⟨v,q,r⟩:=e2;exact⟨v,q,Rp.mono _ sm r⟩
  | ow f ds=>obtain⟨a,vs,q1,q2,q3,r⟩:=e2;exact⟨a,vs,z2n.mpr ⟨q1,hne f ds rfl⟩,q2,q3,Rps.mono _ sm r⟩
 unfold zaX at q;cases e:ρ[i]? with
 | none =>
  rw[e]at q;exact other q λf ds _ z=>by rw[z,e]at q;cases q
 | some c' =>
  rw[e]at q;dsimp only at q;by_cases hij:i=j
  · subst hij;have hlt:i<ρ.length:=by
     by_cases hlt:i<ρ.length
     · exact hlt
     · rw[wN (by rfl')]at e;cases e
    rw[Wn,if_pos rfl,if_pos hlt]at q;cases q;cases c' with
    | no=>obtain⟨o,e1,e2⟩:=h.at_ i _ e;exact⟨o,e1,trivial⟩
    | ex=>exact other e λf ds z=>by cases z
    | sh f d=>exact other e λf ds z=>by cases z
    | ow f ds =>
     obtain⟨o,e1,a,vs,q1,q2,q3,r⟩:=h.at_ i _ e;have hna:a ∉ (z3T O i).adr:=λz=>by
       obtain⟨p,hp,ep⟩:=wf.mp z;have:=ziF h.ndA (z2n.mp hp).1 q1 ep;exact(z2n.mp hp).2 (by rw[this])
     refine⟨o,e1,.ref a,q2,Rp.lst_.mpr ⟨a,vs,rfl,h.bsFree (z4o q1) f,by rw[z0j hna];exact q3,Rps.mono _ ?_ r⟩⟩;rw[z9g,z9n];refine z3R λb hb=>?_;rcases wn.mp hb with z|z
     · rw[z];exact z4o q1
     · exact z1G b z
  · rw[We hij]at q;exact other q λf ds _ z=>hij z.symm
theorem RepO.rels(h:RepO X H₀ H O ρ σ):∀ is:List Nat,∃ O',RepO X H₀ H O' (relS is ρ) σ:=λis=>by
 induction is generalizing O ρ with
 | nil=>exact⟨O,h⟩
 | cons i is ih=>exact ih (h.rel i)
end
inductive Oc where
 | nx (ρ:Rho)|rt (f:Fl) (d:Dt)|bk (ρ:Rho)|ct (ρ:Rho)|ex (n:Nat)
def OcOk(X:Cx)(H₀:Hp)(D:Ends):Oc->Prop
 | .nx ρ=>∀ σ H,RepB X H₀ H ρ σ->D.nx σ H
 | .rt f d=>∀ v H,Same H₀ H->Rp X.K (bsOf X.ky f.isFr) d H v->D.rt v H
 | .bk ρ=>∀ σ H,RepB X H₀ H ρ σ->D.bk σ H
 | .ct ρ=>∀ σ H,RepB X H₀ H ρ σ->D.ct σ H
 | .ex n=>∀ C,X.mg (exN n)=some (.ref C)->XOk X H₀ C
abbrev FS:=Rho->Option Oc
def upS(X:Cx)(F:FS):TS:=λD σ H=>∃ H₀ ρ oc,RepB X H₀ H ρ σ/\F ρ=some oc/\OcOk X H₀ D oc
def PFS(X:Cx)(st:Stmt)(F:FS):Prop:=PS X st (upS X F)
def PFSs(X:Cx)(sts:List Stmt)(F:FS):Prop:=PSs X sts (upS X F)
theorem PS.imp{X:Cx}{st:Stmt}{t t':TS}(h:PS X st t)(q:∀ D σ H,t' D σ H->t D σ H):PS X st t':=λpins s σ H D I z=>h pins s σ H D I (q D σ H z)
theorem PSs.imp{X:Cx}{st:List Stmt}{t t':TS}(h:PSs X st t)(q:∀ D σ H,t' D σ H->t D σ H):PSs X st t':=λpins s σ H D I z=>h pins s σ H D I (q D σ H z)
section
variable {X:Cx}{st:Stmt}{rest:List Stmt}{F G:FS}{e:Expr}{Fe:FE}{pos:Pos}
def z0F:FS:=λρ=>some (.nx ρ)
def seqO(G:FS):Oc->Option Oc
 | .nx ρ=>G ρ
 | o=>some o
def sSeq(F G:FS):FS:=λρ=>(F ρ).bind (seqO G)
theorem z0R:PFSs X [] z0F:=zo6.imp (by rintro D σ H ⟨H₀,ρ,oc,rb,e,k⟩;cases e;exact k σ H rb)
theorem z09(h:PFS X st F):PFSs X [st] F:=zo7 h
theorem z07(h1:PFS X st F)(h2:PFSs X rest G):PFSs X (st::rest) (sSeq F G):=(zkm h1 h2).imp λD σ H⟨H₀,ρ,oc,rb,e,k⟩=>by
 obtain⟨o1,e1,e2⟩:=z05 e;refine⟨H₀,ρ,o1,rb,e1,?_⟩;cases o1 with
 | nx ρ'=>exact λσ' H' rb'=>⟨H₀,ρ',oc,rb',e2,k⟩
 | rt f d=>cases e2;exact k
 | ex C=>cases e2;exact k
 | bk ρ'=>cases e2;exact k
 | ct ρ'=>cases e2;exact k
def z4X:FS:=λ_=>none
theorem z5C:PFS X st z4X:=λpins s σ H D I⟨H₀,ρ,oc,rb,e,k⟩=>by cases e
def sRet(F:FE):FS:=λρ=>(F ρ).map λx => .rt x.1 x.2
theorem z0i(he:PF X e Fe):PFS X (.Return (some e) pos) (sRet Fe):=(ps_ret he).imp λD σ H ⟨H₀,ρ,oc,⟨O,rb⟩,e0,k⟩=>by
 unfold sRet at e0;cases h:Fe ρ with
 | none=>rw[h]at e0;cases e0
 | some x =>
  rw[h]at e0;cases e0;refine⟨ρ,x.1,x.2,rb.all,h,λv H' sm r=>k v H' (rb.same.trans (z0B.trans sm)) ?_⟩;by_cases q:x.1.isFr=true
  · rw[q];exact r.fr rb.below q
  · rw[show x.1.isFr=false by simpa using q];exact r.sh
def sIf(c:FT)(F G:FS):FS:=λρ=>(c ρ).bind λb=>if b then F ρ else G ρ
theorem s_if{c:Expr}{a b:List Stmt}{Fc:FT}(hc:PFT X c Fc)(ha:PFSs X a F)(hb:PFSs X b G):PFS X (.If c a b pos) (sIf Fc F G):=(ps_if hc ha hb).imp λD σ H ⟨H₀,ρ,oc,⟨O,rb⟩,e0,k⟩=>by
 obtain⟨z,e1,e2⟩:=z05 e0;refine⟨ρ,z,rb.all,e1,λH' sm=>?_⟩;dsimp only;cases z with
 | true=>rw[if_pos rfl]at e2 ⊢;exact⟨H₀,ρ,oc,⟨O,rb.mono sm⟩,e2,k⟩
 | false=>rw[if_neg wX]at e2 ⊢;exact⟨H₀,ρ,oc,⟨O,rb.mono sm⟩,e2,k⟩
def z6c(F:FE):FS:=λρ=>(F ρ).map λ_ => .nx ρ
theorem z9o(he:PF X e Fe)(hs:swapsWith e none pos.line X.env=pure false:=by rfl):PFS X (.Expr e pos) (z6c Fe):=(zc6 he hs).imp λD σ H ⟨H₀,ρ,oc,⟨O,rb⟩,e0,k⟩=>by
 unfold z6c at e0;cases h:Fe ρ with
 | none=>rw[h]at e0;cases e0
 | some x =>
  rw[h]at e0;cases e0;exact⟨ρ,x.1,x.2,rb.all,h,λv H' sm r=>k σ H' ⟨O,rb.mono sm⟩⟩
def AsgF(X:Cx)(st:Stmt)(i:Nat)(F:FE):Prop:=PS X st (tAsg (upF X F) (z9a i))
theorem z0n{i:Nat}{x:Str}{pos':Pos}(he:PF X e Fe)(hN:X.N.Nodup)(hi:X.N[i]?=some x)(hx:Loc X.env.scope x)(hs:swapsWith e (some (.Name x pos')) pos.line X.env=pure false)(hf:X.fn x=true\/X.env.scope.names.lookup x=some .local):
 AsgF X (.Assign [.Name x pos'] e pos) i Fe:=ps_set hN hi hx he hs hf
theorem zde{N:List Str}{scope:Scope}{nt:Nat}{js:List Nat}{tg elt iter:Expr}{ifs:List Expr}{Fi:FI}{g:Tg}{Fc:FT}{i:Nat}{x:Str}{pos' spos:Pos}(hN:X.N.Nodup)(hix:X.N[i]?=some x)(hx:X.env.scope.names.lookup x=some .local)
  (hsw:swapsWith (.ListComp elt [⟨tg,iter,ifs,0⟩] scope pos) (some (.Name x pos')) spos.line X.env=pure true)
  (S:CompScope X N scope nt js) (hc:X.calm=true) (hi:PFI X tg iter Fi) (hg:∀ cl C fp s H,PG (z0M X N scope cl C fp s H) tg (g.low X.K)) (hb:g.below nt)
  (hcs:∀ cl C fp s H,PFTs (z0M X N scope cl C fp s H) ifs Fc) (he:∀ cl C fp s H,PF (z0M X N scope cl C fp s H) elt Fe) (hj:∀ j∈js,j<X.N.length)
  (hs:∀ x,foldedSetIterable iter X.env x=pure x:=by intro _;rfl):AsgF X (.Assign [.Name x pos'] (.ListComp elt [⟨tg,iter,ifs,0⟩] scope pos) spos) i (z0b nt js Fi g Fc Fe):=by
 intro pins s σ H D I h;exact zoo hN hix hx S hc hi hg (Tg.ok hb) (λcl C fp s H=>PTs.frame (t:=λH1=>upBK ⟨X.K,H1⟩ Fc) (hcs cl C fp s H)) (λcl C fp s H=>PE.frame (he cl C fp s H)) hsw hs pins s σ H D I
  (ziE (λj z=>by rw[I.len];exact hj j z) h)
def sSet(rels:List Nat)(i:Nat)(F:FE):FS:=λρ=>(F (z1y (relS rels ρ))).map λx => .nx ((relS rels ρ).set i (.sh x.1.isFr x.2))
theorem z1h{rels:List Nat}{i:Nat}(ha:AsgF X st i Fe):PFS X st (sSet rels i Fe):=(PS.frame ha).imp λD σ H ⟨H₀,ρ,oc,⟨O,rb⟩,e0,k⟩=>by
 unfold sSet at e0;cases h:Fe (z1y (relS rels ρ)) with
 | none=>rw[h]at e0;cases e0
 | some x =>
  rw[h]at e0;cases e0;obtain⟨O',rb'⟩:=rb.rels rels;refine⟨O'.adr,rb'.own,z1y (relS rels ρ),x.1,x.2,rb'.rest,h,λv H' sm r hn=>?_⟩;have hg:hidL O'.adr (z1b O'.adr H H')=H':=z3f hn;have rb2:RepO X H₀ (z1b O'.adr H H') O' (relS rels ρ) σ:=rb'.mono (Same.glue sm hn);refine k _ _ ⟨_,rb2.set (f:=x.1.isFr) ?_⟩;rw[hg];by_cases q:x.1.isFr=true
  · rw[q];exact r.fr (rb'.b0.trans rb'.same) q
  · rw[show x.1.isFr=false by simpa using q];exact r.sh
def z2D(i:Nat)(F:FE):FS:=λρ=>(F ρ).bind λx=>if x.1.isNw then some (.nx (ρ.set i (.sh true x.2))) else none
theorem zkO{H H':Hp}{O:Own}{f:Fl}{d:Dt}{v:V}(ho:OwnL X O.adr H)(sm:Same H H')(q:f.isNw=true)(r:RpF X.ky H f d H' v):Rp X.K H d (hidL O.adr H') v:=by
 cases f<;>first|cases q|skip
 refine Rp.hid (λb hb=>?_) d (λb hb o e=>?_) r
 · obtain⟨⟨vs,z⟩,_⟩:=ho b hb;rw[z];exact λw=>nomatch w
 · obtain⟨⟨vs,z⟩,_⟩:=ho b hb;rw[sm _ _ z]at e;cases e;exact⟨vs,rfl⟩
theorem z9p{i:Nat}(ha:AsgF X st i Fe):PFS X st (z2D i Fe):=PS.imp ha λD σ H ⟨H₀,ρ,oc,⟨O,rb⟩,e0,k⟩=>by
 obtain⟨x,e1,e2⟩:=z05 e0;split at e2
 · rename_i q;cases e2;refine⟨ρ,x.1,x.2,rb.all,e1,λv H' sm r=>k _ _ ⟨_,(rb.mono sm).set (f:=true) ?_⟩⟩;exact Rp.anti rb.below _ (zkO rb.own sm q r)
 · cases e2
def sOwn(i:Nat)(F:FE):FS:=λρ=>(F (z1y ρ)).bind λx=>match x with
 | (.nw,.lst ds)=>if i<ρ.length then some (.nx (ρ.set i (.ow true ds))) else none
 | (.tn,.lst ds)=>if i<ρ.length then some (.nx (ρ.set i (.ow false ds))) else none
 | _=>none
theorem ziG{i:Nat}(ha:AsgF X st i Fe):PFS X st (sOwn i Fe):=(PS.frame ha).imp λD σ H ⟨H₀,ρ,oc,⟨O,rb⟩,e0,k⟩=>by
 obtain⟨x,e1,e2⟩:=z05 e0;refine⟨O.adr,rb.own,z1y ρ,x.1,x.2,rb.rest,e1,λv H' sm r hn=>?_⟩;have hg:hidL O.adr (z1b O.adr H H')=H':=z3f hn;have sg:Same H (z1b O.adr H H'):=Same.glue sm hn;have new:∀{f:Bool} {ds:List Dt} {D:Addr} {vs:List V},hidL O.adr H D=none->H' D=some (.lst vs)->Rps X.K (bsOf X.ky f) ds (hidL [D] H') vs->i<ρ.length->RepB X H₀ (z1b O.adr H H') (ρ.set i (.ow f ds)) (σ.set i (some (.ref D))):=by
   intro f ds D vs hD hv hr hi;have nO:D ∉ O.adr:=λz=>by rw[hn D z]at hv;cases hv
   have hH:H D=none:=by rw[z0j nO]at hD;exact hD
   refine⟨_,rb.setNew hi sg hH (by rw[z15 nO];exact hv) nO (rb.below.free hH) ?_⟩;rw[←z9n,z9g,hg];exact hr
 split at e2
 · rename_i ds;split at e2
   · rename_i hi;cases e2;obtain⟨D,vs,rfl,h0,h1,h2⟩:=(Rp.lst_ (K:=X.K)).mp (show Rp X.K (hidL O.adr H) (.lst ds) H' v from r);exact k _ _ (new (f:=true) h0 h1 (Rps.anti (rb.b0.trans rb.same) _ h2) hi)
   · cases e2
 · rename_i ds;split at e2
   · rename_i hi;cases e2;obtain⟨D,vs,rfl,h0,h1,h2⟩:=Rp.lst_.mp r.1;exact k _ _ (new (f:=false) (r.2.2 D rfl) h1 h2 hi)
   · cases e2
 · cases e2
def sOwnA(i:Nat)(F:FE):FS:=λρ=>(F ρ).bind λx=>match x with
 | (.nw,.lst ds)=>if i<ρ.length then some (.nx (ρ.set i (.ow true ds))) else none
 | _=>none
def z12(c:FT)(F:FS):Nat->FS
 | 0,_=>none
 | n+1,ρ=>(c ρ).bind λb=>if b then(F ρ).bind λoc=>match oc with|.nx ρ'=>z12 c F n ρ'|.ct ρ'=>z12 c F n ρ'|.bk ρ'=>some (.nx ρ')|.rt f d=>some (.rt f d)|.ex C=>some (.ex C) else some (.nx ρ)
open Classical in
noncomputable def z3J(c:FT)(F:FS):FS:=λρ=>if h:∃ n o,z12 c F n ρ=some o then some (choose (choose_spec h)) else none
theorem z3z{c:FT}{F:FS}:∀{n m:Nat} {ρ:Rho} {o:Oc},n<=m->z12 c F n ρ=some o->z12 c F m ρ=some o
 | 0,m,ρ,o,_,h=>by cases h
 | n+1,0,ρ,o,hl,h=>by rfl'
 | n+1,m+1,ρ,o,hl,h=>by
  unfold z12 at h ⊢;obtain⟨b,e1,e2⟩:=z05 h;rw[e1];show(if b=true then _ else _)=_;cases b with
  | false=>exact e2
  | true =>
   rw[if_pos rfl]at e2 ⊢;obtain⟨oc,e3,e4⟩:=z05 e2;rw[e3];cases oc with
   | nx ρ'=>exact z3z (by rfl') e4
   | ct ρ'=>exact z3z (by rfl') e4
   | bk ρ'=>exact e4
   | rt f d=>exact e4
   | ex C=>exact e4
theorem z5D{c:FT}{F:FS}{n:Nat}{ρ:Rho}{o:Oc}(h:z12 c F n ρ=some o):z3J c F ρ=some o:=by
 have hx:∃ n o,z12 c F n ρ=some o:=⟨n,o,h⟩;unfold z3J;rw[dif_pos hx];have z:=wE (wE hx);have a:=z3z (Nat.le_max_left n (wS hx)) h;have b:=z3z (Nat.le_max_right n (wS hx)) z;rw[a]at b;exact b.symm
theorem zjH{c:FT}{F:FS}{ρ:Rho}{o:Oc}(h:z3J c F ρ=some o):∃ n,z12 c F n ρ=some o:=by
 unfold z3J at h;split at h
 · rename_i hx;cases h;exact⟨_,wE (wE hx)⟩
 · cases h
theorem zch{c:Expr}{body:List Stmt}{Fc:FT}(hp:PassesOwn (model X.prog X.w) X.A X.env X.xe)(hc:PFT X c Fc)(hb:PFSs X body F):PFS X (.While c body [] pos) (z3J Fc F):=(zko hp hc hb).imp λD σ H⟨H₀,ρ,oc,rb,e0,k⟩=>by
 obtain⟨n0,e1⟩:=zjH e0;refine⟨λm σ' H'=>∃ ρ',RepB X H₀ H' ρ' σ'/\z12 Fc F m ρ'=some oc,⟨n0,ρ,rb,e1⟩,?_⟩;rintro m σ' H' ⟨ρ',⟨O,rb'⟩,w'⟩;cases m with
 | zero=>cases w'
 | succ n =>
  unfold z12 at w';obtain⟨z,p1,p2⟩:=z05 w';refine⟨ρ',z,rb'.all,p1,λH2 sm=>?_⟩;dsimp only;cases z with
  | false =>
   rw[if_neg wX]at p2 ⊢;cases p2;exact k _ _ ⟨O,rb'.mono sm⟩
  | true =>
   rw[if_pos rfl]at p2 ⊢;obtain⟨oc',p3,p4⟩:=z05 p2;refine⟨λσ' H'=>∃ ρ'',RepB X H₀ H' ρ'' σ'/\z12 Fc F n ρ''=some oc,λσ3 H3⟨ρ3,rb3,w3⟩=>⟨n,Wb n,ρ3,rb3,w3⟩,H₀,ρ',oc',⟨O,rb'.mono sm⟩,p3,?_⟩;cases oc' with
   | nx ρ3=>exact λσ3 H3 rb3=>⟨ρ3,rb3,p4⟩
   | ct ρ3=>exact λσ3 H3 rb3=>⟨ρ3,rb3,p4⟩
   | bk ρ3=>cases p4;exact k
   | rt f d=>cases p4;exact k
   | ex C=>cases p4;exact k
def forF(g:Tg)(F:FS):List Dt->FS
 | [],ρ=>some (.nx ρ)
 | x::xs,ρ=>(g.put x ρ).bind λρ2=>(F ρ2).bind λoc=>match oc with|.nx ρ'=>forF g F xs ρ'|.ct ρ'=>forF g F xs ρ'|.bk ρ'=>some (.nx ρ')|.rt f d=>some (.rt f d)|.ex C=>some (.ex C)
def sFor(rels:List Nat)(Fi:FI)(g:Tg)(F:FS):FS:=λρ=>(Fi (z1y (relS rels ρ))).bind λitems=>forF g F items (relS rels ρ)
end
section
variable {X:Cx}{H₀ H H':Hp}{O:Own}{ρ ρ':Rho}{σ:St}
theorem z8p:∀{is:List Nat} {ds:List Dt} {vs:List V} {O:Own} {ρ:Rho} {σ:St},RepO X H₀ H O ρ σ->Rps X.K emp ds (hidL O.adr H) vs->ds.length=is.length->z29 ρ is ds=ρ' ->
  z28 is vs σ H λσ' H'=>H'=H/\∃ O',RepO X H₀ H O' ρ' σ'
 | [],[],vs,O,ρ,σ,rs,r,hl,q=>⟨Rps.nil_.mp r,rfl,O,by rw[←q];exact rs⟩
 | [],d::ds,vs,O,ρ,σ,rs,r,hl,q=>by cases hl
 | i::is,[],vs,O,ρ,σ,rs,r,hl,q=>by cases hl
 | i::is,d::ds,vs,O,ρ,σ,rs,r,hl,q=>by
  obtain⟨v,r',rfl,h1,h2⟩:=Rps.cons_.mp r;exact⟨v,r',rfl,z8p (rs.set (f:=false) h1) (Rps.mono _ (z3R z1G) h2) (by simpa using hl) q⟩
theorem Tg.simO{g:Tg}{d:Dt}{v:V}(rs:RepO X H₀ H O ρ σ)(r:Rp X.K emp d (hidL O.adr H) v)(h:g.put d ρ=some ρ'):
  g.low X.K v σ H λσ' H'=>H'=H/\∃ O',RepO X H₀ H O' ρ' σ':=by
 cases g with
 | one i=>cases h;exact⟨rfl,_,rs.set (f:=false) r⟩
 | many is =>
  cases d<;>first|cases h|skip
  rename_i ds;replace h:(if ds.length=is.length then some (z29 ρ is ds) else none)=some ρ':=h;split at h
  · rename_i hl;obtain⟨a,vs,rfl,h1,h2⟩:=Rp.tup_.mp r;exact⟨a,vs,rfl,z0B.seqT h1,by rw[h2.length];exact hl,z8p rs h2 hl (Option.some.inj h)⟩
  · cases h
end
section
variable {X:Cx}{tg iter:Expr}{body:List Stmt}{Fi:FI}{g:Tg}{F:FS}{pos:Pos}
theorem z6d{rels:List Nat}(hp:PassesOwn (model X.prog X.w) X.A X.env X.xe)(hc:X.calm=true)(hi:PFI X tg iter Fi)(hg:PG X tg (g.low X.K))(hb:PFSs X body F)
   (hs:∀ x,foldedSetIterable iter X.env x=pure x:=by intro _;rfl):PFS X (.For tg iter body [] pos) (sFor rels Fi g F):=(zkp hp hc (PI.frame hi) hg hb hs).imp λD σ H ⟨H₀,ρ,oc,⟨O,rb⟩,e0,k⟩=>by
 obtain⟨items,e1,e2⟩:=z05 e0;obtain⟨O',rb'⟩:=rb.rels rels;refine⟨O'.adr,rb'.own,z1y (relS rels ρ),items,rb'.rest,e1,λJ H1 sm hsz wk hn=>?_⟩;have hg1:hidL O'.adr (z1b O'.adr H H1)=H1:=z3f hn;have s01:Same H₀ H1:=rb'.same.trans sm;have start:RepO X H1 (z1b O'.adr H H1) O' (relS rels ρ) σ:=by
   have z:=rb'.mono (Same.glue sm hn);exact⟨z.ndA,z.ndI,z.own,z.len,rb'.b0.trans s01,by rw[hg1];exact Same.refl _,z.at_⟩
 have back:∀{oc:Oc},OcOk X H₀ D oc->OcOk X H1 D oc:=λ{oc} z=>by
   cases oc with
   | nx ρ5=>exact λσ5 H5⟨O5,r5⟩=>z σ5 H5 ⟨O5,r5.base s01 rb'.b0⟩
   | bk ρ5=>exact λσ5 H5⟨O5,r5⟩=>z σ5 H5 ⟨O5,r5.base s01 rb'.b0⟩
   | ct ρ5=>exact λσ5 H5⟨O5,r5⟩=>z σ5 H5 ⟨O5,r5.base s01 rb'.b0⟩
   | rt f d=>exact λv H5 s5 r5=>z v H5 (s01.trans s5) r5
   | ex n=>exact λC q=>(z C q).base s01
 refine⟨λi m σ' H'=>m=items.length-i/\∃ ρ',RepB X H1 H' ρ' σ'/\forF g F (items.drop i) ρ'=some oc,⟨_,rfl,_,⟨O',start⟩,e2⟩,?_⟩;rintro i m σ' H' ⟨rfl,ρ',⟨O2,r2⟩,f2⟩;obtain⟨w1,w2⟩:=wk O2.adr H' r2.same λa ha=>by obtain⟨⟨vs,q⟩,_⟩:=r2.own a ha;exact⟨_,q⟩
 by_cases hlt:i<items.length
 · obtain⟨x,hx⟩:∃ x,items[i]?=some x:=⟨_,w8 hlt⟩;have hdrop:items.drop i=x::items.drop (i+1):=by
    rw[v7 hlt];rw[w8 hlt]at hx;cases hx;rfl
   rw[hdrop]at f2;unfold forF at f2;obtain⟨ρ2,p1,f3⟩:=z05 f2;obtain⟨oc',p2,f4⟩:=z05 f3;obtain⟨go,yl⟩:=w1 i x hx;refine .inr ⟨go,λσ3 H3=>∃ ρ3,RepB X H1 H3 ρ3 σ3/\forF g F (items.drop (i+1)) ρ3=some oc,λσ3 H3⟨ρ3,r3,f3⟩=>⟨items.length-(i+1),by rfl',rfl,ρ3,r3,f3⟩,λxv H3 y3=>?_⟩;obtain⟨s3,k3,r3⟩:=yl xv H3 y3;have sm3:Same H' H3:=λb o e=>by
    by_cases hb:b∈O2.adr
    · rw[k3 b hb];exact e
    · exact(z4j (s3 b o (by rw[z0j hb];exact e))).2
   refine Tg.low_mono (Tg.simO (r2.mono sm3) r3 p1) ?_;rintro σ4 H4 ⟨eH,O4,r4⟩;subst eH;refine⟨H1,ρ2,oc',⟨O4,r4⟩,p2,?_⟩;cases oc' with
   | nx ρ5=>exact λσ5 H5 r5=>⟨ρ5,r5,f4⟩
   | ct ρ5=>exact λσ5 H5 r5=>⟨ρ5,r5,f4⟩
   | bk ρ5=>cases f4;exact back k
   | rt f d=>cases f4;exact back k
   | ex C=>cases f4;exact back k
 · have hd:items.drop i=[]:=WB (by rfl');rw[hd]at f2;cases f2;exact .inl ⟨w2 i (by rfl'),back k σ' H' ⟨O2,r2⟩⟩
end
section
variable {P:Program}{w:World}{K:PySem.W.Frag}{mg:Str->Option Value}{base:Heap}
def rho0(n:Nat)(ds:List Dt):Rho:=ds.map (Cell.sh false)++List.replicate (n-ds.length) Cell.no
theorem zev{X:Cx}{H:Hp}{ds:List Dt}{vs:List V}{N:List Str}(h0:X.H₀=H)(h:Rps X.K emp ds H vs):RepO X H H [] (rho0 N.length ds) (start N vs):=by
 have hl:=h.length;refine⟨u8,u8,λa ha=>(nomatch ha),by unfold rho0 start;simp[hl],by rw[h0];exact Same.refl H,by show Same H (hidL [] H);rw[zd5];exact Same.refl H,λi c e=>?_⟩;unfold rho0 at e;unfold start;by_cases hi:i<ds.length
 · rw[wY (by simpa using hi),wu]at e;cases q:ds[i]? with
   | none=>rw[q]at e;cases e
   | some d =>
     rw[q]at e;cases e;obtain⟨v,e1,e2⟩:=h.get q;refine⟨some v,?_,v,rfl,by show Rp X.K emp d (hidL [] H) v;rw[zd5];exact e2⟩;rw[wY (by simp;rfl'),wu,e1];rfl
 · rw[W7 (by simp;rfl'),W8]at e;split at e
   · cases e;rename_i hlt;simp at hlt;refine⟨none,?_,trivial⟩;rw[W7 (by simp;rfl'),W8,if_pos (by simp;rfl')]
   · cases e
def cOf(np n:Nat)(fr:Bool)(F:FS):FC:=λds=>if ds.length=np then
 (F (rho0 n ds)).bind λoc=>match oc with|.rt f d=>if fr&&!(f.isFr||d.flat) then none else some d|.nx _=>some .non|_=>none
 else none
theorem Fun.data{x qual:Str}{st:Stmt}{f:Addr}{fd:FuncData}{N ps:List Str}{k:Nat}{fr:Bool}{F:FS}(Fu:Fun K x qual st f fd)(S:FnScope N ps (z04 st))
    (body:∀(cdv:Value) (A:Around) (outer:List Env) (s:Shared) (H:Hp) (E:XK),Room k (A.deeper (envOfC qual (z04 st) s.heap.objs.size f cdv)) ->
      PFSs (cxOf CX0 P w K mg base N qual (z04 st) f cdv A outer s H E).nox (z1v st) F):FnOk P w K mg base CX0 (k+1) f fd ps (spc K fr (cOf ps.length N.length fr F)):=by
  refine Fu.ok S (λvs H Q E h=>?_) (λcdv A outer s H vs Q E hr h=>?_)
  · obtain⟨ds,d,r,e,q⟩:=h;unfold cOf at e;split at e
    · rename_i hl;rw[r.length];exact hl
    · cases e
  · obtain⟨ ds,d,r,e,q⟩:=h
    unfold cOf at e;split at e
    · rename_i hl;obtain⟨oc,e1,e2⟩:=z05 e;refine⟨_,body cdv A outer s H E hr,H,rho0 N.length ds,oc,⟨[],zev rfl r⟩,e1,?_⟩;cases oc with
      | nx ρ=>cases e2;exact λσ H'⟨O,rb⟩=>q _ H' (rb.same.trans z0B) (Rp.non_.mpr rfl)
      | bk ρ=>cases e2
      | ct ρ=>cases e2
      | ex C=>cases e2
      | rt f d' =>
        have e2:(if(fr&&!(f.isFr||d'.flat))=true then none else some d')=some d:=e2;split at e2
        · cases e2
        · rename_i hf;cases e2;refine λv H' sm r'=>q v H' sm ?_;cases fr with
          | false=>exact Rp.anti Same.emp _ r'
          | true =>
            have hf:f.isFr=true\/d.flat=true:=by
              cases h1:f.isFr<;>cases h2:d.flat<;>simp[h1,h2]at hf ⊢
            rcases hf with hf|hf
            · rw[hf]at r';exact r'
            · exact Rp.flat d hf r'
    · cases e
theorem zjI{l:PySem.W.OpenLaw}{q:Program}{loose:List Str}{XP:(Str->Option Value)->Heap->Prop}{YP:World->Heap->Prop}{d:DefRec}{K:Params->PySem.W.Frag}{x:Str}{k:Nat}{fr:Bool}{c:FC}(hn:l.most=some 63)(hdf:d.params.defaults=[])
  (hY:∀(w:World) (h:Heap),YP w h->(K w.params).In h)
  (F:∀(w:World) (mg:Str→Option Value) (fa:Addr) (h:Heap),(K w.params).In h→h.Ns mainGlobals mg→mg d.name=some (.ref fa) →
   ∃ fd:FuncData,(∀(s:Shared) (u:Value),BindsTo s fd ⟨[u],[]⟩ [(x,u)])/\∀ base:Heap,(K w.params).In base->base.Ns mainGlobals mg->FnOk l.prog w (K w.params) mg base CX0 k fa fd [x] (spc (K w.params) fr c))
  (hc:∀ ns:List Int,ns.length<=63->c [.scr ns]=some (.bl true))
  (hr:Room k callerA):PySem.W.WalkO q loose XP YP l.row.toRowW d [] (λf vs=>PySem.call f vs) :=
 L2.zok (n:=63) (k:=k) (x:=x) (CX:=λ_=>CX0) (sp:=λw=>spc (K w.params) fr c) hn (by decide) hdf hr hY F
  (λw H a ns hl _ hS=>⟨[.scr ns],_,Rps.one (Rp.scr_.mpr ⟨a,rfl,rfl,hS⟩),hc ns hl,λv H' _ r=>by cases fr<;>exact Rp.bl_.mp r⟩) λ_ _ _ _ _ z=>z
end
def zci(XN:List Str)(xs:List (Str×NameKind))(scope:Scope)(N:List Str)(nt:Nat)(js:List Nat):Bool :=
 decide ((scope.names.map (·.1)).Nodup)&&(N.length==nt+js.length)&&((List.range js.length).all λk=>match js[k]? with
  | some j=>(match N[nt+k]?,XN[j]? with|some x,some y=>x==y&&scope.names.lookup x==some .free|_,_=>false)
  | none=>false)&&scope.names.all λp=>p.2 != .free||xs.lookup p.1==some .cell||xs.lookup p.1==some .free
theorem z0v{X:Cx}{N:List Str}{scope:Scope}{nt:Nat}{js:List Nat}(XN:List Str)(xs:List (Str×NameKind))(h1:X.N=XN)(h2:X.env.scope.names=xs)(hk:scope.kind = .function)(c:zci XN xs scope N nt js=true):CompScope X N scope nt js:=by
 unfold zci at c;rw[wO,wO,wO]at c;obtain⟨⟨⟨c1,c2⟩,c3⟩,c4⟩:=c;have nd:=of_decide_eq_true c1;refine⟨hk,nd,λx hx e=>by rw[z2N nd hx,e],beq_iff_eq.mp c2,λk j e=>?_,λx hx e=>?_⟩
 · have hk:k<js.length:=by
     by_cases hk:k<js.length
     · exact hk
     · rw[wN (by rfl')]at e;cases e
   have z:=vt.mp c3 k (wM.mpr hk);rw[e]at z;dsimp only at z;rw[h1];cases q1:N[nt+k]? with
   | none=>rw[q1]at z;cases z
   | some x =>
     cases q2:XN[j]? with
     | none=>rw[q1,q2]at z;cases z
     | some y =>
       rw[q1,q2]at z;dsimp only at z;rw[wO]at z;have exy:x=y:=beq_iff_eq.mp z.1;subst exy;exact⟨x,rfl,rfl,beq_iff_eq.mp z.2⟩
 · have z:=vt.mp c4 x hx;rw[e]at z;have z:(xs.lookup x.1==some .cell||xs.lookup x.1==some .free)=true:=by simpa using z
   show X.env.scope.names.lookup x.1=_\/X.env.scope.names.lookup x.1=_;rw[h2];rcases vA _ _ |>.mp z with z|z
   · exact .inl (beq_iff_eq.mp z)
   · exact .inr (beq_iff_eq.mp z)
structure Df(K:PySem.W.Frag)(mg:Str->Option Value)(name:Str)(st:Stmt)(ps:List Str)(f:Addr)(fd:FuncData):Prop where
 fn:Fun K name name st f fd
 mg:mg name=some (.ref f)
 bd:Binds K fd ps []
theorem df_mk{K:PySem.W.Frag}{h:Heap}{mg:Str->Option Value}(X:K.In h)(G:h.Ns mainGlobals mg){x:Str}{st:Stmt}{f:Addr}{oc:Value}{od an:Option Addr}{osl:Array (Option Value)}{kV doc pm cdv ct:Value}{ps:List Str}
  (e:PySem.W.nsIn K mainGlobals x=some (some (.ref f))) (l:K.lookup f=some ⟨oc,od,.func (PySem.W.fnOf x x (z2z st) (z1v st) (z04 st) .none kV doc pm an cdv ct),osl⟩) (c:PySem.W.codeIn K cdv x=true) (k:PySem.W.keepIn K (.ref f)=true)
  (hb:∀(kV doc pm:Value) (an:Option Addr) (cdv ct:Value) (us:List Value),us.length=ps.length->bindArgs (PySem.W.fnOf x x (z2z st) (z1v st) (z04 st) .none kV doc pm an cdv ct) ⟨us,[]⟩=pure (ps.zip us)) :
  Df K mg x st ps f (PySem.W.fnOf x x (z2z st) (z1v st) (z04 st) .none kV doc pm an cdv ct) :=
 ⟨zkz l c k,PySem.W.mg_of X G e,(zkz (st:=st) l c k).binds hb⟩
end L2

end
section
namespace ZL
open PySem PyProof.Rows
def ItAt(h:Heap)(tu:Bool)(it l:Addr)(k:Nat):Prop:=if tu then h.IsTupleIter it l k else h.IsListIter it l k
def SqAt(h:Heap)(tu:Bool)(l:Addr)(xs:Array Value):Prop:=if tu then h.IsTuple l xs else h.IsList l xs
section
variable {h h':Heap}{tu:Bool}{it l c:Addr}{k:Nat}{xs:Array Value}
theorem ItAt.at(x:ItAt h tu it l k)(q:∀ o,h.get? it=some o->h'.get? it=some o):ItAt h' tu it l k:=by
 unfold ItAt at x ⊢;cases tu with
 | true=>obtain⟨o,e,r⟩:=x;exact⟨o,q o e,r⟩
 | false=>obtain⟨o,e,r⟩:=x;exact⟨o,q o e,r⟩
theorem SqAt.at(x:SqAt h tu l xs)(q:∀ o,h.get? l=some o->h'.get? l=some o):SqAt h' tu l xs:=by
 unfold SqAt at x ⊢;cases tu with
 | true=>obtain⟨o,e,r⟩:=x;exact⟨o,q o e,r⟩
 | false=>obtain⟨o,e,r⟩:=x;exact⟨o,q o e,r⟩
theorem ItAt.lt(x:ItAt h tu it l k):it<h.objs.size:=by
 unfold ItAt at x;cases tu with
 | true=>obtain⟨o,e,_⟩:=x;exact ww e
 | false=>obtain⟨o,e,_⟩:=x;exact ww e
theorem SqAt.lt(x:SqAt h tu l xs):l<h.objs.size:=by
 unfold SqAt at x;cases tu with
 | true=>obtain⟨o,e,_⟩:=x;exact ww e
 | false=>obtain⟨o,e,_⟩:=x;exact ww e
end
section
variable {prog:Program}{w:World}{A:Around}{E:Value->Shared->Prop}{s:Shared}
theorem zew{it t:Addr}{i:Nat}{items:Array Value}{x:Value}{Q:Value->Shared->Prop}(a:s.heap.IsTupleIter it t i)(b:s.heap.IsTuple t items)(c:items[i]?=some x)
  (q:∀ h',h'.IsTupleIter it t (i+1)->Heap.SameBut it s.heap h'->Q x { s with heap:=h' }):wpAny (model prog w) A (Builtin.SmallTypes.nextOf (.ref it)) Q E s:=by
 obtain⟨o,e1,e2,e3⟩:=id a;obtain⟨p,f1,_,n,f2⟩:=b;unfold Builtin.SmallTypes.nextOf;refine wpAny_bind (wpAny_callSpecial?_slot (name:=Str.ofString "__next__") a.typeIs F.slot_tuple_iterator_next (wpAny_call_entry F.slot_tuple_iterator_next a.typeIs F.entry_tuple_iterator_next ?_ (F.args_tuple_iterator_next_1 _)));show wpAny _ _ (field (.ref it) 0 >>= λz=>_) _ _ s;refine wpAny_bind (wpAny_field e1 e3 (x:=Value.ref t) rfl ?_);show wpAny _ _ (if(Value.ref t==Value.none)=true then _ else _) _ _ s;rw[if_neg (by exact wX)];show wpAny _ _ (field (.ref it) 1 >>= λz=>_) _ _ s;refine wpAny_bind (wpAny_field e1 e3 (x:=Value.int i 0) rfl ?_);show wpAny _ _ (seqItems? (.ref t) >>= λz=>_) _ _ s;refine wpAny_bind (wpAny_seqItems f1 f2 ?_);simp only[vO,c];refine wpAny_bind (wpAny_setField e1 e3 (by simp) (wpAny_pure ⟨x,rfl,wpAny_pure (q _ ⟨_,Vd _ e1 (Obj.isFreed_of_fields (Obj.data_mapFields e3 _)),(Obj.cls_mapFields ..).trans e2,?_⟩ (Heap.SameBut.update ..))⟩));rw[Obj.data_mapFields e3];simp[rawInt]
theorem zjJ{it t:Addr}{i:Nat}{items:Array Value}{Q:Value->Shared->Prop}(hn:A.handled=none)(a:s.heap.IsTupleIter it t i)(b:s.heap.IsTuple t items)(c:items[i]?=none)
  (q:∀ h' e,Heap.ExtBut it s.heap h'->(∃ o,h'.get? e=some o/\o.cls = .type "StopIteration")->E (.ref e) { s with heap:=h' }):wpAny (model prog w) A (Builtin.SmallTypes.nextOf (.ref it)) Q E s:=by
 obtain⟨o,e1,e2,e3⟩:=id a;obtain⟨p,f1,_,n,f2⟩:=b;unfold Builtin.SmallTypes.nextOf;refine wpAny_bind (wpAny_callSpecial?_slot (name:=Str.ofString "__next__") a.typeIs F.slot_tuple_iterator_next (wpAny_call_entry F.slot_tuple_iterator_next a.typeIs F.entry_tuple_iterator_next ?_ (F.args_tuple_iterator_next_1 _)));show wpAny _ _ (field (.ref it) 0 >>= λz=>_) _ _ s;refine wpAny_bind (wpAny_field e1 e3 (x:=Value.ref t) rfl ?_);show wpAny _ _ (if(Value.ref t==Value.none)=true then _ else _) _ _ s;rw[if_neg (by exact wX)];show wpAny _ _ (field (.ref it) 1 >>= λz=>_) _ _ s;refine wpAny_bind (wpAny_field e1 e3 (x:=Value.int i 0) rfl ?_);show wpAny _ _ (seqItems? (.ref t) >>= λz=>_) _ _ s;refine wpAny_bind (wpAny_seqItems f1 f2 ?_);simp only[vO,c];refine wpAny_bind (wpAny_rule (wpAny_bind (wpAny_setField e1 e3 (by simp) ?_)));show wpAny _ _ (newExc (.type "StopIteration") [] >>= λz=>_) _ _ _;refine wpAny_bind ?_;simp only[newExc,newTuple];refine wpAny_bind (wpAny_newObj_type ?_ (by size_fits));refine wpAny_bind (m:=firstArgMember _ _) (wpAny_of_eq (a:=Value.none) (by first|(simp only[firstArgMember];rfl)|rfl) ?_);refine wpAny_newObj_type ?_ (by size_fits);simp only[raiseNew];refine wpAny_bind (wpAny_handled ?_)
 first|rw[hn]|rw[show A.in1.handled=none from hn]
 refine wpAny_bind (wpAny_pure (wpAny_throw ?_));exact q _ _ (((Heap.SameBut.update ..).extBut.push _).push _) ⟨_,wy _ rfl,rfl⟩
theorem zaY{tu:Bool}{it l:Addr}{i:Nat}{items:Array Value}{x:Value}{Q:Option Value->Shared->Prop}(a:ItAt s.heap tu it l i)(b:SqAt s.heap tu l items)(c:items[i]?=some x)
  (q:∀ h',ItAt h' tu it l (i+1)->Heap.SameBut it s.heap h'->Q (some x) { s with heap:=h' }):wpAny (model prog w) A (Builtin.SmallTypes.nextOrEnd (.ref it)) Q E s:=by
 unfold Builtin.SmallTypes.nextOrEnd;cases tu with
 | true=>exact wpAny_bind (wpAny_attempt (zew a b c λh' p1 p2=>wpAny_pure (q h' p1 p2)))
 | false=>exact wpAny_bind (wpAny_attempt (wpAny_nextOf_list_item a b c λh' p1 p2=>wpAny_pure (q h' p1 p2)))
theorem zdf{tu:Bool}{it l:Addr}{i:Nat}{items:Array Value}{Q:Option Value->Shared->Prop}(hn:A.handled=none)(a:ItAt s.heap tu it l i)(b:SqAt s.heap tu l items)(c:items[i]?=none)
  (q:∀ h',Heap.ExtBut it s.heap h'->Q none { s with heap:=h' }):wpAny (model prog w) A (Builtin.SmallTypes.nextOrEnd (.ref it)) Q E s:=by
 unfold Builtin.SmallTypes.nextOrEnd;cases tu with
 | true=>exact wpAny_bind (wpAny_attempt (zjJ hn a b c λh' e p1⟨o,p2,p3⟩=>wpAny_bind (wpAny_isInstance (T := "StopIteration") (b:=true) ⟨o,p2,p3⟩ isSubtype_stop (wpAny_pure (q h' p1)))))
 | false=>exact wpAny_bind (wpAny_attempt (wpAny_nextOf_list_end hn a b c λh' e p1⟨o,p2,p3⟩=>wpAny_bind (wpAny_isInstance (T := "StopIteration") (b:=true) ⟨o,p2,p3⟩ isSubtype_stop (wpAny_pure (q h' p1)))))
def z2E(h:Heap)(z ti to:Addr)(f:Value):Prop:=h.get? z=some { cls := .type "zip",dict:=none,data := .fields #[f,.bool false,.bool true,.ref ti,.ref to],slots:=#[] }
structure Apart(z ti to i j a b:Addr):Prop where
 p1:ti≠z
 p2:to≠z
 p3:i≠z
 p4:j≠z
 p5:ti≠to
 p6:ti≠i
 p7:ti≠j
 p8:to≠i
 p9:to≠j
 p10:i≠j
 a1:a≠z
 a2:a≠to
 a3:a≠i
 a4:a≠j
 b1:b≠z
 b2:b≠to
 b3:b≠i
 b4:b≠j
def zEnd(l:List Value)(n:Nat):Sem PySem.Fin:=do
 if n > 0 then
  rule "zip.__next__.shorter";raiseError "ValueError" s!"zip() argument {n + 1} is shorter than {if n == 1 then "argument 1" else s!"arguments 1-{n}"}"
 for (e,m) in (l.drop 1).zipIdx 1 do
  if(←Builtin.SmallTypes.nextOrEnd e).isSome then
   rule "zip.__next__.longer";raiseError "ValueError" s!"zip() argument {m + 1} is longer than {if m == 1 then "argument 1" else s!"arguments 1-{m}"}"
 rule "zip.__next__.all-ended";Builtin.SmallTypes.stopIteration
theorem zkP{z ti to i j a b:Addr}{ta tb:Bool}{k:Nat}{xs ys:Array Value}{x y u v:Value}{Q:Value->Shared->Prop}(D:Apart z ti to i j a b)
  (hz:z2E s.heap z ti to .none) (hI:IsPair s.heap ti (.ref i) (.ref j)) (hO:IsPair s.heap to u v) (hi:ItAt s.heap ta i a k) (hj:ItAt s.heap tb j b k) (ha:SqAt s.heap ta a xs) (hb:SqAt s.heap tb b ys) (hx:xs[k]?=some x) (hy:ys[k]?=some y)
  (hQ:∀ h',z2E h' z ti to (rawInt s.heap.objs.size)→IsPair h' to x y→ItAt h' ta i a (k+1)→ItAt h' tb j b (k+1)→IsPair h' s.heap.objs.size x y→h'.objs.size=s.heap.objs.size+1 →
   (∀ c o,c≠z->c≠to->c≠i->c≠j->s.heap.get? c=some o->h'.get? c=some o)->Q (.ref s.heap.objs.size) { s with heap:=h' }) :
  wpAny (model prog w) A (Builtin.«zip.__next__» ⟨[.ref z],[]⟩) (λfin s'=>∃ v,fin = .done (.ret v)/\Q v s') E s:=by
 show wpAny _ _ (field (.ref z) 2 >>= λt=>_) _ _ _;refine wpAny_bind (wpAny_field hz rfl (x:=Value.bool true) rfl ?_);show wpAny _ _ (field (.ref z) 3 >>= λt=>_) _ _ _;refine wpAny_bind (wpAny_field hz rfl (x:=Value.ref ti) rfl ?_);refine wpAny_bind (wpAny_seqItems hI rfl ?_);show wpAny _ _ (Builtin.SmallTypes.ownedTupleIsFree (.ref z) >>= λt=>_) _ _ _;refine wpAny_bind ?_;unfold Builtin.SmallTypes.ownedTupleIsFree;refine wpAny_bind (wpAny_field hz rfl (x:=Value.none) rfl (wpAny_pure ?_));simp only[if_true];refine wpAny_bind (wpAny_rule ?_);refine wpAny_bind (wpAny_field hz rfl (x:=Value.ref to) rfl ?_);refine wpAny_bind (wpAny_setField_rec hz (by simp) λg1 z1 m1=>?_);replace z1:z2E g1 z ti to .ellipsis:=z1;refine wpAny_bind ?_;simp only[VI,vz,VV,vm];refine wpAny_bind (wpAny_bind (wpAny_onRaise ?_));show wpAny _ _ (Builtin.SmallTypes.nextOrEnd (.ref i)) _ _ _;refine zaY (hi.at λo e=>m1.extBut _ _ D.p3 e) (ha.at λo e=>m1.extBut _ _ D.a1 e) hx λg2 i2 m2=>?_;have o2:IsPair g2 to u v:=m2.extBut _ _ D.p8 (m1.extBut _ _ D.p2 hO);refine wpAny_bind (wpAny_seqItems o2 rfl ?_);refine wpAny_bind (wpAny_updateSeq_pair o2 λg3 o3 m3=>?_);replace o3:IsPair g3 to x v:=o3;refine wpAny_bind (wpAny_letGo (wpAny_pure ?_));refine wpAny_bind (wpAny_bind (wpAny_onRaise ?_));show wpAny _ _ (Builtin.SmallTypes.nextOrEnd (.ref j)) _ _ _;refine zaY (hj.at λo e=>m3.extBut _ _ D.p9.symm (m2.extBut _ _ D.p10.symm (m1.extBut _ _ D.p4 e))) (hb.at λo e=>m3.extBut _ _ D.b2 (m2.extBut _ _ D.b3 (m1.extBut _ _ D.b1 e))) hy λg4 j4 m4=>?_;have o4:IsPair g4 to x v:=m4.extBut _ _ D.p9 o3;refine wpAny_bind (wpAny_seqItems o4 rfl ?_);refine wpAny_bind (wpAny_updateSeq_pair o4 λg5 o5 m5=>?_);replace o5:IsPair g5 to x y:=o5;refine wpAny_bind (wpAny_letGo (wpAny_pure (wpAny_pure ?_)));refine wpAny_bind (wpAny_seqItems o5 rfl ?_);refine wpAny_bind (wpAny_newTuple ?_);have sz:g5.objs.size=s.heap.objs.size:=by rw[m5.1,m4.1,m3.1,m2.1,m1.1]
 have z5:z2E g5 z ti to .ellipsis:=m5.extBut _ _ D.p2.symm (m4.extBut _ _ D.p4.symm (m3.extBut _ _ D.p2.symm (m2.extBut _ _ D.p3.symm z1)));have k5:∀ c o,c≠z->c≠to->c≠i->c≠j->s.heap.get? c=some o->g5.get? c=some o:=λc o c1 c2 c3 c4 e=>m5.extBut _ _ c2 (m4.extBut _ _ c4 (m3.extBut _ _ c2 (m2.extBut _ _ c3 (m1.extBut _ _ c1 e))));have i5:ItAt g5 ta i a (k+1):=i2.at λo e=>m5.extBut _ _ D.p8.symm (m4.extBut _ _ D.p10 (m3.extBut _ _ D.p8.symm e));have j5:ItAt g5 tb j b (k+1):=j4.at λo e=>m5.extBut _ _ D.p9.symm e;have zl:z<g5.objs.size:=ww z5;show wpAny _ _ (Builtin.SmallTypes.ownedTupleHandOut (.ref z) (.ref g5.objs.size) >>= λt=>_) _ _ _;refine wpAny_bind ?_;unfold Builtin.SmallTypes.ownedTupleHandOut;have z6:z2E (g5.push { cls := .type "tuple",data := .seq #[x,y] }) z ti to .ellipsis:=wd _ z5;refine wpAny_bind (wpAny_setField_rec z6 (by simp) λg7 z7 m7=>?_);replace z7:z2E g7 z ti to (rawInt g5.objs.size):=z7;refine wpAny_setField_rec z7 (by simp) λg8 z8 m8=>?_;replace z8:z2E g8 z ti to (rawInt g5.objs.size):=z8;have up:∀ c o,c≠z->g5.get? c=some o->g8.get? c=some o:=λc o c1 e=>m8.extBut _ _ c1 (m7.extBut _ _ c1 (wd _ e));have t8:IsPair g8 g5.objs.size x y:=m8.extBut _ _ (vi zl) (m7.extBut _ _ (vi zl) (wy _ rfl));have s8:g8.objs.size=g5.objs.size+1:=by rw[m8.1,m7.1,Wf]
 rw[sz]at z8 t8 s8;refine wpAny_pure ⟨_,rfl,?_⟩;show Q (.ref g5.objs.size) _;rw[sz];exact hQ g8 z8 (up _ _ D.p2 o5) (i5.at λo e=>up _ o D.p3 e) (j5.at λo e=>up _ o D.p4 e) t8 s8 λc o c1 c2 c3 c4 e=>up c o c1 (k5 c o c1 c2 c3 c4 e)
theorem zoy{z ti to i j a b:Addr}{ta tb:Bool}{k:Nat}{xs ys:Array Value}{u v:Value}{Q:Fin->Shared->Prop}(hn:A.handled=none)(D:Apart z ti to i j a b)
  (hz:z2E s.heap z ti to .none) (hI:IsPair s.heap ti (.ref i) (.ref j)) (hO:IsPair s.heap to u v) (hi:ItAt s.heap ta i a k) (hj:ItAt s.heap tb j b k) (ha:SqAt s.heap ta a xs) (hb:SqAt s.heap tb b ys) (hx:xs[k]?=none) (hy:ys[k]?=none)
  (hE:∀ h' e,(∀ c o,c≠z->c≠to->c≠i->c≠j->s.heap.get? c=some o->h'.get? c=some o)->(∃ o,h'.get? e=some o/\o.cls = .type "StopIteration")->E (.ref e) { s with heap:=h' }) :
  wpAny (model prog w) A (Builtin.«zip.__next__» ⟨[.ref z],[]⟩) Q E s:=by
 show wpAny _ _ (field (.ref z) 2 >>= λt=>_) _ _ _;refine wpAny_bind (wpAny_field hz rfl (x:=Value.bool true) rfl ?_);show wpAny _ _ (field (.ref z) 3 >>= λt=>_) _ _ _;refine wpAny_bind (wpAny_field hz rfl (x:=Value.ref ti) rfl ?_);refine wpAny_bind (wpAny_seqItems hI rfl ?_);show wpAny _ _ (Builtin.SmallTypes.ownedTupleIsFree (.ref z) >>= λt=>_) _ _ _;refine wpAny_bind ?_;unfold Builtin.SmallTypes.ownedTupleIsFree;refine wpAny_bind (wpAny_field hz rfl (x:=Value.none) rfl (wpAny_pure ?_));simp only[if_true];refine wpAny_bind (wpAny_rule ?_);refine wpAny_bind (wpAny_field hz rfl (x:=Value.ref to) rfl ?_);refine wpAny_bind (wpAny_setField_rec hz (by simp) λg1 z1 m1=>?_);replace z1:z2E g1 z ti to .ellipsis:=z1;refine wpAny_bind ?_;simp only[VI,vz,VV,vm];refine wpAny_bind (wpAny_bind (wpAny_onRaise ?_));show wpAny _ _ (Builtin.SmallTypes.nextOrEnd (.ref i)) _ _ _;refine zdf hn (hi.at λo e=>m1.extBut _ _ D.p3 e) (ha.at λo e=>m1.extBut _ _ D.a1 e) hx λg2 m2=>?_;have z2:z2E g2 z ti to .ellipsis:=m2 _ _ D.p3.symm z1;refine wpAny_bind (wpAny_setField_rec z2 (by simp) λg3 z3 m3=>?_);refine wpAny_bind ?_;show wpAny _ _ (zEnd [.ref i,.ref j] 0) _ _ _;unfold zEnd;rw[if_neg (Wp 0)];show wpAny _ _ (forIn [(Value.ref j,1)] PUnit.unit _ >>= λt=>_) _ _ _;simp only[vz,vm];refine wpAny_bind (wpAny_bind (wpAny_bind (zdf hn (hj.at λo e=>m3.extBut _ _ D.p4 (m2 _ _ D.p10.symm (m1.extBut _ _ D.p4 e))) (hb.at λo e=>m3.extBut _ _ D.b1 (m2 _ _ D.b3 (m1.extBut _ _ D.b1 e))) hy λg4 m4=>?_)));simp only[Option.isSome_none,vI,if_false];refine wpAny_pure (wpAny_pure (wpAny_bind (wpAny_rule ?_)));unfold Builtin.SmallTypes.stopIteration;refine wpAny_bind ?_;simp only[newExc,newTuple];refine wpAny_bind (wpAny_newObj_type ?_ (by size_fits));refine wpAny_bind (m:=firstArgMember _ _) (wpAny_of_eq (a:=Value.none) (by first|(simp only[firstArgMember];rfl)|rfl) ?_);refine wpAny_newObj_type ?_ (by size_fits);simp only[raiseNew];refine wpAny_bind (wpAny_handled ?_)
 first|rw[hn]|rw[show A.in1.handled=none from hn]
 refine wpAny_bind (wpAny_pure (wpAny_throw ?_));refine hE _ _ (λc o c1 c2 c3 c4 e=>?_) ⟨_,wy _ rfl,rfl⟩;exact wd _ (wd _ (m4 _ _ c4 (m3.extBut _ _ c1 (m2 _ _ c3 (m1.extBut _ _ c1 e)))))
theorem zjK{z ti to i j a b:Addr}{ta tb:Bool}{k:Nat}{xs ys:Array Value}{x y u v:Value}{Q:Option Value->Shared->Prop}(D:Apart z ti to i j a b)
  (hz:z2E s.heap z ti to .none) (hI:IsPair s.heap ti (.ref i) (.ref j)) (hO:IsPair s.heap to u v) (hi:ItAt s.heap ta i a k) (hj:ItAt s.heap tb j b k) (ha:SqAt s.heap ta a xs) (hb:SqAt s.heap tb b ys) (hx:xs[k]?=some x) (hy:ys[k]?=some y)
  (hQ:∀ h',z2E h' z ti to (rawInt s.heap.objs.size)→IsPair h' to x y→ItAt h' ta i a (k+1)→ItAt h' tb j b (k+1)→IsPair h' s.heap.objs.size x y→h'.objs.size=s.heap.objs.size+1 →
   (∀ c o,c≠z->c≠to->c≠i->c≠j->s.heap.get? c=some o->h'.get? c=some o)->Q (some (.ref s.heap.objs.size)) { s with heap:=h' }):wpAny (model prog w) A (pyNext (.ref z)) Q E s:=by
 have t:s.TypeIs (.ref z) "zip" := ⟨_,hz,rfl⟩;unfold pyNext;exact wpAny_bind (wpAny_attempt (wpAny_callSpecial?_slot (name:=Str.ofString "__next__") t F.slot_zip_next (wpAny_call_entry F.slot_zip_next t F.entry_zip_next
  (zkP D hz hI hO hi hj ha hb hx hy λh' q1 q2 q3 q4 q5 q6 q7=>wpAny_pure (hQ h' q1 q2 q3 q4 q5 q6 q7)) (F.args_zip_next_1 _))))
theorem zkQ{z ti to i j a b:Addr}{ta tb:Bool}{k:Nat}{xs ys:Array Value}{u v:Value}{Q:Option Value->Shared->Prop}(hn:A.handled=none)(D:Apart z ti to i j a b)
  (hz:z2E s.heap z ti to .none) (hI:IsPair s.heap ti (.ref i) (.ref j)) (hO:IsPair s.heap to u v) (hi:ItAt s.heap ta i a k) (hj:ItAt s.heap tb j b k) (ha:SqAt s.heap ta a xs) (hb:SqAt s.heap tb b ys) (hx:xs[k]?=none) (hy:ys[k]?=none)
  (hQ:∀ h',(∀ c o,c≠z->c≠to->c≠i->c≠j->s.heap.get? c=some o->h'.get? c=some o)->Q none { s with heap:=h' }):wpAny (model prog w) A (pyNext (.ref z)) Q E s:=by
 have t:s.TypeIs (.ref z) "zip" := ⟨_,hz,rfl⟩;unfold pyNext;refine wpAny_bind (wpAny_attempt (wpAny_callSpecial?_slot (name:=Str.ofString "__next__") t F.slot_zip_next (wpAny_call_entry F.slot_zip_next t F.entry_zip_next
  (zoy hn D hz hI hO hi hj ha hb hx hy λh' e q1⟨o,q2,q3⟩=>?_) (F.args_zip_next_1 _))))
 exact wpAny_bind (wpAny_isInstance (T := "StopIteration") (b:=true) ⟨o,q2,q3⟩ isSubtype_stop (wpAny_pure (hQ _ q1)))
theorem let_go{elts:List Expr}{n:Nat}{pos:Pos}{z ti to t:Addr}{Q:Unit->Shared->Prop}(hz:z2E s.heap z ti to (rawInt t))
  (hQ:∀ h',z2E h' z ti to .none->Heap.SameBut z s.heap h'->Q () { s with heap:=h' }):wpAny (model prog w) A (letOwnedTupleGo (.Tuple elts n pos) (.ref z) (.ref t)) Q E s:=by
 unfold letOwnedTupleGo;refine wpAny_bind (wpAny_load hz ?_);show wpAny _ _ (if(["enumerate", "zip", "dict_itemiterator", "dict_reverseitemiterator", "odict_iterator", "itertools.zip_longest", "itertools.pairwise"].contains "zip" && (#[rawInt t,.bool false,.bool true,.ref ti,.ref to]:Array Value)[0]?==some (rawInt t))=true then _ else _) Q E s;rw[if_pos (by simp)];refine wpAny_bind (wpAny_rule ?_);show wpAny _ _ (setField (.ref z) 0 .none) Q E s;exact wpAny_setField_rec hz (by simp) λh' q1 q2=>hQ h' q1 q2
theorem zdg{z ti to:Addr}{f:Value}{Q:Value->Shared->Prop}(hz:z2E s.heap z ti to f)(h:Q (.ref z) s):wpAny (model prog w) A (pyIter (.ref z)) Q E s:=by
 have t:s.TypeIs (.ref z) "zip" := ⟨_,hz,rfl⟩;refine wpAny_pyIter_slot t F.slot_zip_iter (wpAny_call_entry F.slot_zip_iter t F.entry_zip_iter ?_ (F.args_zip_iter_1 _));show wpAny _ _ (ret (.ref z)) _ _ s;exact wpAny_pure ⟨_,rfl, "zip",_,t,F.slot_zip_next.lookup,h⟩
def zdh(tu:Bool)(l:Addr):Obj:={ cls := .type (if tu then "tuple_iterator" else "list_iterator"),data := .fields #[.ref l,.int 0 0] }
theorem zdi{tu:Bool}{l:Addr}{xs:Array Value}{Q:Value->Shared->Prop}(h:SqAt s.heap tu l xs)(q:Q (.ref s.heap.objs.size) { s with heap:=s.heap.push (zdh tu l) }):wpAny (model prog w) A (pyIter (.ref l)) Q E s:=by
 cases tu with
 | true=>exact wpAny_pyIter_tuple h q
 | false=>exact wpAny_pyIter_list h q
theorem zdj{h:Heap}{tu:Bool}{l p:Addr}(e:h.get? p=some (zdh tu l)):ItAt h tu p l 0:=by
 unfold ItAt;cases tu with
 | true=>exact⟨_,e,rfl,rfl⟩
 | false=>exact⟨_,e,rfl,rfl⟩
abbrev h1(h:Heap)(ta:Bool)(a:Addr):Heap:=h.push (zdh ta a)
abbrev h2(h:Heap)(ta tb:Bool)(a b:Addr):Heap:=(h1 h ta a).push (zdh tb b)
abbrev h3(h:Heap)(ta tb:Bool)(a b:Addr):Heap:=(h2 h ta tb a b).push { cls := .type "tuple",data := .seq #[.ref h.objs.size,.ref (h1 h ta a).objs.size] }
abbrev h4(h:Heap)(ta tb:Bool)(a b:Addr):Heap:=(h3 h ta tb a b).push { cls := .type "tuple",data := .seq #[.none,.none] }
abbrev h5(h:Heap)(ta tb:Bool)(a b:Addr):Heap:=(h4 h ta tb a b).push { cls := .type "zip",data := .fields #[.none,.bool false,.bool true,.ref (h2 h ta tb a b).objs.size,.ref (h3 h ta tb a b).objs.size] }
theorem zjL(a b:Addr)(ta tb:Bool)(xs ys:Array Value):Meets (Builtin.«zip.__new__» ⟨[.type "zip",.ref a,.ref b],[(Str.ofString "strict",.bool true)]⟩)
  (λ_ R s=>SqAt s.heap ta a xs/\SqAt s.heap tb b ys/\R (.ok (.ret (.ref (h4 s.heap ta tb a b).objs.size))) { s with heap:=h5 s.heap ta tb a b }) :=
 .of_wp λprog w A R s⟨qa,qb,q⟩=>by
  obtain⟨hp,g,d,tk,os⟩:=s;have f1:=sub_zip;have e1:SqAt (Shared.heap ⟨hp,g,d,tk,os⟩) ta a xs:=qa;have e2:SqAt (Shared.heap ⟨hp.push (zdh ta a),g,d,tk,os⟩) tb b ys:=qb.at λo e=>wd _ e
  wp_walk using zdi e1,zdi e2
  exact⟨_,rfl,q⟩
end
end ZL

end
section
set_option maxHeartbeats 4000000
namespace ZL
open PySem PyProof.Rows
theorem okT(a b v:Value):checkTypeCall "zip" ⟨[a,b],[(Str.ofString "strict",v)]⟩=pure ():=by kernel_rfl
theorem okN(a b v:Value):checkBuiltinCall "zip.__new__" ⟨[.type "zip",a,b],[(Str.ofString "strict",v)]⟩=pure ():=by kernel_rfl
theorem okI(a b c v:Value):argsOk "object.__init__" ⟨[a,b,c],[(Str.ofString "strict",v)]⟩:=by
 unfold argsOk;rw[signature?_of (id := "object.__init__") (n := "__init__".toList.reverse) (o := "object".toList.reverse) (by kernel_rfl) F.owner_object];kernel_rfl
section
variable {prog:Program}{w:World}{A:Around}{E:Value->Shared->Prop}{s:Shared}
theorem zex(self a b v:Value):Meets (Builtin.«object.__init__» ⟨[self,a,b],[(Str.ofString "strict",v)]⟩) (λ_ R s=>s.TypeIs self "zip" /\ R (.ok (.ret .none)) s):=by
 refine Meets.of_wp ?_;rintro prog w A R s ⟨t,q⟩;have hl:=F.called_zip.init.lookup;have hm:=F.called_zip.made;have hne:(some "zip.__new__" != some "object.__new__")=true:=by decide
 repeat (any_goals first|assumption|wp_step)
 exact⟨_,rfl,q⟩
theorem zkR{a b:Addr}{ta tb:Bool}{xs ys:Array Value}{Q:Value->Shared->Prop}(qa:SqAt s.heap ta a xs)(qb:SqAt s.heap tb b ys)
   (q:Q (.ref (h4 s.heap ta tb a b).objs.size) { s with heap:=h5 s.heap ta tb a b }):wpAny (model prog w) A (call (.type "zip") [.ref a,.ref b] [(Str.ofString "strict",.bool true)]) Q E s:=by
 obtain⟨c,tl,hmro⟩:=F.called_zip.mro;have m1:=F.called_zip.made;have m2:=F.called_zip.sub;have m3:=okT (.ref a) (.ref b) (.bool true);refine wpAny_call (codeAny_of_tree ?_);show wpAny _ _ (callAny (.type "zip") _) _ _ _;refine wpAny_pure ⟨Code.quiet_builtin _ (by decide +kernel),codeAny_builtin F.entry_type_call ?_⟩;rw[Around.under_plain (weight_type_call_type "zip" _ _) (units_type_call_type "zip" _ _)];have m4:=F.called_zip.notType;have m5:=F.called_zip.canCreate
 repeat (any_goals first|assumption|wp_step)
 refine codeAny_mono (codeAny_call_builtin F.called_zip.plain F.entry_zip_new (wpAny_of_eq (okN _ _ _) (zjL a b ta tb xs ys prog w A.in1 (wants (λo s1=>s1.TypeIs o "zip" /\ Q o s1) E) s ⟨qa,qb,?_⟩))) λr s1 hr=>?_
 · exact⟨⟨_,wy _ rfl,rfl⟩,q⟩
 cases r with
 | error e=>exact hr
 | ok fl =>
   cases fl with
   | ret o =>
    obtain⟨ty,hq⟩:=hr;have n1:=F.called_zip.init.lookup;have n2:=F.called_zip.init.bind o
    repeat (any_goals first|assumption|wp_step)
    refine codeAny_mono (codeAny_call_builtin F.called_zip.init.plain F.entry_object_init (F.called_zip.init.check _ _ _ _ _ _ _ _ ty (okI o _ _ _) (zex o _ _ _ prog w A.in1 (wants (λr s2=>r = .none/\Q o s2) E) s1 ⟨ty,rfl,hq⟩))) λr2 s2 hr2=>?_;cases r2 with
    | error e=>exact hr2
    | ok f2 =>
     cases f2 with
     | ret r =>
      obtain⟨rfl,hq⟩:=hr2
      repeat (any_goals first|assumption|wp_step)
     | _=>exact hr2.elim
   | _=>exact hr.elim
end
end ZL

end
section
local macro_rules|`(tactic|rfl')=>`(tactic|first|lia|omega +splitDisjunctions)
set_option maxHeartbeats 1000000
namespace L2
open PySem PySem.Spec PyProof.Rows ZL
section
variable {X:Cx}{pins:List (Addr×Obj)}{σ:St}{H:Hp}{s:Shared}{h':Heap}
theorem Inv.turnedL{t':Nat}{ch:List Addr}(I:Inv X pins σ H s)(k:∀ b o,b ∉ ch->s.heap.get? b=some o->h'.get? b=some o)(hc:∀ b∈ch,FpOk X pins H b):Inv X pins σ H { s with heap:=h',toks:=t' }:=by
 have nit:∀ b u,H b=some u->b ∉ ch:=λb u e z=>by rw[(hc b z).1]at e;cases e
 refine I.step (g':=s.gens) (d':=s.drawn) (ch:=ch) (λb hb=>?_) (λb o _ _ hn e _=>k b o hn e) (λb o _ _ hn e _=>⟨o.slots,k b o hn e⟩) (λ_ _ _ _ n=>n)
   (λb o hn e=>⟨o,k b o hn e⟩) (λ_ _ e=>e) (λ_ _ _ e=>e) (λb ps e=>⟨#[],by rw[e];simp⟩) (λm hm=>?_) (λb u e=>?_) I.bare
 · obtain⟨f0,f1,f2,f3,f4,f5⟩:=hc b hb;exact⟨f3,f1,f4,f5⟩
 · obtain⟨o,es,ep,ho,r⟩:=hm;exact⟨o,es,ep,k _ o (λz=>(hc _ z).2.1 rfl) ho,r⟩
 · refine(I.hok b u e).stay (λc v hcc q=>k c v ?_ q) (λ_ q=>q) λ_ _ q=>q;rcases hcc with z|z
   · rw[z];exact nit b u e
   · exact nit c _ z
theorem Inv.pair{t':Nat}{ch:List Addr}{x y:V}{u v:Value}(I:Inv X pins σ H s)(rx:RelV x u)(ry:RelV y v)(hp:h'.get? s.heap.objs.size=some { cls := .type "tuple",data := .seq #[u,v] })
   (k:∀ b o,b ∉ ch->s.heap.get? b=some o->h'.get? b=some o) (hc:∀ b∈ch,FpOk X pins H b) (hl:∀ b∈ch,b<s.heap.objs.size) :
   H s.heap.objs.size=none/\Inv X pins σ (upd H s.heap.objs.size (.tup [x,y])) { s with heap:=h',toks:=t' }:=by
 have hn:H s.heap.objs.size=none:=I.hok.fresh (wx _);have I1:Inv X pins σ (upd H s.heap.objs.size (.tup [x,y])) { s with heap:=s.heap.push { cls := .type "tuple",data := .seq #[u,v] },toks:=t' } :=
   I.laid (λb o e=>wd _ e) (wx _) ⟨by show 2<=sizeLine;decide,[u,v],.cons rx (.cons ry .nil),⟨_,wy _ rfl,rfl,_,rfl⟩⟩
 refine⟨hn,Inv.turnedL (s:={ s with heap:=s.heap.push { cls := .type "tuple",data := .seq #[u,v] },toks:=t' }) (h':=h') (t':=t') (ch:=ch) I1 (λb o hb e=>?_) λb hb=>?_⟩
 · by_cases q:b=s.heap.objs.size
   · subst q;have e2:(s.heap.push { cls := .type "tuple",data := .seq #[u,v] }).get? s.heap.objs.size=some _:=wy _ rfl;have e:(s.heap.push { cls := .type "tuple",data := .seq #[u,v] }).get? s.heap.objs.size=some o:=e;rw[e2]at e;rw[hp];exact e
   · refine k b o hb ?_;have e:(s.heap.push { cls := .type "tuple",data := .seq #[u,v] }).get? b=some o:=e;rw[Vy _ _ _ q]at e;exact e
 · obtain⟨f0,f⟩:=hc b hb;exact⟨by rw[z0r (wV (hl b hb))];exact f0,f⟩
end
def SqV(K:PySem.W.Frag)(tu:Bool)(H:Hp)(a:Addr)(xs:List V):Prop:=if tu then SqT K H a xs else SqL K H a xs
theorem SqV.mono{K:PySem.W.Frag}{tu:Bool}{H H':Hp}{a:Addr}{xs:List V}(e:Same H H')(h:SqV K tu H a xs):SqV K tu H' a xs:=by
 unfold SqV at h ⊢;cases tu with
 | true=>exact e.seqT h
 | false=>exact e.seq h
theorem Inv.sq{X:Cx}{pins:List (Addr×Obj)}{σ:St}{H:Hp}{s:Shared}{tu:Bool}{a:Addr}{xs:List V}(I:Inv X pins σ H s)(h:SqV X.K tu H a xs):∃ its:List Value,Vals xs its/\SqAt s.heap tu a its.toArray/\xs.length<=sizeLine:=by
 unfold SqV at h;unfold SqAt;cases tu with
 | true=>obtain⟨its,r,p,z⟩:=I.tuple h;exact⟨its,r,p,z⟩
 | false=>obtain⟨its,r,p,z⟩:=I.list h;exact⟨its,r,p.isList,z⟩
theorem Inv.sq_inj{X:Cx}{pins:List (Addr×Obj)}{σ:St}{H:Hp}{s:Shared}{tu:Bool}{a:Addr}{xs ys:List V}(I:Inv X pins σ H s)(h:SqV X.K tu H a xs)(h':SqV X.K tu H a ys):xs=ys:=by
 unfold SqV at h h';cases tu with
 | true=>exact I.tuple_inj h h'
 | false=>exact I.list_inj h h'
def Itz(K:PySem.W.Frag)(ta tb:Bool)(a b:Addr):It where
 go:=λi H=>∃ xs ys x y,SqV K ta H a xs/\SqV K tb H b ys/\xs[i]?=some x/\ys[i]?=some y
 yld:=λi H v H'=>∃ p x y,(∀ xs,SqV K ta H a xs->xs[i]?=some x)/\(∀ ys,SqV K tb H b ys->ys[i]?=some y)/\H p=none/\v = .ref p/\H'=upd H p (.tup [x,y])
 stop:=λi H=>∃ xs ys,SqV K ta H a xs/\SqV K tb H b ys/\xs.length<=i/\ys.length<=i
theorem mem5{z ti to i j c:Addr}(h:c ∉ [z,ti,to,i,j]):c≠z/\c≠ti/\c≠to/\c≠i/\c≠j:=by simpa using h
theorem zkS{P:Program}{w:World}{K:PySem.W.Frag}{elts:List Expr}{n:Nat}{pos:Pos}{ta tb:Bool}{z ti to i j a b:Addr}(D:Apart z ti to i j a b):
  Turn P w K (.Tuple elts n pos) (Itz K ta tb a b) [z,ti,to,i,j] z (λk h=>z2E h z ti to .none/\IsPair h ti (.ref i) (.ref j)/\(∃ u v,IsPair h to u v)/\ItAt h ta i a k/\ItAt h tb j b k) where
 mem:=by simp
 obj:=λk h ⟨q1,q2,⟨u,v,q3⟩,q4,q5⟩ c hc=>by
  have it:∀{tu:Bool} {it l:Addr} {k:Nat},ItAt h tu it l k->∃ o,h.get? it=some o/\∀ v,o.data ≠ .cell v:=λ{tu it l k} q=>by
    unfold ItAt at q;cases tu with
    | true=>obtain⟨o,e,_,d⟩:=q;exact⟨o,e,λv z=>by rw[d]at z;cases z⟩
    | false=>obtain⟨o,e,_,d⟩:=q;exact⟨o,e,λv z=>by rw[d]at z;cases z⟩
  simp only[wn,WR,or_false]at hc;rcases hc with rfl|rfl|rfl|rfl|rfl
  · exact⟨_,q1,λv z=>by have z':Data.fields _=Data.cell v:=z;cases z'⟩
  · exact⟨_,q2,λv z=>by have z':Data.seq _ _=Data.cell v:=z;cases z'⟩
  · exact⟨_,q3,λv z=>by have z':Data.seq _ _=Data.cell v:=z;cases z'⟩
  · exact it q4
  · exact it q5
 keep:=λk h h' ⟨q1,q2,⟨u,v,q3⟩,q4,q5⟩ kk=>⟨kk z (by simp) _ q1,kk ti (by simp) _ q2,⟨u,v,kk to (by simp) _ q3⟩,q4.at λo e=>kk i (by simp) o e,q5.at λo e=>kk j (by simp) o e⟩
 item:=by
  intro X hP hw hK hc k pins s σ H E I hf ⟨q1,q2,⟨u,v,q3⟩,q4,q5⟩ hg;subst hP hw hK;obtain⟨xs,ys,x,y,hx,hy,ex,ey⟩:=hg;obtain⟨its,rx,px,_⟩:=I.sq hx;obtain⟨jts,ry,py,_⟩:=I.sq hy;obtain⟨ux,hux,rux⟩:=rx.get ex;obtain⟨uy,huy,ruy⟩:=ry.get ey;have lt:∀ b∈[z,ti,to,i,j],b<s.heap.objs.size:=λb hb=>by
    simp only[wn,WR,or_false]at hb;rcases hb with rfl|rfl|rfl|rfl|rfl
    · exact ww q1
    · exact ww q2
    · exact ww q3
    · exact q4.lt
    · exact q5.lt
  refine zjK D q1 q2 q3 q4 q5 px py (x:=ux) (y:=uy) (by simpa using hux) (by simpa using huy) λh' a1 a2 a3 a4 a5 a6 a7=>⟨_,rfl,let_go a1 λh'' b1 b2=>?_⟩;have hzp:s.heap.objs.size≠z:=vi (lt z (by simp));have kk:∀ b o,b ∉ [z,ti,to,i,j]->s.heap.get? b=some o->h''.get? b=some o:=λb o hb e=>by
    obtain⟨c1,c2,c3,c4,c5⟩:=mem5 hb;exact b2.extBut _ _ c1 (a7 b o c1 c3 c4 c5 e)
  obtain⟨hn,I1⟩:=I.pair (t':=s.toks) (h':=h'') rux ruy (b2.extBut _ _ hzp a5) kk hf lt;refine⟨.ref s.heap.objs.size,_,I1,rfl,⟨_,x,y,λzs hz=>by rw[I.sq_inj hz hx];exact ex,λzs hz=>by rw[I.sq_inj hz hy];exact ey,hn,rfl,rfl⟩,?_,λb hb=>by rw[z0r (wV (lt b hb))];exact(hf b hb).1⟩;exact⟨b1,b2.extBut _ _ D.p1 (a7 _ _ D.p1 D.p5 D.p6 D.p7 q2),⟨_,_,b2.extBut _ _ D.p2 a2⟩,a3.at λo e=>b2.extBut _ _ D.p3 e,a4.at λo e=>b2.extBut _ _ D.p4 e⟩
 done:=by
  intro X hP hw hK hc k pins s σ H E I hf ⟨q1,q2,⟨u,v,q3⟩,q4,q5⟩ hg;subst hP hw hK;obtain⟨xs,ys,hx,hy,ex,ey⟩:=hg;obtain⟨its,rx,px,_⟩:=I.sq hx;obtain⟨jts,ry,py,_⟩:=I.sq hy;have l1:=rx.length;have l2:=ry.length;refine zkQ (I.ok.hd hc) D q1 q2 q3 q4 q5 px py (by simp;rfl') (by simp;rfl') λh' a7=>⟨rfl,I.turnedL (t':=s.toks) (ch:=[z,ti,to,i,j]) (λb o hb e=>?_) hf⟩;obtain⟨c1,c2,c3,c4,c5⟩:=mem5 hb;exact a7 b o c1 c3 c4 c5 e
 self:=λ_ _ _ _ _ q h=>zdg q.1 h
def Ite(K:PySem.W.Frag)(a:Addr):It where
 go:=λi H=>∃ xs x,SqL K H a xs/\xs[i]?=some x
 yld:=λi H v H'=>∃ p x,(∀ xs,SqL K H a xs->xs[i]?=some x)/\H p=none/\v = .ref p/\H'=upd H p (.tup [.int i,x])
 stop:=λi H=>∃ xs,SqL K H a xs/\xs.length<=i
theorem zjM{P:Program}{w:World}{K:PySem.W.Frag}{elts:List Expr}{n:Nat}{pos:Pos}{e it a:Addr}(hne:e≠it):
  Turn P w K (.Tuple elts n pos) (Ite K a) [e,it] e (λk h=>(∃ old,IsEnum h e it k old)/\h.IsListIter it a k) where
 mem:=by simp
 obj:=λk h ⟨⟨old,q1⟩,q2⟩ c hc=>by
  simp only[wn,WR,or_false]at hc;rcases hc with rfl|rfl
  · exact⟨_,q1,λv z=>by have z':Data.fields _=Data.cell v:=z;cases z'⟩
  · obtain⟨o,e,_,d⟩:=q2;exact⟨o,e,λv z=>by rw[d]at z;cases z⟩
 keep:=λk h h' ⟨⟨old,q1⟩,q2⟩ kk=>⟨⟨old,kk e (by simp) _ q1⟩,q2.at λo q=>kk it (by simp) o q⟩
 item:=by
  intro X hP hw hK hc k pins s σ H E I hf ⟨⟨old,q1⟩,q2⟩ hg;subst hP hw hK;obtain⟨xs,x,hx,ex⟩:=hg;obtain⟨its,rx,px,_⟩:=I.list hx;obtain⟨ux,hux,rux⟩:=rx.get ex;have lt:∀ b∈[e,it],b<s.heap.objs.size:=λb hb=>by
    simp only[wn,WR,or_false]at hb;rcases hb with rfl|rfl
    · exact ww q1
    · obtain⟨o,z,_⟩:=q2;exact ww z
  refine wpAny_pyNext_enum_item q1 q2 px.isList (x:=ux) (by simpa using hux) hne λh' a1 a2 a3 a4 a5=>⟨_,rfl,wpAny_letOwnedTupleGo_enum a1 λh'' b1 b2=>?_⟩;have hzp:s.heap.objs.size≠e:=vi (lt e (by simp));have kk:∀ b o,b ∉ [e,it]->s.heap.get? b=some o->h''.get? b=some o:=λb o hb q=>by
    have c:b≠e/\b≠it:=by simpa using hb
    exact b2.extBut _ _ c.1 (a5 b o c.1 c.2 q)
  obtain⟨hn,I1⟩:=I.pair (x := .int k) (t':=s.toks+1) (h':=h'') ⟨s.toks,rfl⟩ rux (b2.extBut _ _ hzp a3) kk hf lt;refine⟨.ref s.heap.objs.size,_,I1,rfl,⟨_,x,λzs hz=>by rw[I.list_inj hz hx];exact ex,hn,rfl,rfl⟩,⟨⟨_,b1⟩,a2.at λo q=>b2.extBut _ _ (Ne.symm hne) q⟩,λb hb=>by rw[z0r (wV (lt b hb))];exact(hf b hb).1⟩
 done:=by
  intro X hP hw hK hc k pins s σ H E I hf ⟨⟨old,q1⟩,q2⟩ hg;subst hP hw hK;obtain⟨xs,hx,ex⟩:=hg;obtain⟨its,rx,px,_⟩:=I.list hx;have l1:=rx.length;refine wpAny_pyNext_enum_end (I.ok.hd hc) q1 q2 px.isList (by simp;rfl') λh' a5=>⟨rfl,I.turnedL (t':=s.toks) (ch:=[e,it]) (λb o hb q=>?_) hf⟩;have c:b≠e/\b≠it:=by simpa using hb
  exact a5 b o c.2 q
 self:=λ_ _ _ _ _ q h=>by obtain⟨⟨old,q1⟩,_⟩:=q;exact wpAny_pyIter_enum q1 h
def Itv(K:PySem.W.Frag)(a:Addr)(n:Nat):It where
 go:=λi H=>i<n/\∃ xs,SqL K H a xs/\xs.length=n
 yld:=λi H v H'=>H'=H/\∀ xs,SqL K H a xs->xs[n-1-i]?=some v
 stop:=λi H=>n<=i
theorem zkT{P:Program}{w:World}{K:PySem.W.Frag}{tg:Expr}{it a:Addr}{n:Nat}:Turn P w K tg (Itv K a n) [it] it (λk h=>k<=n/\h.IsRevIter it a ((n:Int)-1-(k:Int))) where
 mem:=by simp
 obj:=λk h ⟨_,q⟩ c hc=>by
  have e:c=it:=by simpa using hc
  subst e;obtain⟨o,e,_,d⟩:=q;exact⟨o,e,λv z=>by rw[d]at z;cases z⟩
 keep:=λk h h' ⟨q0,q⟩ kk=>⟨q0,q.at λo z=>kk it (by simp) o z⟩
 item:=by
  intro X hP hw hK hc k pins s σ H E I hf ⟨q0,q⟩ hg;subst hP hw hK;obtain⟨hk,xs,hx,hn⟩:=hg;obtain⟨its,rx,px,_⟩:=I.list hx;have hlt:n-1-k<xs.length:=by rfl'
  obtain⟨ux,hux,rux⟩:=rx.get (w8 hlt);obtain⟨f0,f1,f2,f3,f4,f5⟩:=hf it (by simp);have e1:(n:Int)-1-(k:Int)=((n-1-k:Nat):Int):=by rfl'
  rw[e1]at q;refine wpAny_pyNext_rev_item q px.isList (x:=ux) (by simpa using hux) λh' b1 b2=>?_;have I1:Inv X pins σ H { s with heap:=h' }:=I.turned (t':=s.toks) (λb o hb e=>(b2.2 b hb).trans e) f0 f1 f3 f4 f5;have e2:((n-1-k:Nat):Int)-1=(n:Int)-1-((k+1:Nat):Int):=by rfl'
  rw[e2]at b1;obtain⟨o,e,c,d⟩:=id b1;exact⟨ux,rfl,ziv (s:={ s with heap:=h' }) e c d (by decide) ⟨_,H,I1,rux,⟨rfl,λys hy=>by rw[I.list_inj hy hx];exact w8 hlt⟩,⟨by rfl',b1⟩,λb hb=>(hf b hb).1⟩⟩
 done:=by
  intro X hP hw hK hc k pins s σ H E I hf ⟨q0,q⟩ hg;subst hP hw hK;have hg:n<=k:=hg;obtain rfl:k=n:=by rfl'
  obtain⟨f0,f1,f2,f3,f4,f5⟩:=hf it (by simp);have e1:(k:Int)-1-(k:Int) = -1:=by rfl'
  rw[e1]at q;exact wpAny_pyNext_rev_end (I.ok.hd hc) q λh' eb=>⟨rfl,I.turned (t':=s.toks) (λb o hb e=>eb b o hb e) f0 f1 f3 f4 f5⟩
 self:=λ_ _ _ _ _ st h=>wpAny_pyIter_revIter st.2 h
section
variable {K:PySem.W.Frag}{H1:Hp}
theorem zoz{A:List Addr}{H:Hp}{p:Addr}{o:HO}(hp:H p=none)(hA:∀ a∈A,∃ o,H a=some o):hidL A (upd H p o)=upd (hidL A H) p o:=funext λb=>by
 have np:p ∉ A:=λz=>by obtain⟨u,e⟩:=hA p z;rw[hp]at e;cases e
 by_cases q:b=p
 · subst q;rw[z0j np,z0V,z0V]
 · rw[z0r q];by_cases z:b∈A
   · rw[z2A z,z2A z]
   · rw[z0j z,z0j z,z0r q]
theorem zdk{A:List Addr}{H:Hp}{p:Addr}{d d':Dt}{x y:V}(hp:H p=none)(hA:∀ a∈A,∃ o,H a=some o)(rx:Rp K emp d (hidL A H) x)(ry:Rp K emp d' (hidL A H) y):
  Same (hidL A H) (hidL A (upd H p (.tup [x,y])))/\(∀ a∈A,upd H p (.tup [x,y]) a=H a)/\Rp K emp (.tup [d,d']) (hidL A (upd H p (.tup [x,y]))) (.ref p):=by
 have np:p ∉ A:=λz=>by obtain⟨u,e⟩:=hA p z;rw[hp]at e;cases e
 have hq:hidL A H p=none:=by rw[z0j np];exact hp
 rw[zoz hp hA];refine⟨z1d hq,λa ha=>z0r λz=>np (z ▸ ha),Rp.tup_.mpr ⟨p,_,rfl,SqT.of z0V,?_⟩⟩;exact Rps.cons_.mpr ⟨x,[y],rfl,Rp.mono _ (z1d hq) rx,Rps.one (Rp.mono _ (z1d hq) ry)⟩
def zipD:List Dt->List Dt->List Dt
 | x::xs,y::ys => .tup [x,y]::zipD xs ys
 | _,_=>[]
theorem zdl:∀{xs ys:List Dt} {i:Nat} {d:Dt},(zipD xs ys)[i]?=some d->∃ x y,xs[i]?=some x/\ys[i]?=some y/\d = .tup [x,y]
 | [],ys,i,d,h=>by simp[zipD]at h
 | x::xs,[],i,d,h=>by simp[zipD]at h
 | x::xs,y::ys,0,d,h=>by simp[zipD]at h;exact⟨x,y,rfl,rfl,h.symm⟩
 | x::xs,y::ys,i+1,d,h=>by
  have h:(zipD xs ys)[i]?=some d:=by simpa[zipD]using h
  obtain⟨a,b,q1,q2,q3⟩:=zdl h;exact⟨a,b,by simpa using q1,by simpa using q2,q3⟩
theorem z6T:∀{xs ys:List Dt},(zipD xs ys).length=min xs.length ys.length
 | [],ys=>by simp[zipD]
 | x::xs,[]=>by simp[zipD]
 | x::xs,y::ys=>by rw[zipD,wj,z6T,wj,wj];rfl'
theorem zkU{ta tb:Bool}{a b:Addr}{ds es:List Dt}{vs ws:List V}(h1:SqV K ta H1 a vs)(h2:SqV K tb H1 b ws)(r1:Rps K emp ds H1 vs)(r2:Rps K emp es H1 ws)(hl:ds.length=es.length):Walk K (Itz K ta tb a b) (zipD ds es) H1:=by
 intro A H sm hA;have s2:Same H1 H:=sm.trans z0B;refine⟨λi d e=>?_,λi hi=>⟨vs,ws,h1.mono s2,h2.mono s2,?_,?_⟩⟩
 · obtain⟨x,y,ex,ey,rfl⟩:=zdl e;obtain⟨v,e1,p1⟩:=r1.get ex;obtain⟨u,e2,p2⟩:=r2.get ey;refine⟨⟨vs,ws,v,u,h1.mono s2,h2.mono s2,e1,e2⟩,?_⟩;rintro z H' ⟨p,v',u',f1,f2,hp,ez,eH⟩;have g1:=f1 vs (h1.mono s2);have g2:=f2 ws (h2.mono s2);rw[e1]at g1;rw[e2]at g2;cases g1;cases g2;subst ez;subst eH;exact zdk hp hA (Rp.mono _ sm p1) (Rp.mono _ sm p2)
 · rw[z6T]at hi;rw[r1.length];rfl'
 · rw[z6T]at hi;rw[r2.length];rfl'
def z2V:Nat->List Dt->List Dt
 | _,[]=>[]
 | n,x::xs => .tup [.int n,x]::z2V (n+1) xs
theorem zaZ:∀{xs:List Dt} {n i:Nat} {d:Dt},(z2V n xs)[i]?=some d->∃ x,xs[i]?=some x/\d = .tup [.int ((n+i:Nat):Int),x]
 | [],n,i,d,h=>by simp[z2V]at h
 | x::xs,n,0,d,h=>by simp[z2V]at h;exact⟨x,rfl,h.symm⟩
 | x::xs,n,i+1,d,h=>by
  have h:(z2V (n+1) xs)[i]?=some d:=by simpa[z2V]using h
  obtain⟨a,q1,q3⟩:=zaZ h;exact⟨a,by simpa using q1,by rw[q3,show n+1+i=n+(i+1) by rfl']⟩
theorem z7E:∀{xs:List Dt} {n:Nat},(z2V n xs).length=xs.length
 | [],n=>rfl
 | x::xs,n=>by rw[z2V,wj,wj,z7E]
theorem zjN{a:Addr}{ds:List Dt}{vs:List V}(h1:SqL K H1 a vs)(r1:Rps K emp ds H1 vs):Walk K (Ite K a) (z2V 0 ds) H1:=by
 intro A H sm hA;have s2:Same H1 H:=sm.trans z0B;refine⟨λi d e=>?_,λi hi=>⟨vs,s2.seq h1,?_⟩⟩
 · obtain⟨x,ex,rfl⟩:=zaZ e;rw[WT];obtain⟨v,e1,p1⟩:=r1.get ex;refine⟨⟨vs,v,s2.seq h1,e1⟩,?_⟩;rintro z H' ⟨p,v',f1,hp,ez,eH⟩;have g1:=f1 vs (s2.seq h1);rw[e1]at g1;cases g1;subst ez;subst eH;exact zdk hp hA (Rp.int_.mpr rfl) (Rp.mono _ sm p1)
 · rw[z7E]at hi;rw[r1.length];rfl'
theorem zkV{a:Addr}{ds:List Dt}{vs:List V}(h1:SqL K H1 a vs)(r1:Rps K emp ds H1 vs):Walk K (Itv K a vs.length) ds.reverse H1:=by
 intro A H sm hA;have s2:Same H1 H:=sm.trans z0B;have hl:=r1.length;refine⟨λi d e=>?_,λi hi=>?_⟩
 · have hi:i<ds.length:=by
    by_cases hi:i<ds.length
    · exact hi
    · rw[wN (by simp;rfl')]at e;cases e
   rw[List.getElem?_reverse hi]at e;obtain⟨v,e1,p1⟩:=r1.get e;refine⟨⟨by rfl',vs,s2.seq h1,rfl⟩,?_⟩;rintro z H' ⟨eH,f1⟩;subst eH;have g1:=f1 vs (s2.seq h1);rw[hl,e1]at g1;cases g1;exact⟨Same.refl _,λ_ _=>rfl,Rp.mono _ sm p1⟩
 · show vs.length<=i;rw[Vp]at hi;rfl'
end
section
variable {X:Cx}{a b e:Expr}{Fa Fb:FE}{elts:List Expr}{n:Nat}{tpos pos:Pos}
theorem zjO{M:Model}{A:Around}{E:Value->Shared->Prop}{s:Shared}{env:Env}{T:String}{es:List Expr}{kws:List Keyword}{Q:Value->Shared->Prop}
  (h:wpAny M A (spliced (backTo pos (starEach (e::es) env))) (λvs s1=>wpAny M A (evalAll ((backToKw pos (keywordEach kws env)).map (·.2))) (λks s2=>wpAny M A (call (.type T) vs (((backToKw pos (keywordEach kws env)).filterMap (·.1)).zip ks)) Q E s2) E s1) E s)
  (h1:backTo pos (starEach (e::es) env)=(false,eval e env)::backTo pos (starEach es env)) (h2:(backTo pos (starEach (e::es) env)).any (·.1)=false) (h3:(backToKw pos (keywordEach kws env)).all (·.1.isSome)=true) (h4:(backToKw pos (keywordEach kws env)).any (·.1.isNone)=false) :
  wpAny M A (callWith pos (.type T) [] (backTo pos (starEach (e::es) env)) (backToKw pos (keywordEach kws env))) Q E s:=by
 unfold callWith;have g:wpAny M A (evalArgs (.type T) true (backTo pos (starEach (e::es) env)) (backToKw pos (keywordEach kws env))) (λz s1=>wpAny M A (call (.type T) ([]++z.pos) z.kw) Q E s1) E s:=by
  rw[h1]at h ⊢;exact evalArgs_kwB h3 h
 refine wpAny_bind (wpAny_holding (wpAny_mono g (λz s1 g1=>wpAny_bind (wpAny_standAt ?_)) λ_ _ x=>x));simp only[h2,h4,Bool.or_false];refine wpAny_bind (wpAny_pure ?_);exact wpAny_bind (wpAny_mono g1 (λr s2 hr=>wpAny_bind (wpAny_holding (wpAny_point (wpAny_pure hr)))) λ_ _ x=>x)
theorem zkW{H:Hp}{d:Dt}{ds:List Dt}{v:V}(e:seqD d=some ds)(r:Rp X.K emp d H v):∃ tu p vs,v = .ref p/\SqV X.K tu H p vs/\Rps X.K emp ds H vs:=by
 cases d<;>first|cases e|skip
 · obtain⟨p,vs,rfl,_,h1,h2⟩:=r.items;exact⟨false,p,vs,rfl,SqL.of h1,h2⟩
 · obtain⟨p,vs,rfl,h1,h2⟩:=Rp.tup_.mp r;exact⟨true,p,vs,rfl,h1,h2⟩
def iZip(F G:FE):FI:=λρ=>(F ρ).bind λx=>(G ρ).bind λy=>(seqD x.2).bind λxs=>(seqD y.2).bind λys=>if xs.length=ys.length then some (zipD xs ys) else none
theorem zb0{p kp kpos:Pos}{jc:Nat}(hg:Gl X "zip")(hm:X.mg "zip" = none)(ha:PF X a Fa)(hb:PF X b Fb)(hs:starEach [a,b] X.env=[(false,eval a X.env),(false,eval b X.env)]:=by rfl)(hs1:starEach [b] X.env=[(false,eval b X.env)]:=by rfl):
   PFI X (.Tuple elts n tpos) (.Call (.Name "zip" p) [a,b] [⟨some "strict",.Constant (.bool true) jc kp,kpos⟩] pos) (iZip Fa Fb):=by
 intro pins s σ H R I ⟨ρ,items,rs,e0,k⟩;obtain⟨⟨fa,da⟩,ea,e1⟩:=z05 e0;obtain⟨⟨fb,db⟩,eb,e2⟩:=z05 e1;obtain⟨xs,ex,e3⟩:=z05 e2;obtain⟨ys,ey,e4⟩:=z05 e3;clear e0 e1 e2 e3;split at e4
 · rename_i hl;cases e4;have hA:PA X [a,b] (upAs X (z02 Fa (z02 Fb fNil))):=z03 ha (z03 hb z08 hs1) (by rw[hs,hs1]);refine wpAny_Call_Name_kw (z4d I hg hm (by decide +kernel:bootBuiltins "zip" = some (.type "zip")) ?_);refine zjO (T := "zip") (thn (hA pos pins s σ H (λvs H1=>Same H H1/\∃ va vb,vs=[va,vb]/\Rp X.K emp da H1 va/\Rp X.K emp db H1 vb) I ⟨ρ,[(fa,da),(fb,db)],rs,by simp[z02,fNil,ea,eb],λvs H1 s1 ⟨va,r1,ee1,q1,vb,r2,ee2,q2,q3⟩=>⟨s1,va,vb,by rw[ee1,ee2,show r2=[]from q3],q1.sh,q2.sh⟩⟩) λus s1 ⟨vs,H1,I1,rv,s1H,va,vb,ev,ra,rb⟩=>?_) (by rw[hs,hs1];rfl) (by rw[hs];rfl) rfl rfl;subst ev;obtain⟨ua,ub,rfl,rua,rub⟩:=rv.two;obtain⟨ta,pa,vsa,rfl,qa1,qa2⟩:=zkW ex ra;obtain⟨tb,pb,vsb,rfl,qb1,qb2⟩:=zkW ey rb;cases rua;cases rub;have hk:=zix (X:=X) (nm:=some "strict") (kpos:=kpos) (pe_bl (X:=X) (b:=true) (j:=jc) (pos:=kp)) zkv;refine thn (hk pos pins s1 σ H1 (λzs H2=>zs=[.bl true]/\H2=H1) I1 ⟨rfl,rfl⟩) ?_;rintro ks s2 ⟨zs,H2,I2,rz,ez,eH⟩;subst ez;subst eH;obtain⟨uk,rfl,ruk⟩:=rz.one;cases ruk;obtain⟨ita,rva,sa,hza⟩:=I2.sq qa1;obtain⟨itb,rvb,sb,hzb⟩:=I2.sq qb1;refine zkR sa sb ?_;have z1:(h1 s2.heap ta pa).objs.size=s2.heap.objs.size+1:=Wf ..;have z2:(h2 s2.heap ta tb pa pb).objs.size=s2.heap.objs.size+2:=by rw[Wf,z1]
   have z3:(h3 s2.heap ta tb pa pb).objs.size=s2.heap.objs.size+3:=by rw[Wf,z2]
   have z4:(h4 s2.heap ta tb pa pb).objs.size=s2.heap.objs.size+4:=by rw[Wf,z3]
   have g5:(h5 s2.heap ta tb pa pb).get? (h4 s2.heap ta tb pa pb).objs.size=some _:=wy _ rfl;have g4:(h5 s2.heap ta tb pa pb).get? (h3 s2.heap ta tb pa pb).objs.size=some _:=wd _ (wy _ rfl);have g3:(h5 s2.heap ta tb pa pb).get? (h2 s2.heap ta tb pa pb).objs.size=some _:=wd _ (wd _ (wy _ rfl));have g2:(h5 s2.heap ta tb pa pb).get? (h1 s2.heap ta pa).objs.size=some _:=wd _ (wd _ (wd _ (wy _ rfl)));have g1:(h5 s2.heap ta tb pa pb).get? s2.heap.objs.size=some _:=wd _ (wd _ (wd _ (wd _ (wy _ rfl))));have up:∀ c o,s2.heap.get? c=some o->(h5 s2.heap ta tb pa pb).get? c=some o:=λc o x=>wd _ (wd _ (wd _ (wd _ (wd _ x))));refine zdg (z:=(h4 s2.heap ta tb pa pb).objs.size) (ti:=(h2 s2.heap ta tb pa pb).objs.size) (to:=(h3 s2.heap ta tb pa pb).objs.size) (f := .none) g5 ?_;have la:=sa.lt;have lb:=sb.lt;have D:Apart (h4 s2.heap ta tb pa pb).objs.size (h2 s2.heap ta tb pa pb).objs.size (h3 s2.heap ta tb pa pb).objs.size s2.heap.objs.size (h1 s2.heap ta pa).objs.size pa pb:=by
     rw[z1,z2,z3,z4];constructor<;>exact λz=>by simp only[Addr]at *;rfl'
   refine⟨_,[(h4 s2.heap ta tb pa pb).objs.size,(h2 s2.heap ta tb pa pb).objs.size,(h3 s2.heap ta tb pa pb).objs.size,s2.heap.objs.size,(h1 s2.heap ta pa).objs.size],_,_,H2,rfl,I2.kept (t':=s2.toks) up,zkS (ta:=ta) (tb:=tb) D,⟨g5,g3,⟨_,_,g4⟩,zdj g1,zdj g2⟩,λc hc=>?_,k _ H2 s1H ?_ (zkU qa1 qb1 qa2 qb2 hl)⟩
   · have hge:s2.heap.objs.size<=c:=by
      rw[z1,z2,z3,z4]at hc;simp only[wn,WR,or_false]at hc;rcases hc with rfl|rfl|rfl|rfl|rfl<;>rfl'
     exact I2.fpOk hge (I2.hok.fresh hge)
   · rw[z6T,←qa2.length];rfl'
 · cases e4
def lstD:Dt->Option (List Dt)
 | .lst ds=>some ds
 | _=>none
def z3i(F:FE):FI:=λρ=>(F ρ).bind λx=>(lstD x.2).map (z2V 0)
theorem zkX{H:Hp}{d:Dt}{ds:List Dt}{v:V}(e:lstD d=some ds)(r:Rp X.K emp d H v):∃ p vs,v = .ref p/\SqL X.K H p vs/\Rps X.K emp ds H vs:=by
 cases d<;>first|cases e|skip
 obtain⟨p,vs,rfl,_,h1,h2⟩:=r.items;exact⟨p,vs,rfl,SqL.of h1,h2⟩
theorem z9q{p:Pos}(hg:Gl X "enumerate")(hm:X.mg "enumerate" = none)(ha:PF X a Fa)(hs:starEach [a] X.env=[(false,eval a X.env)]:=by rfl):PFI X (.Tuple elts n tpos) (.Call (.Name "enumerate" p) [a] [] pos) (z3i Fa):=by
 intro pins s σ H R I ⟨ρ,items,rs,e0,k⟩;obtain⟨⟨fa,da⟩,ea,e1⟩:=z05 e0;cases ex:lstD da with
 | none=>rw[ex]at e1;cases e1
 | some xs =>
  rw[ex]at e1;cases e1;have hA:PA X [a] (upAs X (z02 Fa fNil)):=z03 ha z08 hs;refine wpAny_Call_Name_kw (z4d I hg hm (by decide +kernel:bootBuiltins "enumerate" = some (.type "enumerate")) ?_);refine PyProof.Rows.callWith_type1 (thn (hA pos pins s σ H (λvs H1=>Same H H1/\∃ va,vs=[va]/\Rp X.K emp da H1 va) I ⟨ρ,[(fa,da)],rs,by simp[z02,fNil,ea],λvs H1 s1 ⟨va,r1,ee1,q1,q3⟩=>⟨s1,va,by rw[ee1,show r1=[]from q3],q1.sh⟩⟩) λus s1 ⟨vs,H1,I1,rv,s1H,va,ev,ra⟩=>?_) hs rfl;subst ev;obtain⟨ua,rfl,rua⟩:=rv.one;obtain⟨pa,vsa,rfl,qa1,qa2⟩:=zkX ex ra;cases rua;obtain⟨ita,rva,pl,hza⟩:=I1.list qa1;refine call_enumerate_list pl.isList λh' b1 b2 b3 b4=>wpAny_pyIter_enum b1 ?_;refine⟨_,[s1.heap.objs.size+1,s1.heap.objs.size],_,_,H1,rfl,I1.kept (t':=s1.toks) b4,zjM (Nat.succ_ne_self _),⟨⟨_,b1⟩,b2⟩,λc hc=>?_,k _ H1 s1H ?_ (zjN qa1 qa2)⟩
  · have hge:s1.heap.objs.size<=c:=by
     simp only[wn,WR,or_false]at hc;rcases hc with rfl|rfl
     · exact Nat.le_succ _
     · exact wx _
    exact I1.fpOk hge (I1.hok.fresh hge)
  · rw[z7E,←qa2.length];exact hza
def iRev(F:FE):FI:=λρ=>(F ρ).bind λx=>(lstD x.2).map List.reverse
theorem i_rev{tg:Expr}{p:Pos}(hg:Gl X "reversed")(hm:X.mg "reversed" = none)(ha:PF X a Fa)(hs:starEach [a] X.env=[(false,eval a X.env)]:=by rfl):PFI X tg (.Call (.Name "reversed" p) [a] [] pos) (iRev Fa):=by
 intro pins s σ H R I ⟨ρ,items,rs,e0,k⟩;obtain⟨⟨fa,da⟩,ea,e1⟩:=z05 e0;cases ex:lstD da with
 | none=>rw[ex]at e1;cases e1
 | some xs =>
  rw[ex]at e1;cases e1;have hA:PA X [a] (upAs X (z02 Fa fNil)):=z03 ha z08 hs;refine wpAny_Call_Name_kw (z4d I hg hm (by decide +kernel:bootBuiltins "reversed" = some (.type "reversed")) ?_);refine PyProof.Rows.callWith_type1 (thn (hA pos pins s σ H (λvs H1=>Same H H1/\∃ va,vs=[va]/\Rp X.K emp da H1 va) I ⟨ρ,[(fa,da)],rs,by simp[z02,fNil,ea],λvs H1 s1 ⟨va,r1,ee1,q1,q3⟩=>⟨s1,va,by rw[ee1,show r1=[]from q3],q1.sh⟩⟩) λus s1 ⟨vs,H1,I1,rv,s1H,va,ev,ra⟩=>?_) hs rfl;subst ev;obtain⟨ua,rfl,rua⟩:=rv.one;obtain⟨pa,vsa,rfl,qa1,qa2⟩:=zkX ex ra;cases rua;obtain⟨ita,rva,pl,hza⟩:=I1.list qa1;have hn:ita.toArray.size=vsa.length:=by rw[wB,←rva.length]
  refine call_reversed_list pl.isList ?_;rw[hn];have g1:(s1.heap.push (revObj pa ((vsa.length:Int)-1))).get? s1.heap.objs.size=some _:=wy _ rfl;have it1:(s1.heap.push (revObj pa ((vsa.length:Int)-1))).IsRevIter s1.heap.objs.size pa ((vsa.length:Int)-1-((0:Nat):Int)):=⟨_,g1,rfl,by show Data.fields _=_;simp⟩;refine wpAny_pyIter_revIter it1 ?_;refine⟨_,[s1.heap.objs.size],_,_,H1,rfl,I1.kept (t':=s1.toks) (λc o x=>wd _ x),zkT (n:=vsa.length),⟨wQ _,it1⟩,λc hc=>?_,k _ H1 s1H ?_ (zkV qa1 qa2)⟩
  · rw[wP.mp hc];exact I1.fpOk (wx _) (I1.hok.fresh (wx _))
  · rw[Vp,←qa2.length];exact hza
end
end L2

end
section
set_option maxHeartbeats 1000000
namespace L2
open PySem PySem.Spec PyProof.Rows
section
variable {X:Cx}
def zkY:V->List V->Hp->VK->Prop:=λx vs H Q=>∃ l xs y,x = .ref l/\vs=[.int 0,y]/\H l=some (.lst xs)/\xs.length<sizeLine/\Q .non (upd H l (.lst (y::xs)))
theorem zey:MtM X "list.insert" zkY:=by
 intro pins s σ H x vs v us Q I rx rv h;obtain⟨l,xs,y,rfl,rfl,hH,hz,q⟩:=h;cases rx;obtain⟨u0,u,rfl,ru0,ru⟩:=rv.two;obtain⟨t0,rfl⟩:=ru0;obtain⟨z,its,n,r,hl,e⟩:=I.lstM hH;refine call_meets F.slot_list_insert ⟨_,e,rfl⟩ F.entry_list_insert (F.args_list_insert_3 _ _ _) (AutoSeq1.list_insert_list_int_val_1 l its.toArray n 0 t0 u (by decide) (by rw[wB];rfl')) ⟨e,?_⟩;refine⟨.non,_,I.lset (its':=u::its) hH e ?_ (.cons ru r) ?_,rfl,q⟩
 · simp
 · rw[wj];rfl'
theorem ziH{Y:Ky}{f g:Bool}:Same (bsOf Y (f&&g)) (bsOf Y f):=by
 cases f<;>cases g<;>first|exact Same.refl _|exact Same.emp
theorem ziI{Y:Ky}{f g:Bool}:Same (bsOf Y (f&&g)) (bsOf Y g):=by
 cases f<;>cases g<;>first|exact Same.refl _|exact Same.emp
section
variable {H₀ H H':Hp}{O:Own}{ρ:Rho}{σ:St}{i:Nat}{f:Bool}{ds:List Dt}
theorem RepO.get(h:RepO X H₀ H O ρ σ)(e:ρ[i]?=some (.ow f ds)):∃ a vs,(i,a)∈O/\σ[i]?=some (some (.ref a))/\H a=some (.lst vs)/\Rps X.K (bsOf X.ky f) ds (hidL O.adr H) vs:=by
 obtain⟨o,e1,a,vs,q1,q2,q3,q4⟩:=h.at_ i _ e;subst q2;exact⟨a,vs,q1,e1,q3,q4⟩
theorem zdm{x:Dv}{v:V}(rb:RepO X H₀ H O ρ σ)(r:RpF X.ky (hidL O.adr H) x.1 x.2 H' v):Rp X.K (bsOf X.ky x.1.isFr) x.2 H' v:=by
 by_cases q:x.1.isFr=true
 · rw[q];exact r.fr (rb.b0.trans rb.same) q
 · rw[show x.1.isFr=false by simpa using q];exact r.sh
theorem zoA{x:Dv}{v:V}(rb:RepO X H₀ H O ρ σ)(sm:Same H H')(q:x.1.isNw=true)(r:RpF X.ky H x.1 x.2 H' v):Rp X.K (bsOf X.ky true) x.2 (hidL O.adr H') v :=
 Rp.anti rb.below _ (zkO rb.own sm q r)
end
abbrev FW:=List Dt->Dt->Option (List Dt)
def z6U(ρ:Rho)(i:Nat):Option (Bool×List Dt):=match ρ[i]? with|some (.ow f ds)=>some (f,ds)|_=>none
theorem z7F{ρ:Rho}{i:Nat}{f:Bool}{ds:List Dt}(h:z6U ρ i=some (f,ds)):ρ[i]?=some (.ow f ds):=by
 unfold z6U at h;split at h
 · rename_i e;cases h;exact e
 · cases h
def sWr(w:FW)(i:Nat)(F:FE):FS:=λρ=>(z6U ρ i).bind λo=>(F (z1y ρ)).bind λx=>(w o.2 x.2).map λds => .nx (ρ.set i (.ow (o.1&&x.1.isFr) ds))
def sWrA(w:FW)(i:Nat)(F:FE):FS:=λρ=>(z6U ρ i).bind λo=>(F ρ).bind λx=>if x.1.isNw then(w o.2 x.2).map λds => .nx (ρ.set i (.ow o.1 ds)) else none
def wApp:FW:=λds d=>if ds.length<1000000 then some (ds++[d]) else none
def z9r:FW:=λds d=>if ds.length<1000000 then some (d::ds) else none
def MtW(X:Cx)(id:String)(pre:List V)(w:FW):Prop:=∀(H:Hp) (B:Hp) (Hh:Hp) (l:Addr) (vs:List V) (y:V) (ds:List Dt) (d:Dt) (ds':List Dt) (Q:VK),H l=some (.lst vs)->Same Hh H->Rps X.K B ds Hh vs->Rp X.K B d Hh y->w ds d=some ds' ->
 (∀ vs',Rps X.K B ds' Hh vs'->Q .non (upd H l (.lst vs')))->∃ r,MtM X id r/\r (.ref l) (pre++[y]) H Q
theorem mw_app:MtW X "list.append" [] wApp:=λH B Hh l vs y ds d ds' Q hl sm rs r e k=>by
 unfold wApp at e;split at e
 · rename_i h;cases e;exact⟨_,zaQ,l,vs,y,rfl,rfl,hl,by rw[rs.length];exact Nat.lt_trans h (by decide),k _ (rs.append (Rps.one r))⟩
 · cases e
theorem zoB:MtW X "list.insert" [.int 0] z9r:=λH B Hh l vs y ds d ds' Q hl sm rs r e k=>by
 unfold z9r at e;split at e
 · rename_i h;cases e;exact⟨_,zey,l,vs,y,rfl,rfl,hl,by rw[rs.length];exact Nat.lt_trans h (by decide),k _ (Rps.cons_.mpr ⟨y,vs,rfl,r,rs⟩)⟩
 · cases e
section
variable {id:String}{w:FW}{x:Str}{name:Str}{e:Expr}{Fe:FE}{i:Nat}{px apos cpos pos:Pos}{pre:List V}
theorem s_wr1(hw:MtW X id [] w)(slot:Slot "list" name id)(hty:typeOf (.builtin id)=pure (.type "method_descriptor"))(hN:X.N[i]?=some x)(hv:Vis X.env.scope x)(he:PF X e Fe)(hd:(x==("__debug__" : Str))=false:=by decide)(hcd:(x==("__classdict__" : Str))=false:=by decide)
  (hbase:attributeBase (.Name x px) name X.env (eval (.Name x px) X.env)=eval (.Name x px) X.env:=by rfl)
  (hfew:((backTo cpos (starEach [e] X.env)).all (λx=>!x.1)&&(backToKw cpos (keywordEach [] X.env)).all (λx=>x.1.isSome)&&decide ([e].length+([]:List Keyword).length+(if([]:List Keyword).isEmpty then 0 else 1)<30))=true:=by rfl)
  (hline:(apos.endLine==cpos.line)=true:=by rfl) (hs:starEach [e] X.env=[(false,eval e X.env)]:=by rfl) (hsw:swapsWith (.Call (.Attribute (.Name x px) name apos) [e] [] cpos) none pos.line X.env=pure false:=by rfl) :
  PFS X (.Expr (.Call (.Attribute (.Name x px) name apos) [e] [] cpos) pos) (sWr w i Fe):=by
 intro pins s σ H D I ⟨H₀,ρ,oc,⟨O,rb⟩,e0,k⟩;obtain⟨⟨f,ds⟩,e1,e2⟩:=z05 e0;obtain⟨z,e3,e4⟩:=z05 e2;cases hw':w ds z.2 with
 | none=>rw[hw']at e4;cases e4
 | some ds' =>
  rw[hw']at e4;cases e4;obtain⟨a,vs,q1,q2,q3,q4⟩:=rb.get (z7F e1);have hm:MtM X id (λo us H' Q=>∃ y,o = .ref a/\us=[y]/\Same (hidL O.adr H) (hidL O.adr H')/\H' a=some (.lst vs)/\Rp X.K (bsOf X.ky z.1.isFr) z.2 (hidL O.adr H') y/\∀ vs',Rps X.K (bsOf X.ky (f&&z.1.isFr)) ds' (hidL O.adr H') vs'->Q .non (upd H' a (.lst vs'))):=by
   intro pins s σ H' o us v vs2 Q I ro ru ⟨y,eo,eu,sm,ha,ry,kk⟩;subst eo;subst eu;obtain⟨r,hr,hq⟩:=hw H' (bsOf X.ky (f&&z.1.isFr)) (hidL O.adr H') a vs y ds z.2 ds' Q ha z0B (Rps.anti ziH _ (Rps.mono _ sm q4)) (Rp.anti ziI _ ry) hw' kk;exact hr pins s σ H' _ _ v vs2 Q I ro ru hq
  refine zc6 (pe_bm F.plainAttrs_list slot hty hm (zc5 hN hv hd hcd) (PA.frame (z03 he z08 hs)) hbase hfew hline hs rfl) hsw pins s σ H D I ⟨.ref a,q2,.inl ⟨rfl,vs,SqL.of q3⟩,O.adr,rb.own,z1y ρ,[z],rb.rest,by simp[z02,fNil,e3],?_⟩;rintro us H' sm ⟨y,r,eu,ry,er⟩ hn;have er:r=[]:=er;subst er;subst eu;have hg:hidL O.adr (z1b O.adr H H')=H':=z3f hn;refine⟨y,rfl,rfl,by rw[hg];exact sm,by rw[z5y (z4o q1)];exact q3,by rw[hg];exact zdm rb ry,λvs' rs'=>k _ _ ⟨O,?_⟩⟩;exact(rb.mono (Same.glue sm hn)).upd (z7F e1) q1 rs'
theorem s_insA{j0:Nat}{p0:Pos}(hN:X.N[i]?=some x)(hv:Vis X.env.scope x)(he:PF X e Fe)(hd:(x==("__debug__" : Str))=false:=by decide)(hcd:(x==("__classdict__" : Str))=false:=by decide)
   (hbase:attributeBase (.Name x px) "insert" X.env (eval (.Name x px) X.env)=eval (.Name x px) X.env:=by rfl)
   (hfew:((backTo cpos (starEach [.Constant (.int 0) j0 p0,e] X.env)).all (λx=>!x.1)&&(backToKw cpos (keywordEach [] X.env)).all (λx=>x.1.isSome)&&decide ([Expr.Constant (.int 0) j0 p0,e].length+([]:List Keyword).length+(if([]:List Keyword).isEmpty then 0 else 1)<30))=true:=by rfl)
   (hline:(apos.endLine==cpos.line)=true:=by rfl) (hs:starEach [e] X.env=[(false,eval e X.env)]:=by rfl) (hs2:starEach [.Constant (.int 0) j0 p0,e] X.env=(false,eval (.Constant (.int 0) j0 p0) X.env)::starEach [e] X.env:=by rfl)
   (hsw:swapsWith (.Call (.Attribute (.Name x px) "insert" apos) [.Constant (.int 0) j0 p0,e] [] cpos) none pos.line X.env=pure false:=by rfl) :
   PFS X (.Expr (.Call (.Attribute (.Name x px) "insert" apos) [.Constant (.int 0) j0 p0,e] [] cpos) pos) (sWrA z9r i Fe):=by
 intro pins s σ H D I ⟨H₀,ρ,oc,⟨O,rb⟩,e0,k⟩;obtain⟨⟨f,ds⟩,e1,e2⟩:=z05 e0;obtain⟨z,e3,e5⟩:=z05 e2;split at e5
 · rename_i qn;cases hw':z9r ds z.2 with
   | none=>rw[hw']at e5;cases e5
   | some ds' =>
    rw[hw']at e5;cases e5;obtain⟨a,vs,q1,q2,q3,q4⟩:=rb.get (z7F e1);have hm:MtM X "list.insert" (λo us H' Q=>∃ y,o = .ref a/\us=[.int 0,y]/\Same H H'/\RpF X.ky H z.1 z.2 H' y/\∀ vs',Rps X.K (bsOf X.ky f) ds' (hidL O.adr H') vs'->Q .non (upd H' a (.lst vs'))):=by
     intro pins s σ H' o us v vs2 Q I ro ru ⟨y,eo,eu,sm,ry,kk⟩;subst eo;subst eu;have r1:=zoA rb sm qn ry;obtain⟨r,hr,hq⟩:=zoB (X:=X) H' (bsOf X.ky f) (hidL O.adr H') a vs y ds z.2 ds' Q (sm _ _ q3) z0B (Rps.mono _ (z1F sm) q4) (Rp.anti (by cases f<;>first|exact Same.refl _|exact Same.emp) _ r1) hw' kk;exact hr pins s σ H' _ _ v vs2 Q I ro ru hq
    refine zc6 (pe_bm F.plainAttrs_list F.slot_list_insert F.type_list_insert hm (zc5 hN hv hd hcd) (z03 (z0a (X:=X)) (z03 he z08 hs) hs2) hbase hfew hline hs2 (by rw[hs];rfl)) hsw pins s σ H D I ⟨.ref a,q2,.inl ⟨rfl,vs,SqL.of q3⟩,ρ,[(.nw,.int 0),z],rb.all,by simp[z02,fNil,fC,e3],?_⟩;rintro us H' sm ⟨y0,r0,eu0,ry0,y,r,eu,ry,er⟩;have er:r=[]:=er;subst er;subst eu;subst eu0;have e00:y0 = .int 0:=Rp.int_.mp ry0.sh;subst e00;exact⟨y,rfl,rfl,sm,ry,λvs' rs'=>k _ _ ⟨O,(rb.mono sm).upd (z7F e1) q1 rs'⟩⟩
 · cases e5
end
def setD(ds:List Dt)(j:Int)(d:Dt):Option (List Dt):=(ixN ds.length j).map λk=>ds.set k d
def sPut(i:Nat)(Fj Fe:FE):FS:=λρ=>(z6U ρ i).bind λo=>(Fe (z1y ρ)).bind λx=>(Fj ρ).bind λj=>(intD j.2).bind λn=>(setD o.2 n x.2).map λds => .nx (ρ.set i (.ow (o.1&&x.1.isFr) ds))
section
variable {x:Str}{e j:Expr}{Fe Fj:FE}{i:Nat}{px spos pos:Pos}
theorem zkZ(hN:X.N[i]?=some x)(hv:Vis X.env.scope x)(hj:PF X j Fj)(he:PF X e Fe)(hd:(x==("__debug__" : Str))=false:=by decide)(hcd:(x==("__classdict__" : Str))=false:=by decide)
  (ha:∀ v,assign (.Subscript (.Name x px) j spos) X.env v=(do
   let ov ←holding [v] (eval (.Name x px) X.env);let iv ←holding [v,ov] (eval j X.env)
   standAt spos
   holding [v,ov,iv] (setItem ov iv v)
   release [v,ov,iv] []):=by intro _;rfl)
  (hs:swapsWithSole [.Subscript (.Name x px) j spos] e pos.line X.env=pure false:=by rfl) (hw:swappedStores [.Subscript (.Name x px) j spos] e X.env=pure none:=by rfl)
  (h1:(assignEach [.Subscript (.Name x px) j spos] X.env).map (·.2)=[assign (.Subscript (.Name x px) j spos) X.env]:=by rfl) :
  PFS X (.Assign [.Subscript (.Name x px) j spos] e pos) (sPut i Fj Fe):=by
 intro pins s σ H D I ⟨H₀,ρ,oc,⟨O,rb⟩,e0,k⟩;obtain⟨⟨f,ds⟩,e1,e2⟩:=z05 e0;obtain⟨z,e3,e4⟩:=z05 e2;obtain⟨⟨fj,dj⟩,e5,e6⟩:=z05 e4;obtain⟨n,e7,e8⟩:=z05 e6;obtain⟨a,vs,q1,q2,q3,q4⟩:=rb.get (z7F e1);unfold setD at e8;cases hx:ixN ds.length n with
 | none=>rw[hx]at e8;cases e8
 | some m =>
  rw[hx]at e8;cases e8;refine ps_asg (PE.frame he) (pg_sub (zc5 hN hv hd hcd) hj zkx ha) hs hw h1 pins s σ H D I ⟨O.adr,rb.own,z1y ρ,z.1,z.2,rb.rest,e3,λv H' sm r hn=>?_⟩;have hg:hidL O.adr (z1b O.adr H H')=H':=z3f hn;have rb2:=rb.mono (Same.glue sm hn);refine⟨.ref a,q2,ρ,fj,dj,rb2.all,e5,λv2 H2 s2 r2=>?_⟩;have ed:=z5B e7;have ed:dj = .int n:=ed;subst ed;have rv:Rp X.K (bsOf X.ky z.1.isFr) z.2 (hidL O.adr H2) v:=Rp.mono _ (by rw[←hg];exact z1F s2) (zdm rb r);have ha2:H2 a=some (.lst vs):=s2 _ _ (by rw[z5y (z4o q1)];exact q3);refine⟨a,vs,n,m,rfl,Rp.int_.mp r2.sh,ha2,by rw[q4.length];exact hx,k _ _ ⟨O,(rb2.mono s2).upd (z7F e1) q1 ?_⟩⟩;exact Rps.set m (Rps.anti ziH _ (Rps.mono _ (z1F ((Same.glue sm hn).trans s2)) q4)) (Rp.anti ziI _ rv)
end
end
end L2

end
section
set_option maxHeartbeats 1000000
namespace L2
open PySem PySem.Spec PyProof.Rows
def upR(X:Cx)(F:FI):TI:=λσ H R=>∃ ρ items,RepS X.ky H ρ σ/\F ρ=some items/\∀ J H',Same H H'->items.length<=sizeLine->(∀ H2,Walk X.K J items H2)->R J H'
def PFR(X:Cx)(tg e:Expr)(F:FI):Prop:=PI X tg e (upR X F)
section
variable {X:Cx}{tg a b e:Expr}{Fa Fb Fe:FE}{pos:Pos}
theorem zjP{p:Pos}(hg:Gl X "range")(hm:X.mg "range" = none)(ha:PF X a Fa)(hs:starEach [a] X.env=[(false,eval a X.env)]:=by rfl):PFR X tg (.Call (.Name "range" p) [a] [] pos) (z0l Fa) :=
 (zaL hg hm (z4f ha z9d hs) hs).imp fun σ H R hZ=>hZ.elim fun ρ hZ=>hZ.elim fun items hZ=>hZ.elim fun rs hZ=>hZ.elim fun e0 k=>by
  obtain⟨⟨f,d⟩,e1,e2⟩:=z05 e0;obtain⟨j,e3,e4⟩:=z05 e2;clear e0 e2;have ed:=z5B e3;cases (show d = .int j from ed);split at e4
  · rename_i hr;cases e4;obtain⟨h1,h2⟩:=zcf hr;refine⟨ρ,f,_,rs,e1,λv H1 s1 r1=>⟨j,by rw[Rp.int_.mp r1.sh],by rfl',by rfl',k _ H1 s1 ?_ (λ_=>z6l)⟩⟩;rw[z6m];have:sizeLine=16777216:=rfl;rfl'
  · cases e4
theorem zjQ{p:Pos}(hg:Gl X "range")(hm:X.mg "range" = none)(ha:PF X a Fa)(hb:PF X b Fb)(hs:starEach [a,b] X.env=[(false,eval a X.env),(false,eval b X.env)]:=by rfl)
  (hs1:starEach [b] X.env=[(false,eval b X.env)]:=by rfl):PFR X tg (.Call (.Name "range" p) [a,b] [] pos) (z8V Fa Fb) :=
 (zjv hg hm (z4f ha (z4f hb z9d hs1) (by rw[hs,hs1])) hs hs1).imp fun σ H R hZ=>hZ.elim fun ρ hZ=>hZ.elim fun items hZ=>hZ.elim fun rs hZ=>hZ.elim fun e0 k=>by
  obtain⟨⟨f,d⟩,e1,e2⟩:=z05 e0;obtain⟨⟨f',d'⟩,e1',e2'⟩:=z05 e2;obtain⟨i,e3,e4⟩:=z05 e2';obtain⟨j,e5,e6⟩:=z05 e4;clear e0 e2 e2' e4;have ed:=z5B e3;have ed':=z5B e5;cases (show d = .int i from ed);cases (show d' = .int j from ed');split at e6
  · rename_i hr;rw[wO]at hr;cases e6;obtain⟨h1,h2⟩:=zcf hr.1;obtain⟨h3,h4⟩:=zcf hr.2;refine⟨ρ,f,_,rs,e1,λv H1 s1 r1=>⟨ρ,f',_,rs.mono s1,e1',λv' H2 s2 r2=>⟨i,j,by rw[Rp.int_.mp r1.sh,Rp.int_.mp r2.sh],⟨by rfl',by rfl',by rfl',by rfl'⟩,k _ H2 (s1.trans s2) ?_ (λ_=>z6l)⟩⟩⟩;rw[z6m];have:sizeLine=16777216:=rfl;rfl'
  · cases e6
end
def z8q(Fi:FI)(g:Tg)(F:FS):FS:=λρ=>(Fi ρ).bind λitems=>forF g F items ρ
section
variable {X:Cx}{tg iter:Expr}{body:List Stmt}{Fi:FI}{g:Tg}{F:FS}{pos:Pos}
theorem zl0(hp:PassesOwn (model X.prog X.w) X.A X.env X.xe)(hc:X.calm=true)(hi:PFR X tg iter Fi)(hg:PG X tg (g.low X.K))(hb:PFSs X body F)
   (hs:∀ x,foldedSetIterable iter X.env x=pure x:=by intro _;rfl):PFS X (.For tg iter body [] pos) (z8q Fi g F):=(zkp hp hc hi hg hb hs).imp λD σ H ⟨H₀,ρ,oc,⟨O,rb⟩,e0,k⟩=>by
 obtain⟨items,e1,e2⟩:=z05 e0;refine⟨ρ,items,rb.all,e1,λJ H1 sm hsz wk=>?_⟩;refine⟨λi m σ' H'=>m=items.length-i/\∃ ρ',RepB X H₀ H' ρ' σ'/\forF g F (items.drop i) ρ'=some oc,⟨_,rfl,_,⟨O,rb.mono sm⟩,e2⟩,?_⟩;rintro i m σ' H' ⟨rfl,ρ',⟨O2,r2⟩,f2⟩;obtain⟨w1,w2⟩:=wk (hidL O2.adr H') O2.adr H' (Same.refl _) λa ha=>by obtain⟨⟨vs,q⟩,_⟩:=r2.own a ha;exact⟨_,q⟩
 by_cases hlt:i<items.length
 · obtain⟨x,hx⟩:∃ x,items[i]?=some x:=⟨_,w8 hlt⟩;have hdrop:items.drop i=x::items.drop (i+1):=by
    rw[v7 hlt];rw[w8 hlt]at hx;cases hx;rfl
   rw[hdrop]at f2;unfold forF at f2;obtain⟨ρ2,p1,f3⟩:=z05 f2;obtain⟨oc',p2,f4⟩:=z05 f3;obtain⟨go,yl⟩:=w1 i x hx;refine .inr ⟨go,λσ3 H3=>∃ ρ3,RepB X H₀ H3 ρ3 σ3/\forF g F (items.drop (i+1)) ρ3=some oc,λσ3 H3⟨ρ3,r3,f3⟩=>⟨items.length-(i+1),by rfl',rfl,ρ3,r3,f3⟩,λxv H3 y3=>?_⟩;obtain⟨s3,k3,r3⟩:=yl xv H3 y3;have sm3:Same H' H3:=λb o e=>by
    by_cases hb:b∈O2.adr
    · rw[k3 b hb];exact e
    · exact(z4j (s3 b o (by rw[z0j hb];exact e))).2
   refine Tg.low_mono (Tg.simO (r2.mono sm3) r3 p1) ?_;rintro σ4 H4 ⟨eH,O4,r4⟩;subst eH;refine⟨H₀,ρ2,oc',⟨O4,r4⟩,p2,?_⟩;cases oc' with
   | nx ρ5=>exact λσ5 H5 r5=>⟨ρ5,r5,f4⟩
   | ct ρ5=>exact λσ5 H5 r5=>⟨ρ5,r5,f4⟩
   | bk ρ5=>cases f4;exact k
   | rt f d=>cases f4;exact k
   | ex C=>cases f4;exact k
 · have hd:items.drop i=[]:=WB (by rfl');rw[hd]at f2;cases f2;exact .inl ⟨w2 i (by rfl'),k σ' H' ⟨O2,r2⟩⟩
end
section
variable {P:Program}{w:World}{K:PySem.W.Frag}{mg:Str->Option Value}{base:Heap}
theorem Fun.dat{x qual:Str}{st:Stmt}{f:Addr}{fd:FuncData}{N ps:List Str}{k np nn:Nat}{fr:Bool}{F:FS}(Fu:Fun K x qual st f fd)(S:FnScope N ps (z04 st))(hp:np=ps.length)(hn:nn=N.length)
  (body:∀(cdv:Value) (A:Around) (outer:List Env) (s:Shared) (H:Hp) (E:XK),Room k (A.deeper (envOfC qual (z04 st) s.heap.objs.size f cdv)) →
   PFSs (cxOf CX0 P w K mg base N qual (z04 st) f cdv A outer s H E).nox (z1v st) F):FnOk P w K mg base CX0 (k+1) f fd ps (spc K fr (cOf np nn fr F)):=by
 subst hp hn;exact Fun.data Fu S body
end
theorem p_cal{X:Cx}{e:Expr}{es:List Expr}{pos:Pos}{Fs:FA}{fr:Bool}{k k':Nat}{f:Addr}{fd:FuncData}{ps:List Str}{ct:FC}{x:Str}{st:Stmt}{p:Pos}(F:FnOk X.prog X.w X.K X.mg X.base CX0 k f fd ps (spc X.K fr ct))(D:Df X.K X.mg x st ps f fd)(hr:Room k' X.A)(hg:Gl X x)
  (ha:PFA X (e::es) Fs) (hle:k<=k':=by decide) (hdb:(x==("__debug__" : Str))=false:=by decide) (hst:starEach (e::es) X.env=(false,eval e X.env)::starEach es X.env:=by rfl) (hpl:(backTo pos (starEach es X.env)).any (·.1)=false:=by rfl):PF X (.Call (.Name x p) (e::es) [] pos) (z06 fr ct Fs) :=
 p_call F (hr.mono hle) hg D.mg D.fn.kp D.bd ha hdb hst hpl
def Dh(K:PySem.W.Frag)(x:Str)(st:Stmt)(f:Addr):Prop:=∃(oc kV doc pm cdv ct:Value) (od an:Option Addr) (osl:Array (Option Value)),PySem.W.nsIn K mainGlobals x=some (some (.ref f))/\K.lookup f=some ⟨oc,od,.func (PySem.W.fnOf x x (z2z st) (z1v st) (z04 st) .none kV doc pm an cdv ct),osl⟩/\PySem.W.codeIn K cdv x=true/\PySem.W.keepIn K (.ref f)=true
theorem dh{K:PySem.W.Frag}{x:Str}{st:Stmt}{f:Addr}{oc kV doc pm cdv ct:Value}{od an:Option Addr}{osl:Array (Option Value)}(e:PySem.W.nsIn K mainGlobals x=some (some (.ref f)))(l:K.lookup f=some ⟨oc,od,.func (PySem.W.fnOf x x (z2z st) (z1v st) (z04 st) .none kV doc pm an cdv ct),osl⟩)(c:PySem.W.codeIn K cdv x=true)(k:PySem.W.keepIn K (.ref f)=true):Dh K x st f:=⟨_,_,_,_,_,_,_,_,_,e,l,c,k⟩
theorem Dh.df{K:PySem.W.Frag}{h:Heap}{mg:Str->Option Value}(X:K.In h)(G:h.Ns mainGlobals mg){x:Str}{st:Stmt}{f:Addr}{ps:List Str}(d:Dh K x st f)
  (hb:∀(kV doc pm:Value) (an:Option Addr) (cdv ct:Value) (us:List Value),us.length=ps.length->bindArgs (PySem.W.fnOf x x (z2z st) (z1v st) (z04 st) .none kV doc pm an cdv ct) ⟨us,[]⟩=pure (ps.zip us)) :
  ∃ fd,Df K mg x st ps f fd/\∀ us:List Value,us.length=ps.length->bindArgs fd ⟨us,[]⟩=pure (ps.zip us):=by
 obtain⟨_,_,_,_,_,_,_,_,_,e,l,c,k⟩:=d;exact⟨_,df_mk X G e l c k hb,hb _ _ _ _ _ _⟩
theorem ndp(l:List Str)(h:l.Nodup:=by decide +kernel):l.Nodup:=h
theorem jlt(l:List Nat)(m:Nat)(h:∀ j∈l,j<m:=by decide):∀ j∈l,j<m:=h
theorem scm{N P:List Str}{sc:Scope}(kind:sc.kind = .function:=by rfl)(co:sc.isCoroutine=false:=by rfl)(gen:sc.isGenerator=false:=by rfl)(nd:N.Nodup:=by decide +kernel)(pre:N.take P.length=P:=by rfl)(par:∀ x∈P,sc.names.lookup x=some .local\/sc.names.lookup x=some .cell:=by decide +kernel)(nofree:∀ y∈sc.names,y.2 ≠ .free:=by decide +kernel):FnScope N P sc:=⟨kind,co,gen,nd,pre,par,nofree⟩
theorem zl1{Fi:FI}{g:Tg}{F:FS}{ρ:Rho}:z8q Fi g F ρ=(Fi ρ).bind λitems=>forF g F items ρ:=rfl
end L2

end
section
namespace L2
open PySem PySem.Spec PySem.W PyProof.Rows
section
variable {X:Cx}{C:Addr}{n:Nat}{e:Expr}{es:List Expr}{pos:Pos}{Fs:FA}{fr:Bool}{k k':Nat}{f:Addr}{fd:FuncData}{ps:List Str}{x:Str}{st:Stmt}{p:Pos}
abbrev FX:=List Dt->Option (Dt ⊕ Nat)
end
section
variable {P:Program}{w:World}{K:PySem.W.Frag}{mg:Str->Option Value}{base:Heap}
end
end L2

end
section
namespace L2
open PySem PySem.Spec PySem.W PyProof.Rows
section
variable {X:Cx}{pins:List (Addr×Obj)}{σ:St}{H H1 H' H₀:Hp}{s s1:Shared}{ea C M:Addr}{E:Value->Shared->Prop}
structure At(X:Cx)(pins:List (Addr×Obj))(σ:St)(H1:Hp)(s1:Shared)(H':Hp)(ea C:Addr)(s:Shared):Prop where
 inv:Inv X pins σ H' s
 fly:Fly s1.heap H' ea C s.heap
 un:Un (frs X.stack) [] H1 H' s1.heap s.heap
theorem At.step{a0:Value}{T:Addr}{l':List Env}{h':Heap}(I1:Inv X pins σ H1 s1)(a:At X pins σ H1 s1 H' ea C s)(n3:s1.heap.get? T=none)(n4:H' T=none)(f:(hideAll s.heap (ea::T::frs X.stack)).FlyingW l' ea (.ref C) a0 h')(us:s.heap.UpToSlots h'):
  At X pins σ H1 s1 H' ea C { s with heap:=h' }:=by
 obtain⟨f1,f2,f3⟩:=Fly.step a.fly.1 a.fly.2.1 n3 n4 a.inv.stack a.inv.stkFree a.inv.hok a.un f us (λb hb => .inl hb) λb o _=>by simp
 exact⟨I1.call' (ch:=[]) (a.inv.os.trans I1.os.symm) f3 f2 a.inv.bare λb z=>absurd z (by simp),f1,f3⟩
end
section
variable {X:Cx}{C:Addr}{n:Nat}{e:Expr}{es:List Expr}{pos pos' tpos hpos np:Pos}{Fs:FA}{fr:Bool}{k k':Nat}{f:Addr}{fd:FuncData}{ps:List Str}{x y:Str}{st:Stmt}{p:Pos}{ct:FX}
end
section
variable {X:Cx}{H₀ H:Hp}{O:Own}{ρ:Rho}{σ:St}{pins:List (Addr×Obj)}{s:Shared}{ea:Addr}
end
end L2

end
section
namespace L2
open PySem PySem.Spec PySem.W PyProof.Rows
section
variable {X:Cx}{C:Addr}{n:Nat}{e:Expr}{es:List Expr}{pos pos' tpos hpos np:Pos}{Fs:FA}{fr:Bool}{k k':Nat}{f:Addr}{fd:FuncData}{ps:List Str}{x y z:Str}{st:Stmt}{p:Pos}{ct:FX}
end
end L2

end
section
namespace L2
open PySem PySem.Spec PySem.W PyProof.Rows
abbrev FR:=Rho->Option Nat
section
variable {X:Cx}{e a b:Expr}{es:List Expr}{pos pos' p:Pos}{Fs:FA}{R:FR}{fr:Bool}{k k':Nat}{f:Addr}{fd:FuncData}{ps:List Str}{x:Str}{st:Stmt}{ct:FX}
end
end L2

end
section
namespace L2
open PySem PySem.Spec PyProof.Rows
section
variable {X:Cx}{x y:Str}{j j2:Expr}{Fj Fk:FE}{i iy:Nat}{px px2 spos spos2 pos pos':Pos}
end
end L2

end
section
namespace L2
open PySem PySem.Spec PyProof.Rows
theorem asn{X:Cx}{e:Expr}{Fe:FE}{pos pos':Pos}{x:Str}(i:Nat)(he:PF X e Fe)(hN:X.N.Nodup)(hi:X.N[i]?=some x:=by rfl)(hx:Loc X.env.scope x:=by exact Or.inl rfl)(hs:swapsWith e (some (.Name x pos')) pos.line X.env=pure false:=by rfl)(hf:X.fn x=true\/X.env.scope.names.lookup x=some .local:=by exact Or.inl rfl):PFS X (.Assign [.Name x pos'] e pos) (sSet [] i Fe):=z1h (rels:=[]) (z0n he hN hi hx hs hf)
section
variable {X:Cx}{e:Expr}{es:List Expr}{pos p:Pos}{Fs:FA}{r:FB}{x:Str}
theorem p_bu{id:String}(hc:z4U X (.builtin id) r)(hm:X.mg x=none)(ha:PFA X (e::es) Fs)(hg:Gl X x:=by rfl)(hv:bootBuiltins x=some (.builtin id):=by decide +kernel)(hn:x ≠ "__name__" := by decide)(hdb:(x==("__debug__" : Str))=false:=by decide)(hst:starEach (e::es) X.env=(false,eval e X.env)::starEach es X.env:=by rfl)(hpl:(backTo pos (starEach es X.env)).any (·.1)=false:=by rfl):
 PF X (.Call (.Name x p) (e::es) [] pos) (fBlt r Fs):=zot hc hg hm hv ha hn hdb hst hpl
theorem p_ty{T:String}(hc:z4U X (.type T) r)(hm:X.mg x=none)(ha:PFA X (e::es) Fs)(hg:Gl X x:=by rfl)(hv:bootBuiltins x=some (.type T):=by decide +kernel)(hn:x ≠ "__name__" := by decide)(hdb:(x==("__debug__" : Str))=false:=by decide)(hst:starEach (e::es) X.env=(false,eval e X.env)::starEach es X.env:=by rfl)(hpl:(backTo pos (starEach es X.env)).any (·.1)=false:=by rfl):
 PF X (.Call (.Name x p) (e::es) [] pos) (fBlt r Fs):=zkK hc hg hm hv ha hn hdb hst hpl
theorem p_ca{fr:Bool}{k k':Nat}{f:Addr}{fd:FuncData}{ps:List Str}{ct:FC}{st:Stmt}(F:FnOk X.prog X.w X.K X.mg X.base CX0 k f fd ps (spc X.K fr ct))(D:Df X.K X.mg x st ps f fd)(hr:Room k' X.A)
  (ha:PFA X (e::es) Fs) (hg:Gl X x:=by rfl) (hle:k<=k':=by decide) (hdb:(x==("__debug__" : Str))=false:=by decide) (hst:starEach (e::es) X.env=(false,eval e X.env)::starEach es X.env:=by rfl) (hpl:(backTo pos (starEach es X.env)).any (·.1)=false:=by rfl):PF X (.Call (.Name x p) (e::es) [] pos) (z06 fr ct Fs) :=
 p_cal F D hr hg ha hle hdb hst hpl
end
section
variable {X:Cx}{a b:Expr}{Fa Fb:FE}{pos:Pos}{op:CmpOp}{r:FO}
theorem p_cm(ho:OpF X (compareOp op) r)(ha:PF X a Fa)(hb:PF X b Fb)(h:op ≠ .In:=by decide)(h2:op ≠ .NotIn:=by decide):PF X (.Compare a [op] [b] pos) (fOp r Fa Fb):=p_cmp ho ha hb (zkq _ h h2)
theorem t_cm(ho:OpF X (compareOp op) r)(ha:PF X a Fa)(hb:PF X b Fb)(h:op ≠ .In:=by decide)(h2:op ≠ .NotIn:=by decide):PFT X (.Compare a [op] [b] pos) (z0m (fOp r Fa Fb)):=t_cmp ho ha hb (zkq _ h h2)
end
section
variable {X:Cx}{scope:Scope}{x:Str}{tp pos:Pos}{elt iter:Expr}{Fi:FI}{Fe:FE}
theorem p_co(N:List Str)(nt:Nat)(js:List Nat)(XN:List Str)(xs:List (Str×NameKind))(hi:PFI X (.Name x tp) iter Fi)(he:∀ cl C fp s H,PF (z0M X N scope cl C fp s H) elt Fe)
  (h1:X.N=XN:=by rfl) (h2:X.env.scope.names=xs:=by rfl) (hk:scope.kind = .function:=by rfl) (c:zci XN xs scope N nt js=true:=by decide +kernel) (hc:X.calm=true:=by rfl) (nd:N.Nodup:=by decide +kernel) (h0:N[0]?=some x:=by rfl) (hl:∀ cl C fp s H,(z0M X N scope cl C fp s H).env.scope.names.lookup x=some .local:=by intro _ _ _ _ _;rfl) (hb:0<nt:=by decide) (hj:∀ j∈js,j<XN.length:=by decide)
  (hs:∀ x,foldedSetIterable iter X.env x=pure x:=by intro _;rfl):PF X (.ListComp elt [⟨.Name x tp,iter,[],0⟩] scope pos) (z0b nt js Fi (Tg.one 0) fYes Fe) :=
 z2c (z0v XN xs h1 h2 hk c) hc hi (λcl C fp s H=>z3y nd h0 (Or.inl (hl cl C fp s H)) (Or.inr (hl cl C fp s H))) hb (λ_ _ _ _ _=>z2m) he (λj hj'=>by rw[h1];exact hj j hj') hs
theorem a_co{y:Str}{pos' spos:Pos}(i:Nat)(hN:X.N.Nodup)(N:List Str)(nt:Nat)(js:List Nat)(XN:List Str)(xs:List (Str×NameKind))(hi:PFI X (.Name x tp) iter Fi)(he:∀ cl C fp s H,PF (z0M X N scope cl C fp s H) elt Fe)
  (hix:X.N[i]?=some y:=by rfl) (hx:X.env.scope.names.lookup y=some .local:=by rfl) (hsw:swapsWith (.ListComp elt [⟨.Name x tp,iter,[],0⟩] scope pos) (some (.Name y pos')) spos.line X.env=pure true:=by rfl)
  (h1:X.N=XN:=by rfl) (h2:X.env.scope.names=xs:=by rfl) (hk:scope.kind = .function:=by rfl) (c:zci XN xs scope N nt js=true:=by decide +kernel) (hc:X.calm=true:=by rfl) (nd:N.Nodup:=by decide +kernel) (h0:N[0]?=some x:=by rfl) (hl:∀ cl C fp s H,(z0M X N scope cl C fp s H).env.scope.names.lookup x=some .local:=by intro _ _ _ _ _;rfl) (hb:0<nt:=by decide) (hj:∀ j∈js,j<XN.length:=by decide)
  (hs:∀ x,foldedSetIterable iter X.env x=pure x:=by intro _;rfl):AsgF X (.Assign [.Name y pos'] (.ListComp elt [⟨.Name x tp,iter,[],0⟩] scope pos) spos) i (z0b nt js Fi (Tg.one 0) fYes Fe) :=
 zde hN hix hx hsw (z0v XN xs h1 h2 hk c) hc hi (λcl C fp s H=>z3y nd h0 (Or.inl (hl cl C fp s H)) (Or.inr (hl cl C fp s H))) hb (λ_ _ _ _ _=>z2m) he (λj hj'=>by rw[h1];exact hj j hj') hs
end
theorem p_i{X:Cx}{a b:Expr}{Fa Fb:FE}{pos:Pos}(ha:PF X a Fa)(hb:PF X b Fb)(hs:zc9 b:=by exact λ_ _=>rfl):PF X (.Subscript a b pos) (fAt Fa Fb):=p_ix ha hb hs
theorem Df.d{P:Program}{w:World}{K:PySem.W.Frag}{mg:Str->Option Value}{base:Heap}{x:Str}{st:Stmt}{f:Addr}{fd:FuncData}{N ps:List Str}{np nn:Nat}{fr:Bool}(D:Df K mg x st ps f fd)(k:Nat)(F:FS)(S:FnScope N ps (z04 st))
 (body:∀(cdv:Value) (A:Around) (outer:List Env) (s:Shared) (H:Hp) (E:XK),Room k (A.deeper (envOfC x (z04 st) s.heap.objs.size f cdv))→(A.deeper (envOfC x (z04 st) s.heap.objs.size f cdv)).units+64<cLine →
  PFSs (cxOf CX0 P w K mg base N x (z04 st) f cdv A outer s H E).nox (z1v st) F) (hp:np=ps.length:=by rfl) (hn:nn=N.length:=by rfl):FnOk P w K mg base CX0 (k+1) f fd ps (spc K fr (cOf np nn fr F)):=Fun.dat D.fn S hp hn λcdv A outer s H E hr=>body cdv A outer s H E hr hr.units
end L2

end
section
local macro_rules|`(tactic|rfl')=>`(tactic|first|lia|omega +splitDisjunctions)
set_option maxHeartbeats 2000000
namespace L2
open PySem PySem.Spec PyProof.Rows
section
variable {α β:Type}
def insK(p:Int×α):List (Int×α)->List (Int×α)
 | []=>[p]
 | q::qs=>if p.1<=q.1 then p::q::qs else q::insK p qs
def z2F:List (Int×α)->List (Int×α)
 | []=>[]
 | p::ps=>insK p (z2F ps)
theorem z7G(p:Int×α):∀ qs:List (Int×α),(insK p qs).Perm (p::qs)
 | []=>List.Perm.refl _
 | q::qs=>by
  unfold insK;split
  · exact List.Perm.refl _
  · exact((z7G p qs).cons q).trans (List.Perm.swap p q qs)
theorem z1X:∀ ps:List (Int×α),(z2F ps).Perm ps
 | []=>List.Perm.refl _
 | p::ps=>(z7G p _).trans ((z1X ps).cons p)
abbrev Le(p q:Int×α):Prop:=p.1<=q.1
theorem z8r(p:Int×α):∀ qs:List (Int×α),qs.Pairwise Le->(insK p qs).Pairwise Le
 | [],_=>V1 _ _
 | q::qs,h=>by
  obtain⟨h1,h2⟩:=wZ.mp h;unfold insK;split
  · rename_i hle;exact wZ.mpr ⟨λx hx=>by
      rcases wn.mp hx with rfl|hx
      · exact hle
      · exact Int.le_trans hle (h1 x hx),h⟩
  · rename_i hle;refine wZ.mpr ⟨λx hx=>?_,z8r p qs h2⟩;rcases wn.mp ((z7G p qs).mem_iff.mp hx)with rfl|hx
    · show q.1<=x.1;rfl'
    · exact h1 x hx
theorem z4p:∀ ps:List (Int×α),(z2F ps).Pairwise Le
 | []=>List.Pairwise.nil
 | p::ps=>z8r p _ (z4p ps)
theorem zdn(g:α->β)(p:Int×α):∀ qs:List (Int×α),insK (p.1,g p.2) (qs.map λq=>(q.1,g q.2))=(insK p qs).map λq=>(q.1,g q.2)
 | []=>rfl
 | q::qs=>by
  rw[wv];unfold insK;by_cases h:p.1<=q.1
  · rw[if_pos h,if_pos h];rfl
  · rw[if_neg h,if_neg h,wv,zdn g p qs]
theorem z5E(g:α->β):∀ ps:List (Int×α),z2F (ps.map λq=>(q.1,g q.2))=(z2F ps).map λq=>(q.1,g q.2)
 | []=>rfl
 | p::ps=>by rw[wv,z2F,z2F,z5E g ps,zdn g p]
theorem z9s:∀{xs ys:List (Int×α)},xs.Perm ys->xs.Pairwise Le->ys.Pairwise Le->(xs.map (·.1)).Nodup->xs=ys
 | [],ys,p,_,_,_=>(List.Perm.nil_eq p)
 | x::xs,[],p,_,_,_=>by have:=p.length_eq;simp at this
 | x::xs,y::ys,p,h1,h2,nd=>by
  obtain⟨a1,a2⟩:=wZ.mp h1;obtain⟨b1,b2⟩:=wZ.mp h2;have nd':(x.1::xs.map (·.1)).Nodup:=nd;obtain⟨n1,n2⟩:=Wh.mp nd';have hx:x∈y::ys:=p.mem_iff.mp wc;have hy:y∈x::xs:=p.mem_iff.mpr wc
  have exy:x=y:=by
   rcases wn.mp hx with e|hx
   · exact e
   · rcases wn.mp hy with e|hy
     · exact e.symm
     · have l1:x.1<=y.1:=a1 y hy;have l2:y.1<=x.1:=b1 x hx;have e:x.1=y.1:=by rfl'
       exact absurd (wf.mpr ⟨y,hy,e.symm⟩) n1
  subst exy;rw[z9s (p.cons_inv) a2 b2 n2]
end
section
variable {X:Cx}{pins:List (Addr×Obj)}{σ:St}{H:Hp}{s:Shared}
theorem Inv.track{D:Addr}{its:List Value}{ys:List V}{n:Nat}(I:Inv X pins σ H s)(hD:H D=none)(f:FpOk X pins H D)(hn:X.s₀.heap.objs.size<=D)(ho:s.heap.get? D=some { cls := .type "list",data := .seq its.toArray n })(hv:Vals ys its)(hz:ys.length<=sizeLine):
   Inv X pins σ (upd H D (.lst ys)) s:=by
 obtain⟨f0,f1,f2,f3,f4,f5⟩:=f;have ne:∀ b o,X.s₀.heap.get? b=some o->b≠D:=λb o e z=>by
   subst z;exact absurd (wD (ww e) hn) (Wp _)
 have nH:∀ b o,H b=some o->b≠D:=λb o e z=>by rw[z,hD]at e;cases e
 refine⟨I.ok,I.os,I.bare,⟨I.base.keep,I.base.slot,λb o e q hx=>?_,I.base.there,λb xs e=>?_,λb o u e=>?_,λb ps e=>?_⟩,I.loc,I.cell,?_,λx c e=>?_,λp hp=>?_,λa o e=>?_,I.len⟩
 · rw[z0r (ne b o e)];exact I.base.free b o e q hx
 · have:=I.base.tups b xs e;rw[z0r (nH b _ this)];exact this
 · have:=I.base.frzs b o u e;rw[z0r (nH b _ this)];exact this
 · obtain⟨more,this⟩:=I.base.tbls b ps e;exact⟨more,by rw[z0r (nH b _ this)];exact this⟩
 · rw[z0r (Ne.symm f1)];exact I.free
 · rw[z0r (f4 x c e)];exact I.freeC x c e
 · obtain⟨q1,q2,q3⟩:=I.pin p hp;exact⟨q1,by rw[z0r (f5 p hp)];exact q2,q3⟩
 · by_cases z:a=D
   · subst z;rw[z0V]at e;cases e;exact⟨hz,its,n,hv,ho⟩
   · rw[z0r z]at e;refine(I.hok a o e).stay (λb u _ q=>q) (λb q=>?_) (λb xs q=>?_)
     · rw[z0r (nH b _ q)];exact q
     · rw[z0r (nH b _ q)];exact q
theorem ns_inj{h:Heap}{a:Addr}{m m':Str->Option Value}(p:h.Ns a m)(q:h.Ns a m'):m=m':=by
 obtain⟨o,es,ep,e,d,_,f⟩:=p;obtain⟨o',es',ep',e',d',_,f'⟩:=q;rw[e]at e';cases e';rw[d]at d';cases d'
 funext x
 rw[←f x,←f' x]
def z9t(base:Heap)(L a b:Addr)(h:Heap):List (Addr×Obj):=(List.range h.objs.size).filterMap λc=>match h.get? c with
 | some o=>if base.get? c=none/\c≠L/\c≠a/\c≠b then some (c,o) else none
 | none=>none
theorem zez{base:Heap}{L a b c:Addr}{h:Heap}{o:Obj}(e:h.get? c=some o)(h1:base.get? c=none)(h2:c≠L)(h3:c≠a)(h4:c≠b):(c,o)∈z9t base L a b h :=
 Wv.mpr ⟨c,wM.mpr (ww e),by rw[e];simp[h1,h2,h3,h4]⟩
theorem z7H{base:Heap}{L a b:Addr}{h:Heap}{p:Addr×Obj}(hp:p∈z9t base L a b h):h.get? p.1=some p.2/\base.get? p.1=none/\p.1≠L/\p.1≠a/\p.1≠b:=by
 obtain⟨c,hc,e⟩:=Wv.mp hp;cases q:h.get? c with
 | none=>rw[q]at e;cases e
 | some o =>
  rw[q]at e;dsimp only at e;split at e
  · rename_i hh;cases e;exact⟨q,hh⟩
  · cases e
theorem Inv.turnedN{h':Heap}{t':Nat}{ch:List Addr}{m:Str->Option Value}(I:Inv X pins σ H s)(hm:s.heap.Ns X.env.locals m)(hm':h'.Ns X.env.locals m)(hl:∃ o,h'.get? X.env.locals=some o)(k:∀ b o,b ∉ ch->b≠X.env.locals->s.heap.get? b=some o->h'.get? b=some o)(hc:∀ b∈ch,FpOk X pins H b):
   Inv X pins σ H { s with heap:=h',toks:=t' }:=by
 have nit:∀ b u,H b=some u->b ∉ ch:=λb u e z=>by rw[(hc b z).1]at e;cases e
 have nL:∀ b u,H b=some u->b≠X.env.locals:=λb u e z=>by rw[z,I.free]at e;cases e
 refine I.step (g':=s.gens) (d':=s.drawn) (ch:=ch) (λb hb=>?_) (λb o nl _ hn e _=>k b o hn nl e) (λb o nl _ hn e _=>⟨o.slots,k b o hn nl e⟩) (λ_ _ _ _ n=>n)
   (λb o hn e=>?_) (λ_ _ e=>e) (λ_ _ _ e=>e) (λb ps e=>⟨#[],by rw[e];simp⟩) (λm' hm2=>by rw[←ns_inj hm hm2];exact hm') (λb u e=>?_) I.bare
 · obtain⟨f0,f1,f2,f3,f4,f5⟩:=hc b hb;exact⟨f3,f1,f4,f5⟩
 · by_cases z:b=X.env.locals
   · subst z;exact hl
   · exact⟨o,k b o hn z e⟩
 · refine(I.hok b u e).stay (λc v hcc q=>k c v ?_ ?_ q) (λ_ q=>q) λ_ _ q=>q
   · rcases hcc with z|z
     · rw[z];exact nit b u e
     · exact nit c _ z
   · rcases hcc with z|z
     · rw[z];exact nL b u e
     · exact nL c _ z
end
def z2o(c:FC):List Dt->Option (List Int)
 | []=>some []
 | d::ds=>(c [d]).bind λr=>(intD r).bind λi=>(z2o c ds).map (i::·)
theorem z6n{c:FC}:∀{ds:List Dt} {ks:List Int},z2o c ds=some ks->ks.length=ds.length
 | [],ks,h=>by cases h;rfl
 | d::ds,ks,h=>by
  obtain⟨r,_,h⟩:=z05 h;obtain⟨i,_,h⟩:=z05 h;cases q:z2o c ds with
  | none=>rw[q]at h;cases h
  | some js=>rw[q]at h;cases h;rw[wj,wj,z6n q]
theorem z9u{c:FC}:∀{ds:List Dt} {ks:List Int} {j:Nat} {d:Dt} {k:Int},z2o c ds=some ks->ds[j]?=some d->ks[j]?=some k->c [d]=some (.int k)
 | [],ks,j,d,k,h,e,_=>by simp at e
 | a::ds,ks,j,d,k,h,e,e'=>by
  obtain⟨r,h1,h⟩:=z05 h;obtain⟨i,h2,h⟩:=z05 h;cases q:z2o c ds with
  | none=>rw[q]at h;cases h
  | some js =>
   rw[q]at h;cases h;cases j with
   | zero =>
    simp at e e';subst e;subst e';rw[h1,z5B h2]
   | succ j=>exact z9u q (by simpa using e) (by simpa using e')
section
variable {X:Cx}{pins:List (Addr×Obj)}{σ:St}{H:Hp}{s:Shared}{k:Nat}{f:Addr}{fd:FuncData}{p:Str}{fr:Bool}{ct:FC}{l:Addr}{vs:List V}{ds:List Dt}{ks:List Int}{Q:VK}
theorem zoC{H1:Hp}{s1:Shared}{d:Dt}{v:V}{u:Value}{n:Int}(F:FnOk X.prog X.w X.K X.mg X.base CX0 k f fd [p] (spc X.K fr ct))(hr:Room (k+2) X.A)(hb:Binds X.K fd [p] [])(I:Inv X pins σ H1 s1)(r:RelV v u)(rd:Rp X.K emp d H1 v)(hc:ct [d]=some (.int n))
  {P:Value->Shared->Prop} {E:Value->Shared->Prop} (q:∀ t H2 s2,Inv X pins σ H2 s2->Same H1 H2->(∀ b o,s1.heap.get? b=some o->H1 b=none->b ∉ frs X.stack->s2.heap.get? b=some o/\H2 b=none)->P (.int n t) s2):wpAny (model X.prog X.w) X.A.in1.in1 (call (.ref f) [u]) P E s1:=by
 have hr2:Room k X.A.in1.in1:=(show Room (k+1+1) X.A from hr).in1.in1;refine wpAny_call (codeAny_mono (F.run X.A.in1.in1 X.stack s1 H1 ⟨[u],[]⟩ [u] [v] (λw H2=>w = .int n/\Same H1 H2) E0 hr2 I.env0.in1.in1 (hb s1 [u] I.kIn rfl) (.cons r .nil) ⟨[d],_,Rps.one rd,hc,λw H2 sm rw'=>⟨by cases fr<;>exact Rp.int_.mp rw',sm⟩⟩) λres s2 hres=>?_);cases res with
 | error e=>exact hres.elim
 | ok fl =>
  cases fl with
  | ret w =>
   obtain⟨x,H2,os,bare,un,hok,rw',ex,sm⟩:=hres;subst ex;obtain⟨t,rfl⟩:=rw';exact q t H2 s2 (I.call' (ch:=[]) os un hok bare λb hb=>absurd hb (by simp)) sm λb o e hn hf=>⟨un.keep b o e hn hf (by simp),un.free b o e hn (by simp)⟩
  | next=>exact hres.elim
  | brk=>exact hres.elim
  | cont=>exact hres.elim
theorem zl2(I:Inv X pins σ H s){b:Addr}(hb:b∈frs X.stack):b<s.heap.objs.size:=by
 obtain⟨_,o,e,_⟩:=I.stack.mem hb;exact ww e
theorem zjR{D kS:Addr}{e1:Nat}{its:List Value}{P:PySem.Fin→Shared→Prop}{E:Value→Shared→Prop}(F:FnOk X.prog X.w X.K X.mg X.base CX0 k f fd [p] (spc X.K fr ct))(hr:Room (k+2) X.A)(hb:Binds X.K fd [p] [])(I:Inv X pins σ H s)(rv:Vals vs its)(rs:Rps X.K emp ds H vs)(hk:z2o ct ds=some ks)(h64:ds.length<64)
  (hD:s.heap.get? D=some (seqObj "list" #[] e1)) (hS:s.heap.get? kS=some (seqObj "list" #[] 0)) (nDS:kS≠D) (fD:FpOk X pins H D) (fS:FpOk X pins H kS) (gD:D ∉ frs X.stack) (gS:kS ∉ frs X.stack) (sD:X.s₀.heap.objs.size<=D) (sS:X.s₀.heap.objs.size<=kS)
  (q:∀ H2 s2 (out:List Value) c,Inv X pins σ H2 s2->Same H H2->H2 D=none->s2.heap.get? D=some (seqObj "list" out.toArray c)->KskOut false ks its out->P (.done (.ret .none)) s2) :
  wpAny (model X.prog X.w) X.A.in1.in1 (ksk_rest D (.ref f) false its.toArray e1 (.ref kS)) P E s:=by
 have hlen:=z6n hk;have l1:=rs.length;have l2:=rv.length;unfold ksk_rest;refine wpAny_bind (wpAny_rule ?_);rw[List.forIn_toArray];refine wpAny_bind (ksk_fold (λi s'=>∃ H1 kA e,Inv X pins σ H1 s'/\Same H H1/\H1 D=none/\H1 kS=none/\s'.heap.get? D=some (seqObj "list" #[] e1)/\s'.heap.get? kS=some (seqObj "list" kA e)/\IntsAre kA.toList (ks.take i)) its 0 s
  ⟨H,#[],0,I,Same.refl H,fD.1,fS.1,hD,hS,by simpa using IntsAre.nil⟩ ?step ?done)
 case step =>
  rintro j u s' hu ⟨H1,kA,e,I1,sm,d1,d2,o1,o2,hka⟩;simp only[WT]at hka ⊢;have hj:j<its.length:=(Wu.mp hu).1;obtain⟨n,hn⟩:∃ n,ks[j]?=some n:=⟨_,w8 (by rfl')⟩;obtain⟨d,hd⟩:∃ d,ds[j]?=some d:=⟨_,w8 (by rfl')⟩;obtain⟨v,hv,rd⟩:=rs.get hd;obtain⟨u',hu',ru⟩:=rv.get hv;rw[hu]at hu';cases hu';have hz:kA.size<=its.length:=by
    have h1:=hka.length;rw[Array.length_toList,Wq]at h1;rfl'
  refine wpAny_bind (wpAny_attempt (zoC F hr hb I1 ru (Rp.mono _ sm rd) (z9u hk hd hn) λt H2 s2 I2 sm2 kk=>?_));obtain⟨p1,p2⟩:=kk D _ o1 d1 gD;obtain⟨p3,p4⟩:=kk kS _ o2 d2 gS
  try dsimp only
  have sb:=Heap.SameBut.update s2.heap kS (Obj.mapSeq (·.push (.int n t)));have g2:=get?_update_seq p3 (·.push (.int n t));have ek:ks.take (j+1)=ks.take j++[n]:=by rw[List.take_add_one,hn];simp
  have ea:(kA.push (Value.int n t)).toList=kA.toList++[Value.int n t]:=by simp
  refine wpAny_bind (listUpdate_at p3 rfl ?_ (by rw[sizeLine_eq];rfl') (wG (Vv (Array.size_push ..)) (by rw[sizeLine_eq];rfl')));have fS2:FpOk X pins H2 kS:=⟨p4,fS.2⟩;refine wpAny_pure ⟨rfl,H2,kA.push (.int n t),_,I2.turnedL (t':=s2.toks) (ch:=[kS]) (λb o hb e=>(sb.2 b (by simpa using hb)).trans e) (λb hb=>by rw[wP.mp hb];exact fS2),sm.trans sm2,p2,p4,(sb.2 D (Ne.symm nDS)).trans p1,g2,by rw[ea,ek];exact ksk_snoc hka⟩
 case done =>
  rintro s' ⟨H1,kA,e,I1,sm,d1,d2,o1,o2,hka⟩;have hk':IntsAre kA.toList ks:=by
    rw[WD (by rfl')]at hka;exact hka
  try dsimp only
  refine wpAny_bind (listItems_at o2 rfl ?_);obtain⟨m,hfr⟩:=I1.fr;have fD1:FpOk X pins H1 D:=⟨d1,fD.2⟩;have fS1:FpOk X pins H1 kS:=⟨d2,fS.2⟩;have bD:X.base.get? D=none:=vv (wG I.ok.bsz sD);have bS:X.base.get? kS=none:=vv (wG I.ok.bsz sS);refine ksk_end_ (e:=e) (news:=z9t X.base X.env.locals kS D s'.heap) hfr (λz hz=>?_) nDS (λz hz=>(z7H hz).2.2.2.1) (λz hz=>(z7H hz).2.2.2.2) hk' (by rfl') (by rfl') λh' tk out c F' N' ko=>?_
  · rcases wq.mp hz with hz|hz
    · obtain⟨z1,z2,z3,_⟩:=z7H hz;exact⟨z1,z3,z2⟩
    · rcases wn.mp hz with rfl|hz
      · exact⟨o2,fS1.2.1,bS⟩
      · rw[wP.mp hz];exact⟨o1,fD1.2.1,bD⟩
  · have nd:=N' (D,seqObj "list" out c) wc;refine q H1 _ out.toList c (I1.turnedN (t':=tk) (ch:=[kS,D]) hfr.ns F'.ns (by obtain⟨o,_,_,e,_⟩:=F'.ns;exact⟨o,e⟩) (λb o hb hl eb=>?_) (λb hb=>?_)) sm d1 nd.1 ko
    · have hb2:b≠kS/\b≠D:=by simpa using hb
      cases z:X.base.get? b with
      | some o' =>
        have e2:=I1.bk b o' z;rw[eb]at e2;cases e2;exact F'.keep b _ z
      | none=>exact(N' _ (wa _ (zez eb z hl hb2.1 hb2.2))).1
    · rcases wn.mp hb with rfl|hb
      · exact fS1
      · rw[wP.mp hb];exact fD1
theorem zjS{D:Addr}{n0:Nat}{its:List Value}{P:PySem.Fin->Shared->Prop}{E:Value->Shared->Prop}(F:FnOk X.prog X.w X.K X.mg X.base CX0 k f fd [p] (spc X.K fr ct))(hr:Room (k+2) X.A)(hb:Binds X.K fd [p] [])(I:Inv X pins σ H s)(rv:Vals vs its)(rs:Rps X.K emp ds H vs)(hk:z2o ct ds=some ks)(h64:ds.length<64)
  (hD:s.heap.get? D=some (seqObj "list" its.toArray n0)) (fD:FpOk X pins H D) (gD:D ∉ frs X.stack) (sD:X.s₀.heap.objs.size<=D)
  (q:∀ H2 s2 (out:List Value) c,Inv X pins σ H2 s2->Same H H2->H2 D=none->s2.heap.get? D=some (seqObj "list" out.toArray c)->KskOut false ks its out->P (.done (.ret .none)) s2) :
  wpAny (model X.prog X.w) X.A.in1.in1 (ksk_tree D (.ref f) false) P E s:=by
 have l1:=rs.length;have l2:=rv.length;have hlt:D<s.heap.objs.size:=ww hD;unfold ksk_tree;refine wpAny_bind (listItems_at hD rfl ?_);have sb:=Heap.SameBut.update s.heap D (Obj.mapSeq λ_=>(#[]:Array Value));have o1:=get?_update_seq hD λ_=>(#[]:Array Value);refine wpAny_bind (listUpdate_at hD rfl ?_ (by rw[wB,sizeLine_eq];rfl') (wQ _));have I1:Inv X pins σ H { s with heap:=s.heap.update D (Obj.mapSeq λ_=>(#[]:Array Value)) }:=I.turnedL (t':=s.toks) (ch:=[D]) (λb o hb e=>(sb.2 b (by simpa using hb)).trans e) (λb hb=>by rw[wP.mp hb];exact fD);refine wpAny_bind (seqEpoch_at o1 rfl ?_);refine wpAny_bind (wpAny_newTuple ?_ (by show its.length<=_;rw[sizeLine_eq];rfl'));refine wpAny_bind (wpAny_newList ?_ (wQ _));refine wpAny_holding ?_;generalize hg:s.heap.update D (Obj.mapSeq λ_=>(#[]:Array Value))=g at *;have zg:g.objs.size=s.heap.objs.size:=sb.1;have I2:Inv X pins σ H { s with heap:=(g.push (seqObj "tuple" its.toArray 0)).push (seqObj "list" #[] 0) }:=I1.kept (t':=s.toks) λb o e=>wd _ (wd _ e);have zk:(g.push (seqObj "tuple" its.toArray 0)).objs.size=g.objs.size+1:=size_push' _ _;have ge:s.heap.objs.size<=(g.push (seqObj "tuple" its.toArray 0)).objs.size:=by rfl'
 refine zjR (s:={ s with heap:=(g.push (seqObj "tuple" its.toArray 0)).push (seqObj "list" #[] 0) }) (kS:=(g.push (seqObj "tuple" its.toArray 0)).objs.size) F hr hb I2 rv rs hk h64 (wd _ (wd _ o1)) (wy _ rfl) (vi (wD hlt ge)) fD (I.fpOk ge (I.hok.fresh ge)) gD (λz=>?_) sD (wG I.sz ge) q;exact absurd (wD (zl2 I z) ge) (Wp _)
theorem zeA(F:FnOk X.prog X.w X.K X.mg X.base CX0 k f fd [p] (spc X.K fr ct))(hr:Room (k+2) X.A)(hb:Binds X.K fd [p] [])(I:Inv X pins σ H s)(hl:H l=some (.lst vs))(rs:Rps X.K emp ds H vs)(hk:z2o ct ds=some ks)(h64:ds.length<64)(nd:ks.Nodup)
  (q:∀ D H2 ys,Same H H2->H2 D=none->Rps X.K emp ((z2F (ks.zip ds)).map (·.2)) H2 ys->Q (.ref D) (upd H2 D (.lst ys))) :
  wpAny (model X.prog X.w) X.A (call (.builtin "sorted") [.ref l] [(Str.ofString "key",.ref f)]) (EP X pins σ Q) X.xe s:=by
 obtain⟨its,rv,pl,hz⟩:=I.list (SqL.of (K:=X.K) hl);have l1:=rs.length;have l2:=rv.length;have l3:=z6n hk;refine call_function_entry_kw kind_sorted plain_sorted entry_sorted (ksk_s1 _ _) ?_;unfold Builtin.«sorted»;refine wpAny_bind (m:=checkCount "sorted" 1 1 _) (wpAny_pure ?_);refine wpAny_bind (collect_list pl.isList ?_ (by rw[sizeLine_eq];rfl'));refine wpAny_bind (wpAny_newList ?_ (by rw[sizeLine_eq];rfl'));generalize hg:(s.heap.push (seqObj "list" #[] 0)).update s.heap.objs.size (Obj.mapSeq (·++its.toArray))=g;have zg:g.objs.size=s.heap.objs.size+1:=by rw[←hg,Heap.size_update,size_push']
 have kg:∀ b o,s.heap.get? b=some o->g.get? b=some o:=λb o e=>by
  have hlt:=ww e;rw[←hg,Heap.get?_update_ne _ _ _ _ (wV hlt),Vy _ _ _ (wV hlt)];exact e
 have I1:Inv X pins σ H { s with heap:=g.push (seqObj "list" its.toArray 0) }:=I.kept (t':=s.toks) λb o e=>wd _ (kg b o e);have oD:(g.push (seqObj "list" its.toArray 0)).get? g.objs.size=some (seqObj "list" its.toArray 0):=wy _ rfl;have ge:s.heap.objs.size<=g.objs.size:=by rfl'
 refine wpAny_bind (wpAny_holding (wpAny_call_entry_kw slot_list_sort ⟨_,oD,rfl⟩ entry_list_sort ?body (ksk_l1 _ _)))
 case body =>
  show wpAny (model X.prog X.w) X.A.in1.in1 (Builtin.«list.sort» ⟨[.ref g.objs.size],[(Str.ofString "key",.ref f)]⟩) _ _ _;rw[ksk_t1];refine zjS (s:={ s with heap:=g.push (seqObj "list" its.toArray 0) }) F hr hb I1 rv rs hk h64 oD (I.fpOk ge (I.hok.fresh ge)) (λz=>absurd (wD (zl2 I z) ge) (Wp _)) (wG I.sz ge) λH2 s2 out c I2 sm d2 o2 ⟨ps,pp,eo,so⟩=>⟨_,rfl,?_⟩;refine wpAny_pure ⟨_,rfl,?_⟩;have key:∃ ts:List (Int×(Dt×(V×Value))),(ts.map λt=>(t.1,t.2.2.2))=ps/\(ts.map λt=>(t.1,t.2.1))=z2F (ks.zip ds)/\∀ t∈ts,Rp X.K emp t.2.1 H t.2.2.1/\RelV t.2.2.1 t.2.2.2:=by
   refine⟨z2F (ks.zip (ds.zip (vs.zip its))),?_,?_,λt ht=>?_⟩
   · have e1:ks.zip its=(ks.zip (ds.zip (vs.zip its))).map λt=>(t.1,t.2.2.2):=by
      apply WS
      · simp;rfl'
      · intro i h1 h2;simp
     rw[←z5E (λz:Dt×(V×Value)=>z.2.2),←e1];refine z9s ((z1X _).trans pp.symm) (z4p _) (so.imp λh=>by simpa using h) ?_;have:((z2F (ks.zip its)).map (·.1)).Perm ks:=((z1X (ks.zip its)).map _).trans (by rw[List.map_fst_zip (by rfl')]);exact this.nodup_iff.mpr nd
   · have e1:ks.zip ds=(ks.zip (ds.zip (vs.zip its))).map λt=>(t.1,t.2.1):=by
      apply WS
      · simp;rfl'
      · intro i h1 h2;simp
     rw[←z5E (λz:Dt×(V×Value)=>z.1),←e1]
   · have ht:=(z1X _).mem_iff.mp ht;obtain⟨i,hi,e⟩:=wH ht;simp at hi;subst e;simp only[List.getElem_zip];obtain⟨v,e1,r1⟩:=rs.get (i:=i) (w8 (by rfl'));obtain⟨u,e2,r2⟩:=rv.get e1;rw[w8 (by rfl')]at e1 e2;cases e1;cases e2;exact⟨r1,r2⟩
  obtain⟨ts,k1,k2,k3⟩:=key;have ev:Vals (ts.map λt=>t.2.2.1) out:=by
   rw[eo,←k1,wW];clear k1 k2 eo
   induction ts with
   | nil=>exact .nil
   | cons t ts ih=>exact .cons (k3 t wc).2 (ih λz hz=>k3 z (wa _ hz))
  have er:Rps X.K emp ((z2F (ks.zip ds)).map (·.2)) H (ts.map λt=>t.2.2.1):=by
   rw[←k2,wW];clear k1 k2 eo ev
   induction ts with
   | nil=>exact Rps.nil_.mpr rfl
   | cons t ts ih=>exact Rps.cons_.mpr ⟨_,_,rfl,(k3 t wc).1,ih λz hz=>k3 z (wa _ hz)⟩
  have lt:(ts.map λt=>t.2.2.1).length<=sizeLine:=by
   rw[wo,←wo (f:=λt:Int×(Dt×(V×Value))=>(t.1,t.2.1)),k2,(z1X _).length_eq,List.length_zip,sizeLine_eq];rfl'
  exact⟨.ref g.objs.size,_,I2.track d2 ⟨d2,(I.fpOk ge (I.hok.fresh (H:=H) ge)).2⟩ (wG I.sz ge) (by simpa using o2) ev lt,rfl,q _ _ _ sm d2 (Rps.mono _ sm er)⟩
end
section
variable {X:Cx}{a:Expr}{Fa:FE}{k:Nat}{f:Addr}{fd:FuncData}{prm:Str}{fr:Bool}{ct:FC}{x:Str}{p pos kp kpos:Pos}
def z6o(c:FC)(F:FE):FE:=λρ=>(F ρ).bind λx=>(lstD x.2).bind λds=>(z2o c ds).bind λks=>if ds.length<64/\ks.Nodup then some (newL ((z2F (ks.zip ds)).map (·.2))) else none
theorem zoD(F:FnOk X.prog X.w X.K X.mg X.base CX0 k f fd [prm] (spc X.K fr ct))(hr:Room (k+2) X.A)(hg:Gl X "sorted")(hm:X.mg "sorted" = none)(hf:X.mg x=some (.ref f))(hgf:Gl X x)(hb:Binds X.K fd [prm] [])(ha:PF X a Fa)(hd:(x==("__debug__" : Str))=false:=by decide)(hs:starEach [a] X.env=[(false,eval a X.env)]:=by rfl):
   PF X (.Call (.Name "sorted" p) [a] [⟨some "key",.Name x kp,kpos⟩] pos) (z6o ct Fa):=by
 intro pins s σ H Q I ⟨ρ,fz,dz,rs,e0,kk⟩;obtain⟨⟨fa,da⟩,ea,e1⟩:=z05 e0;obtain⟨ds,ed,e2⟩:=z05 e1;obtain⟨ks,ek,e3⟩:=z05 e2;split at e3
 · rename_i hh;cases e3;have hA:PA X [a] (upAs X (z02 Fa fNil)):=z03 ha z08 hs;refine wpAny_Call_Name_kw (z4d I hg hm (by decide +kernel:bootBuiltins "sorted" = some (.builtin "sorted")) ?_);refine PyProof.Rows.callWith_kw (thn (hA pos pins s σ H (λvs H1=>Same H H1/\∃ va,vs=[va]/\Rp X.K emp da H1 va) I ⟨ρ,[(fa,da)],rs,by simp[z02,fNil,ea],λvs H1 s1 ⟨va,r1,ee1,q1,q3⟩=>⟨s1,va,by rw[ee1,show r1=[]from q3],q1.sh⟩⟩) λus s1 ⟨vs,H1,I1,rv,s1H,va,ev,ra⟩=>?_) (by rw[hs];rfl) (by rw[hs];rfl) rfl rfl;subst ev;obtain⟨ua,rfl,rua⟩:=rv.one;have hkw:=zix (X:=X) (nm:=some "key") (kpos:=kpos) (ziu (v:=V.ref f) (pos:=kp) hgf hf rfl hd) zkv;refine thn (hkw pos pins s1 σ H1 (λzs H2=>zs=[.ref f]/\H2=H1) I1 ⟨rfl,rfl⟩) ?_;rintro kvs s2 ⟨zs,H2,I2,rz,ez,eH⟩;subst ez;subst eH;obtain⟨uk,rfl,ruk⟩:=rz.one;cases ruk;have ex:∃ l vs,va = .ref l/\H2 l=some (.lst vs)/\Rps X.K emp ds H2 vs:=by
    cases da<;>first|cases ed|skip
    obtain⟨l,vs,e,_,h1,h2⟩:=ra.items;exact⟨l,vs,e,h1,h2⟩
   obtain⟨l,vs,rfl,h1,h2⟩:=ex;cases rua;refine zeA F hr hb I2 h1 h2 ek hh.1 hh.2 λD H3 ys sm d3 r3=>kk _ _ (s1H.trans (sm.trans (z1d d3))) ?_;exact(z6P d3 r3).early (s1H.trans sm)
 · cases e3
end
end L2

end
section
namespace L2
open PySem
abbrev L(ns:List Int):Dt := .lst (ns.map .int)
abbrev T(ns:List Int):Dt := .tup (ns.map .int)
theorem z0o{α β:Type}{a:α}{f:α->Option β}:(some a).bind f=f a:=rfl
theorem ziJ{α:Type}{xs:List α}{i:Int}(h0:0<=i):atI xs i=xs[i.toNat]?:=by
 unfold atI ixN;rw[if_pos h0];by_cases h:i<xs.length
 · rw[if_pos h];rfl
 · rw[if_neg h,wN (by rfl')];rfl
theorem atI_c0{α:Type}{x:α}{xs:List α}:atI (x::xs) 0=some x:=z2y (j:=0) rfl
theorem atI_c1{α:Type}{x y:α}{xs:List α}:atI (x::y::xs) 1=some y:=z2y (j:=1) rfl
theorem atI_c2{α:Type}{x y z:α}{xs:List α}:atI (x::y::z::xs) 2=some z:=z2y (j:=2) rfl
theorem z3j:∀ ns:List Int,z1n (ns.map Dt.int)=true
 | []=>rfl
 | n::ns=>by rw[wv,z1n,z3j ns];rfl
theorem z34:∀(k:Nat) (ns:List Int),oksN k (ns.map Dt.int)=true
 | k,[]=>by cases k<;>rfl
 | k,n::ns=>by rw[wv,oksN,z34 k ns];cases k<;>rfl
theorem z3U:∀ ns:List Int,pys (ns.map Dt.int)=ns.map PyData.int
 | []=>rfl
 | n::ns=>by rw[wv,pys,z3U ns];rfl
theorem z3A:∀ ns ms:List Int,PyData.eqvAll (ns.map PyData.int) (ms.map PyData.int)=decide (ns=ms)
 | [],[]=>by simp[PyData.eqvAll]
 | [],m::ms=>by simp[PyData.eqvAll]
 | n::ns,[]=>by simp[PyData.eqvAll]
 | n::ns,m::ms=>by
  rw[wv,wv,PyData.eqvAll,z3A ns ms,PyData.eqv,Vc];simp
theorem zb1(ns ms:List Int):opEq (L ns) (L ms)=some (.nw,.bl (decide (ns=ms))):=by
 unfold opEq L;rw[Dt.okN,Dt.okN,z34,z34];unfold eqD;rw[Dt.py,Dt.py,z3U,z3U,PyData.eqv,z3A];rfl
theorem zjT(ns ms:List Int):opNe (L ns) (L ms)=some (.nw,.bl (!decide (ns=ms))):=by
 unfold opNe L;rw[Dt.okN,Dt.okN,z34,z34];unfold eqD;rw[Dt.py,Dt.py,z3U,z3U,PyData.eqv,z3A];rfl
theorem zoE(ns:List Int):(Dt.scr ns).okN 8=true:=by simp[Dt.okN]
theorem zdo(ns ms:List Int):opEq (.scr ns) (L ms)=some (.nw,.bl (decide (ns=ms))):=by
 unfold opEq;rw[zoE];unfold L;rw[Dt.okN,z34];unfold eqD;rw[Dt.py,Dt.py,z3U,PyData.eqv,z3A];rfl
theorem z0K(i j:Int):opEq (.int i) (.int j)=some (.nw,.bl (decide (i=j))):=by
 unfold opEq eqD;rw[Dt.py,Dt.py,PyData.eqv,Ve];rfl
theorem z16(i j:Int):opNe (.int i) (.int j)=some (.nw,.bl (!decide (i=j))):=by
 unfold opNe eqD;rw[Dt.py,Dt.py,PyData.eqv,Ve];rfl
theorem z8s{i j:Int}(h:j.natAbs<2 ^ 64):z1e i j=true:=by unfold z1e;rw[decide_eq_true h];simp
theorem zcj{i j:Int}(h:i.natAbs<2 ^ 64):z1e i j=true:=by unfold z1e;rw[decide_eq_true h];simp
section
variable (i j:Int)
end
def z0p(ns:List Int)(k:Int):Int:=if k<ns.length then ns.getD k.toNat 0 else if ns=[] then 0 else ns.getD (k.fmod ns.length).toNat 0*31+k
end L2

end
section
namespace L2
open PySem
section
variable {α β γ:Type}{g:Tg}{Fc:FT}{Fe:FE}{ρ0:Rho}
theorem z7I(e:α->Dt)(h:α->Dv):∀(xs:List α),(∀ x∈xs,(g.put (e x) ρ0).bind Fe=some (h x))->z4V g fYes Fe ρ0 (xs.map e)=some (xs.map h)
 | [],_=>rfl
 | x::xs,q=>by
  have q1:=q x wc;have ih:=z7I e h xs λy hy=>q y (wa _ hy);rw[wv,z4V];cases p:g.put (e x) ρ0 with
  | none=>rw[p]at q1;cases q1
  | some ρ1 =>
   rw[p]at q1;have q1:Fe ρ1=some (h x):=q1;simp[fYes,q1,ih]
theorem z6V(e:α->Dt)(h:α->Dv)(p:α->Bool):∀(xs:List α),(∀ x∈xs,(g.put (e x) ρ0).bind Fc=some (p x))->(∀ x∈xs,p x=true->(g.put (e x) ρ0).bind Fe=some (h x))->z4V g Fc Fe ρ0 (xs.map e)=some ((xs.filter p).map h)
 | [],_,_=>rfl
 | x::xs,q,q'=>by
  have q1:=q x wc;have q2:=q' x wc;have ih:=z6V e h p xs (λy hy=>q y (wa _ hy)) (λy hy=>q' y (wa _ hy));rw[wv,z4V];cases z:g.put (e x) ρ0 with
  | none=>rw[z]at q1;cases q1
  | some ρ1 =>
   rw[z]at q1 q2;have q1:Fc ρ1=some (p x):=q1;cases w:p x with
   | true =>
    have q2:Fe ρ1=some (h x):=q2 w;simp[q1,w,q2,ih]
   | false=>simp[q1,w,ih]
theorem z6W(h:α->Dv):∀ xs:List α,sndL (xs.map h)=xs.map λx=>(h x).2
 | []=>rfl
 | x::xs=>by rw[wv,sndL,z6W h xs];rfl
theorem z7J{h:α->Dv}:∀{xs:List α},(∀ x∈xs,(h x).1.isFr=true)->z2T (xs.map h)=true
 | [],_=>rfl
 | x::xs,q=>by rw[wv,z2T,q x wc,z7J λy hy=>q y (wa _ hy)];rfl
theorem z0d{nt:Nat}{js:List Nat}{Fi:FI}{ρ:Rho}{e:α->Dt}{h:α->Dt}{xs:List α}(hi:Fi ρ=some (xs.map e))(q:∀ x∈xs,(g.put (e x) (sigD nt js ρ)).bind Fe=some (.nw,h x)):z0b nt js Fi g fYes Fe ρ=some (.nw,.lst (xs.map h)):=by
 unfold z0b;rw[hi,z0o,z7I e (λx=>(.nw,h x)) xs q,z0o,z7J (λx _=>rfl),z6W];rfl
theorem z4q{nt:Nat}{js:List Nat}{Fi:FI}{ρ:Rho}{e:α->Dt}{h:α->Dt}{p:α->Bool}{xs:List α}(hi:Fi ρ=some (xs.map e))(q:∀ x∈xs,(g.put (e x) (sigD nt js ρ)).bind Fc=some (p x))(q':∀ x∈xs,p x=true->(g.put (e x) (sigD nt js ρ)).bind Fe=some (.nw,h x)):
  z0b nt js Fi g Fc Fe ρ=some (.nw,.lst ((xs.filter p).map h)):=by
 unfold z0b;rw[hi,z0o,z6V e (λx=>(.nw,h x)) p xs q q',z0o,z7J (λx _=>rfl),z6W];rfl
theorem z9v{nt:Nat}{js:List Nat}{Fi:FI}{ρ:Rho}{e:α->Dt}{h:α->Dv}{xs:List α}(hi:Fi ρ=some (xs.map e))(q:∀ x∈xs,(g.put (e x) (sigD nt js ρ)).bind Fe=some (h x)):z0b nt js Fi g fYes Fe ρ=some (if z2T (xs.map h) then .nw else .tn,.lst (xs.map λx=>(h x).2)):=by
 unfold z0b;rw[hi,z0o,z7I e h xs q,z0o,z6W]
variable {F:FS}
def nextO(G:FS):Oc->Option Oc
 | .nx ρ=>G ρ
 | .ct ρ=>G ρ
 | .bk ρ=>some (.nx ρ)
 | .rt f d=>some (.rt f d)
 | .ex C=>some (.ex C)
theorem zl3{ρ:Rho}:forF g F [] ρ=some (.nx ρ):=rfl
theorem z1f{x:Dt}{xs:List Dt}{ρ:Rho}:forF g F (x::xs) ρ=((g.put x ρ).bind F).bind (nextO (forF g F xs)):=by
 rw[forF];cases g.put x ρ with
 | none=>rfl
 | some ρ1 =>
  show(F ρ1).bind _=(F ρ1).bind _;congr 1
  first|done|(funext oc;cases oc<;>rfl)
theorem z7K(e:α->Dt)(R:β->γ->Rho)(step:β->α->β):∀(xs:List α) (b:β) (j:γ),(∀ b x j,x∈xs->∃ j',(g.put (e x) (R b j)).bind F=some (.nx (R (step b x) j')))->∃ j',forF g F (xs.map e) (R b j)=some (.nx (R (xs.foldl step b) j'))
 | [],b,j,_=>⟨j,rfl⟩
 | x::xs,b,j,h=>by
  obtain⟨j1,h1⟩:=h b x j wc;obtain⟨j2,h2⟩:=z7K e R step xs (step b x) j1 λb y j hy=>h b y j (wa _ hy);refine⟨j2,?_⟩;rw[wv,z1f,h1];exact h2
theorem z9w(e:α->Dt)(R:β->γ->Rho)(step:β->α->β)(P:β->Prop):∀(xs:List α) (b:β) (j:γ),P b->(∀ b x j,x∈xs->P b->P (step b x)/\∃ j',(g.put (e x) (R b j)).bind F=some (.nx (R (step b x) j')))->P (xs.foldl step b)/\∃ j',forF g F (xs.map e) (R b j)=some (.nx (R (xs.foldl step b) j'))
 | [],b,j,p,_=>⟨p,j,rfl⟩
 | x::xs,b,j,p,h=>by
  obtain⟨p1,j1,h1⟩:=h b x j wc p;obtain⟨p2,j2,h2⟩:=z9w e R step P xs (step b x) j1 p1 λb y j hy=>h b y j (wa _ hy);refine⟨p2,j2,?_⟩;rw[wv,z1f,h1];exact h2
end
abbrev LL(rows:II):Dt := .lst (rows.map L)
abbrev TTu(rows:II):Dt := .tup (rows.map T)
abbrev z0G(k:Int)(bills:II):Dt := .tup [.int k,TTu bills]
theorem zl4(ns:List Int):(T ns).flat=true:=by show z1n _=true;exact z3j ns
theorem zb2:∀ rows:II,z1n (rows.map T)=true
 | []=>rfl
 | r::rows=>by rw[wv,z1n,zl4,zb2 rows];rfl
theorem zoF(f:Fl)(i:Int):nrm f (.int i)=(.nw,.int i):=rfl
theorem nrm_T(f:Fl)(ns:List Int):nrm f (T ns)=(.nw,T ns):=by unfold nrm;rw[zl4];rfl
theorem zl5(ns:List Int):lfl (ns.map .int) = .nw:=by unfold lfl;rw[z3j];rfl
theorem z3V(ns:List Int):newL (ns.map .int)=(.nw,L ns):=by unfold newL;rw[zl5]
theorem z5F{α:Type}(h:α->Bool):∀ xs:List α,z6b (xs.map λx => .bl (h x))=some (xs.map h)
 | []=>rfl
 | x::xs=>by rw[wv,z6b,z5F h xs];rfl
theorem z8t:∀ xs:List Int,z4l (xs.map .int)=some xs
 | []=>rfl
 | x::xs=>by rw[wv,z4l,z8t xs];rfl
theorem z3k{α β:Type}(e:α->Dt)(f:β->Dt):∀(xs:List α) (ys:List β),zipD (xs.map e) (ys.map f)=(xs.zip ys).map λp => .tup [e p.1,f p.2]
 | [],ys=>by simp[zipD]
 | x::xs,[]=>by simp[zipD]
 | x::xs,y::ys=>by rw[wv,wv,zipD,z3k e f xs ys];rfl
theorem z0N(lo:Int)(n:Nat):z2l lo n=(List.range n).map λ(k:Nat) => .int (lo+(k:Int)):=rfl
theorem z0A(c:Int){m:Int}(h:0<m):0<=c.fmod m/\c.fmod m<m:=⟨W6 c h,Wg c h⟩
def z4Y(c m:Int):Int :=
 if m=2 then(if((c.fdiv (10 ^ 30)).fmod 2)=1 then -(c.fmod (10 ^ 30)) else c.fmod (10 ^ 30))
 else
  let wide:Int:=if m=0 then 9 else 61
  let n:=c.fmod wide
  if wide.fdiv 2<n then n-wide else n
theorem zl6(c m:Int):(z4Y c m).natAbs<10 ^ 30:=by
 unfold z4Y;have a1:=W6 c (show(0:Int)<10 ^ 30 by decide);have a2:=Wg c (show(0:Int)<10 ^ 30 by decide);dsimp only;split
 · split<;>rfl'
 · have hw:(if m=0 then(9:Int) else 61)=9\/(if m=0 then(9:Int) else 61)=61:=by split<;>simp
   generalize (if m=0 then(9:Int) else 61)=wide at *;have b1:=W6 c (show(0:Int)<wide by rfl');have b2:=Wg c (show(0:Int)<wide by rfl');split<;>rfl'
theorem zdp(c m:Int)(h:m=0):(z4Y c m).natAbs<=4:=by
 subst h;unfold z4Y;have b1:=W6 c (show(0:Int)<9 by decide);have b2:=Wg c (show(0:Int)<9 by decide);simp;split<;>rfl'
theorem zjU(c m:Int)(h:m=1):(z4Y c m).natAbs<=30:=by
 subst h;unfold z4Y;have b1:=W6 c (show(0:Int)<61 by decide);have b2:=Wg c (show(0:Int)<61 by decide);simp;split<;>rfl'
def z3W(ns:List Int)(at_:Int)(n:Nat)(m:Int):List Int:=(List.range n).map λ(k:Nat)=>z4Y (z0p ns (at_+(k:Int))) m
theorem zb3(ns:List Int)(a:Int)(n:Nat)(m:Int):(z3W ns a n m).length=n:=by unfold z3W;simp
def z0W(ns:List Int):Int:=if(z0p ns 3).fmod 7=6 then 0 else if(z0p ns 2).fmod 5<3 then 0 else if(z0p ns 2).fmod 5=3 then 1 else 2
def z4Z(ns:List Int):Int:=if(z0p ns 3).fmod 7=6 then 6 else 1+(z0p ns 0).fmod 4
def z9x(ns:List Int):Int:=if(z0p ns 3).fmod 7=6 then 8 else(z0p ns 1).fmod 5
def z11(ns:List Int):Nat:=(if z0W ns=2 then 1+(z4Z ns).fmod 2 else z4Z ns).toNat
def z3K(ns:List Int):Nat:=(if z0W ns=2 then(z9x ns).fmod 4 else z9x ns).toNat
def z1H(ns:List Int):II:=(List.range (z3K ns)).map λ(k:Nat)=>z3W ns (8+(z11 ns:Int)*(k:Int)) (z11 ns) (z0W ns)
theorem z6p(ns:List Int):1<=z11 ns/\z11 ns<=6:=by
 have h1:=z0A (z0p ns 0) (show(0:Int)<4 by decide);have h2:=z0A (z4Z ns) (show(0:Int)<2 by decide);unfold z11;split
 · rfl'
 · unfold z4Z;split<;>rfl'
theorem zb4(ns:List Int):z3K ns<=8:=by
 have h1:=z0A (z0p ns 1) (show(0:Int)<5 by decide);have h2:=z0A (z9x ns) (show(0:Int)<4 by decide);unfold z3K;split
 · rfl'
 · unfold z9x;split<;>rfl'
theorem z4r(ns:List Int):z0W ns=0\/z0W ns=1\/z0W ns=2:=by
 unfold z0W;split
 · simp
 · split
   · simp
   · split<;>simp
end L2

end
section
local macro_rules|`(tactic|rfl')=>`(tactic|first|lia|omega +splitDisjunctions)
namespace L2
open PySem
def addR(a b:List Int):List Int:=List.zipWith (·+·) a b
def subR(a b:List Int):List Int:=List.zipWith (· - ·) a b
def sclR(k:Int)(a:List Int):List Int:=a.map (k*·)
def z22(n:Nat):List Int:=List.replicate n 0
def mixR(n:Nat)(rows:II)(cs:List Int):List Int:=(rows.zip cs).foldl (λt p=>addR t (sclR p.2 p.1)) (z22 n)
def isWh:Dt->Bool
 | .int _=>true
 | _=>false
theorem z3X{a b:List Int}(h:a.length=b.length):(addR a b).length=a.length:=by unfold addR;rw[WA];rfl'
theorem z0L{k:Int}{a:List Int}:(sclR k a).length=a.length:=by unfold sclR;simp
theorem z35{n:Nat}:(z22 n).length=n:=by unfold z22;simp
theorem z3l{i j:Int}{p q:Nat}(h1:i.natAbs<2 ^ p)(h2:j.natAbs<2 ^ q)(h:p+q<=134217728):z1e i j=true:=by
 unfold z1e;have a:=zcc h1;have b:=zcc h2;rw[decide_eq_true (show Builtin.Int.intBits i+Builtin.Int.intBits j<=134217728 by rfl')];rfl
theorem zl7(a b:List Int):(a.zip b).map (λp=>Dt.int (p.1+p.2))=(addR a b).map .int:=by
 unfold addR;rw[List.zip,]
 induction a generalizing b with
 | nil=>rfl
 | cons x a ih=>cases b with
  | nil=>rfl
  | cons y b=>have:=ih b;simp[List.zipWith]
theorem zjV(a b:List Int):(a.zip b).map (λp=>Dt.int (p.1-p.2))=(subR a b).map .int:=by
 unfold subR;rw[List.zip,]
 induction a generalizing b with
 | nil=>rfl
 | cons x a ih=>cases b with
  | nil=>rfl
  | cons y b=>have:=ih b;simp[List.zipWith]
theorem z50{α β:Type}(g:α->β)(xs:List α)(i:Int):atI (xs.map g) i=(atI xs i).map g:=by
 unfold atI;rw[wo];cases ixN xs.length i with
 | none=>rfl
 | some j=>show(xs.map g)[j]?=_;rw[wu];rfl
theorem zl8{α:Type}{xs:List α}{i:Nat}(h:i<xs.length):atI xs (i:Int)=some xs[i]:=z2y (w8 h)
def Wide(n:Nat)(rows:II):Prop:=∀ r∈rows,r.length=n
theorem zdq{n:Nat}:∀(ps:List (List Int×Int)) (t:List Int),t.length=n->(∀ p∈ps,p.1.length=n)->(ps.foldl (λt p=>addR t (sclR p.2 p.1)) t).length=n
 | [],t,h,_=>h
 | p::ps,t,h,q=>zdq ps _ (by rw[z3X (by rw[h,z0L,q p wc])];exact h) λp hp=>q p (wa _ hp)
theorem zdr{n:Nat}{rows:II}{cs:List Int}(h:Wide n rows):(mixR n rows cs).length=n :=
 zdq _ _ z35 λp hp=>h _ (Wt hp).1
theorem zl9(d:Dt):nrm .nw d=(.nw,d):=by unfold nrm;split<;>rfl
theorem run{F G:FS}{ρ ρ':Rho}{r:Option Oc}(h:F ρ=some (.nx ρ'))(k:G ρ'=r):sSeq F G ρ=r:=by
 unfold sSeq;rw[h];exact k
theorem z3B{np n:Nat}{fr:Bool}{F:FS}{ds:List Dt}{f:Fl}{d:Dt}(hl:ds.length=np)(h:F (rho0 n ds)=some (.rt f d))(hf:(f.isFr||d.flat)=true):cOf np n fr F ds=some d:=by
 unfold cOf;rw[if_pos hl,h];show(if(fr&&!(f.isFr||d.flat))=true then none else some d)=some d;rw[hf];cases fr<;>rfl
theorem z9y{n:Nat}(h:n<=1000000):z2U (n:Int)=true:=by
 unfold z2U;rw[decide_eq_true (show -1000000<=(n:Int) by rfl'),decide_eq_true (show(n:Int)<=1000000 by rfl')];rfl
theorem L_map(f:Nat->Int)(n:Nat):(List.range n).map (λk=>Dt.int (f k))=((List.range n).map f).map .int:=by rw[wW];rfl
theorem z51{α:Type}{xs:List α}{i:Nat}(d:α)(h:i<xs.length):atI xs (i:Int)=some (xs.getD i d):=by
 rw[zl8 h];simp[List.getD,w8 h]
theorem zla(ns:List Int)(a:Int)(n:Nat)(m:Int):∀ x∈z3W ns a n m,x.natAbs<10 ^ 30:=λx hx=>by
 unfold z3W at hx;obtain⟨k,_,rfl⟩:=wf.mp hx;exact zl6 _ _
theorem zck(ns:List Int):Wide (z11 ns) (z1H ns):=λr hr=>by
 unfold z1H at hr;obtain⟨k,_,rfl⟩:=wf.mp hr;exact zb3 _ _ _ _
theorem zeB(ns:List Int):∀ r∈z1H ns,∀ x∈r,x.natAbs<10 ^ 30:=λr hr=>by
 unfold z1H at hr;obtain⟨k,_,rfl⟩:=wf.mp hr;exact zla _ _ _ _
theorem zds(ns:List Int):(z1H ns).length=z3K ns:=by unfold z1H;simp
end L2

end
section
namespace L2
open PySem
@[simp] theorem x0:∀(n:Nat) (ds:List Dt),rho0 n ds=List.map (Cell.sh false) ds++List.replicate (n-List.length ds) Cell.no:=by intros;rfl
@[simp] theorem x1:∀(F G:FS) (ρ:Rho),sSeq F G ρ=Option.bind (F ρ) (seqO G):=by intros;rfl
@[simp] theorem x2:∀(G:FS) (ρ:Rho),seqO G (Oc.nx ρ)=G ρ:=by intros;rfl
@[simp] theorem x3:∀(G:FS) (x:Oc),(∀(ρ:Rho),x=Oc.nx ρ->False)->seqO G x=some x:=by exact @L2.seqO.eq_2
@[simp] theorem x4:∀(c:FT) (F G:FS) (ρ:Rho),sIf c F G ρ=Option.bind (c ρ) λb=>if b=true then F ρ else G ρ:=by intros;rfl
@[simp] theorem x5:∀(F:FE) (ρ:Rho),z0m F ρ=Option.bind (F ρ) λx=>blD (Prod.snd x):=by intros;rfl
@[simp] theorem x6:∀(r:FO) (Fa Fb:FE) (ρ:Rho),
 fOp r Fa Fb ρ=Option.bind (Fa ρ) λx=>Option.bind (Fb ρ) λy=>r (Prod.snd x) (Prod.snd y):=by intros;rfl
@[simp] theorem x7:∀(i:Nat) (ρ:Rho),fN i ρ=zaT ρ i:=by intros;rfl
@[simp] theorem x8:∀(ρ:Rho) (i:Nat),zaT ρ i=Option.bind ρ[i]? Cell.val:=by intros;rfl
@[simp] theorem x9:Cell.val Cell.no=none:=by intros;rfl
@[simp] theorem x10:∀(f:Bool) (d:Dt),Cell.val (Cell.sh f d)=some (nrm (flOf f) d):=by intros;rfl
@[simp] theorem x11:∀(f:Bool) (ds:List Dt),Cell.val (Cell.ow f ds)=some (flOf f,Dt.lst ds):=by intros;rfl
@[simp] theorem x12:∀(f:Bool),flOf f=if f=true then Fl.fr else Fl.sh:=by intros;rfl
@[simp] theorem x13:∀(r:FB) (Fs:FA) (ρ:Rho),fBlt r Fs ρ=Option.bind (Fs ρ) λxs=>r (sndL xs):=by intros;rfl
@[simp] theorem x14:∀(Fa:FE) (Fs:FA) (ρ:Rho),z02 Fa Fs ρ=Option.bind (Fa ρ) λx=>Option.bind (Fs ρ) λxs=>some (x::xs):=by intros;rfl
@[simp] theorem x15:∀(x:Rho),fNil x=some []:=by intros;rfl
@[simp] theorem x16:sndL []=[]:=by intros;rfl
@[simp] theorem x17:∀(x_1:Dv) (xs:List Dv),sndL (x_1::xs)=Prod.snd x_1::sndL xs:=by intros;rfl
@[simp] theorem x18:∀(xs:List Dt),bLen [Dt.lst xs]=some (Fl.nw,Dt.int ↑(List.length xs)):=by intros;rfl
@[simp] theorem x19:∀(xs:List Dt),bLen [Dt.tup xs]=some (Fl.nw,Dt.int ↑(List.length xs)):=by intros;rfl
@[simp] theorem x20:∀(xs:List Int),bLen [Dt.scr xs]=some (Fl.nw,Dt.int ↑(List.length xs)):=by intros;rfl
@[simp] theorem x22:∀(b:Bool),blD (Dt.bl b)=some b:=by intros;rfl
@[simp] theorem x24:truD Dt.non=some false:=by intros;rfl
@[simp] theorem x25:∀(b:Bool),truD (Dt.bl b)=some b:=by intros;rfl
@[simp] theorem x26:∀(i:Int),truD (Dt.int i)=some (i != 0):=by intros;rfl
@[simp] theorem x27:∀(ds:List Dt),truD (Dt.lst ds)=some !List.isEmpty ds:=by intros;rfl
@[simp] theorem x28:∀(ds:List Dt),truD (Dt.tup ds)=some !List.isEmpty ds:=by intros;rfl
@[simp] theorem x30:∀(F:FE) (ρ:Rho),sRet F ρ=Option.map (λx=>Oc.rt (Prod.fst x) (Prod.snd x)) (F ρ):=by intros;rfl
@[simp] theorem x31:∀(ρ:Rho),z0F ρ=some (Oc.nx ρ):=by intros;rfl
@[simp] theorem x32:∀(Fa Fb:FE) (ρ:Rho),fAt Fa Fb ρ=Option.bind (Fa ρ) λx=>Option.bind (Fb ρ) λy=>opAt x y:=by intros;rfl
@[simp] theorem x33:∀(x y:Dv),
 opAt x y =
  match Prod.snd x,Prod.snd y with
  | Dt.lst ds,Dt.int i=>Option.map (nrm (Fl.item (Prod.fst x))) (atI ds i)
  | Dt.tup ds,Dt.int i=>Option.map (nrm (Fl.item (Prod.fst x))) (atI ds i)
  | Dt.scr ns,Dt.int i=>Option.map (λn=>(Fl.nw,Dt.int n)) (atI ns i)
  | x,x_1=>none:=by intros;rfl
@[simp] theorem x34:∀(Fs:FA) (ρ:Rho),
 fLst Fs ρ =
  Option.bind (Fs ρ) λxs =>
   if List.length xs<=1000 then some (if z3S xs=true then Fl.nw else Fl.tn,Dt.lst (sndL xs)) else none:=by intros;rfl
@[simp] theorem x35:∀(Fs:FA) (ρ:Rho),
 fTup Fs ρ =
  Option.bind (Fs ρ) λxs =>
   if List.length xs<=1000 then
    some (if z3S xs=true then Fl.nw else if z2T xs=true then Fl.fr else Fl.sh,Dt.tup (sndL xs))
   else none:=by intros;rfl
@[simp] theorem x36:Fl.item Fl.tn=Fl.sh:=by intros;rfl
@[simp] theorem x37:∀(x:Fl),(x=Fl.tn->False)->Fl.item x=x:=by exact @L2.Fl.item.eq_2
@[simp] theorem x38:∀(d:Dt) (x:Rho),fC d x=some (Fl.nw,d):=by intros;rfl
@[simp] theorem x39:∀(F:FE) (ρ:Rho),fTru F ρ=Option.bind (F ρ) λx=>truD (Prod.snd x):=by intros;rfl
@[simp] theorem x40:∀(F:FT) (ρ:Rho),fNot F ρ=Option.map not (F ρ):=by intros;rfl
@[simp] theorem x41:∀(F G:FT) (ρ:Rho),fAnd F G ρ=Option.bind (F ρ) λb=>if b=true then G ρ else some false:=by intros;rfl
@[simp] theorem x42:∀(F G:FT) (ρ:Rho),fOr F G ρ=Option.bind (F ρ) λb=>if b=true then some true else G ρ:=by intros;rfl
@[simp] theorem x43:∀(F G:FE) (ρ:Rho),
 vAnd F G ρ=Option.bind (z0m F ρ) λb=>if b=true then G ρ else some (Fl.nw,Dt.bl false):=by intros;rfl
@[simp] theorem x44:∀(F G:FE) (ρ:Rho),vOr F G ρ=Option.bind (z0m F ρ) λb=>if b=true then some (Fl.nw,Dt.bl true) else G ρ:=by intros;rfl
@[simp] theorem x45:∀(F:FE) (ρ:Rho),vNot F ρ=Option.map (λb=>(Fl.nw,Dt.bl !b)) (z0m F ρ):=by intros;rfl
@[simp] theorem x46:∀(F:FE) (ρ:Rho),
 fNeg F ρ =
  Option.bind (F ρ) λx =>
   match Prod.snd x with
   | Dt.int i=>some (Fl.nw,Dt.int (-i))
   | x=>none:=by intros;rfl
@[simp] theorem x47:∀(F:FT) (Fa Fb:FE) (ρ:Rho),fIf F Fa Fb ρ=Option.bind (F ρ) λb=>if b=true then Fa ρ else Fb ρ:=by intros;rfl
@[simp] theorem x48:∀(T:String) (F:FE) (ρ:Rho),fIsi T F ρ=Option.map (λx=>(Fl.nw,Dt.bl (zdd (tyN (Prod.snd x)) T))) (F ρ):=by intros;rfl
@[simp] theorem x49:∀(t T:String),zdd t T=(t==T||t == "bool" && T == "int"):=by intros;rfl
@[simp] theorem x50:tyN Dt.non = "NoneType" := by intros;rfl
@[simp] theorem x51:∀(b:Bool),tyN (Dt.bl b) = "bool" := by intros;rfl
@[simp] theorem x52:∀(i:Int),tyN (Dt.int i) = "int" := by intros;rfl
@[simp] theorem x53:∀(x_1:PySem.Str),tyN (Dt.str x_1) = "str" := by intros;rfl
@[simp] theorem x54:∀(xs:List Dt),tyN (Dt.lst xs) = "list" := by intros;rfl
@[simp] theorem x55:∀(ns:List Int),tyN (Dt.scr ns) = "list" := by intros;rfl
@[simp] theorem x56:∀(xs:List Dt),tyN (Dt.tup xs) = "tuple" := by intros;rfl
@[simp] theorem x57:∀(rels:List Nat) (i:Nat) (F:FE) (ρ:Rho),
 sSet rels i F ρ =
  Option.map (λx=>Oc.nx (List.set (relS rels ρ) i (Cell.sh (Fl.isFr (Prod.fst x)) (Prod.snd x))))
   (F (z1y (relS rels ρ))):=by intros;rfl
@[simp] theorem x58:∀(x:Rho),relS [] x=x:=by intros;rfl
@[simp] theorem x59:∀(x:Rho) (i:Nat) (is:List Nat),relS (i::is) x=relS is (zaX x i):=by intros;rfl
@[simp] theorem x60:z1y []=[]:=by intros;rfl
@[simp] theorem x61:∀(c:Cell) (ρ:List Cell),z1y (c::ρ)=z4W c::z1y ρ:=by intros;rfl
@[simp] theorem x62:∀(f:Bool) (ds:List Dt),z4W (Cell.ow f ds)=Cell.no:=by intros;rfl
@[simp] theorem x63:∀(x:Cell),(∀(f:Bool) (ds:List Dt),x=Cell.ow f ds->False)->z4W x=x:=by exact @L2.z4W.eq_2
@[simp] theorem x64:∀(fr:Bool) (c:FC) (Fs:FA) (ρ:Rho),
 z06 fr c Fs ρ=Option.bind (Fs ρ) λxs=>Option.map (nrm (if fr=true then Fl.nw else Fl.sh)) (c (sndL xs)):=by intros;rfl
@[simp] theorem x65:Fl.isFr Fl.nw=true:=by intros;rfl
@[simp] theorem x66:Fl.isFr Fl.fr=true:=by intros;rfl
@[simp] theorem x68:Fl.isNw Fl.nw=true:=by intros;rfl
@[simp] theorem x69:∀(x:Fl),(x=Fl.nw->False)->Fl.isNw x=false:=by exact @L2.Fl.isNw.eq_2
@[simp] theorem x70:z3S []=true:=by intros;rfl
@[simp] theorem x71:∀(x_1:Dv) (xs:List Dv),z3S (x_1::xs)=(Fl.isNw (Prod.fst x_1)&&z3S xs):=by intros;rfl
@[simp] theorem x72:z2T []=true:=by intros;rfl
@[simp] theorem x73:∀(x_1:Dv) (xs:List Dv),z2T (x_1::xs)=(Fl.isFr (Prod.fst x_1)&&z2T xs):=by intros;rfl
@[simp] theorem x74:∀(F:FE) (ρ:Rho),z6c F ρ=Option.map (λx=>Oc.nx ρ) (F ρ):=by intros;rfl
@[simp] theorem x75:∀(rels:List Nat) (Fi:FI) (g:Tg) (F:FS) (ρ:Rho),
 sFor rels Fi g F ρ=Option.bind (Fi (z1y (relS rels ρ))) λitems=>forF g F items (relS rels ρ):=by intros;rfl
@[simp] theorem x76:∀(F:FE) (ρ:Rho),iSeq F ρ=Option.bind (F ρ) λx=>seqD (Prod.snd x):=by intros;rfl
@[simp] theorem x77:∀(ds:List Dt),seqD (Dt.lst ds)=some ds:=by intros;rfl
@[simp] theorem x78:∀(ds:List Dt),seqD (Dt.tup ds)=some ds:=by intros;rfl
@[simp] theorem x80:∀(i:Nat) (F:FE) (ρ:Rho),
 z2D i F ρ =
  Option.bind (F ρ) λx =>
   if Fl.isNw (Prod.fst x)=true then some (Oc.nx (List.set ρ i (Cell.sh true (Prod.snd x)))) else none:=by intros;rfl
@[simp] theorem x81:∀(i:Nat) (F:FE) (ρ:Rho),
 sOwn i F ρ =
  Option.bind (F (z1y ρ)) λx =>
   match x with
   | (Fl.nw,Dt.lst ds)=>if i<List.length ρ then some (Oc.nx (List.set ρ i (Cell.ow true ds))) else none
   | (Fl.tn,Dt.lst ds)=>if i<List.length ρ then some (Oc.nx (List.set ρ i (Cell.ow false ds))) else none
   | x=>none:=by intros;rfl
@[simp] theorem x82:∀(i:Nat) (F:FE) (ρ:Rho),
 sOwnA i F ρ =
  Option.bind (F ρ) λx =>
   match x with
   | (Fl.nw,Dt.lst ds)=>if i<List.length ρ then some (Oc.nx (List.set ρ i (Cell.ow true ds))) else none
   | x=>none:=by intros;rfl
@[simp] theorem x83:∀(w:FW) (i:Nat) (F:FE) (ρ:Rho),
 sWr w i F ρ =
  Option.bind (z6U ρ i) λo =>
   Option.bind (F (z1y ρ)) λx =>
    Option.map (λds=>Oc.nx (List.set ρ i (Cell.ow (Prod.fst o&&Fl.isFr (Prod.fst x)) ds)))
     (w (Prod.snd o) (Prod.snd x)):=by intros;rfl
@[simp] theorem x84:∀(w:FW) (i:Nat) (F:FE) (ρ:Rho),
 sWrA w i F ρ =
  Option.bind (z6U ρ i) λo =>
   Option.bind (F ρ) λx =>
    if Fl.isNw (Prod.fst x)=true then
     Option.map (λds=>Oc.nx (List.set ρ i (Cell.ow (Prod.fst o) ds))) (w (Prod.snd o) (Prod.snd x))
    else none:=by intros;rfl
@[simp] theorem x85:∀(i:Nat) (Fj Fe:FE) (ρ:Rho),
 sPut i Fj Fe ρ =
  Option.bind (z6U ρ i) λo =>
   Option.bind (Fe (z1y ρ)) λx =>
    Option.bind (Fj ρ) λj =>
     Option.bind (intD (Prod.snd j)) λn =>
      Option.map (λds=>Oc.nx (List.set ρ i (Cell.ow (Prod.fst o&&Fl.isFr (Prod.fst x)) ds)))
       (setD (Prod.snd o) n (Prod.snd x)):=by intros;rfl
@[simp] theorem x86:∀(ρ:Rho) (i:Nat),
 z6U ρ i =
  match ρ[i]? with
  | some (Cell.ow f ds)=>some (f,ds)
  | x=>none:=by intros;rfl
@[simp] theorem x87:∀(F:FE) (ρ:Rho),z3i F ρ=Option.bind (F ρ) λx=>Option.map (z2V 0) (lstD (Prod.snd x)):=by intros;rfl
@[simp] theorem x88:∀(F:FE) (ρ:Rho),iRev F ρ=Option.bind (F ρ) λx=>Option.map List.reverse (lstD (Prod.snd x)):=by intros;rfl
@[simp] theorem x89:∀(ds:List Dt),lstD (Dt.lst ds)=some ds:=by intros;rfl
@[simp] theorem x91:∀(F G:FE) (ρ:Rho),
 iZip F G ρ =
  Option.bind (F ρ) λx =>
   Option.bind (G ρ) λy =>
    Option.bind (seqD (Prod.snd x)) λxs =>
     Option.bind (seqD (Prod.snd y)) λys=>if List.length xs=List.length ys then some (zipD xs ys) else none:=by intros;rfl
@[simp] theorem x92:∀(F:FE) (ρ:Rho),
 z0l F ρ =
  Option.bind (F ρ) λx =>
   Option.bind (intD (Prod.snd x)) λj=>if z2U j=true then some (z2l 0 (Int.toNat j)) else none:=by intros;rfl
@[simp] theorem x93:∀(i:Int),intD (Dt.int i)=some i:=by intros;rfl
@[simp] theorem x95:∀(ds:List Dt) (d:Dt),wApp ds d=if List.length ds<1000000 then some (ds++[d]) else none:=by intros;rfl
@[simp] theorem x96:∀(ds:List Dt) (d:Dt),z9r ds d=if List.length ds<1000000 then some (d::ds) else none:=by intros;rfl
@[simp] theorem x97:∀(ds:List Dt) (j:Int) (d:Dt),setD ds j d=Option.map (λk=>List.set ds k d) (ixN (List.length ds) j):=by intros;rfl
@[simp] theorem x98:∀(xs:List Dt),bLst [Dt.lst xs]=some (newL xs):=by intros;rfl
@[simp] theorem x99:∀(xs:List Dt),bLst [Dt.tup xs]=some (newL xs):=by intros;rfl
@[simp] theorem x101:∀(xs:List Dt),bTup [Dt.lst xs]=some (if z1n xs=true then Fl.nw else Fl.sh,Dt.tup xs):=by intros;rfl
@[simp] theorem x102:∀(xs:List Dt),bTup [Dt.tup xs]=some (if z1n xs=true then Fl.nw else Fl.sh,Dt.tup xs):=by intros;rfl
@[simp] theorem x104:∀(x:Dt) (x_1:Rho) (i:Nat),Tg.put (Tg.one i) x x_1=some (List.set x_1 i (Cell.sh false x)):=by intros;rfl
@[simp] theorem x105:∀(x:Rho) (is:List Nat) (ds:List Dt),
 Tg.put (Tg.many is) (Dt.tup ds) x=if List.length ds=List.length is then some (z29 x is ds) else none:=by intros;rfl
@[simp] theorem x107:∀(x:Rho) (i:Nat) (is:List Nat) (d:Dt) (ds:List Dt),
 z29 x (i::is) (d::ds)=z29 (List.set x i (Cell.sh false d)) is ds:=by intros;rfl
@[simp] theorem x108:∀(x:Rho) (x_1:List Nat) (x_2:List Dt),
 (∀(i:Nat) (is:List Nat) (d:Dt) (ds:List Dt),x_1=i::is->x_2=d::ds->False)->z29 x x_1 x_2=x:=by exact @L2.z29.eq_2
@[simp] theorem x109:z6S Cell.no=Cell.no:=by intros;rfl
@[simp] theorem x110:∀(f:Bool) (d:Dt),z6S (Cell.sh f d)=Cell.sh false d:=by intros;rfl
@[simp] theorem x111:∀(f:Bool) (ds:List Dt),z6S (Cell.ow f ds)=Cell.sh false (Dt.lst ds):=by intros;rfl
@[simp] theorem x112:∀(nt:Nat) (js:List Nat) (ρ:Rho),
 sigD nt js ρ =
  List.replicate nt Cell.no ++
   List.map
    (fun j =>
     match ρ[j]? with
     | some c=>z6S c
     | none=>Cell.no)
    js:=by intros;rfl
@[simp] theorem x113:∀(r r':FO) (Fa Fb Fc:FE) (ρ:Rho),
 z9h r r' Fa Fb Fc ρ =
  Option.bind (Fa ρ) λx =>
   Option.bind (Fb ρ) λy =>
    Option.bind (r (Prod.snd x) (Prod.snd y)) λz =>
     Option.bind (blD (Prod.snd z)) λk =>
      if k=true then Option.bind (Fc ρ) λw=>r' (Prod.snd y) (Prod.snd w) else some (Fl.nw,Dt.bl false):=by intros;rfl
@[simp] theorem x114:∀(c:FC) (F:FE) (ρ:Rho),
 z6o c F ρ =
  Option.bind (F ρ) λx =>
   Option.bind (lstD (Prod.snd x)) λds =>
    Option.bind (z2o c ds) λks =>
     if List.length ds<64/\List.Nodup ks then
      some (newL (List.map (λx=>Prod.snd x) (z2F (List.zip ks ds))))
     else none:=by intros;rfl
@[simp] theorem x115:∀(i j:Int),opLt (Dt.int i) (Dt.int j)=some (Fl.nw,Dt.bl (decide (i<j))):=by intros;rfl
@[simp] theorem x116:∀(i j:Int),opLe (Dt.int i) (Dt.int j)=some (Fl.nw,Dt.bl (decide (i<=j))):=by intros;rfl
@[simp] theorem x117:∀(i j:Int),opGt (Dt.int i) (Dt.int j)=some (Fl.nw,Dt.bl (decide (j<i))):=by intros;rfl
@[simp] theorem x118:∀(i j:Int),opGe (Dt.int i) (Dt.int j)=some (Fl.nw,Dt.bl (decide (j<=i))):=by intros;rfl
@[simp] theorem x119:∀(i j:Int),z68 (Dt.int i) (Dt.int j)=some (Fl.nw,Dt.int (i-j)):=by intros;rfl
@[simp] theorem x120:∀(i j:Int),z1P (Dt.int i) (Dt.int j)=if z3v i j=true then some (Fl.nw,Dt.int (Int.fmod i j)) else none:=by intros;rfl
@[simp] theorem x121:∀(i j:Int),z1R (Dt.int i) (Dt.int j)=if z1e i j=true then some (Fl.nw,Dt.int (i*j)) else none:=by intros;rfl
@[simp] theorem x122:∀(i j:Int),z3g (Dt.int i) (Dt.int j)=if z21 i j=true then some (Fl.nw,Dt.int (Int.fdiv i j)) else none:=by intros;rfl
@[simp] theorem x123:∀(i j:Int),z8m (Dt.int i) (Dt.int j)=if z4P i j=true then some (Fl.nw,Dt.int (i ^ Int.toNat j)) else none:=by intros;rfl
@[simp] theorem x124:∀(i j:Int),z0w (Dt.int i) (Dt.int j)=some (Fl.nw,Dt.int (i+j)):=by intros;rfl
@[simp] theorem x125:∀(f:Fl) (i:Int),nrm f (Dt.int i)=(Fl.nw,Dt.int i):=by intros;rfl
@[simp] theorem x126:∀(f:Fl) (i:Bool),nrm f (Dt.bl i)=(Fl.nw,Dt.bl i):=by intros;rfl
@[simp] theorem x127:∀(f:Fl),nrm f Dt.non=(Fl.nw,Dt.non):=by intros;rfl
@[simp] theorem x128:∀(f:Fl) (ns:List Int),nrm f (Dt.scr ns)=(f,Dt.scr ns):=by intros;rfl
@[simp] theorem x129:∀(f:Fl) (ns:List Int),nrm f (L ns)=(f,L ns):=by intros;rfl
@[simp] theorem x130:∀(f:Fl) (ns:II),nrm f (LL ns)=(f,LL ns):=by intros;rfl
@[simp] theorem x134:∀{α β:Type} {a:α} {f:α->Option β},Option.bind (some a) f=f a:=by intros;rfl
@[simp] theorem x135:∀{α β:Type} {f:α->Option β},Option.bind none f=none:=by intros;rfl
@[simp] theorem x136:∀{α:Type} {x:α} {xs:List α},atI (x::xs) 0=some x:=by exact @L2.atI_c0
@[simp] theorem x137:∀{α:Type} {x y:α} {xs:List α},atI (x::y::xs) 1=some y:=by exact @L2.atI_c1
@[simp] theorem x138:∀{α:Type} {x y z:α} {xs:List α},atI (x::y::z::xs) 2=some z:=by exact @L2.atI_c2
@[simp] theorem y1(ns:List Int):newL (List.map Dt.int ns)=(Fl.nw,Dt.lst (List.map Dt.int ns)):=z3V ns
@[simp] theorem y2:newL []=(Fl.nw,Dt.lst []):=rfl
@[simp] theorem y3(ns:List Int):z1n (List.map Dt.int ns)=true:=z3j ns
@[simp] theorem y4(d:Dt):nrm Fl.nw d=(Fl.nw,d):=zl9 d
@[simp] theorem y5(i:Int):Dt.flat (Dt.int i)=true:=rfl
@[simp] theorem y6(i:Bool):Dt.flat (Dt.bl i)=true:=rfl
@[simp] theorem y7(f:Fl)(ds:List Dt):nrm f (Dt.lst ds)=(f,Dt.lst ds):=rfl
@[simp] theorem y8:z1n []=true:=rfl
@[simp] theorem y9(d:Dt)(ds:List Dt):z1n (d::ds)=(d.flat&&z1n ds):=by rw[z1n]
@[simp] theorem y10(ds:List Dt):Dt.flat (Dt.lst ds)=false:=by rw[Dt.flat]
@[simp] theorem y11(ds:List Dt):Dt.flat (Dt.tup ds)=z1n ds:=by rw[Dt.flat]
@[simp] theorem y12(f:Fl)(ds:List Dt):nrm f (Dt.tup ds)=(if z1n ds=true then Fl.nw else f,Dt.tup ds):=rfl
@[simp] theorem xd1:tyN Dt.dic = "dict" := rfl
@[simp] theorem xd2:Dt.flat Dt.dic=true:=by unfold Dt.flat;rfl
end L2

end
section
local macro_rules|`(tactic|rfl')=>`(tactic|first|lia|omega +splitDisjunctions)
namespace L2
open PySem
@[simp] theorem y13(n:Nat)(h:n<=1000000):z2U (n:Int)=true:=z9y h
theorem getD_L(S:II){k:Nat}(h:k<S.length):atI (S.map L) (k:Int)=some (L (S.getD k [])):=by rw[z50,z51 [] h];rfl
end L2
namespace L2
open PySem
theorem z52{α:Type}(xs:List α)(n:Nat):cutD xs (some (n:Int)) none=xs.drop n:=by
 unfold cutD;rw[HT.sIx_none,HT.sIx_nat];by_cases h:n<=xs.length
 · rw[VW h,WD (by rw[Wc];rfl')]
 · rw[VJ (by rfl'),V8 (by rfl'),V8 (by rfl')];simp
theorem zcl{α:Type}(xs:List α)(n:Nat):cutD xs none (some (n:Int))=xs.take n:=by
 unfold cutD;rw[HT.sIx_none,HT.sIx_nat,Vg,Nat.sub_zero];by_cases h:n<=xs.length
 · rw[VW h]
 · rw[VJ (by rfl'),WD (by rfl'),WD (by rfl')]
@[simp] theorem y14(F:FE)(A B:FP)(ρ:Rho):fSl F A B ρ=(F ρ).bind λx=>(A ρ).bind λlo=>(B ρ).bind λhi=>match x.2 with|.lst ds=>some (newL (cutD ds lo hi))|_=>none:=rfl
@[simp] theorem y15(F:FE)(ρ:Rho):z1w F ρ=(F ρ).bind λx=>(intD x.2).map some:=rfl
@[simp] theorem y16(ρ:Rho):z0E ρ=some none:=rfl
theorem z1z(xs:List Int)(n:Nat):newL ((xs.map Dt.int).drop n)=(.nw,L (xs.drop n)):=by rw[←List.map_drop];exact z3V _
theorem z53(xs:List Int)(n:Nat):newL ((xs.map Dt.int).take n)=(.nw,L (xs.take n)):=by rw[←vX];exact z3V _
theorem zlb(a b:List Int)(h:a.length+b.length<=1000000):z0w (.lst (a.map Dt.int)) (.lst (b.map Dt.int))=some (.nw,L (a++b)):=by
 have:z0w (.lst (a.map Dt.int)) (.lst (b.map Dt.int))=z4Q (.lst (a.map Dt.int)) (.lst (b.map Dt.int)):=rfl;rw[this,z4Q,if_pos (by simpa using h),←Wk,z3V]
end L2

end
section
local macro_rules|`(tactic|rfl')=>`(tactic|first|lia|omega +splitDisjunctions)
namespace Lat
abbrev Vec:=Nat->Int
def Span:List Vec->Vec->Prop
 | [],v=>∀ k,v k=0
 | r::rs,v=>∃ c:Int,Span rs (λk=>v k-c*r k)
theorem Span.congr{rs:List Vec}{v w:Vec}(h:∀ k,v k=w k)(s:Span rs v):Span rs w:=by
 have:v=w:=funext h;rw[←this];exact s
theorem Span.zero:∀{rs:List Vec},Span rs (λ_=>0)
 | []=>λ_=>rfl
 | r::rs=>⟨0,Span.congr (λk=>by simp) (Span.zero (rs:=rs))⟩
theorem Span.add:∀{rs:List Vec} {v w:Vec},Span rs v->Span rs w->Span rs (λk=>v k+w k)
 | [],v,w,h1,h2=>λk=>by show v k+w k=0;rw[h1 k,h2 k];rfl
 | r::rs,v,w,⟨c,h1⟩,⟨d,h2⟩=>⟨c+d,Span.congr (λk=>by show _=(v k+w k)-(c+d)*r k;rw[Vh];rfl') (h1.add h2)⟩
theorem Span.smul:∀{rs:List Vec} {v:Vec} (a:Int),Span rs v->Span rs (λk=>a*v k)
 | [],v,a,h=>λk=>by show a*v k=0;rw[h k,WE]
 | r::rs,v,a,⟨c,h⟩=>⟨a*c,Span.congr (λk=>by rw[WM,Wd]) (h.smul a)⟩
theorem Span.neg{rs:List Vec}{v:Vec}(h:Span rs v):Span rs (λk =>-v k):=Span.congr (λk=>by rfl') (h.smul (-1))
theorem Span.sub{rs:List Vec}{v w:Vec}(h1:Span rs v)(h2:Span rs w):Span rs (λk=>v k-w k):=Span.congr (λk=>by rfl') (h1.add h2.neg)
theorem Span.head{r:Vec}{rs:List Vec}:Span (r::rs) r:=⟨1,Span.congr (λk=>by rfl') Span.zero⟩
theorem Span.cons{r:Vec}{rs:List Vec}{v:Vec}(h:Span rs v):Span (r::rs) v:=⟨0,Span.congr (λk=>by rfl') h⟩
theorem Span.mem:∀{rs:List Vec} {r:Vec},r∈rs->Span rs r
 | _::_,_,.head _=>Span.head
 | _::_,_,.tail _ h=>(Span.mem h).cons
theorem Span.least{P:Vec->Prop}(z:P (λ_=>0))(a:∀ v w,P v->P w->P (λk=>v k+w k))(m:∀(c:Int) v,P v->P (λk=>c*v k)):
  ∀{rs:List Vec} {v:Vec},(∀ r∈rs,P r)->Span rs v->P v
 | [],v,_,h=>by have:v=λ_=>0:=funext h;rw[this];exact z
 | r::rs,v,hr,⟨c,h⟩=>by
  have h1:=Span.least z a m (λx hx=>hr x (wa _ hx)) h;have h2:=a _ _ h1 (m c r (hr r wc));have:v=λk=>(v k-c*r k)+c*r k:=funext λk=>by rfl'
  rw[this];exact h2
theorem Span.trans{rs ss:List Vec}{v:Vec}(h:∀ r∈rs,Span ss r)(s:Span rs v):Span ss v :=
 Span.least (P:=Span ss) Span.zero (λ_ _=>Span.add) (λc _=>Span.smul c) h s
def SameSpan(rs ss:List Vec):Prop:=(∀ r∈rs,Span ss r)/\∀ s∈ss,Span rs s
theorem SameSpan.iff{rs ss:List Vec}(h:SameSpan rs ss){v:Vec}:Span rs v↔Span ss v:=⟨Span.trans h.1,Span.trans h.2⟩
theorem SameSpan.refl{rs:List Vec}:SameSpan rs rs:=⟨λ_=>Span.mem,λ_=>Span.mem⟩
theorem SameSpan.symm{rs ss:List Vec}(h:SameSpan rs ss):SameSpan ss rs:=⟨h.2,h.1⟩
theorem SameSpan.trans{rs ss ts:List Vec}(h:SameSpan rs ss)(g:SameSpan ss ts):SameSpan rs ts:=⟨λr hr=>(h.1 r hr).trans g.1,λt ht=>(g.2 t ht).trans h.2⟩
def Form:Nat->List (Nat×Vec)->Prop
 | _,[]=>True
 | f,(h,r)::rs=>f<=h/\(∀ k,k<h->r k=0)/\0<r h/\(∀ p∈rs,0<=r p.1/\r p.1<p.2 p.1)/\Form (h+1) rs
abbrev z0U(S:List (Nat×Vec)):List Vec:=S.map (·.2)
theorem Form.low:∀{f:Nat} {S:List (Nat×Vec)} {v:Vec},Form f S->Span (z0U S) v->∀ k,k<f->v k=0
 | _,[],v,_,s,k,_=>s k
 | f,(h,r)::S,v,⟨h1,h2,h3,h4,h5⟩,⟨c,s⟩,k,hk=>by
  have:=Form.low h5 s k (by rfl');have e:r k=0:=h2 k (by rfl');have this:v k-c*r k=0:=this;rw[e]at this;simpa using this
theorem Form.coef{f h:Nat}{r v:Vec}{S:List (Nat×Vec)}{c:Int}(F:Form f ((h,r)::S))(s:Span (z0U S) (λk=>v k-c*r k)):v h=c*r h:=by
 have:v h-c*r h=0:=F.2.2.2.2.low s h (by rfl');rfl'
theorem z3L{c r v:Int}(e:v=c*r)(hr:0<r)(h1 : -r<v)(h2:v<r):c=0:=by
 rcases vQ c 0 with h|h|h
 · exfalso;have:c*r <= -1*r:=W9 (by rfl') (by rfl');rfl'
 · exact h
 · exfalso;have:1*r<=c*r:=W9 (by rfl') (by rfl');rfl'
theorem Form.small:∀{f:Nat} {S:List (Nat×Vec)} {v:Vec},Form f S->Span (z0U S) v->(∀ p∈S,-(p.2 p.1)<v p.1/\v p.1<p.2 p.1)->∀ k,v k=0
 | _,[],v,_,s,_=>s
 | f,(h,r)::S,v,F,⟨c,s⟩,hs=>by
  have e:=F.coef s;have hp:=hs (h,r) wc;have c0:c=0:=z3L e F.2.2.1 hp.1 hp.2;subst c0;refine F.2.2.2.2.small (Span.congr (λk=>by rfl') s) (λp hp=>hs p (wa _ hp))
theorem Form.tail{f h:Nat}{r v:Vec}{S:List (Nat×Vec)}(F:Form f ((h,r)::S))(s:Span (z0U ((h,r)::S)) v)(z:v h=0):Span (z0U S) v:=by
 obtain⟨c,s⟩:=s;have e:=F.coef s;have hr:=F.2.2.1;rw[z]at e;have c0:c=0:=by
  rcases W5.mp e.symm with h|h
  · exact h
  · rfl'
 subst c0;exact Span.congr (λk=>by rfl') s
theorem Form.head_le{f g h h':Nat}{r r':Vec}{S S':List (Nat×Vec)}(F:Form f ((h,r)::S))(G:Form g ((h',r')::S'))(s:Span (z0U ((h',r')::S')) r):h'<=h:=by
 apply Ww;intro hlt;have G':Form h' ((h',r')::S'):=⟨wx _,G.2⟩;have:=G'.low s h hlt;have:=F.2.2.1;rfl'
theorem Form.unique:∀{S T:List (Nat×Vec)} {f g:Nat},Form f S->Form g T->SameSpan (z0U S) (z0U T)->S=T
 | [],[],_,_,_,_,_=>rfl
 | [],(h,r)::T,_,_,_,G,s=>by
  have:=s.2 r wc h;have:=G.2.2.1;rfl'
 | (h,r)::S,[],_,_,F,_,s=>by
  have:=s.1 r wc h;have:=F.2.2.1;rfl'
 | (h,r)::S,(h',r')::T,f,g,F,G,s=>by
  have s1:Span (z0U ((h',r')::T)) r:=s.1 r wc;have s2:Span (z0U ((h,r)::S)) r':=s.2 r' wc;have eh:h=h':=VX (G.head_le F s2) (F.head_le G s1);subst eh;have evh:r h=r' h:=by
   obtain⟨c,q⟩:=s1;obtain⟨d,q'⟩:=s2;have e1:=G.coef q;have e2:=F.coef q';have p1:=F.2.2.1;have p2:=G.2.2.1;have c1:1<=c:=by
     apply Int.not_lt.mp;intro hc;have:c*r' h<=0:=WI (by rfl') (by rfl');rfl'
   have d1:1<=d:=by
     apply Int.not_lt.mp;intro hd;have:d*r h<=0:=WI (by rfl') (by rfl');rfl'
   have a1:1*r' h<=c*r' h:=W9 c1 (by rfl');have a2:1*r h<=d*r h:=W9 d1 (by rfl');rfl'
  have tails:SameSpan (z0U S) (z0U T):=by
   constructor
   · intro x hx;have hs:Span (z0U S) x:=Span.mem hx;have z:=F.2.2.2.2.low hs h (by rfl');exact G.tail (s.iff.mp hs.cons) z
   · intro x hx;have hs:Span (z0U T) x:=Span.mem hx;have z:=G.2.2.2.2.low hs h (by rfl');exact F.tail (s.iff.mpr hs.cons) z
  have eST:=Form.unique F.2.2.2.2 G.2.2.2.2 tails;subst eST;have d0:Span (z0U S) (λk=>r k-r' k):=F.tail (Span.sub Span.head s2) (by rfl');have er:r=r':=funext λk=>by
   have:=F.2.2.2.2.small d0 (λp hp=>by
     have q1:=F.2.2.2.1 p hp;have q2:=G.2.2.2.1 p hp;rfl') k
   rfl'
  rw[er]
theorem Form.free{f:Nat}{S:List (Nat×Vec)}(F:Form f S){v:Vec}:∀{c d:Int} {h:Nat} {r:Vec} {T:List (Nat×Vec)},S=(h,r)::T->Span (z0U T) (λk=>v k-c*r k)->Span (z0U T) (λk=>v k-d*r k)->c=d:=by
 rintro c d h r T rfl s1 s2;have e1:=F.coef s1;have e2:=F.coef s2;have p:=F.2.2.1;have:(c-d)*r h=0:=by rw[vg];rfl'
 rcases W5.mp this with h|h<;>rfl'
end Lat

end
section
namespace Lat
theorem z3M{α β:Type}[DecidableEq β]:∀{l:List α} {m:List β} (f:α->β),l.Nodup->(∀ x∈l,∀ y∈l,f x=f y->x=y)->(∀ x∈l,f x∈m)->l.length<=m.length
 | [],m,f,_,_,_=>wQ _
 | x::l,m,f,hn,hi,hm=>by
  have hx:=hm x wc;have hn':=Wh.mp hn;have h1:l.length<=(m.erase (f x)).length:=by
   refine z3M f hn'.2 (λa ha b hb=>hi a (wa _ ha) b (wa _ hb)) (λa ha=>?_);have hne:f a≠f x:=λe=>by
    have:=hi a (wa _ ha) x wc e;subst this;exact hn'.1 ha
   exact(List.mem_erase_of_ne hne).mpr (hm a (wa _ ha))
  have h2:(m.erase (f x)).length=m.length-1:=List.length_erase_of_mem hx;have h3:0<m.length:=List.length_pos_of_mem hx;simp only[wj];rfl'
def box:List Nat->II
 | []=>[[]]
 | n::ns=>(List.range n).flatMap λ(i:Nat)=>(box ns).map λt=>(i:Int)::t
def prod:List Nat->Nat
 | []=>1
 | n::ns=>n*prod ns
theorem zdt{α:Type}(g:Nat->List α)(k:Nat):∀(l:List Nat),(∀ i∈l,(g i).length=k)->(l.flatMap g).length=l.length*k
 | [],_=>by simp
 | i::l,h=>by
  rw[Vz,wI,zdt g k l (λj hj=>h j (wa _ hj)),h i wc,wj,vn,Nat.add_comm]
theorem z6q:∀ ns:List Nat,(box ns).length=prod ns
 | []=>rfl
 | n::ns=>by
  show((List.range n).flatMap λ(i:Nat)=>(box ns).map λt=>(i:Int)::t).length=n*prod ns;rw[zdt _ (prod ns) _ (λi _=>by rw[wo,z6q ns]),Wr]
def z0X:List Nat->List Int->Prop
 | [],[]=>True
 | n::ns,x::xs=>0<=x/\x<n/\z0X ns xs
 | _,_=>False
theorem z5G:∀{ns:List Nat} {t:List Int},t∈box ns↔z0X ns t
 | [],[]=>by simp[box,z0X]
 | [],x::t=>by simp[box,z0X]
 | n::ns,[]=>by simp[box,z0X]
 | n::ns,x::t=>by
  simp only[box,z0X,VL,wM,wf,List.cons.injEq];constructor
  · rintro⟨i,hi,u,hu,rfl,rfl⟩;exact⟨by rfl',by rfl',z5G.mp hu⟩
  · rintro⟨h0,h1,h2⟩;exact⟨x.toNat,by rfl',t,z5G.mpr h2,by rfl',rfl⟩
theorem zb5:∀ ns:List Nat,(box ns).Nodup
 | []=>by simp[box]
 | n::ns=>by
  have ih:=zb5 ns;have key:∀ m,((List.range m).flatMap λ(i:Nat)=>(box ns).map λt=>(i:Int)::t).Nodup:=by
   intro m
   induction m with
   | zero=>simp
   | succ m hm =>
    rw[vB,List.flatMap_append,VA];refine⟨hm,?_,?_⟩
    · rw[Vz,List.flatMap_nil,vc];refine List.Pairwise.map _ (λa b hab e=>hab ?_) ih;exact(List.cons.inj e).2
    · intro a ha b hb e;subst e;simp only[VL,wM,wf,wP]at ha hb;obtain⟨i,hi,u,hu,rfl⟩:=ha;obtain⟨j,hj,w,hw,e⟩:=hb;have:=(List.cons.inj e).1;rfl'
  exact key n
theorem z8W{ns ms:List Nat}(f:List Int->List Int)(hi:∀ s t,z0X ns s->z0X ns t->f s=f t->s=t)(hm:∀ s,z0X ns s->z0X ms (f s)):prod ns<=prod ms:=by
 rw[←z6q ns,←z6q ms];exact z3M f (zb5 ns) (λx hx y hy=>hi x y (z5G.mp hx) (z5G.mp hy)) (λx hx=>z5G.mpr (hm x (z5G.mp hx)))
end Lat

end
section
local macro_rules|`(tactic|rfl')=>`(tactic|first|lia|omega +splitDisjunctions)
namespace Br
structure BI(a b u0 u1 u2 l0 l1 l2:Int):Prop where
 up:a*u1+b*u2=u0
 lo:a*l1+b*l2=l0
 gcd:WY u0 l0=WY a b
 p1:u0.natAbs*l1.natAbs+l0.natAbs*u1.natAbs<=a.natAbs+2*b.natAbs
 p2:u0.natAbs*l2.natAbs+l0.natAbs*u2.natAbs<=a.natAbs+2*b.natAbs
 ph:(u0=a/\u1=1/\u2=0/\l0=b/\l1=0/\l2=1)\/(0<=u0*l0/\u0≠0)
 b1:u1.natAbs<=a.natAbs+2*b.natAbs+1
 b2:u2.natAbs<=a.natAbs+2*b.natAbs+1
 b3:l1.natAbs<=a.natAbs+2*b.natAbs+1
 b4:l2.natAbs<=a.natAbs+2*b.natAbs+1
 c1:u0.natAbs<=a.natAbs+b.natAbs
 c2:l0.natAbs<=b.natAbs
theorem BI.start(a b:Int):BI a b a 1 0 b 0 1 where
 up:=by simp
 lo:=by simp
 gcd:=rfl
 p1:=by simp;rfl'
 p2:=by simp
 ph := .inl ⟨rfl,rfl,rfl,rfl,rfl,rfl⟩
 b1:=by simp
 b2:=by simp
 b3:=by simp
 b4:=by simp
 c1:=by rfl'
 c2:=by rfl'
theorem pot(L A R Qa u1 l1 f1 E:Nat)(hA:Qa*L+R<=A+E)(hf:f1<=u1+Qa*l1):L*f1+R*l1<=A*l1+L*u1+E*l1:=by
 have h1:L*f1<=L*(u1+Qa*l1):=wU L hf;have h2:L*(u1+Qa*l1)=L*u1+Qa*L*l1:=by
  rw[vR,←Wl,WN L Qa]
 have h3:(Qa*L+R)*l1<=(A+E)*l1:=wF l1 hA;rw[VS,VS]at h3;rfl'
theorem zdu(u l:Int)(h:0<l):(u-u.fdiv l*l).natAbs<l.natAbs/\0<=l*(u-u.fdiv l*l)/\(0<=u*l->(u.fdiv l).natAbs*l.natAbs+(u-u.fdiv l*l).natAbs=u.natAbs) /\
  (u.fdiv l).natAbs*l.natAbs<=u.natAbs+(u-u.fdiv l*l).natAbs:=by
 have hs:u.fdiv l*l=u-u.fmod l:=Int.fdiv_mul_self u l;have hq:(u.fdiv l).natAbs*l.natAbs=(u.fdiv l*l).natAbs:=(W0 _ _).symm;have e:u-u.fdiv l*l=u.fmod l:=by rfl'
 rw[e,hq,hs];have h1:0<=u.fmod l:=W6 u h;have h2:u.fmod l<l:=Wg u h;refine⟨by rfl',Vi (by rfl') h1,λhu=>?_,by rfl'⟩;have hu0:0<=u:=by
  by_cases hu':0<=u
  · exact hu'
  · have:=Int.mul_neg_of_neg_of_pos (show u<0 by rfl') h;rfl'
 have:u.fmod l<=u:=by
  have q1:0<=u.fdiv l:=Int.fdiv_nonneg hu0 (by rfl');have q2:0<=u.fdiv l*l:=Vi q1 (by rfl');rfl'
 rfl'
theorem ziK(u l:Int)(hl:l≠0):(u-u.fdiv l*l).natAbs<l.natAbs/\0<=l*(u-u.fdiv l*l)/\(0<=u*l->(u.fdiv l).natAbs*l.natAbs+(u-u.fdiv l*l).natAbs=u.natAbs) /\
   (u.fdiv l).natAbs*l.natAbs<=u.natAbs+(u-u.fdiv l*l).natAbs:=by
 rcases Int.lt_or_gt_of_ne hl with h|h
 · have q:=zdu (-u) (-l) (by rfl');rw[Int.neg_fdiv_neg]at q;have e : -u-u.fdiv l * -l = -(u-u.fdiv l*l):=by rw[Vj];rfl'
   rw[e,vo,vo,vo,VY,VY]at q;exact q
 · exact zdu u l h
theorem z9z{a b c:Nat}(h:a*b<=c)(ha:a≠0):b<=c:=wG (V9 b (Nat.pos_of_ne_zero ha)) h
theorem ziL(u q l:Int):(u-q*l).natAbs<=u.natAbs+q.natAbs*l.natAbs:=by
 have:=W0 q l;rfl'
theorem BI.turn{a b u0 u1 u2 l0 l1 l2:Int}(h:BI a b u0 u1 u2 l0 l1 l2)(hl:l0≠0):
   BI a b l0 l1 l2 (u0-u0.fdiv l0*l0) (u1-u0.fdiv l0*l1) (u2-u0.fdiv l0*l2):=by
 obtain⟨r1,r2,r3,r4⟩:=ziK u0 l0 hl;have hL:l0.natAbs≠0:=λe=>hl (Vr.mp e);have hup:=h.up;have hlo:=h.lo;generalize eq:u0.fdiv l0=q at *;have lin:∀(x y:Int),a*(x-q*l1)+b*(y-q*l2)=(a*x+b*y)-q*(a*l1+b*l2):=λx y=>by
   rw[WM,WM,vw,WO a q l1,WO b q l2];rfl'
 have f1:(u1-q*l1).natAbs<=u1.natAbs+q.natAbs*l1.natAbs:=ziL u1 q l1;have f2:(u2-q*l2).natAbs<=u2.natAbs+q.natAbs*l2.natAbs:=ziL u2 q l2;have key:∀(x y f:Nat),f<=x+q.natAbs*y->u0.natAbs*y+l0.natAbs*x<=a.natAbs+2*b.natAbs->((0<=u0*l0)\/(y=0)\/(y=1/\x=0/\u0=a/\l0=b)) ->
     l0.natAbs*f+(u0-q*l0).natAbs*y<=a.natAbs+2*b.natAbs:=λx y f hf hp hc=>by
   rcases hc with hc|hc|⟨hc,hx,ha,hb⟩
   · have:=pot l0.natAbs u0.natAbs (u0-q*l0).natAbs q.natAbs x y f 0 (by have:=r3 hc;rfl') hf;rfl'
   · subst hc;have:l0.natAbs*f<=l0.natAbs*x:=wU _ (by rfl');rfl'
   · subst hc;subst hx;have:=pot l0.natAbs u0.natAbs (u0-q*l0).natAbs q.natAbs 0 1 f (2*(u0-q*l0).natAbs) (by rfl') hf;have hab:u0.natAbs=a.natAbs:=by rw[ha]
     have hbb:l0.natAbs=b.natAbs:=by rw[hb]
     generalize (u0-q*l0).natAbs=R at *;generalize l0.natAbs*f=Z at *;rfl'
 have ph1:0<=u0*l0\/l1.natAbs=0\/(l1.natAbs=1/\u1.natAbs=0/\u0=a/\l0=b):=by
   rcases h.ph with⟨_,_,_,_,e,_⟩|⟨e,_⟩
   · exact .inr (.inl (by rw[e];rfl))
   · exact .inl e
 have ph2:0<=u0*l0\/l2.natAbs=0\/(l2.natAbs=1/\u2.natAbs=0/\u0=a/\l0=b):=by
   rcases h.ph with⟨e1,_,e2,e3,_,e4⟩|⟨e,_⟩
   · exact .inr (.inr ⟨by rw[e4];rfl,by rw[e2];rfl,e1,e3⟩)
   · exact .inl e
 have k1:=key _ _ _ f1 h.p1 ph1;have k2:=key _ _ _ f2 h.p2 ph2;have c2:=h.c2;refine⟨hlo,?_,?_,k1' k1,k1' k2,.inr ⟨r2,hl⟩,h.b3,h.b4,?_,?_,by rfl',by rfl'⟩
 · rw[lin,hup,hlo]
 · rw[Int.gcd_sub_mul_right_right,Int.gcd_comm,h.gcd]
 · exact vP (z9z (wG (VM _ _) k1) hL)
 · exact vP (z9z (wG (VM _ _) k2) hL)
where k1' {x y:Nat} (h:x<=y):x<=y:=h
theorem BI.fin{a b u0 u1 u2 l1 l2:Int}(h:BI a b u0 u1 u2 0 l1 l2):(u0.natAbs:Int)=WY a b:=by
 have:=h.gcd;rw[Int.gcd_zero_right]at this;rw[this]
end Br

end
section
namespace St
abbrev Row:=List Int
def at0(r:Row)(k:Nat):Int:=r.getD k 0
def z00:Row->Nat
 | []=>0
 | x::r=>if x=0 then z00 r+1 else 0
theorem z7L:∀ r:Row,z00 r<=r.length
 | []=>wx _
 | x::r=>by
  unfold z00;split
  · exact VN (z7L r)
  · exact wQ _
theorem z0f:∀(r:Row) (k:Nat),k<z00 r->at0 r k=0
 | [],k,h=>by simp[z00]at h
 | x::r,k,h=>by
  unfold z00 at h;split at h
  · rename_i hx;cases k with
    | zero=>simp[at0,hx]
    | succ k=>exact z0f r k (by rfl')
  · rfl'
theorem z6X:∀(r:Row),z00 r<r.length->at0 r (z00 r)≠0
 | [],h=>by simp[z00]at h
 | x::r,h=>by
  unfold z00 at h ⊢;split at h
  · rename_i hx;rw[if_pos hx];exact z6X r (by simpa using h)
  · rename_i hx;rw[if_neg hx];exact hx
theorem z1r:∀(r:Row) (h:Nat),(∀ k,k<h->at0 r k=0)->at0 r h≠0->z00 r=h
 | [],h,_,q=>by simp[at0]at q
 | x::r,0,_,q=>by
  unfold z00;rw[if_neg (by simpa[at0]using q)]
 | x::r,h+1,z,q=>by
  have hx:x=0:=by simpa[at0]using z 0 (by rfl')
  unfold z00;rw[if_pos hx,z1r r h (λk hk=>by simpa[at0]using z (k+1) (by rfl')) (by simpa[at0]using q)]
theorem zjW(r:Row)(h:Nat)(z:∀ k,k<h->at0 r k=0)(hl:h<=r.length):h<=z00 r:=by
 apply Ww;intro hlt;exact z6X r (by rfl') (z _ hlt)
theorem z0x{r:Row}{k:Nat}(h:r.length<=k):at0 r k=0:=by simp[at0,List.getD,wN h]
theorem ext0{a b:Row}(h:a.length=b.length)(q:∀ k,at0 a k=at0 b k):a=b:=by
 apply WS h;intro i h1 h2;have:=q i;simpa[at0,List.getD,w8 h1,w8 h2]using this
def sub(a:Row)(q:Int)(b:Row):Row:=List.zipWith (λx y=>x-q*y) a b
theorem z2X{a b:Row}{q:Int}(h:a.length=b.length):(sub a q b).length=a.length:=by unfold sub;rw[WA];rfl'
theorem z4s{a b:Row}{q:Int}(h:a.length=b.length)(k:Nat):at0 (sub a q b) k=at0 a k-q*at0 b k:=by
 by_cases hk:k<a.length
 · unfold at0 sub;simp[List.getD,vp,w8 hk,w8 (show k<b.length by rfl')]
 · rw[z0x (by rw[z2X h];rfl'),z0x (by rfl'),z0x (show b.length<=k by rfl')];simp
def lin(x:Int)(a:Row)(y:Int)(b:Row):Row:=List.zipWith (λp q=>x*p+y*q) a b
theorem z8X{a b:Row}{x y:Int}(h:a.length=b.length):(lin x a y b).length=a.length:=by unfold lin;rw[WA];rfl'
theorem z8Y{a b:Row}{x y:Int}(h:a.length=b.length)(k:Nat):at0 (lin x a y b) k=x*at0 a k+y*at0 b k:=by
 by_cases hk:k<a.length
 · unfold at0 lin;simp[List.getD,vp,w8 hk,w8 (show k<b.length by rfl')]
 · rw[z0x (by rw[z8X h];rfl'),z0x (by rfl'),z0x (show b.length<=k by rfl')];simp
def hd(r:Row):Int:=at0 r (z00 r)
def z0H(left rung:Row):Int:=(at0 left (z00 rung)).fdiv (hd rung)
def z0g:Row->List Row->Row
 | left,[]=>left
 | left,r::rs=>z0g (sub left (z0H left r) r) rs
def z9A:Row->List Row->List Int
 | _,[]=>[]
 | left,r::rs=>z0H left r::z9A (sub left (z0H left r) r) rs
def Asc(n:Nat):Nat->List Row->Prop
 | _,[]=>True
 | f,r::rs=>r.length=n/\f<=z00 r/\z00 r<n/\0<hd r/\Asc n (z00 r+1) rs
theorem Asc.weak{n:Nat}:∀{f g:Nat} {S:List Row},Asc n f S->g<=f->Asc n g S
 | _,_,[],_,_=>trivial
 | _,_,r::rs,⟨h1,h2,h3,h4,h5⟩,h=>⟨h1,wG h h2,h3,h4,h5⟩
theorem Asc.mem{n:Nat}:∀{f:Nat} {S:List Row} {r:Row},Asc n f S->r∈S->r.length=n/\f<=z00 r/\z00 r<n/\0<hd r
 | _,_::_,_,⟨h1,h2,h3,h4,h5⟩,.head _=>⟨h1,h2,h3,h4⟩
 | _,_::_,_,⟨h1,h2,h3,h4,h5⟩,.tail _ q=>by obtain⟨a,b,c,d⟩:=h5.mem q;exact⟨a,by rfl',c,d⟩
theorem z6r{n:Nat}:∀{f:Nat} {S:List Row} {left:Row},Asc n f S->left.length=n->(z0g left S).length=n
 | _,[],left,_,h=>h
 | _,r::rs,left,⟨h1,h2,h3,h4,h5⟩,h=>by rw[z0g];exact z6r h5 (by rw[z2X (by rfl')];exact h)
theorem z4t{n:Nat}:∀{f:Nat} {S:List Row} {left:Row},Asc n f S->left.length=n->∀ k,k<f->at0 (z0g left S) k=at0 left k
 | _,[],left,_,h,k,_=>rfl
 | f,r::rs,left,⟨h1,h2,h3,h4,h5⟩,h,k,hk=>by
  rw[z0g,z4t h5 (by rw[z2X (by rfl')];exact h) k (by rfl'),z4s (by rfl'),z0f r k (by rfl')];simp
theorem z7M(a:Int){b:Int}(h:0<b):0<=a-a.fdiv b*b/\a-a.fdiv b*b<b:=by
 have h1:=W6 a h;have h2:=Wg a h;have h3:=vq a b;rw[wL]at h3;rfl'
theorem z3C{n:Nat}:∀{f:Nat} {S:List Row} {left:Row},Asc n f S->left.length=n->∀ r∈S,0<=at0 (z0g left S) (z00 r)/\at0 (z0g left S) (z00 r)<hd r
 | f,r::rs,left,⟨h1,h2,h3,h4,h5⟩,h,x,hx=>by
  have hl:(sub left (z0H left r) r).length=n:=by rw[z2X (by rfl')];exact h
  rw[z0g];cases hx with
  | head =>
   rw[z4t h5 hl _ (Wb _),z4s (by rfl')];exact z7M _ h4
  | tail _ hx=>exact z3C h5 hl x hx
def Lt(m:Nat)(r:Row):Prop:=∀ k,(at0 r k).natAbs<m
theorem Lt.mono{m m':Nat}{r:Row}(h:Lt m r)(q:m<=m'):Lt m' r:=λk=>wD (h k) q
theorem z3Y(a:Int){b:Int}(h:0<b):(a.fdiv b).natAbs<=a.natAbs:=by
 have h1:=z7M a h;generalize a.fdiv b=q at *;rcases vQ q 0 with hq|hq|hq
 · have e:(q+1)*b=q*b+b:=by rw[Vh];rfl'
   have:(q+1)*b<=(q+1)*1:=Int.mul_le_mul_of_nonpos_left (by rfl') (by rfl');rfl'
 · subst hq;simp
 · have:q*1<=q*b:=Int.mul_le_mul_of_nonneg_left (by rfl') (by rfl');rfl'
theorem sub_lt{a b:Row}{q:Int}{s t u:Nat}(hl:a.length=b.length)(ha:Lt s a)(hb:Lt t b)(hq:q.natAbs<=u)(hs:0<s)(ht:0<t):Lt (s+u*t) (sub a q b):=λk=>by
 rw[z4s hl];have h1:=ha k;have h2:=hb k;have h3:(q*at0 b k).natAbs<=u*(t-1):=by rw[W0];exact Ws hq (by rfl')
 have h4:u*(t-1)<=u*t:=wU _ (by rfl');rfl'
theorem zlc{left r:Row}{s t:Nat}(hl:left.length=r.length)(hr:0<hd r)(ha:Lt s left)(hb:Lt t r):Lt (s*(t+1)) (sub left (z0H left r) r):=by
 have hs:0<s:=vJ (wQ _) (ha 0);have ht:0<t:=vJ (wQ _) (hb 0);have:=sub_lt (q:=z0H left r) (u:=s) hl ha hb (wG (z3Y (at0 left (z00 r)) hr) (Wx (ha (z00 r)))) hs ht;rw[vR,Vk,Nat.add_comm];exact this
end St

end
section
local macro_rules|`(tactic|rfl')=>`(tactic|first|lia|omega +splitDisjunctions)
namespace St
open Lat
abbrev vec(r:Row):Vec:=λk=>at0 r k
abbrev vecs(S:List Row):List Vec:=S.map vec
theorem z54{S:List Row}{r:Row}(h:r∈S):vec r∈vecs S:=wf.mpr ⟨r,h,rfl⟩
theorem z2G{n:Nat}:∀{f:Nat} {S:List Row} {left:Row},Asc n f S->left.length=n->Span (vecs S) (λk=>at0 left k-at0 (z0g left S) k)
 | _,[],left,_,h=>λk=>by show at0 left k-at0 left k=0;rfl'
 | f,r::rs,left,⟨h1,h2,h3,h4,h5⟩,h=>by
  have hl:(sub left (z0H left r) r).length=n:=by rw[z2X (by rfl')];exact h
  have ih:=z2G h5 hl;refine⟨z0H left r,Span.congr (λk=>?_) ih⟩;rw[z0g];show at0 (sub left (z0H left r) r) k-at0 (z0g (sub left (z0H left r) r) rs) k=at0 left k-at0 (z0g (sub left (z0H left r) r) rs) k-z0H left r*at0 r k;rw[z4s (by rfl')];rfl'
def mix:List Row->List Int->Vec
 | r::rs,c::cs=>λk=>c*at0 r k+mix rs cs k
 | _,_=>λ_=>0
theorem Asc.low{n:Nat}:∀{f:Nat} {S:List Row} {v:Vec},Asc n f S->Span (vecs S) v->∀ k,k<f->v k=0
 | _,[],v,_,s,k,_=>s k
 | f,r::S,v,⟨h1,h2,h3,h4,h5⟩,⟨c,s⟩,k,hk=>by
  have e:=Asc.low h5 s k (by rfl');have e2:at0 r k=0:=z0f r k (by rfl');have e:v k-c*at0 r k=0:=e;rw[e2]at e;simpa using e
theorem Asc.coef{n f:Nat}{r:Row}{v:Vec}{S:List Row}{c:Int}(A:Asc n f (r::S))(s:Span (vecs S) (λk=>v k-c*at0 r k)):v (z00 r)=c*hd r:=by
 have:v (z00 r)-c*at0 r (z00 r)=0:=A.2.2.2.2.low s _ (Wb _);unfold hd;rfl'
theorem Asc.first{n:Nat}:∀{f:Nat} {S:List Row} {v:Vec} {h:Nat},Asc n f S->Span (vecs S) v->(∀ k,k<h->v k=0)->v h≠0->∃ r∈S,z00 r=h
 | _,[],v,h,_,s,_,q=>absurd (s h) q
 | f,r::S,v,h,A,⟨c,s⟩,z,q=>by
  have e:=A.coef s;by_cases hc:c=0
  · subst hc;have s':Span (vecs S) v:=Span.congr (λk=>by simp) s;obtain⟨x,hx,e⟩:=A.2.2.2.2.first s' z q;exact⟨x,wa _ hx,e⟩
  · have hn:v (z00 r)≠0:=by
      rw[e];intro z;rcases W5.mp z with z|z
      · exact hc z
      · have:=A.2.2.2.1;rfl'
    have h1:¬z00 r<h:=λz'=>hn (z _ z');by_cases h2:h<z00 r
    · exfalso;have e2:v h-c*at0 r h=0:=A.2.2.2.2.low s h (by rfl');rw[z0f r h h2]at e2;exact q (by simpa using e2)
    · exact⟨r,wc,by rfl'⟩
def even:List Row->List Row
 | []=>[]
 | r::rs=>z0g r (even rs)::even rs
theorem z36{n:Nat}:∀{f:Nat} {S:List Row},Asc n f S->Asc n f (even S)/\(even S).map z00=S.map z00/\(even S).map hd=S.map hd
 | _,[],_=>⟨trivial,rfl,rfl⟩
 | f,r::rs,⟨h1,h2,h3,h4,h5⟩=>by
  obtain⟨i1,i2,i3⟩:=z36 h5;have low:=z4t i1 h1;have e1:at0 (z0g r (even rs)) (z00 r)=hd r:=low _ (Wb _);have e2:z00 (z0g r (even rs))=z00 r:=z1r _ _ (λk hk=>by rw[low k (by rfl')];exact z0f r k hk) (by rw[e1];rfl');have e3:hd (z0g r (even rs))=hd r:=by unfold hd;rw[e2];exact e1
  refine⟨⟨z6r i1 h1,by rw[e2];exact h2,by rw[e2];exact h3,by rw[e3];exact h4,by rw[e2];exact i1⟩,?_,?_⟩
  · rw[even,wv,wv,e2,i2]
  · rw[even,wv,wv,e3,i3]
def z0s(S:List Row):List (Nat×Vec):=S.map λr=>(z00 r,vec r)
theorem zb6{n:Nat}:∀{f:Nat} {S:List Row},Asc n f S->Form f (z0s (even S))
 | _,[],_=>trivial
 | f,r::rs,A=>by
  obtain⟨j1,_,_⟩:=z36 A;obtain⟨h1,h2,h3,h4,h5⟩:=A;obtain⟨i1,i2,i3⟩:=z36 h5;obtain⟨k1,k2,k3,k4,k5⟩:=j1;have low:=z4t i1 h1;have e1:at0 (z0g r (even rs)) (z00 r)=hd r:=low _ (Wb _);have e2:z00 (z0g r (even rs))=z00 r:=z1r _ _ (λk hk=>by rw[low k (by rfl')];exact z0f r k hk) (by rw[e1];rfl');refine⟨k2,λk hk=>z0f _ k hk,k4,λp hp=>?_,by rw[e2];exact zb6 h5⟩;obtain⟨x,hx,rfl⟩:=wf.mp hp;exact z3C i1 h1 x hx
theorem zb7{n:Nat}:∀{f:Nat} {S:List Row},Asc n f S->SameSpan (vecs (even S)) (vecs S)
 | _,[],_=>SameSpan.refl
 | f,r::rs,A=>by
  obtain⟨h1,h2,h3,h4,h5⟩:=A;obtain⟨i1,i2,i3⟩:=z36 h5;have ih:=zb7 h5;have sp:=z2G i1 h1;constructor
  · intro v hv;obtain⟨x,hx,rfl⟩:=wf.mp hv;rcases wn.mp hx with rfl|hx
    · refine⟨1,Span.congr (λk=>?_) ((ih.iff.mp sp).neg)⟩;show -(at0 r k-at0 (z0g r (even rs)) k)=at0 (z0g r (even rs)) k-1*at0 r k;rfl'
    · exact(ih.1 _ (z54 hx)).cons
  · intro v hv;obtain⟨x,hx,rfl⟩:=wf.mp hv;rcases wn.mp hx with rfl|hx
    · refine⟨1,Span.congr (λk=>?_) sp⟩;show at0 x k-at0 (z0g x (even rs)) k=at0 x k-1*at0 (z0g x (even rs)) k;rfl'
    · exact(ih.2 _ (z54 hx)).cons
end St

end
section
local macro_rules|`(tactic|rfl')=>`(tactic|first|lia|omega +splitDisjunctions)
namespace St
open Lat
theorem Asc.iff{n:Nat}:∀{f:Nat} {S:List Row},Asc n f S↔(∀ r∈S,r.length=n/\f<=z00 r/\z00 r<n/\0<hd r)/\(S.map z00).Pairwise (·<·)
 | f,[]=>by simp[Asc]
 | f,r::rs=>by
  constructor
  · intro A;refine⟨λx hx=>A.mem hx,?_⟩;rw[wv,wZ];refine⟨λh hh=>?_,(Asc.iff.mp A.2.2.2.2).2⟩;obtain⟨x,hx,rfl⟩:=wf.mp hh;exact(A.2.2.2.2.mem hx).2.1
  · rintro⟨h1,h2⟩;rw[wv,wZ]at h2;have q:=h1 r wc;refine⟨q.1,q.2.1,q.2.2.1,q.2.2.2,Asc.iff.mpr ⟨λx hx=>?_,h2.2⟩⟩;have q2:=h1 x (wa _ hx);exact⟨q2.1,h2.1 _ (wf.mpr ⟨x,hx,rfl⟩),q2.2.2.1,q2.2.2.2⟩
theorem sub_zero{a b:Row}(h:a.length=b.length):sub a 0 b=a:=ext0 (z2X h) λk=>by rw[z4s h];simp
theorem z8u{n:Nat}{t:Nat}:∀{S:List Row} {left:Row},(∀ r∈S,r.length=n)->left.length=n->(∀ k,k<t->at0 left k=0)->(∀ k,k<t->at0 (z0g left S) k=0)/\(z0g left S).length=n
 | [],left,_,hl,z=>⟨z,hl⟩
 | r::rs,left,hw,hl,z=>by
  have h1:=hw r wc;rw[z0g];refine z8u (λx hx=>hw x (wa _ hx)) (by rw[z2X (by rfl')];exact hl) λk hk=>?_;rw[z4s (by rfl'),z k hk];by_cases hh:z00 r<t
  · have:z0H left r=0:=by unfold z0H;rw[z _ hh];simp
    rw[this];simp
  · rw[z0f r k (by rfl')];simp
def LowB(m:Nat):Row->List Row->Prop
 | _,[]=>True
 | left,r::rs=>(z0H left r=0\/((z0H left r).natAbs<2 ^ m/\Lt (2 ^ m) r))/\LowB m (sub left (z0H left r) r) rs
theorem z2H{n t s e m:Nat}:∀{S:List Row} {left:Row},(∀ r∈S,r.length=n/\0<hd r)->left.length=n->(∀ k,k<t->at0 left k=0)->(∀ r∈S,t<=z00 r->Lt (2 ^ e) r)->Lt (2 ^ s) left->s+S.length*(e+1)<=m->e<=m ->
  Lt (2 ^ (s+S.length*(e+1))) (z0g left S)/\LowB m left S
 | [],left,_,hl,z,_,hs,_,_=>⟨by simpa[z0g]using hs,trivial⟩
 | r::rs,left,hw,hl,z,hb,hs,hm,hem=>by
  have h1:=hw r wc;have lenE:(r::rs).length*(e+1)=rs.length*(e+1)+(e+1):=by rw[wj,vn]
  have e2:∀ q,(sub left q r).length=n:=λq=>by rw[z2X (by rfl')];exact hl
  by_cases hh:z00 r<t
  · have o:z0H left r=0:=by unfold z0H;rw[z _ hh];simp
    have es:sub left (z0H left r) r=left:=by rw[o];exact sub_zero (by rfl')
    obtain⟨i1,i2⟩:=z2H (t:=t) (s:=s) (e:=e) (m:=m) (S:=rs) (left:=left) (λx hx=>hw x (wa _ hx)) hl z (λx hx=>hb x (wa _ hx)) hs (by rfl') hem;rw[z0g,LowB,es];exact⟨i1.mono (wm (by decide) (by rfl')),.inl o,i2⟩
  · have hr:Lt (2 ^ e) r:=hb r wc (by rfl');have st:=zlc (s:=2 ^ s) (t:=2 ^ e) (by rfl') h1.2 hs hr;have st':Lt (2 ^ (s+(e+1))) (sub left (z0H left r) r):=by
     refine st.mono ?_;rw[Wa];refine wU _ ?_;have:0<2 ^ e:=wJ e;rw[WG];rfl'
    obtain⟨i1,i2⟩:=z2H (t:=t) (s:=s+(e+1)) (e:=e) (m:=m) (S:=rs) (left:=sub left (z0H left r) r) (λx hx=>hw x (wa _ hx)) (e2 _)
     (λk hk=>by rw[z4s (by rfl'),z k hk,z0f r k (by rfl')];simp) (λx hx=>hb x (wa _ hx)) st' (by rfl') hem
    rw[z0g,LowB];refine⟨i1.mono (wm (by decide) (by rfl')),.inr ⟨?_,hr.mono (wm (by decide) hem)⟩,i2⟩;refine vJ (z3Y (at0 left (z00 r)) h1.2) (wD (hs _) (wm (by decide) (by rfl')))
def z0C(r left:Row)(x y:Int):Row:=lin x r y left
def z1c(r left:Row)(g:Int):Row:=lin ((at0 r (z00 r)).fdiv g) left (-((at0 left (z00 r)).fdiv g)) r
structure Wi(n e eh m0 kk:Nat)(S0:List Row)(v:Row)(S:List Row)(left:Row):Prop where
 asc:Asc n 0 S
 len:left.length=n
 heads:S.map z00=S0.map z00
 span:SameSpan (vecs (left::S)) (vecs (v::S0))
 low:∀ r∈S,0<=at0 left (z00 r)/\at0 left (z00 r)<hd r
 right:∀ r∈S,z00 left<=z00 r->Lt (2 ^ e) r
 hds:∀ r∈S,hd r<2 ^ eh
 size:Lt (2 ^ (m0+z00 left*kk)) left
 all:∀ r∈S,Lt (2 ^ (e+3+(m0+z00 left*kk))) r
theorem zld{a b:Row}{x y:Int}{p q s:Nat}(h:a.length=b.length)(hx:x.natAbs<2 ^ p)(hy:y.natAbs<2 ^ p)(ha:Lt (2 ^ q) a)(hb:Lt (2 ^ q) b)(hs:p+q+1<=s):Lt (2 ^ s) (lin x a y b):=λk=>by
 rw[z8Y h];have h1:(x*at0 a k).natAbs<2 ^ (p+q):=by
  rw[W0,Wa];exact v5 hx (ha k)
 have h2:(y*at0 b k).natAbs<2 ^ (p+q):=by
  rw[W0,Wa];exact v5 hy (hb k)
 have h3:2 ^ (p+q+1)<=2 ^ s:=wm (by decide) hs;rw[WG]at h3;omega +splitDisjunctions
theorem z0c{S:List Row}{r:Row}(h:r∈S):Span (vecs S) (λk=>at0 r k):=Span.mem (z54 h)
theorem z6Y{T:List Vec}{u v:Vec}(x y:Int)(hu:Span T u)(hv:Span T v):Span T (λk=>x*u k+y*v k):=(hu.smul x).add (hv.smul y)
theorem z4u{A B:List Row}(h1:∀ r∈A,Span (vecs B) (λk=>at0 r k))(h2:∀ r∈B,Span (vecs A) (λk=>at0 r k)):SameSpan (vecs A) (vecs B):=by
 constructor
 · intro v hv;obtain⟨r,hr,rfl⟩:=wf.mp hv;exact h1 r hr
 · intro v hv;obtain⟨r,hr,rfl⟩:=wf.mp hv;exact h2 r hr
theorem Wi.step{n e eh m0 kk:Nat}{S0:List Row}{v:Row}{S1 S2:List Row}{r left:Row}{g x y:Int}(I:Wi n e eh m0 kk S0 v (S1++r::S2) left)(hh:z00 r=z00 left)(hn:z00 left<n)
   (hg:0<g) (ga:g∣hd r) (gb:g∣at0 left (z00 r)) (hxy:hd r*x+at0 left (z00 r)*y=g) (hx:x.natAbs<2 ^ (e+2)) (hy:y.natAbs<2 ^ (e+2)) (he:e<=m0)
   (hk:2*e+3+(S1.length+S2.length+1)*(e+1)<=kk) :
   Wi n e eh m0 kk S0 v (S1++z0C r left x y::S2) (z0g (z1c r left g) (S1++z0C r left x y::S2))/\z00 left<z00 (z0g (z1c r left g) (S1++z0C r left x y::S2)) /\
     LowB (m0+n*kk) (z1c r left g) (S1++z0C r left x y::S2)/\(∀ q∈S1++z0C r left x y::S2,hd q<2 ^ eh):=by
 have hrm:r∈S1++r::S2:=wq.mpr (.inr wc);have q:=I.asc.mem hrm;have hl:r.length=left.length:=by rw[q.1,I.len]
 have hlow:=I.low r hrm;have hu:∀ k,at0 (z0C r left x y) k=x*at0 r k+y*at0 left k:=λk=>z8Y hl k;have hlo:∀ k,at0 (z1c r left g) k=((at0 r (z00 r)).fdiv g)*at0 left k+(-((at0 left (z00 r)).fdiv g))*at0 r k:=λk=>z8Y hl.symm k;have lu:(z0C r left x y).length=n:=by unfold z0C;rw[z8X hl];exact q.1
 have llo:(z1c r left g).length=n:=by unfold z1c;rw[z8X hl.symm];exact I.len
 obtain⟨a',ea⟩:=ga;obtain⟨b',eb⟩:=gb;have da:(hd r).fdiv g=a':=by rw[ea];exact vY _ (by rfl')
 have db:(at0 left (z00 r)).fdiv g=b':=by rw[eb];exact vY _ (by rfl')
 have hlo:∀ k,at0 (z1c r left g) k=a'*at0 left k+(-b')*at0 r k:=λk=>by
   have:=hlo k;rw[db,show at0 r (z00 r)=hd r from rfl,da]at this;exact this
 have det:a'*x+b'*y=1:=by
   have:g*(a'*x+b'*y)=g*1:=by rw[vw,←Wd,←Wd,←ea,←eb];rfl'
   exact vM (by rfl') this
 have zb:∀ k,k<z00 left->at0 r k=0/\at0 left k=0:=λk hk=>⟨z0f r k (by rfl'),z0f left k hk⟩;have us:at0 (z0C r left x y) (z00 r)=g:=by rw[hu,←hxy];show x*hd r+y*_=_;rw[wL x,wL y]
 have uh:z00 (z0C r left x y)=z00 r:=z1r _ _ (λk hk=>by rw[hu,(zb k (by rfl')).1,(zb k (by rfl')).2];simp) (by rw[us];rfl');have uhd:hd (z0C r left x y)=g:=by unfold hd;rw[uh];exact us
 have gle:g<=hd r:=Wy q.2.2.2 ⟨a',ea⟩;have lz:∀ k,k<z00 left+1->at0 (z1c r left g) k=0:=λk hk=>by
   rw[hlo];by_cases h:k<z00 left
   · rw[(zb k h).1,(zb k h).2];simp
   · have:k=z00 r:=by rfl'
     subst this;rw[eb,show at0 r (z00 r)=hd r from rfl,ea,WO a' g b',vS,WO b' g a',wL a' b'];rfl'
 have asc':Asc n 0 (S1++z0C r left x y::S2):=by
   have A:=Asc.iff.mp I.asc;refine Asc.iff.mpr ⟨λz hz=>?_,?_⟩
   · rcases wq.mp hz with h|h
     · exact A.1 z (wq.mpr (.inl h))
     · rcases wn.mp h with rfl|h
       · exact⟨lu,wQ _,by rw[uh];exact q.2.2.1,by rw[uhd];exact hg⟩
       · exact A.1 z (wq.mpr (.inr (wa _ h)))
   · have e1:(S1++z0C r left x y::S2).map z00=(S1++r::S2).map z00:=by simp[uh]
     rw[e1];exact A.2
 have hw':∀ z∈S1++z0C r left x y::S2,z.length=n:=λz hz=>(asc'.mem hz).1;obtain⟨nz,nl⟩:=z8u (t:=z00 left+1) hw' llo lz;have hhead:z00 left+1<=z00 (z0g (z1c r left g) (S1++z0C r left x y::S2)):=zjW _ _ nz (by rw[nl];rfl');have mm:∀ z∈S1++z0C r left x y::S2,z=z0C r left x y\/z∈S1++r::S2:=λz hz=>by
   rcases wq.mp hz with h|h
   · exact .inr (wq.mpr (.inl h))
   · rcases wn.mp h with rfl|h
     · exact .inl rfl
     · exact .inr (wq.mpr (.inr (wa _ h)))
 have right':∀ z∈S1++z0C r left x y::S2,z00 left+1<=z00 z->Lt (2 ^ e) z:=λz hz hk=>by
   rcases mm z hz with rfl|h
   · rw[uh]at hk;rfl'
   · exact I.right z h (by rfl')
 have rlt:Lt (2 ^ e) r:=I.right r hrm (by rfl');have hds':∀ z∈S1++z0C r left x y::S2,hd z<2 ^ eh:=λz hz=>by
   rcases mm z hz with rfl|h
   · rw[uhd];have:=I.hds r hrm;rfl'
   · exact I.hds z h
 have aS:(a').natAbs<2 ^ e:=by
   have h1:(hd r).natAbs<2 ^ e:=rlt (z00 r);rw[ea,W0]at h1;have:1*a'.natAbs<=g.natAbs*a'.natAbs:=wF _ (by rfl');rfl'
 have bS:(-b').natAbs<2 ^ e:=by
   have h1:(hd r).natAbs<2 ^ e:=rlt (z00 r);have h2:(at0 left (z00 r)).natAbs<2 ^ e:=by rfl'
   rw[eb,W0]at h2;have:1*b'.natAbs<=g.natAbs*b'.natAbs:=wF _ (by rfl');rfl'
 have m1:e<=m0+z00 left*kk:=by rfl'
 have sl:Lt (2 ^ (e+(m0+z00 left*kk)+1)) (z1c r left g):=by
   unfold z1c;rw[show at0 r (z00 r)=hd r from rfl,da,db];exact zld hl.symm aS bS I.size (rlt.mono (wm (by decide) m1)) (wx _)
 have hk1:(z00 left+1)*kk=z00 left*kk+kk:=by rw[vn]
 have hkn:(z00 left+1)*kk<=n*kk:=wF _ (by rfl');have hkh:(z00 left+1)*kk<=z00 (z0g (z1c r left g) (S1++z0C r left x y::S2))*kk:=wF _ hhead;have lenS:(S1++z0C r left x y::S2).length=S1.length+S2.length+1:=by simp;rfl'
 obtain⟨z1,z2⟩:=z2H (n:=n) (t:=z00 left+1) (s:=e+(m0+z00 left*kk)+1) (e:=e) (m:=m0+n*kk) (S:=S1++z0C r left x y::S2) (left:=z1c r left g)
   (λz hz=>⟨hw' z hz,(asc'.mem hz).2.2.2⟩) llo lz right' sl (by rw[lenS];rfl') (by rfl')
 have low':=z3C asc' llo;refine⟨⟨asc',nl,?_,?_,low',λz hz hk=>right' z hz (by rfl'),hds',z1.mono (wm (by decide) (by rw[lenS];rfl')),λz hz=>?_⟩,hhead,z2,hds'⟩
 · rw[←I.heads];simp[uh]
 · refine SameSpan.trans (z4u (B:=left::(S1++r::S2)) ?_ ?_) I.span
   ·
     have oldr:Span (vecs (left::(S1++r::S2))) (λk=>at0 r k):=z0c (wa _ hrm);have oldl:Span (vecs (left::(S1++r::S2))) (λk=>at0 left k):=z0c wc;have nu:Span (vecs (left::(S1++r::S2))) (λk=>at0 (z0C r left x y) k):=Span.congr (λk=>(hu k).symm) (z6Y x y oldr oldl);have nlo:Span (vecs (left::(S1++r::S2))) (λk=>at0 (z1c r left g) k):=Span.congr (λk=>(hlo k).symm) (z6Y a' (-b') oldl oldr);have all:∀ z∈S1++z0C r left x y::S2,Span (vecs (left::(S1++r::S2))) (λk=>at0 z k):=λz hz=>by
       rcases mm z hz with rfl|h
       · exact nu
       · exact z0c (wa _ h)
     intro z hz;rcases wn.mp hz with rfl|hz
     · have d:=z2G asc' llo;have d':Span (vecs (left::(S1++r::S2))) (λk=>at0 (z1c r left g) k-at0 (z0g (z1c r left g) (S1++z0C r left x y::S2)) k) :=
         d.trans λw hw=>by obtain⟨z,hz,rfl⟩:=wf.mp hw;exact all z hz
       exact Span.congr (λk=>by rfl') (nlo.sub d')
     · exact all z hz
   · have um:z0C r left x y∈S1++z0C r left x y::S2:=wq.mpr (.inr wc);have nu:Span (vecs (z0g (z1c r left g) (S1++z0C r left x y::S2)::(S1++z0C r left x y::S2))) (λk=>at0 (z0C r left x y) k):=z0c (wa _ um);have nlo:Span (vecs (z0g (z1c r left g) (S1++z0C r left x y::S2)::(S1++z0C r left x y::S2))) (λk=>at0 (z1c r left g) k):=by
       have d:=z2G asc' llo;have t:Span (vecs (z0g (z1c r left g) (S1++z0C r left x y::S2)::(S1++z0C r left x y::S2))) (λk=>at0 (z0g (z1c r left g) (S1++z0C r left x y::S2)) k):=z0c wc;exact Span.congr (λk=>by rfl') (t.add d.cons)
     have nr:∀ k,at0 r k=a'*at0 (z0C r left x y) k+(-y)*at0 (z1c r left g) k:=λk=>by
       rw[hu,hlo];have:at0 r k=(a'*x+b'*y)*at0 r k:=by rw[det];rfl'
       rw[this]
       grind
     have nle:∀ k,at0 left k=b'*at0 (z0C r left x y) k+x*at0 (z1c r left g) k:=λk=>by
       rw[hu,hlo];have:at0 left k=(a'*x+b'*y)*at0 left k:=by rw[det];rfl'
       rw[this]
       grind
     intro z hz;rcases wn.mp hz with rfl|hz
     · exact Span.congr (λk=>(nle k).symm) (z6Y _ _ nu nlo)
     · rcases wq.mp hz with h|h
       · exact z0c (wa _ (wq.mpr (.inl h)))
       · rcases wn.mp h with rfl|h
         · exact Span.congr (λk=>(nr k).symm) (z6Y _ _ nu nlo)
         · exact z0c (wa _ (wq.mpr (.inr (wa _ h))))
 · rcases mm z hz with rfl|h
   · exact zld (q:=m0+z00 left*kk) hl hx hy (rlt.mono (wm (by decide) m1)) I.size (by rfl')
   · exact(I.all z h).mono (wm (by decide) (by rfl'))
end St

end
section
namespace St
open Lat
def Ind(R:List Row):Prop:=∀ cs:List Int,cs.length=R.length->(∀ k,mix R cs k=0)->∀ c∈cs,c=0
theorem z6Z{T:List Vec}:∀{R:List Row} {cs:List Int},(∀ r∈R,Span T (λk=>at0 r k))->Span T (mix R cs)
 | [],cs,_=>by unfold mix;exact Span.zero
 | r::R,[],_=>by unfold mix;exact Span.zero
 | r::R,c::cs,h=>by
  unfold mix;exact((h r wc).smul c).add (z6Z λx hx=>h x (wa _ hx))
def dif(a b:List Int):List Int:=List.zipWith (λx y=>x-y) a b
theorem ziM{a b:List Int}(h:a.length=b.length):(dif a b).length=a.length:=by unfold dif;rw[WA];rfl'
theorem ziN:∀{R:List Row} {a b:List Int},a.length=b.length->∀ k,mix R (dif a b) k=mix R a k-mix R b k
 | [],a,b,h,k=>by simp[mix]
 | r::R,[],[],h,k=>by simp[mix,dif]
 | r::R,x::a,y::b,h,k=>by
  have ih:=ziN (R:=R) (a:=a) (b:=b) (by simpa using h) k;show(x-y)*at0 r k+mix R (dif a b) k=(x*at0 r k+mix R a k)-(y*at0 r k+mix R b k);rw[ih,vg];rfl'
theorem zdv:∀{a b:List Int},a.length=b.length->(∀ c∈dif a b,c=0)->a=b
 | [],[],_,_=>rfl
 | x::a,y::b,h,z=>by
  have h1:x-y=0:=z _ (wc);rw[zdv (a:=a) (b:=b) (by simpa using h) λc hc=>z c (wa _ hc),show x=y by rfl']
theorem zb8{N:Nat}:∀{a b:List Int},(∀ c∈a,0<=c/\c<=N)->(∀ c∈b,0<=c/\c<=N)->∀ c∈dif a b,c.natAbs<=N
 | [],_,_,_,c,hc=>by simp[dif]at hc
 | x::a,[],_,_,c,hc=>by simp[dif]at hc
 | x::a,y::b,ha,hb,c,hc=>by
  have hc:c∈(x-y)::dif a b:=hc;rcases wn.mp hc with rfl|hc
  · have:=ha x wc;have:=hb y wc;rfl'
  · exact zb8 (λc h=>ha c (wa _ h)) (λc h=>hb c (wa _ h)) c hc
theorem z8Z{N B:Nat}:∀{R:List Row} {cs:List Int},(∀ r∈R,Lt B r)->(∀ c∈cs,c.natAbs<=N)->∀ k,(mix R cs k).natAbs<=R.length*(N*B)
 | [],cs,_,_,k=>by simp[mix]
 | r::R,[],_,_,k=>by simp[mix]
 | r::R,c::cs,hr,hc,k=>by
  have ih:=z8Z (R:=R) (cs:=cs) (λx hx=>hr x (wa _ hx)) (λx hx=>hc x (wa _ hx)) k;show(c*at0 r k+mix R cs k).natAbs<=_;have h1:(c*at0 r k).natAbs<=N*B:=by
   rw[W0];exact Ws (hc c wc) (Wx (hr r wc k))
  rw[wj,vn];rfl'
theorem z7N{N:Nat}:∀{r:Nat} {t:List Int},z0X (List.replicate r (N+1)) t↔t.length=r/\∀ c∈t,0<=c/\c<=N
 | 0,[]=>by simp[z0X]
 | 0,x::t=>by simp[z0X]
 | r+1,[]=>by simp[z0X,List.replicate]
 | r+1,x::t=>by
  rw[Vq,z0X,z7N,wj];constructor
  · rintro⟨h1,h2,h3,h4⟩;refine⟨by rfl',λc hc=>?_⟩;rcases wn.mp hc with rfl|hc
    · rfl'
    · exact h4 c hc
  · rintro⟨h1,h2⟩;have:=h2 x wc;exact⟨by rfl',by rfl',by rfl',λc hc=>h2 c (wa _ hc)⟩
theorem z9B(N:Nat):∀ r,prod (List.replicate r N)=N ^ r
 | 0=>rfl
 | r+1=>by rw[Vq,prod,z9B,WG,WN]
theorem siegel{R:List Row}{B:Nat}(hR:Ind R)(hb:∀ r∈R,Lt B r)(hp:0<B)(hs:List Nat)(hl:hs.length+1=R.length):
   ∃ cs:List Int,cs.length=R.length/\(∀ h∈hs,mix R cs h=0)/\(∃ k,mix R cs k≠0)/\∀ k,(mix R cs k).natAbs<=(2*R.length*B) ^ R.length:=by
 let r:=R.length;let N:=(2*R.length*B) ^ hs.length;let W:=R.length*(N*B);let f:List Int->List Int:=λcs=>hs.map λh=>mix R cs h+(W:Int);have main:∃ a b:List Int,z0X (List.replicate r (N+1)) a/\z0X (List.replicate r (N+1)) b/\f a=f b/\a≠b:=by
   apply W1;intro no;have inj:∀ s t,z0X (List.replicate r (N+1)) s->z0X (List.replicate r (N+1)) t->f s=f t->s=t:=λs t h1 h2 h3=>W1 λhne=>no ⟨s,t,h1,h2,h3,hne⟩;have h1:=z8W (ns:=List.replicate r (N+1)) (ms:=List.replicate hs.length (2*W+1)) f inj λs hsr=>by
    rw[z7N]at hsr ⊢;refine⟨by simp[f],λc hc=>?_⟩;obtain⟨h,_,rfl⟩:=wf.mp hc;have:=z8Z (N:=N) hb (cs:=s) (λc hc=>by have:=hsr.2 c hc;rfl') h;have:(mix R s h).natAbs<=W:=this;rfl'
   rw[z9B,z9B]at h1;have hr1:1<=R.length:=by rfl'
   have h2:2*W+1<=(2*R.length*B)*(N+1):=by
    have e:(2*R.length*B)*(N+1)=2*W+2*R.length*B:=by
     show _=2*(R.length*(N*B))+_;rw[vR,Vk];congr 1;rw[WN N B,Wl,Wl]
    have:1<=2*R.length*B:=vT (by rfl') hp;rfl'
   have h3:(2*W+1) ^ hs.length<=((2*R.length*B)*(N+1)) ^ hs.length:=v8 h2 _;rw[Nat.mul_pow]at h3;have h4:(N+1) ^ r=(N+1)*(N+1) ^ hs.length:=by rw[show r=hs.length+1 from hl.symm,WG,WN]
   rw[h4]at h1;have h5:(N+1)*(N+1) ^ hs.length<=N*(N+1) ^ hs.length:=wG h1 h3;have h6:0<(N+1) ^ hs.length:=Nat.pow_pos (by rfl');rw[vn]at h5;rfl'
 obtain⟨a,b,ha,hb',hf,hne⟩:=main;rw[z7N]at ha hb';have hab:a.length=b.length:=by rw[ha.1,hb'.1]
 refine⟨dif a b,by rw[ziM hab];exact ha.1,λh hh=>?_,?_,λk=>?_⟩
 · rw[ziN hab];have:mix R a h+(W:Int)=mix R b h+(W:Int):=List.map_inj_left.mp hf h hh;rfl'
 · apply W1;intro no;have z:∀ k,mix R (dif a b) k=0:=λk=>W1 λh=>no ⟨k,h⟩;exact hne (zdv hab (hR (dif a b) (by rw[ziM hab];exact ha.1) z))
 · have:=z8Z (N:=N) hb (cs:=dif a b) (zb8 ha.2 hb'.2) k;refine wG this ?_;rw[←hl,WG,hl,WN];show(N*B)*R.length<=N*(2*R.length*B);rw[Wl,WN B];refine wU _ ?_;rw[Wl];rfl'
theorem zdw(v:Vec):∀ m,v m≠0->∃ h,(∀ k,k<h->v k=0)/\v h≠0:=by
 intro m
 induction m using WW with
 | _ m ih =>
  intro hm;by_cases q:∃ k,k<m/\v k≠0
  · obtain⟨k,h1,h2⟩:=q;exact ih k h1 h2
  · exact⟨m,λk hk=>W1 λh=>q ⟨k,hk,h⟩,hm⟩
theorem zdx{E:Nat}:∀{T:List Row} {n f Q:Nat} {u:Vec},Asc n f T->Form f (z0s T)->(∀ r∈T,Lt E r)->Span (vecs T) u->(∀ r∈T,(u (z00 r)).natAbs<=Q*(hd r).natAbs)->∀ k,(u k).natAbs<=Q*((2 ^ T.length-1)*E)
 | [],n,f,Q,u,_,_,_,s,_,k=>by rw[s k];simp
 | r::T,n,f,Q,u,A,F,hE,⟨c,s⟩,hu,k=>by
  have hp:=A.2.2.2.1;have ec:=A.coef s;have hc:c.natAbs<=Q:=by
   have:=hu r wc;rw[ec,W0]at this;exact Nat.le_of_mul_le_mul_right this (by rfl')
  have ih:=zdx (T:=T) (Q:=2*Q) A.2.2.2.2 F.2.2.2.2 (λx hx=>hE x (wa _ hx)) s (λx hx=>by
   have h1:=hu x (wa _ hx);have h2:=F.2.2.2.1 (z00 x,vec x) (wf.mpr ⟨x,hx,rfl⟩);have h2:0<=at0 r (z00 x)/\at0 r (z00 x)<hd x:=h2;show(u (z00 x)-c*at0 r (z00 x)).natAbs<=_;have h3:(c*at0 r (z00 x)).natAbs<=Q*(hd x).natAbs:=by rw[W0];exact Ws hc (by rfl')
   rw[Wl];rfl') k
  have ih:(u k-c*at0 r k).natAbs<=2*Q*((2 ^ T.length-1)*E):=ih;have h4:(c*at0 r k).natAbs<=Q*E:=by rw[W0];exact Ws hc (Wx (hE r wc k))
  have h5:Q*((2 ^ (r::T).length-1)*E)=2*Q*((2 ^ T.length-1)*E)+Q*E:=by
   have p:0<2 ^ T.length:=wJ _;rw[wj,WG,show 2 ^ T.length*2-1=2*(2 ^ T.length-1)+1 by rfl',VS,vU,vR,Wl 2,vV Q 2,Wl 2]
  rfl'
theorem zle{W E n f:Nat}{r:Row}{T:List Row}{w:Vec}(A:Asc n f (r::T))(F:Form f (z0s (r::T)))(hE:∀ x∈T,Lt E x)(s:Span (vecs (r::T)) w)(h0:w (z00 r)≠0)(hz:∀ x∈T,w (z00 x)=0)(hw:∀ k,(w k).natAbs<=W):
  ∀ k,(at0 r k).natAbs<=W+(2 ^ T.length-1)*E:=by
 obtain⟨c,s⟩:=s;have ec:=A.coef s;have c0:c≠0:=by intro z;rw[z]at ec;simp at ec;exact h0 ec
 intro k;have q:=zdx (E:=E) (Q:=c.natAbs) A.2.2.2.2 F.2.2.2.2 hE s (λx hx=>by
  have h2:=F.2.2.2.1 (z00 x,vec x) (wf.mpr ⟨x,hx,rfl⟩);have h2:0<=at0 r (z00 x)/\at0 r (z00 x)<hd x:=h2;show(w (z00 x)-c*at0 r (z00 x)).natAbs<=_;rw[hz x hx];have h3:(c*at0 r (z00 x)).natAbs<=c.natAbs*(hd x).natAbs:=by rw[W0];exact wU _ (by rfl')
  rfl') k
 have q:(w k-c*at0 r k).natAbs<=c.natAbs*((2 ^ T.length-1)*E):=q;have hwk:=hw k;have e1:(c*at0 r k).natAbs=c.natAbs*(at0 r k).natAbs:=W0 _ _;apply Ww;intro hlt;generalize (2 ^ T.length-1)*E=X at *;have h6:c.natAbs*(W+X+1)<=c.natAbs*(at0 r k).natAbs:=wU _ hlt;have h7:c.natAbs*(W+X+1)=c.natAbs*X+c.natAbs*(W+1):=by rw[←vR];congr 1;rfl'
 have h8:1*(W+1)<=c.natAbs*(W+1):=wF _ (by rfl');rfl'
def bnd(r B:Nat):Nat:=(2*r*B) ^ r*2 ^ (r*r)
theorem zb9{W n:Nat}:∀{T:List Row} {f:Nat},Asc n f T->Form f (z0s T)->(∀ r∈T,∃ w:Vec,Span (vecs T) w/\w (z00 r)≠0/\(∀ k,k<z00 r->w k=0)/\(∀ x∈T,x≠r->w (z00 x)=0)/\∀ k,(w k).natAbs<=W)->∀ r∈T,Lt (W*2 ^ (T.length*T.length)+1) r
 | r::T,f,A,F,h,x,hx=>by
  have nd:∀ y∈T,z00 r<z00 y:=λy hy=>(A.2.2.2.2.mem hy).2.1;have ih:=zb9 (T:=T) A.2.2.2.2 F.2.2.2.2 (λy hy=>by
    obtain⟨w,w1,w2,w3,w4,w5⟩:=h y (wa _ hy);refine⟨w,?_,w2,w3,λz hz hne=>w4 z (wa _ hz) hne,w5⟩;exact Form.tail F (show Span (z0U (z0s (r::T))) w by
     have:z0U (z0s (r::T))=vecs (r::T):=by simp[z0s,z0U]
     rw[this];exact w1) (w3 _ (nd y hy)) |> λs=>by
      have:z0U (z0s T)=vecs T:=by simp[z0s,z0U]
      have s:Span (z0U (z0s T)) w:=s;rw[this]at s;exact s)
  have hW:W*2 ^ (T.length*T.length)+1<=W*2 ^ ((r::T).length*(r::T).length)+1:=by
    refine VN (wU _ (wm (by decide) ?_));exact Ws (by simp) (by simp)
  rcases wn.mp hx with rfl|hx
  · obtain⟨w,w1,w2,w3,w4,w5⟩:=h x wc;intro k;have q:=zle (E:=W*2 ^ (T.length*T.length)+1) A F ih w1 w2 (λy hy=>w4 y (wa _ hy) λe=>by have:=nd y hy;rw[e]at this;rfl') w5 k;refine Nat.lt_succ_of_le (wG q ?_);have hW1:1<=W:=by have:=w5 (z00 x);rfl'
    have e2:(x::T).length*(x::T).length=T.length*T.length+T.length+T.length+1:=by rw[wj];grind
    rw[e2,WG,Wa];generalize hP:2 ^ (T.length*T.length+T.length)=P;have p1:2 ^ (T.length*T.length)*2 ^ T.length=P:=by rw[←hP,Wa]
    have p2:1<=2 ^ T.length:=wJ _;have p3:1<=2 ^ (T.length*T.length):=wJ _;generalize 2 ^ T.length=a at *;generalize 2 ^ (T.length*T.length)=b at *;have h1:(a-1)*(W*b+1)<=a*(2*(W*b)):=Ws (by rfl') (by have:1<=W*b:=vT hW1 p3;rfl');have h1':(a-1)*(W*b+1)+(W*b+1)=a*(W*b+1):=by
     have:a=(a-1)+1:=by rfl'
     rw[show a*(W*b+1)=((a-1)+1)*(W*b+1) by rw[←this],vn]
    have h2:W<=W*b:=V2 _ p3;have h3:a*(W*b+1)<=a*(2*(W*b)):=wU _ (by have:1<=W*b:=vT hW1 p3;rfl');have h4:a*(2*(W*b))=W*(b*a)*2:=by grind
    have h5:W*(b*a)*2<=W*(P*a*2):=by
     rw[p1,Wl];refine wU _ (wF _ (V2 _ p2))
    rfl'
  · exact(ih x hx).mono hW
theorem zba(T:List Row):z0U (z0s T)=vecs T:=by simp[z0s,z0U]
theorem zeC{n B:Nat}{S R:List Row}(A:Asc n 0 S)(F:Form 0 (z0s S))(hR:Ind R)(hl:R.length=S.length)(hs:∀ r∈R,Span (vecs S) (λk=>at0 r k))(hb:∀ r∈R,Lt B r)(hp:0<B):
  ∀ r∈S,Lt (bnd S.length B+1) r:=by
 refine zb9 A F λr hr=>?_;have hpw:=(Asc.iff.mp A).2;obtain⟨S1,S2,rfl⟩:=vd hr;obtain⟨cs,c1,c2,⟨m,c3⟩,c4⟩:=siegel hR hb hp ((S1++S2).map z00) (by rw[hl];simp;rfl');have sp:Span (vecs (S1++r::S2)) (mix R cs):=z6Z hs;obtain⟨h,z,q⟩:=zdw _ m c3;obtain⟨x,hx,ex⟩:=A.first sp z q;have oth:∀ y∈S1++r::S2,y≠r->y∈S1++S2:=λy hy hne=>by
  rcases wq.mp hy with h|h
  · exact wq.mpr (.inl h)
  · rcases wn.mp h with rfl|h
    · exact absurd rfl hne
    · exact wq.mpr (.inr h)
 have zo:∀ y∈S1++r::S2,y≠r->mix R cs (z00 y)=0:=λy hy hne=>c2 _ (wf.mpr ⟨y,oth y hy hne,rfl⟩);have er:x=r:=W1 λhne=>q (by rw[←ex];exact zo x hx hne);subst er;rw[hl]at c4;exact⟨mix R cs,sp,by rw[ex];exact q,λk hk=>z k (by rfl'),zo,c4⟩
end St

end
section
local macro_rules|`(tactic|rfl')=>`(tactic|first|lia|omega +splitDisjunctions)
namespace St
open Lat
structure Post(n u:Nat)(S0:List Row)(v:Row)(S:List Row):Prop where
 asc:Asc n 0 S
 span:SameSpan (vecs S) (vecs (v::S0))
 size:∀ r∈S,Lt (2 ^ u) r
 more:S.map z00=S0.map z00\/(S.length=S0.length+1/\∃ r∈S,∀ x∈S0,z00 x≠z00 r)
theorem Wi.start{n e eh s m0 kk:Nat}{S0:List Row}{v:Row}(A:Asc n 0 S0)(hv:v.length=n)(h0:∀ r∈S0,Lt (2 ^ e) r)(hh:∀ r∈S0,hd r<2 ^ eh)(hs:Lt (2 ^ s) v)(hm:s+S0.length*(e+1)<=m0)(he:e<=m0):
   Wi n e eh m0 kk S0 v S0 (z0g v S0)/\LowB m0 v S0:=by
 obtain⟨z1,z2⟩:=z2H (n:=n) (t:=0) (s:=s) (e:=e) (m:=m0) (S:=S0) (left:=v) (λr hr=>⟨(A.mem hr).1,(A.mem hr).2.2.2⟩) hv (λk hk=>by rfl') (λr hr _=>h0 r hr) hs hm he;have sp:=z2G A hv;refine⟨⟨A,z6r A hv,rfl,?_,z3C A hv,λr hr _=>h0 r hr,λr hr=>?_,z1.mono (wm (by decide) (by rfl')),λr hr=>(h0 r hr).mono (wm (by decide) (by rfl'))⟩,z2⟩
 · refine z4u (λr hr=>?_) λr hr=>?_
   · rcases wn.mp hr with rfl|hr
     · have t:Span (vecs (v::S0)) (λk=>at0 v k):=z0c wc;exact Span.congr (λk=>by rfl') (t.sub sp.cons)
     · exact z0c (wa _ hr)
   · rcases wn.mp hr with rfl|hr
     · have t:Span (vecs (z0g r S0::S0)) (λk=>at0 (z0g r S0) k):=z0c wc;exact Span.congr (λk=>by rfl') (t.add sp.cons)
     · exact z0c (wa _ hr)
 · exact hh r hr
theorem Wi.done{n e eh m0 kk:Nat}{S0:List Row}{v:Row}{S:List Row}{left:Row}(I:Wi n e eh m0 kk S0 v S left)(h:¬z00 left<n):Post n (e+3+(m0+n*kk)) S0 v S:=by
 have hl:=z7L left;rw[I.len]at hl;have e:z00 left=n:=by rfl'
 refine⟨I.asc,SameSpan.trans (z4u (λr hr=>z0c (wa _ hr)) λr hr=>?_) I.span,λr hr=>by have:=I.all r hr;rw[e]at this;exact this,.inl I.heads⟩;rcases wn.mp hr with rfl|hr
 · refine Span.congr (λk=>?_) Span.zero;by_cases hk:k<n
   · exact(z0f r k (by rfl')).symm
   · exact(z0x (by rw[I.len];rfl')).symm
 · exact z0c hr
theorem Wi.new{n e eh m0 kk:Nat}{S0:List Row}{v:Row}{S S':List Row}{left t:Row}(I:Wi n e eh m0 kk S0 v S left)(h:z00 left<n)(hn:∀ r∈S,z00 r≠z00 left)
   (ht:t.length=n) (c:Int) (hc:c=1\/c = -1) (et:∀ k,at0 t k=c*at0 left k) (hp:0<at0 t (z00 left)) (pm:S'.Perm (t::S)) (pw:(S'.map z00).Pairwise (·<·)):Post n (e+3+(m0+n*kk)) S0 v S':=by
 have hh:z00 t=z00 left:=z1r _ _ (λk hk=>by rw[et,z0f left k hk];simp) (by rfl');have mem:∀ r∈S',r=t\/r∈S:=λr hr=>wn.mp (pm.mem_iff.mp hr);have tm:t∈S':=pm.mem_iff.mpr wc;have sm:∀ r∈S,r∈S':=λr hr=>pm.mem_iff.mpr (wa _ hr);have hk:m0+z00 left*kk<=m0+n*kk:=by have:=wF kk (Wx h);rfl'
 refine⟨Asc.iff.mpr ⟨λr hr=>?_,pw⟩,SameSpan.trans (z4u (λr hr=>?_) λr hr=>?_) I.span,λr hr=>?_,.inr ⟨?_,t,tm,λx hx e=>?_⟩⟩
 · rcases mem r hr with rfl|hr
   · exact⟨ht,wQ _,by rw[hh];exact h,by unfold hd;rw[hh];exact hp⟩
   · exact I.asc.mem hr
 · rcases mem r hr with rfl|hr
   · exact Span.congr (λk=>(et k).symm) ((z0c wc:Span (vecs (left::S)) (λk=>at0 left k)).smul c)
   · exact z0c (wa _ hr)
 · rcases wn.mp hr with rfl|hr
   · refine Span.congr (λk=>?_) ((z0c tm:Span (vecs S') (λk=>at0 t k)).smul c);show c*at0 t k=at0 r k;rw[et];rcases hc with rfl|rfl<;>rfl'
   · exact z0c (sm r hr)
 · rcases mem r hr with rfl|hr
   · intro k;rw[et];have h1:=I.size k;have h2:2 ^ (m0+z00 left*kk)<=2 ^ (e+3+(m0+n*kk)):=wm (by decide) (by rfl');rcases hc with rfl|rfl<;>rfl'
   · exact(I.all r hr).mono (wm (by decide) (by rfl'))
 · have h1:=pm.length_eq;have h2:=congrArg List.length I.heads;simp at h1 h2;rfl'
 · have:z00 x∈S.map z00:=by rw[I.heads];exact wf.mpr ⟨x,hx,rfl⟩
   obtain⟨y,hy,ey⟩:=wf.mp this;exact hn y hy (by rfl')
structure Good(n B:Nat)(rows:List Row)(S:List Row):Prop where
 asc:Asc n 0 S
 form:Form 0 (z0s S)
 span:SameSpan (vecs S) (vecs rows)
 ind:∃ R:List Row,Ind R/\R.length=S.length/\(∀ r∈R,r∈rows)
 len:S.length<=rows.length
 full:Ind rows->S.length=rows.length
theorem Good.nil{n B:Nat}:Good n B [] []:=⟨trivial,trivial,SameSpan.refl,⟨[],(λcs h _ c hc=>by have h:cs=[]:=V3.mp h;subst h;cases hc),rfl,λr hr=>by cases hr⟩,wx _,λ_=>rfl⟩
theorem Good.small{n B:Nat}{rows S:List Row}(G:Good n B rows S)(hb:∀ r∈rows,Lt B r)(hp:0<B):∀ r∈S,Lt (bnd S.length B+1) r:=by
 obtain⟨R,h1,h2,h3⟩:=G.ind;exact zeC G.asc G.form h1 h2 (λr hr=>G.span.iff.mpr (z0c (h3 r hr))) (λr hr=>hb r (h3 r hr)) hp
theorem z3D:∀{R:List Row} {v:Vec},Span (vecs R) v->∃ c:List Int,c.length=R.length/\∀ k,v k=mix R c k
 | [],v,s=>⟨[],rfl,s⟩
 | r::R,v,⟨c,s⟩=>by
  obtain⟨cs,h1,h2⟩:=z3D s;refine⟨c::cs,by simp[h1],λk=>?_⟩;have:=h2 k;have this:v k-c*at0 r k=mix R cs k:=this;show v k=c*at0 r k+mix R cs k;rfl'
theorem z9C{v:Row}{d:Int}:∀{R:List Row} {c:List Int},c.length=R.length->∀ k,mix (R++[v]) (c++[d]) k=mix R c k+d*at0 v k
 | [],[],_,k=>by simp[mix]
 | r::R,x::c,h,k=>by
  show x*at0 r k+mix (R++[v]) (c++[d]) k=x*at0 r k+mix R c k+d*at0 v k;rw[z9C (R:=R) (c:=c) (by simpa using h)];rfl'
theorem Ind.left{R:List Row}{v:Row}(h:Ind (R++[v])):Ind R:=λc hl hz x hx=>by
 exact h (c++[0]) (by simp[hl]) (λk=>by rw[z9C hl,hz k];simp) x (wq.mpr (.inl hx))
theorem zbb{n:Nat}:∀{f:Nat} {S T:List Row} {u:Vec},Asc n f S->Asc n f T->T.map z00=S.map z00->(∀ r∈T,Span (vecs S) (λk=>at0 r k))->Span (vecs S) u->∃ D:Int,D≠0/\Span (vecs T) (λk=>D*u k)
 | f,[],[],u,_,_,_,_,s=>⟨1,by decide,λk=>by have:=s k;show 1*u k=0;rfl'⟩
 | f,r::S,t::T,u,A,A',hh,hT,s=>by
  have hh':z00 t=z00 r/\T.map z00=S.map z00:=by simpa using hh
  have tz:∀{w:Vec},Span (vecs (r::S)) w->w (z00 r)=0->Span (vecs S) w:=λ{w} hw z=>by
    obtain⟨c,q⟩:=hw;have e:=A.coef q;have c0:c=0:=by
      rw[z]at e;rcases W5.mp e.symm with h|h
      · exact h
      · have:=A.2.2.2.1;rfl'
    subst c0;exact Span.congr (λk=>by simp) q
  have ht:Span (vecs (r::S)) (λk=>at0 t k):=hT t wc;have w1:Span (vecs (r::S)) (λk=>hd t*u k-u (z00 r)*at0 t k):=(s.smul (hd t)).sub (ht.smul (u (z00 r)));have w2:=tz w1 (by show hd t*u (z00 r)-u (z00 r)*at0 t (z00 r)=0;rw[←hh'.1];show hd t*_-_*hd t=0;rw[wL];rfl');obtain⟨D,hD,q⟩:=zbb A.2.2.2.2 (by rw[←hh'.1];exact A'.2.2.2.2) hh'.2 (λx hx=>tz (hT x (wa _ hx)) (z0f x _ (by have:=(A'.2.2.2.2.mem hx).2.1;rfl'))) w2;refine⟨D*hd t,λz=>?_,D*u (z00 r),Span.congr (λk=>?_) q⟩
  · rcases W5.mp z with z|z
    · exact hD z
    · have:=A'.2.2.2.1;rfl'
  · show D*(hd t*u k-u (z00 r)*at0 t k)=D*hd t*u k-D*u (z00 r)*at0 t k
    grind
 | f,[],t::T,u,_,_,hh,_,_=>by simp at hh
 | f,r::S,[],u,_,_,hh,_,_=>by simp at hh
theorem z3m:∀ S:List Row,(even S).length=S.length
 | []=>rfl
 | r::rs=>by rw[even,wj,wj,z3m rs]
theorem Good.step{n u B:Nat}{rows S0 S:List Row}{v:Row}(G:Good n B rows S0)(P:Post n u S0 v S):Good n B (rows++[v]) (even S):=by
  have es:=zb7 P.asc;have sp:SameSpan (vecs (v::S0)) (vecs (rows++[v])):=z4u (λr hr=>by
      rcases wn.mp hr with rfl|hr
      · exact z0c (wq.mpr (.inr wc))
      · exact(G.span.iff.mp (z0c hr)).trans λw hw=>by
          obtain⟨z,hz,rfl⟩:=wf.mp hw;exact z0c (wq.mpr (.inl hz))) λr hr=>by
      rcases wq.mp hr with hr|hr
      · exact(G.span.iff.mpr (z0c hr)).trans λw hw=>by
          obtain⟨z,hz,rfl⟩:=wf.mp hw;exact z0c (wa _ hz)
      · rcases wP.mp hr with rfl
        exact z0c wc
  obtain⟨R,h1,h2,h3⟩:=G.ind;have hlen:(even S).length<=(rows++[v]).length:=by
    rw[z3m,wI];have:=G.len;rcases P.more with h|⟨h,_⟩
    · have h:=congrArg List.length h;simp at h ⊢;rfl'
    · simp;rfl'
  refine⟨(z36 P.asc).1,zb6 P.asc,SameSpan.trans es (P.span.trans sp),?_,hlen,λhI=>?_⟩
  rotate_left
  · have hI0:=hI.left;have hl0:=G.full hI0;rcases P.more with h|⟨h,_⟩
    · exfalso;have hv:Span (vecs S) (λk=>at0 v k):=P.span.iff.mpr (z0c wc);obtain⟨D,hD,q⟩:=zbb P.asc G.asc h.symm (λr hr=>P.span.iff.mpr (z0c (wa _ hr))) hv;obtain⟨c,hc,ec⟩:=z3D (G.span.iff.mp q);have:=hI (c++[-D]) (by simp[hc]) (λk=>by rw[z9C hc];have:=ec k;rw[←this,vS];show D*at0 v k+_=0;rfl') (-D) (by simp);rfl'
    · rw[z3m,h,hl0];simp
  rcases P.more with h|⟨h,r,hr,hne⟩
  · exact⟨R,h1,by have h:=congrArg List.length h;simp at h;rw[z3m,h,h2],λr hr=>wq.mpr (.inl (h3 r hr))⟩
  · refine⟨ v::R,?_,by rw[z3m,h,List.length_cons,h2],fun r hr=>?_⟩
    · intro cs hl hz
      cases cs with
      | nil=>intro c hc;cases hc
      | cons c cs =>
        have hl':cs.length=R.length:=by simpa using hl
        have hz:∀ k,c*at0 v k+mix R cs k=0:=hz;by_cases c0:c=0
        · subst c0;have z:=h1 cs hl' (λk=>by have:=hz k;rfl');intro d hd;rcases wn.mp hd with rfl|hd
          · rfl
          · exact z d hd
        · exfalso;have cv:Span (vecs S0) (λk=>c*at0 v k):=by
            have:Span (vecs S0) (mix R cs):=z6Z λr hr=>G.span.iff.mpr (z0c (h3 r hr));exact Span.congr (λk=>by have:=hz k;rfl') this.neg
          have all:∀ w:Vec,Span (vecs (v::S0)) w->Span (vecs S0) (λk=>c*w k):=λw hw=>by
            obtain⟨d,s⟩:=hw;have s2:=(cv.smul d).add (s.smul c);refine Span.congr (λk=>?_) s2;show d*(c*at0 v k)+c*(w k-d*at0 v k)=c*w k
            grind
          have rs:Span (vecs (v::S0)) (λk=>at0 r k):=P.span.iff.mp (z0c hr);have q:=P.asc.mem hr;obtain⟨x,hx,e⟩:=G.asc.first (h:=z00 r) (all _ rs) (λk hk=>by show c*at0 r k=0;rw[z0f r k hk];simp) (by
            show c*hd r≠0;intro z;rcases W5.mp z with z|z
            · exact c0 z
            · rfl')
          exact hne x hx e
    · rcases wn.mp hr with rfl|hr
      · exact wq.mpr (.inr wc)
      · exact wq.mpr (.inl (h3 r hr))
theorem z70{r s B:Nat}(h:r<=s)(hB:0<B)(hs:0<s):bnd r B<=bnd s B:=by
 unfold bnd;refine Ws ?_ (wm (by decide) (Ws h h));have h1:2*r*B<=2*s*B:=wF _ (wU _ h);have h2:0<2*s*B:=vT (by rfl') hB;exact wG (v8 h1 r) (wm h2 h)
theorem z5H{n:Nat}:∀{f:Nat} {S:List Row},Asc n f S->f<=n->S.length<=n-f
 | f,[],_,_=>wQ _
 | f,r::rs,⟨h1,h2,h3,h4,h5⟩,h=>by
  have:=z5H h5 (by rfl');rw[wj];rfl'
end St

end
section
set_option exponentiation.threshold 3000
namespace St
open Lat
theorem z9D:∀{f:Nat} {S:List Row},Form f (z0s S)->∀{j k:Nat},j<k->k<S.length->0<=at0 (S.getD j []) (z00 (S.getD k []))/\at0 (S.getD j []) (z00 (S.getD k []))<hd (S.getD k [])
 | f,r::S,F,0,k+1,_,hk=>by
  have hk:k<S.length:=by simpa using hk
  have hm:S.getD k []∈S:=by simp[List.getD,w8 hk]
  have:=F.2.2.2.1 (z00 (S.getD k []),vec (S.getD k [])) (wf.mpr ⟨_,hm,rfl⟩);exact this
 | f,r::S,F,j+1,k+1,hjk,hk=>by
  have:=z9D (S:=S) F.2.2.2.2 (j:=j) (k:=k) (by rfl') (by simpa using hk);simpa[List.getD]using this
theorem z71{n f:Nat}{S:List Row}(A:Asc n f S){k:Nat}(hk:k<S.length):(S.getD k []).length=n/\f<=z00 (S.getD k [])/\z00 (S.getD k [])<n/\0<hd (S.getD k []) :=
 A.mem (by simp[List.getD,w8 hk])
theorem zeD{n:Nat}:∀{f:Nat} {S:List Row},Asc n f S->∀{j k:Nat},j<k->k<S.length->z00 (S.getD j [])<z00 (S.getD k [])
 | f,r::S,A,0,k+1,_,hk=>by
  have hk:k<S.length:=by simpa using hk
  have hm:S.getD k []∈S:=by simp[List.getD,w8 hk]
  have:=(A.2.2.2.2.mem hm).2.1;exact this
 | f,r::S,A,j+1,k+1,hjk,hk=>by
  have:=zeD (S:=S) A.2.2.2.2 (j:=j) (k:=k) (by rfl') (by simpa using hk);simpa[List.getD]using this
theorem bnd30(k:Nat)(h:k<=8):bnd k (10 ^ 30)+1<=2 ^ 900:=by
 have:=z70 (B:=10 ^ 30) h (by decide) (by decide);have e:bnd 8 (10 ^ 30)+1<=2 ^ 900:=by unfold bnd;decide
 rfl'
theorem zjX{r:Row}{B:Nat}(hB:0<B)(h:∀ x∈r,x.natAbs<B):Lt B r:=λk=>by
 unfold at0 List.getD;by_cases hk:k<r.length
 · rw[w8 hk];exact h _ (W4 _)
 · rw[wN (by rfl')];exact hB
end St

end
section
local macro_rules|`(tactic|rfl')=>`(tactic|first|lia|omega +splitDisjunctions)
namespace St
open Lat
theorem Asc.tz{n f:Nat}{r:Row}{S:List Row}{w:Vec}(A:Asc n f (r::S))(hw:Span (vecs (r::S)) w)(z:w (z00 r)=0):Span (vecs S) w:=by
 obtain⟨c,q⟩:=hw;have e:=A.coef q;have c0:c=0:=by
  rw[z]at e;rcases W5.mp e.symm with h|h
  · exact h
  · have:=A.2.2.2.1;rfl'
 subst c0;exact Span.congr (λk=>by simp) q
theorem Asc.small0{n:Nat}:∀{f:Nat} {S:List Row} {u:Vec},Asc n f S->Span (vecs S) u->(∀ r∈S,0<=u (z00 r)/\u (z00 r)<hd r)->∀ k,u k=0
 | f,[],u,_,s,_=>s
 | f,r::S,u,A,s,h=>by
  have hr:=h r wc;have z:u (z00 r)=0:=by
   obtain⟨c,q⟩:=s;have e:=A.coef q;have c0:c=0:=z3L e A.2.2.2.1 (by rfl') hr.2;rw[e,c0];simp
  exact A.2.2.2.2.small0 (A.tz s z) λx hx=>h x (wa _ hx)
def ziO(n:Nat):Row:=List.replicate n 0
theorem zjY(n k:Nat):at0 (ziO n) k=0:=by
 unfold at0 ziO List.getD;rw[W8];split<;>rfl
theorem z4v{R:List Row}(c:List Int):Span (vecs R) (mix R c):=z6Z λr hr=>z0c hr
theorem z9{n:Nat}:∀{R:List Row} {c:List Int},(∀ r∈R,r.length=n)->∀ k,n<=k->mix R c k=0
 | [],c,_,k,_=>by simp[mix]
 | r::R,[],_,k,_=>by simp[mix]
 | r::R,x::c,h,k,hk=>by
  show x*at0 r k+mix R c k=0;rw[z9 (λy hy=>h y (wa _ hy)) k hk,z0x (by rw[h r wc];exact hk)];simp
abbrev Ab(a b:Row):Prop:=0<=at0 a (z00 b)/\at0 a (z00 b)<hd b
theorem z9E{n:Nat}:∀{f:Nat} {S:List Row},Asc n f S->(Form f (z0s S)↔S.Pairwise Ab)
 | f,[],_=>by simp[z0s,Form]
 | f,r::S,A=>by
  have ih:=z9E A.2.2.2.2;rw[wZ,←ih];constructor
  · intro F;exact⟨λb hb=>F.2.2.2.1 (z00 b,vec b) (wf.mpr ⟨b,hb,rfl⟩),F.2.2.2.2⟩
  · rintro⟨h1,h2⟩;refine⟨A.2.1,λk hk=>z0f r k hk,A.2.2.2.1,λp hp=>?_,h2⟩;obtain⟨b,hb,rfl⟩:=wf.mp hp;exact h1 b hb
theorem ziP{n:Nat}:∀{S T:List Row},(∀ r∈S,r.length=n)->(∀ r∈T,r.length=n)->z0s S=z0s T->S=T
 | [],[],_,_,_=>rfl
 | [],t::T,_,_,h=>by simp[z0s]at h
 | s::S,[],_,_,h=>by simp[z0s]at h
 | s::S,t::T,hs,ht,h=>by
  have h:(z00 s,vec s)::z0s S=(z00 t,vec t)::z0s T:=h;have h1:=(List.cons.inj h).1;have h2:=(List.cons.inj h).2;have e:s=t:=ext0 (by rw[hs s wc,ht t wc]) λk=>congrFun (congrArg Prod.snd h1) k;rw[e,ziP (λr hr=>hs r (wa _ hr)) (λr hr=>ht r (wa _ hr)) h2]
theorem zbc{n:Nat}{S T:List Row}(A:Asc n 0 S)(F:Form 0 (z0s S))(A':Asc n 0 T)(F':Form 0 (z0s T))(h:SameSpan (vecs S) (vecs T)):S=T:=by
 refine ziP (n:=n) (λr hr=>(A.mem hr).1) (λr hr=>(A'.mem hr).1) (Form.unique F F' ?_);rw[zba,zba];exact h
theorem z72{n:Nat}{a b:Row}(h:a.length=n)(k:Nat):at0 (a++b) k=if k<n then at0 a k else at0 b (k-n):=by
 subst h;unfold at0 List.getD;rw[List.getElem?_append];split<;>rfl
theorem z1p(r:Row)(n k:Nat):at0 (r.take n) k=if k<n then at0 r k else 0:=by
 unfold at0 List.getD;rw[Vs];split<;>rfl
theorem z2I(r:Row)(n k:Nat):at0 (r.drop n) k=at0 r (n+k):=by
 unfold at0 List.getD;rw[ve]
def z0k(m j:Nat):Row:=(List.range m).map λk=>if k=j then 1 else 0
theorem z23(m j:Nat):(z0k m j).length=m:=by unfold z0k;simp
theorem z0y(m j k:Nat):at0 (z0k m j) k=if k=j/\k<m then 1 else 0:=by
 unfold at0 z0k List.getD;rw[wu];by_cases hk:k<m
 · rw[Wz hk];simp[hk]
 · rw[wN (by simpa using hk)];simp[hk]
def tagF(m:Nat):Nat->List Row->List Row
 | _,[]=>[]
 | s,b::bs=>(b++z0k m s)::tagF m (s+1) bs
abbrev z3N(bills:List Row):List Row:=tagF bills.length 0 bills
theorem z55(m:Nat):∀(s:Nat) (bs:List Row),(tagF m s bs).length=bs.length
 | s,[]=>rfl
 | s,b::bs=>by rw[tagF,wj,wj,z55]
theorem zdy(m:Nat):∀{s:Nat} {bs:List Row} {r:Row},r∈tagF m s bs->∃ b∈bs,∃ j,r=b++z0k m j
 | s,b::bs,r,h=>by
  rcases wn.mp h with rfl|h
  · exact⟨b,wc,s,rfl⟩
  · obtain⟨b',hb,j,e⟩:=zdy m h;exact⟨b',wa _ hb,j,e⟩
theorem zdz(m:Nat):∀{s:Nat} {bs:List Row} {b:Row},b∈bs->∃ j,b++z0k m j∈tagF m s bs
 | s,_::bs,b,.head _=>⟨s,wc⟩
 | s,_::bs,b,.tail _ h=>by
  obtain⟨j,hj⟩:=zdz m (s:=s+1) h;exact⟨j,wa _ hj⟩
theorem z56{n m:Nat}:∀{s:Nat} {bs:List Row} {c:List Int} {k:Nat},(∀ b∈bs,b.length=n)->k<n->mix (tagF m s bs) c k=mix bs c k
 | s,[],c,k,_,_=>by simp[tagF,mix]
 | s,b::bs,[],k,_,_=>by simp[tagF,mix]
 | s,b::bs,x::c,k,h,hk=>by
  show x*at0 (b++z0k m s) k+mix (tagF m (s+1) bs) c k=x*at0 b k+mix bs c k;rw[z56 (λy hy=>h y (wa _ hy)) hk,z72 (h b wc),if_pos hk]
theorem z73{n m:Nat}:∀{s:Nat} {bs:List Row} {c:List Int} {i:Nat},(∀ b∈bs,b.length=n)->c.length=bs.length->s+bs.length<=m->mix (tagF m s bs) c (n+i)=if s<=i/\i<s+bs.length then at0 c (i-s) else 0
 | s,[],[],i,_,_,_=>by simp[tagF,mix];intros;rfl'
 | s,b::bs,x::c,i,h,hl,hs=>by
  have ih:=z73 (n:=n) (m:=m) (s:=s+1) (bs:=bs) (c:=c) (i:=i) (λy hy=>h y (wa _ hy)) (by simpa using hl) (by simp at hs;rfl');show x*at0 (b++z0k m s) (n+i)+mix (tagF m (s+1) bs) c (n+i)=_;rw[ih,z72 (h b wc),if_neg (by rfl'),z0y,show n+i-n=i by rfl'];have hlen:(b::bs).length=bs.length+1:=rfl;rw[hlen];have hm:s<m:=by simp at hs;rfl'
  by_cases h1:i=s
  · subst h1;rw[if_pos ⟨rfl,hm⟩,if_neg (by rfl'),if_pos (by rfl')];simp[at0]
  · rw[if_neg (by rfl')];by_cases h2:s+1<=i/\i<s+1+bs.length
    · rw[if_pos h2,if_pos (by rfl')];have:i-s=(i-(s+1))+1:=by rfl'
      rw[this];simp[at0]
    · rw[if_neg h2,if_neg (by rfl')];simp
theorem z9F{n:Nat}{bills:List Row}{c:List Int}(h:∀ b∈bills,b.length=n)(hl:c.length=bills.length)(i:Nat):mix (z3N bills) c (n+i)=at0 c i:=by
 rw[z73 h hl (by rfl')];split
 · simp
 · rw[z0x (by rfl')]
theorem z9G{n:Nat}{bills:List Row}(h:∀ b∈bills,b.length=n):Ind (z3N bills):=λc hl hz x hx=>by
 rw[z55]at hl;obtain⟨i,hi,e⟩:=vx.mp hx;have:=hz (n+i);rw[z9F h hl]at this;rw[←e];simpa[at0,List.getD,w8 hi]using this
theorem z9H{n:Nat}{bills:List Row}{u:Row}(h:∀ b∈bills,b.length=n)(hu:u.length=n+bills.length):Span (vecs (z3N bills)) (λk=>at0 u k)↔∀ k,k<n->at0 u k=mix bills (u.drop n) k:=by
 have hd:(u.drop n).length=bills.length:=by rw[Wc];rfl'
 constructor
 · intro s k hk;obtain⟨c,hc,e⟩:=z3D s;rw[z55]at hc;have:c=u.drop n:=ext0 (by rw[hc,hd]) λi=>by
     rw[z2I,←z9F h hc i];exact(e (n+i)).symm
   have e1:=e k;rw[z56 h hk,this]at e1;exact e1
 · intro q;refine Span.congr (λk=>?_) (z4v (u.drop n));by_cases hk:k<n
   · rw[z56 h hk,q k hk]
   · have:k=n+(k-n):=by rfl'
     rw[this,z9F h hd,z2I]
theorem z9I{N n:Nat}:∀{f:Nat} {S:List Row},Asc N f S->S=S.filter (λr=>decide (z00 r<n))++S.filter (λr=>!decide (z00 r<n))
 | f,[],_=>rfl
 | f,r::S,A=>by
  have ih:=z9I (n:=n) A.2.2.2.2;by_cases h:z00 r<n
  · rw[WH,WH];simp only[h,decide_true,if_true,Bool.not_true,vI,if_false];rw[v6,←ih]
  · have e:S.filter (λr=>decide (z00 r<n))=[]:=List.filter_eq_nil_iff.mpr λx hx=>by have:=(A.2.2.2.2.mem hx).2.1;simp;rfl'
    rw[e,vC]at ih;rw[WH,WH];simp only[h,decide_false,u9,if_true,vI,if_false];rw[e,vC,←ih]
def tops(n:Nat)(S:List Row):List Row:=(S.filter λr=>decide (z00 r<n)).map (·.take n)
def bots(n:Nat)(S:List Row):List Row:=(S.filter λr=>!decide (z00 r<n)).map (·.drop n)
theorem z7O{r:Row}{n:Nat}(h:z00 r<n)(hl:z00 r<r.length):z00 (r.take n)=z00 r:=z1r _ _ (λk hk=>by rw[z1p,if_pos (by rfl')];exact z0f r k hk) (by rw[z1p,if_pos h];exact z6X r hl)
section
variable {n N:Nat}{S:List Row}
theorem z57(A:Asc N 0 S)(hN:n<=N):Asc n 0 (tops n S)/\(tops n S).length=(S.filter λr=>decide (z00 r<n)).length:=by
 have Q:=Asc.iff.mp A;refine⟨Asc.iff.mpr ⟨λx hx=>?_,?_⟩,by unfold tops;simp⟩
 · obtain⟨r,hr,rfl⟩:=wf.mp hx;obtain⟨hr,hd'⟩:=W3.mp hr;have hd':z00 r<n:=by simpa using hd'
   have q:=Q.1 r hr;have e:=z7O hd' (by rfl');refine⟨by rw[Wq];rfl',wQ _,by rw[e];exact hd',?_⟩;unfold hd;rw[e,z1p,if_pos hd'];exact q.2.2.2
 · have e:(tops n S).map z00=(S.filter λr=>decide (z00 r<n)).map z00:=by
    unfold tops;rw[wW];apply vE;intro r hr;obtain⟨hr,hd'⟩:=W3.mp hr;exact z7O (by simpa using hd') (by have:=Q.1 r hr;rfl')
   rw[e];exact Q.2.sublist (Wm.map _)
theorem z5I(A:Asc N 0 S)(F:Form 0 (z0s S))(hN:n<=N):Form 0 (z0s (tops n S)):=by
 have Q:=Asc.iff.mp A;rw[z9E (z57 A hN).1];have P:=(z9E A).mp F;unfold tops;rw[VB];refine List.Pairwise.imp_of_mem (λ{a b} ha hb h=>?_) (P.sublist Wm);obtain⟨hb,hd'⟩:=W3.mp hb;have hd':z00 b<n:=by simpa using hd'
 have e:=z7O hd' (by have:=Q.1 b hb;rfl');unfold Ab hd at *;rw[e,z1p,if_pos hd',z1p,if_pos hd'];exact h
theorem z5J(A:Asc N 0 S){v:Vec}(s:Span (vecs S) v):Span (vecs (tops n S)) (λk=>if k<n then v k else 0):=by
 refine Span.least (P:=λv=>Span (vecs (tops n S)) (λk=>if k<n then v k else 0)) ?_ (λv w hv hw=>?_) (λc v hv=>?_) (λx hx=>?_) s
 · exact Span.congr (λk=>by split<;>rfl) Span.zero
 · exact Span.congr (λk=>by split<;>rfl) (hv.add hw)
 · refine Span.congr (λk=>?_) (hv.smul c);split
   · rfl
   · simp
 · obtain⟨r,hr,rfl⟩:=wf.mp hx;by_cases h:z00 r<n
   · have hm:r.take n∈tops n S:=wf.mpr ⟨r,W3.mpr ⟨hr,by simpa using h⟩,rfl⟩;exact Span.congr (λk=>z1p r n k) (z0c hm)
   · refine Span.congr (λk=>?_) Span.zero;split
     · rw[show vec r k=0 from z0f r k (by rfl')]
     · rfl
end
structure Tag(n:Nat)(bills S:List Row):Prop where
 wide:∀ b∈bills,b.length=n
 asc:Asc (n+bills.length) 0 S
 form:Form 0 (z0s S)
 span:SameSpan (vecs S) (vecs (z3N bills))
 full:S.length=bills.length
theorem Good.tag{n B:Nat}{bills S:List Row}(h:∀ b∈bills,b.length=n)(G:Good (n+bills.length) B (z3N bills) S):Tag n bills S :=
 ⟨h,G.asc,G.form,G.span,by rw[G.full (z9G h),z55]⟩
theorem Tag.rung{n:Nat}{bills S:List Row}(t:Tag n bills S){r:Row}(hr:r∈S):∀ k,k<n->at0 r k=mix bills (r.drop n) k :=
 (z9H t.wide (t.asc.mem hr).1).mp (t.span.iff.mp (z0c hr))
theorem Tag.top_span{n:Nat}{bills S:List Row}(t:Tag n bills S):SameSpan (vecs (tops n S)) (vecs bills):=z4u (λx hx=>by
 obtain⟨r,hr,rfl⟩:=wf.mp hx;obtain⟨hr,_⟩:=W3.mp hr;refine Span.congr (λk=>?_) (z4v (R:=bills) (r.drop n));rw[z1p];split
 · rename_i hk;exact(t.rung hr k hk).symm
 · rename_i hk;exact z9 t.wide k (by rfl')) λb hb=>by
 obtain⟨j,hj⟩:=zdz bills.length (s:=0) hb;have s:=z5J (n:=n) t.asc (t.span.iff.mpr (z0c hj));refine Span.congr (λk=>?_) s;rw[z72 (t.wide b hb)];by_cases hk:k<n
 · rw[if_pos hk,if_pos hk]
 · rw[if_neg hk,z0x (by rw[t.wide b hb];rfl')]
theorem Tag.top{n:Nat}{bills S T:List Row}(t:Tag n bills S)(A:Asc n 0 T)(F:Form 0 (z0s T))(s:SameSpan (vecs T) (vecs bills)):tops n S=T :=
 zbc (z57 t.asc (by rfl')).1 (z5I t.asc t.form (by rfl')) A F (t.top_span.trans s.symm)
end St

end
section
local macro_rules|`(tactic|rfl')=>`(tactic|first|lia|omega +splitDisjunctions)
namespace St
open Lat
theorem z17{B:List Row}{i:Nat}(h:i<B.length):B.getD i []∈B:=by simp[List.getD,w8 h]
end St
namespace St
open Lat
theorem Asc.small{n:Nat}:∀{f:Nat} {S:List Row} {u:Vec},Asc n f S->Span (vecs S) u->(∀ r∈S,-(hd r)<u (z00 r)/\u (z00 r)<hd r)->∀ k,u k=0
 | f,[],u,_,s,_=>s
 | f,r::S,u,A,s,h=>by
  have hr:=h r wc;have z:u (z00 r)=0:=by
   obtain⟨c,q⟩:=s;have e:=A.coef q;have c0:c=0:=z3L e A.2.2.2.1 hr.1 hr.2;rw[e,c0];simp
  exact A.2.2.2.2.small (A.tz s z) λx hx=>h x (wa _ hx)
end St

end
section
namespace St
open Lat
theorem zlf{n:Nat}{bills:List Row}(hw:∀ r∈bills,r.length=n){v:Vec}(s:Span (vecs bills) v):∀ k,n<=k->v k=0 :=
 Span.least (P:=λv=>∀ k,n<=k->v k=0) (λ_ _=>rfl) (λv w h1 h2 k hk=>by show v k+w k=0;rw[h1 k hk,h2 k hk];rfl) (λc v h k hk=>by show c*v k=0;rw[h k hk,WE]) (λr hr=>by
  obtain⟨x,hx,rfl⟩:=wf.mp hr;intro k hk;exact z0x (by rw[hw x hx];exact hk)) s
def Ty(bills:List Row)(b:Row)(t:Int):Prop:=Span (vecs bills) (λk=>t*at0 b k)
def IsOrd(bills:List Row)(b:Row):Option Int->Prop
 | none=>∀ t,Ty bills b t->t=0
 | some m=>0<m/\∀ t,Ty bills b t↔m∣t
theorem IsOrd.one{bills:List Row}{b:Row}{o p:Option Int}(h:IsOrd bills b o)(g:IsOrd bills b p):o=p:=by
 match o,p,h,g with
 | none,none,_,_=>rfl
 | none,some m,h,⟨g1,g2⟩=>have:=h m ((g2 m).mpr (vF m));rfl'
 | some m,none,⟨h1,h2⟩,g=>have:=g m ((h2 m).mpr (vF m));rfl'
 | some m,some k,⟨h1,h2⟩,⟨g1,g2⟩ =>
  have a:=(g2 m).mp ((h2 m).mpr (vF m));have b:=(h2 k).mp ((g2 k).mpr (vF k));congr 1;exact VO (by rfl') (by rfl') b a
end St

end
section
namespace St
def Pr(p:Nat):Prop:=2<=p/\∀ d,2<=d->d<p->¬d∣p
theorem Pr.cop{p q:Nat}(hp:Pr p)(hq:Pr q)(h:p≠q):Nat.Coprime p q:=by
 have g1:=Nat.gcd_dvd_left p q;have g2:=Nat.gcd_dvd_right p q;have p0:0<p:=by have:=hp.1;rfl'
 have q0:0<q:=by have:=hq.1;rfl'
 have hg:=Nat.gcd_pos_of_pos_left q p0;show Nat.gcd p q=1;generalize Nat.gcd p q=g at *;by_cases z:g=1
 · exact z
 · have l1:=Nat.le_of_dvd p0 g1;have l2:=Nat.le_of_dvd q0 g2;by_cases e:g=p
   · subst e;by_cases e2:g=q
     · exact absurd e2 h
     · exact absurd g2 (hq.2 g (by rfl') (by rfl'))
   · exact absurd g1 (hp.2 g (by rfl') (by rfl'))
def z2J(fs:List (Nat×Nat)):Nat:=(fs.map (·.2)).foldl (·*·) 1
theorem zjZ(xs:List Nat):∀ t:Nat,xs.foldl (·*·) t=t*xs.foldl (·*·) 1:=by
 induction xs with
 | nil=>intro t;simp
 | cons x xs ih=>intro t;rw[WX,WX,ih (t*x),ih (1*x),vU,Wl]
theorem z5K:z2J []=1:=rfl
theorem z2p(x:Nat×Nat)(fs:List (Nat×Nat)):z2J (x::fs)=x.2*z2J fs:=by
 unfold z2J;rw[wv,WX,zjZ,vU]
theorem z5L(fs gs:List (Nat×Nat)):z2J (fs++gs)=z2J fs*z2J gs:=by
 induction fs with
 | nil=>rw[vC,z5K,vU]
 | cons x fs ih=>rw[v6,z2p,z2p,ih,Wl]
def PrW(x:Nat×Nat):Prop:=Pr x.1/\∃ e,x.2=x.1 ^ (e+1)
structure PPs(N p l:Nat)(fs:List (Nat×Nat)):Prop where
 lpos:0<l
 p2:2<=p
 nod:∀ d,2<=d->d<p->¬d∣l
 prod:z2J fs*l=N
 each:∀ x∈fs,PrW x/\x.1<p
 sort:fs.Pairwise λx y=>x.1<y.1
theorem PPs.start{N:Nat}(h:0<N):PPs N 2 N []:=⟨h,wx 2,λd h1 h2=>by rfl',by rw[z5K,vU],λx hx=>by(cases hx),.nil⟩
theorem PPs.first{N p l:Nat}{fs:List (Nat×Nat)}(P:PPs N p l fs)(h:p∣l):Pr p :=
 ⟨P.p2,λd h1 h2 h3=>P.nod d h1 h2 (vZ h3 h)⟩
theorem PPs.take{N p l l' e:Nat}{fs:List (Nat×Nat)}(P:PPs N p l fs)(hp:Pr p)(he:l=p ^ (e+1)*l')(hn:¬p∣l'):PPs N (p+1) l' (fs++[(p,p ^ (e+1))]):=by
 have hl:l'∣l:=⟨p ^ (e+1),by rw[WN];exact he⟩;refine⟨?_,by have:=hp.1;rfl',λd h1 h2 h3=>?_,?_,λx hx=>?_,?_⟩
 · rcases Nat.eq_zero_or_pos l' with z|z
   · rw[z,Nat.mul_zero]at he;have:=P.lpos;rfl'
   · exact z
 · by_cases z:d=p
   · subst z;exact hn h3
   · exact P.nod d h1 (by rfl') (vZ h3 hl)
 · rw[z5L,z2p,z5K,Vk,Wl,←he];exact P.prod
 · rcases wq.mp hx with h|h
   · obtain⟨a,b⟩:=P.each x h;exact⟨a,by rfl'⟩
   · rw[wP.mp h];exact⟨⟨hp,e,rfl⟩,by show p<p+1;rfl'⟩
 · rw[Vl];exact⟨P.sort,V1 _ _,λx hx y hy=>by rw[wP.mp hy];exact(P.each x hx).2⟩
theorem PPs.skip{N p l:Nat}{fs:List (Nat×Nat)}(P:PPs N p l fs)(hn:¬p∣l):PPs N (p+1) l fs :=
 ⟨P.lpos,by have:=P.p2;omega,fun d h1 h2 h3=>by
  by_cases z:d=p
  · subst z;exact hn h3
  · exact P.nod d h1 (by rfl') h3,P.prod,λx hx=>by obtain⟨a,b⟩:=P.each x hx;exact⟨a,by rfl'⟩,P.sort⟩
structure PPd(N:Nat)(fs:List (Nat×Nat)):Prop where
 prod:z2J fs=N
 each:∀ x∈fs,PrW x
 sort:fs.Pairwise λx y=>x.1<y.1
theorem PPs.done{N p l:Nat}{fs:List (Nat×Nat)}(P:PPs N p l fs)(h:¬1<l):PPd N fs:=by
 have e:l=1:=by have:=P.lpos;rfl'
 have:=P.prod;rw[e,Vk]at this;exact⟨this,λx hx=>(P.each x hx).1,P.sort⟩
theorem zdA{w:Nat}:∀{fs:List (Nat×Nat)},(∀ y∈fs,Nat.Coprime y.2 w)->Nat.Coprime (z2J fs) w
 | [],_=>by rw[z5K];exact Nat.gcd_one_left w
 | y::fs,h=>by rw[z2p];exact Nat.Coprime.mul_left (h y wc) (zdA λz hz=>h z (wa _ hz))
theorem zoG{x y:Nat×Nat}(hx:PrW x)(hy:PrW y)(h:x.1≠y.1):Nat.Coprime x.2 y.2:=by
 obtain⟨p1,e,h1⟩:=hx;obtain⟨p2,f,h2⟩:=hy;rw[h1,h2];exact Nat.Coprime.pow _ _ (p1.cop p2 h)
theorem PPd.cop{N:Nat}{fs:List (Nat×Nat)}(P:PPd N fs){x:Nat×Nat}(hx:x∈fs):∃ o,N=x.2*o/\Nat.Coprime o x.2/\∀ y∈fs,y≠x->y.2∣o:=by
 obtain⟨as,bs,rfl⟩:=vd hx;have e:=P.prod;rw[z5L,z2p]at e;have so:=P.sort;rw[Vl]at so;obtain⟨s1,s2,s3⟩:=so;obtain⟨s4,s5⟩:=wZ.mp s2;have ne:∀ y,y∈as\/y∈bs->y.1≠x.1:=λy hy=>by
   rcases hy with hy|hy
   · have:=s3 y hy x wc;rfl'
   · have:=s4 y hy;rfl'
 have mem:∀ y,y∈as\/y∈bs->y∈as++x::bs:=λy hy=>by
   rcases hy with hy|hy
   · exact WK _ hy
   · exact wK _ (wa _ hy)
 refine⟨z2J as*z2J bs,by rw[←e,vV],?_,λy hy hne=>?_⟩
 · rw[←z5L];exact zdA λy hy=>zoG (P.each y (mem y (wq.mp hy))) (P.each x hx) (ne y (wq.mp hy))
 · have hd:∀{gs:List (Nat×Nat)},y∈gs->y.2∣z2J gs:=λ{gs} h=>by
     obtain⟨cs,ds,rfl⟩:=vd h;rw[z5L,z2p];exact⟨z2J cs*z2J ds,by rw[vV]⟩
   rcases wq.mp hy with h|h
   · exact vZ (hd h) ⟨z2J bs,rfl⟩
   · rcases wn.mp h with h|h
     · exact absurd h hne
     · exact vZ (hd h) ⟨z2J as,WN _ _⟩
theorem PPd.w2{N:Nat}{fs:List (Nat×Nat)}(P:PPd N fs){x:Nat×Nat}(hx:x∈fs):2<=x.2/\x.2∣N:=by
 obtain⟨o,e,_⟩:=P.cop hx;obtain⟨⟨h2,_⟩,k,hk⟩:=P.each x hx;refine⟨?_,⟨o,e⟩⟩;rw[hk,WG];have:0<x.1 ^ k:=Nat.pow_pos (by rfl');exact wG h2 (V9 _ this)
open Lat
theorem zbd{A B:List Row}{v:Vec}(s:Span (vecs A) v)(h:∀ r∈A,r∈B):Span (vecs B) v:=Span.trans (λr hr=>by
 obtain⟨x,hx,rfl⟩:=wf.mp hr;exact Span.mem (z54 (h x hx))) s
end St

end
section
namespace St
open Lat
theorem ziQ{n f:Nat}{b:Row}{bs:List Row}{v:Vec}(B:Asc n f (b::bs))(s:Span (vecs (b::bs)) v)(z:v (z00 b)=0):Span (vecs bs) v:=by
 obtain⟨c,s⟩:=s;have e:=B.coef s;have hc:c=0:=by
  rw[z]at e;rcases W5.mp e.symm with h|h
  · exact h
  · have:=B.2.2.2.1;rfl'
 subst hc;exact Span.congr (λk=>by simp) s
theorem ziR{n f g:Nat}{a:Row}{b:Row}{bs:List Row}(ha:a.length=n)(hh:z00 a<n)(h0:0<hd a)(B:Asc n g (b::bs))(s:Span (vecs (b::bs)) (vec a)):z00 b<=z00 a:=by
 obtain⟨r,hr,e⟩:=B.first s (h:=z00 a) (λk hk=>z0f a k hk) (by show hd a≠0;rfl');rcases wn.mp hr with rfl|hr
 · rfl'
 · have:=(B.2.2.2.2.mem hr).2.1;rfl'
theorem z5M{n:Nat}:∀{B:List Row} {A:List Row} {f g:Nat},Asc n f A->Asc n g B->(∀ a∈A,Span (vecs B) (vec a))->A.length<=B.length
 | [],[],_,_,_,_,_=>wx 0
 | [],a::as,f,g,A,_,h=>by
  have:=h a wc (z00 a);have h4:=A.2.2.2.1;have this:hd a=0:=this;rfl'
 | b::bs,[],_,_,_,_,_=>wQ _
 | b::bs,a::as,f,g,A,B,h=>by
  have hb:=ziR (f:=f) A.1 A.2.2.1 A.2.2.2.1 B (h a wc);have down:∀ x∈as,Span (vecs bs) (vec x):=λx hx=>ziQ B (h x (wa _ hx)) (z0f x _ (by have:=(A.2.2.2.2.mem hx).2.1;rfl'));by_cases e:z00 a=z00 b
  · have:=z5M A.2.2.2.2 B.2.2.2.2 down;rw[wj,wj];rfl'
  · have:=z5M (A:=a::as) A B.2.2.2.2 λx hx=>by
     rcases wn.mp hx with rfl|hx
     · exact ziQ B (h x wc) (z0f x _ (by rfl'))
     · exact down x hx
    rw[wj (a:=b)];rfl'
def Rel:List Row->List Row->List Nat->Prop
 | [],[],[]=>True
 | a::as,b::bs,d::ds=>z00 a=z00 b/\0<d/\hd a=d*hd b/\Span (vecs bs) (λk=>at0 a k-d*at0 b k)/\Rel as bs ds
 | _,_,_=>False
theorem zeE{n:Nat}:∀{B A:List Row} {f g:Nat},Asc n f A->Asc n g B->(∀ a∈A,Span (vecs B) (vec a))->A.length=B.length->∃ ds,Rel A B ds
 | [],[],_,_,_,_,_,_=>⟨[],trivial⟩
 | [],a::as,_,_,_,_,_,h=>by simp at h
 | b::bs,[],_,_,_,_,_,h=>by simp at h
 | b::bs,a::as,f,g,A,B,h,hl=>by
  have hb:=ziR (f:=f) A.1 A.2.2.1 A.2.2.2.1 B (h a wc);have down:∀ x∈as,Span (vecs bs) (vec x):=λx hx=>ziQ B (h x (wa _ hx)) (z0f x _ (by have:=(A.2.2.2.2.mem hx).2.1;rfl'));have e:z00 a=z00 b:=by
   by_cases e:z00 a=z00 b
   · exact e
   · have:=z5M (A:=a::as) A B.2.2.2.2 λx hx=>by
      rcases wn.mp hx with rfl|hx
      · exact ziQ B (h x wc) (z0f x _ (by rfl'))
      · exact down x hx
     rw[wj]at this hl;rw[wj]at hl;rfl'
  obtain⟨ds,r⟩:=zeE A.2.2.2.2 B.2.2.2.2 down (by simpa using hl);obtain⟨c,s⟩:=h a wc;have ec:vec a (z00 b)=c*hd b:=B.coef s;rw[←e]at ec;have ec:hd a=c*hd b:=ec;have c0:0<c:=by
   have h1:=A.2.2.2.1;have h2:=B.2.2.2.1;by_cases z:0<c
   · exact z
   · have:c*hd b<=0:=WI (by rfl') (by rfl');rfl'
  obtain⟨d,rfl⟩:=Int.eq_ofNat_of_zero_le (show 0<=c by rfl');exact⟨d::ds,e,by rfl',ec,s,r⟩
theorem zeF{n:Nat}:∀{A B:List Row} {ds:List Nat} {f g:Nat} {v:Vec},Asc n f A->Asc n g B->Rel A B ds->Span (vecs B) v->∃ t,z0X ds t/\Span (vecs A) (λk=>v k-mix B t k)
 | [],[],[],_,_,v,_,_,_,s=>⟨[],trivial,λk=>by show v k-0=0;have:=s k;rfl'⟩
 | a::as,b::bs,d::ds,f,g,v,A,B,⟨h1,h2,h3,h4,h5⟩,⟨c,s⟩=>by
  have d0:(0:Int)<d:=by rfl'
  have s2:Span (vecs bs) (λk=>v k-c.fdiv d*at0 a k-c.fmod d*at0 b k):=by
   refine Span.congr (λk=>?_) (s.sub (h4.smul (c.fdiv d)));show v k-c*at0 b k-c.fdiv d*(at0 a k-d*at0 b k)=_;have e:c=d*c.fdiv d+c.fmod d:=(vq c d).symm;have e2:c*at0 b k=d*c.fdiv d*at0 b k+c.fmod d*at0 b k:=by rw[←Vh,←e]
   have e3:c.fdiv d*(at0 a k-d*at0 b k)=c.fdiv d*at0 a k-d*c.fdiv d*at0 b k:=by rw[WM,←Wd,wL (c.fdiv d) (d:Int)]
   rfl'
  obtain⟨t,ht,st⟩:=zeF A.2.2.2.2 B.2.2.2.2 h5 s2;refine⟨c.fmod d::t,⟨W6 c d0,Wg c d0,ht⟩,c.fdiv d,Span.congr (λk=>?_) st⟩;show v k-c.fdiv d*at0 a k-c.fmod d*at0 b k-mix bs t k=v k-(c.fmod d*at0 b k+mix bs t k)-c.fdiv d*vec a k;show v k-c.fdiv d*at0 a k-c.fmod d*at0 b k-mix bs t k=v k-(c.fmod d*at0 b k+mix bs t k)-c.fdiv d*at0 a k;rfl'
theorem zeG{n:Nat}:∀{A B:List Row} {ds:List Nat} {f g:Nat} {s t:List Int},Asc n f A->Asc n g B->Rel A B ds->z0X ds s->z0X ds t->Span (vecs A) (λk=>mix B s k-mix B t k)->s=t
 | [],[],[],_,_,[],[],_,_,_,_,_,_=>rfl
 | a::as,b::bs,d::ds,f,g,x::s,y::t,A,B,⟨h1,h2,h3,h4,h5⟩,⟨x0,x1,hs⟩,⟨y0,y1,ht⟩,sp=>by
  obtain⟨c,sp⟩:=sp;have z:(λk=>mix (b::bs) (x::s) k-mix (b::bs) (y::t) k) (z00 a)=c*hd a:=A.coef sp;have ms:∀ u:List Int,mix bs u (z00 a)=0:=λu=>B.2.2.2.2.low (z4v u) _ (by rfl');have z:(x*at0 b (z00 a)+mix bs s (z00 a))-(y*at0 b (z00 a)+mix bs t (z00 a))=c*hd a:=z;rw[ms,ms,h3,h1]at z;have z:(x*hd b+0)-(y*hd b+0)=c*(d*hd b):=z;have z2:(x-y-c*d)*hd b=0:=by rw[vg,vg,Wd];rfl'
  have hb:=B.2.2.2.1;have z3:x-y=c*d:=by
   rcases W5.mp z2 with h|h
   · rfl'
   · rfl'
  have c0:c=0:=by
   by_cases p:1<=c
   · have:(1:Int)*d<=c*d:=W9 p (by rfl');rfl'
   · by_cases q:c <= -1
     · have:c*d <= -1*d:=W9 q (by rfl');rfl'
     · rfl'
  subst c0;have e:x=y:=by rfl'
  subst e;congr 1;refine zeG A.2.2.2.2 B.2.2.2.2 h5 hs ht (Span.congr (λk=>?_) sp);show(x*at0 b k+mix bs s k)-(x*at0 b k+mix bs t k)-0*vec a k=mix bs s k-mix bs t k;rfl'
theorem z9J{n:Nat}:∀{A B:List Row} {ds:List Nat} {f g:Nat} {v:Vec},Asc n f A->Asc n g B->Rel A B ds->Span (vecs B) v->Span (vecs A) (λk=>(prod ds:Int)*v k)
 | [],[],[],_,_,v,_,_,_,s=>λk=>by show(1:Int)*v k=0;rw[s k];rfl
 | a::as,b::bs,d::ds,f,g,v,A,B,⟨h1,h2,h3,h4,h5⟩,⟨c,s⟩=>by
  have s2:Span (vecs bs) (λk=>d*v k-c*at0 a k):=by
   refine Span.congr (λk=>?_) ((s.smul (d:Int)).sub (h4.smul c));show(d:Int)*(v k-c*at0 b k)-c*(at0 a k-d*at0 b k)=_;rw[WM,WM,WO];rfl'
  refine⟨(prod ds:Int)*c,Span.congr (λk=>?_) (z9J A.2.2.2.2 B.2.2.2.2 h5 s2)⟩;show(prod ds:Int)*(d*v k-c*at0 a k)=((d*prod ds:Nat):Int)*v k-(prod ds:Int)*c*at0 a k;rw[WM,VZ,←Wd,←Wd,wL (prod ds:Int) (d:Int)]
theorem zcm:∀{A B:List Row} {ds:List Nat},Rel A B ds->0<prod ds
 | [],[],[],_=>by show 0<1;decide
 | _::_,_::_,_::_,⟨_,h2,_,_,h5⟩=>vT h2 (zcm h5)
theorem ziS{n:Nat}:∀{B:List Row} {g:Nat} (k:Row->Int),Asc n g B->(∀ b∈B,0<k b)->Asc n g (B.map λb=>b.map (k b*·))
 | [],_,_,_,_=>trivial
 | b::bs,g,k,⟨h1,h2,h3,h4,h5⟩,hk=>by
  have kb:=hk b wc;have at_:∀ i,at0 (b.map (k b*·)) i=k b*at0 b i:=λi=>by
    unfold at0;rw[List.getD,List.getD,wu];cases b[i]? with
    | none=>exact(WE _).symm
    | some x=>rfl
  have hh:z00 (b.map (k b*·))=z00 b:=by
    refine z1r _ _ (λi hi=>by rw[at_,z0f b i hi,WE]) ?_;rw[at_];intro z;rcases W5.mp z with z|z
    · rfl'
    · have h4:0<at0 b (z00 b):=h4;rfl'
  refine⟨by rw[wo];exact h1,by rw[hh];exact h2,by rw[hh];exact h3,?_,?_⟩
  · unfold hd;rw[hh,at_];exact Vm kb h4
  · rw[hh];exact ziS k h5 λx hx=>hk x (wa _ hx)
theorem z9K{n f g:Nat}{A B:List Row}(a:Asc n f A)(b:Asc n g B)(h:∀ r∈B,∃ k:Int,k≠0/\Span (vecs A) (λi=>k*at0 r i)):B.length<=A.length:=by
 have h2:∀ r∈B,∃ k:Int,0<k/\Span (vecs A) (λi=>k*at0 r i):=λr hr=>by
  obtain⟨k,k0,s⟩:=h r hr;by_cases z:0<k
  · exact⟨k,z,s⟩
  · exact⟨-k,by rfl',Span.congr (λi=>by show -(k*at0 r i) = -k*at0 r i;rw[vS]) s.neg⟩
 have h3:∀ r:Row,∃ k:Int,r∈B->(0<k/\Span (vecs A) (λi=>k*at0 r i)):=λr=>by
  by_cases hr:r∈B
  · obtain⟨k,q⟩:=h2 r hr;exact⟨k,λ_=>q⟩
  · exact⟨0,λz=>absurd z hr⟩
 have h4:∃ k:Row->Int,∀ r∈B,0<k r/\Span (vecs A) (λi=>k r*at0 r i):=⟨λr=>wS (h3 r),λr hr=>wE (h3 r) hr⟩;obtain⟨k,hk⟩:=h4;have:=z5M (ziS k b λr hr=>(hk r hr).1) a λx hx=>by
  obtain⟨r,hr,rfl⟩:=wf.mp hx;refine Span.congr (λi=>?_) (hk r hr).2;show k r*at0 r i=at0 (r.map (k r*·)) i;unfold at0;rw[List.getD,List.getD,wu];cases r[i]? with
  | none=>exact WE _
  | some x=>rfl
 rwa [wo]at this
structure Mj(n:Nat)(M O T J:List Row):Prop where
 aM:Asc n 0 M
 aO:Asc n 0 O
 aT:Asc n 0 T
 aJ:Asc n 0 J
 met:∀ v,Span (vecs M) v↔Span (vecs O) v/\Span (vecs T) v
 join:∀ v,Span (vecs J) v↔∃ x y:Vec,Span (vecs O) x/\Span (vecs T) y/\∀ k,v k=x k+y k
theorem Mj.inO{n:Nat}{M O T J:List Row}(q:Mj n M O T J){v:Vec}(s:Span (vecs O) v):Span (vecs J) v:=(q.join v).mpr ⟨v,λ_=>0,s,Span.zero,λk=>(Int.add_zero _).symm⟩
theorem Mj.inT{n:Nat}{M O T J:List Row}(q:Mj n M O T J){v:Vec}(s:Span (vecs T) v):Span (vecs J) v:=(q.join v).mpr ⟨λ_=>0,v,Span.zero,s,λk=>(VC _).symm⟩
theorem z1q{S:List Row}{r:Row}(h:r∈S):Span (vecs S) (vec r):=Span.mem (z54 h)
theorem Mj.len{n:Nat}{M O T J:List Row}(q:Mj n M O T J):M.length<O.length↔T.length<J.length:=by
 have hMO:M.length<=O.length:=z5M q.aM q.aO λa ha=>((q.met _).mp (z1q ha)).1;have hTJ:T.length<=J.length:=z5M q.aT q.aJ λa ha=>q.inT (z1q ha);constructor
 · intro h;by_cases z:T.length<J.length
   · exact z
   · exfalso;obtain⟨es,r⟩:=zeE q.aT q.aJ (λa ha=>q.inT (z1q ha)) (by rfl');have:=z9K q.aM q.aO λx hx=>⟨(prod es:Int),by have:=zcm r;rfl',(q.met _).mpr ⟨(z1q hx).smul _,z9J q.aT q.aJ r (q.inO (z1q hx))⟩⟩;rfl'
 · intro h;by_cases z:M.length<O.length
   · exact z
   · exfalso;obtain⟨ds,r⟩:=zeE q.aM q.aO (λa ha=>((q.met _).mp (z1q ha)).1) (by rfl');have:=z9K q.aT q.aJ λx hx=>by
      obtain⟨u,w,hu,hw,e⟩:=(q.join _).mp (z1q hx);refine⟨(prod ds:Int),by have:=zcm r;rfl',Span.congr (λk=>?_) (((q.met _).mp (z9J q.aM q.aO r hu)).2.add (hw.smul (prod ds:Int)))⟩;show(prod ds:Int)*u k+(prod ds:Int)*w k=(prod ds:Int)*at0 x k;rw[←vw];have:=e k;rw[←this]
     rfl'
theorem Mj.prod{n:Nat}{M O T J:List Row}{ds es:List Nat}(q:Mj n M O T J)(r1:Rel M O ds)(r2:Rel T J es):Lat.prod ds=Lat.prod es:=by
 have E1:∀ t:List Int,∃ u,z0X ds t->(z0X es u/\Span (vecs T) (λk=>mix O t k-mix J u k)):=λt=>by
   obtain⟨u,h1,h2⟩:=zeF q.aT q.aJ r2 (q.inO (z4v (R:=O) t));exact⟨u,λ_=>⟨h1,h2⟩⟩
 have E2:∀ u:List Int,∃ t,z0X es u->(z0X ds t/\Span (vecs T) (λk=>mix J u k-mix O t k)):=λu=>by
   obtain⟨x,y,hx,hy,e⟩:=(q.join _).mp (z4v (R:=J) u);obtain⟨t,h1,h2⟩:=zeF q.aM q.aO r1 hx;refine⟨t,λ_=>⟨h1,Span.congr (λk=>?_) (((q.met _).mp h2).2.add hy)⟩⟩;show x k-mix O t k+y k=mix J u k-mix O t k;have:=e k;rfl'
 refine VX (z8W (λt=>wS (E1 t)) (λs t hs ht e=>?_) λs hs=>(wE (E1 s) hs).1) (z8W (λu=>wS (E2 u)) (λs t hs ht e=>?_) λs hs=>(wE (E2 s) hs).1)
 · have a:=(wE (E1 s) hs).2;have b:=(wE (E1 t) ht).2;have e:wS (E1 s)=wS (E1 t):=e;rw[←e]at b;refine zeG q.aM q.aO r1 hs ht ((q.met _).mpr ⟨(z4v s).sub (z4v t),Span.congr (λk=>?_) (a.sub b)⟩);show mix O s k-mix J _ k-(mix O t k-mix J _ k)=_;rfl'
 · have a:=(wE (E2 s) hs).2;have b:=(wE (E2 t) ht).2;have e:wS (E2 s)=wS (E2 t):=e;rw[←e]at b;refine zeG q.aT q.aJ r2 hs ht (Span.congr (λk=>?_) (a.sub b));show mix J s k-mix O _ k-(mix J t k-mix O _ k)=_;rfl'
end St

end
section
set_option maxHeartbeats 1000000
namespace St
open Lat
theorem z74{a b:Row}{n k:Nat}(h:a.length=n):at0 (a++b) k=if k<n then at0 a k else at0 b (k-n):=z72 h k
theorem ziT(n k:Nat):at0 (List.replicate n 0) k=0:=by
 unfold at0;by_cases h:k<n
 · simp[List.getD,h]
 · simp[List.getD,h]
theorem z5N{A B:List Row}(v:Vec):Span (vecs (A++B)) v↔∃ x y:Vec,Span (vecs A) x/\Span (vecs B) y/\∀ k,v k=x k+y k:=by
 constructor
 · intro s;refine Span.least (P:=λv=>∃ x y:Vec,Span (vecs A) x/\Span (vecs B) y/\∀ k,v k=x k+y k) ?_ ?_ ?_ ?_ s
   · exact⟨_,_,Span.zero,Span.zero,λk=>rfl⟩
   · rintro v w ⟨x,y,a,b,e⟩ ⟨x',y',a',b',e'⟩;exact⟨_,_,a.add a',b.add b',λk=>by show v k+w k=_;rw[e,e'];rfl'⟩
   · rintro c v ⟨x,y,a,b,e⟩;exact⟨_,_,a.smul c,b.smul c,λk=>by show c*v k=_;rw[e,vw]⟩
   · intro g hg;obtain⟨r,hr,rfl⟩:=wf.mp hg;rcases wq.mp hr with h|h
     · exact⟨_,_,z1q h,Span.zero,λk=>(Int.add_zero _).symm⟩
     · exact⟨_,_,Span.zero,z1q h,λk=>(VC _).symm⟩
 · rintro⟨x,y,a,b,e⟩;exact Span.congr (λk=>(e k).symm) ((zbd a λr hr=>wq.mpr (.inl hr)).add (zbd b λr hr=>wq.mpr (.inr hr)))
end St

end
section
set_option maxHeartbeats 1000000
namespace St
open Lat
def z75(table rungs:List Row):List Row:=z3N table++rungs.map (λr=>r++List.replicate table.length 0)
theorem zlg(n:Nat)(r:Row):vec (r++List.replicate n 0)=vec r:=funext λk=>by
 show at0 (r++List.replicate n 0) k=at0 r k;rw[z74 rfl];split
 · rfl
 · rw[ziT,z0x (r:=r) (by rfl')]
theorem zk0(n:Nat)(S:List Row):vecs (S.map λr=>r++List.replicate n 0)=vecs S:=by
 show List.map vec (List.map _ S)=List.map vec S;rw[wW];exact vE λr _=>zlg n r
end St

end
section
namespace St
open Lat
def sm:Nat->(Nat->Int)->Int
 | 0,_=>0
 | m+1,f=>f 0+sm m (λk=>f (k+1))
theorem z0h:∀{m:Nat} {f g:Nat->Int},(∀ k,k<m->f k=g k)->sm m f=sm m g
 | 0,_,_,_=>rfl
 | m+1,f,g,h=>by rw[sm,sm,h 0 (by rfl'),z0h λk hk=>h (k+1) (by rfl')]
theorem z0z{m:Nat}{f:Nat->Int}(h:∀ k,k<m->f k=0):sm m f=0:=by
 rw[z0h h]
 induction m with
 | zero=>rfl
 | succ m ih=>rw[sm,ih λk hk=>h k (by rfl')];rfl
theorem z7P:∀(m:Nat) (f g:Nat->Int),sm m (λk=>f k+g k)=sm m f+sm m g
 | 0,_,_=>rfl
 | m+1,f,g=>by rw[sm,sm,sm,z7P m];rfl'
theorem z1Y(c:Int):∀(m:Nat) (f:Nat->Int),sm m (λk=>c*f k)=c*sm m f
 | 0,_=>by simp[sm]
 | m+1,f=>by rw[sm,sm,z1Y c m,vw]
theorem zcn(c:Int)(m:Nat)(f:Nat->Int):sm m (λk=>f k*c)=sm m f*c:=by
 rw[wL,←z1Y];exact z0h λk _=>wL _ _
theorem z6s(m:Nat)(f g:Nat->Int):sm m (λk=>f k-g k)=sm m f-sm m g:=by
 have:=z7P m f (λk=>(-1)*g k);rw[z1Y]at this;rw[z0h (g:=λk=>f k+(-1)*g k) λk _=>by rfl',this];rfl'
theorem z76:∀(m p:Nat) (f:Nat->Nat->Int),sm m (λi=>sm p (λj=>f i j))=sm p (λj=>sm m (λi=>f i j))
 | 0,p,f=>by rw[sm];exact(z0z λk _=>rfl).symm
 | m+1,p,f=>by rw[sm,z76 m p,←z7P];rfl
theorem z1Q:∀{m i:Nat} {f:Nat->Int},i<m->(∀ k,k<m->k≠i->f k=0)->sm m f=f i
 | m+1,0,f,_,z=>by rw[sm,z0z λk hk=>z (k+1) (by rfl') (by rfl')];rfl'
 | m+1,i+1,f,h,z=>by rw[sm,z 0 (by rfl') (by rfl'),z1Q (i:=i) (by rfl') λk hk hn=>z (k+1) (by rfl') (by rfl')];rfl'
def ent(A:List Row)(i j:Nat):Int:=at0 (A.getD i []) j
theorem zoH(k:Nat):at0 [] k=0:=by simp[at0]
theorem z0J{A:List Row}{i:Nat}(h:A.length<=i)(j:Nat):ent A i j=0:=by
 unfold ent;rw[show A.getD i []=[] by simp[List.getD,wN h],zoH]
theorem zco{A:List Row}{m i j:Nat}(hl:∀ r∈A,r.length=m)(h:m<=j):ent A i j=0:=by
 by_cases hi:i<A.length
 · unfold ent;exact z0x (by rw[hl _ (z17 hi)];exact h)
 · exact z0J (by rfl') j
theorem zdB(r:Row)(A:List Row)(i j:Nat):ent (r::A) (i+1) j=ent A i j:=rfl
theorem z18:∀{A:List Row} {v:Vec},Span (vecs A) v↔∃ c:Nat->Int,∀ k,v k=sm A.length (λi=>c i*ent A i k)
 | [],v=>⟨λh=>⟨λ_=>0,h⟩,λ⟨_,h⟩=>h⟩
 | r::A,v=>by
  constructor
  · rintro⟨c0,h⟩;obtain⟨c,h⟩:=z18.mp h;refine⟨λi=>match i with|0=>c0|i+1=>c i,λk=>?_⟩;have:v k-c0*at0 r k=sm A.length (λi=>c i*ent A i k):=h k;rw[wj,sm];show v k=c0*at0 r k+sm A.length (λi=>c i*ent A i k);rfl'
  · rintro⟨c,h⟩;refine⟨c 0,z18.mpr ⟨λi=>c (i+1),λk=>?_⟩⟩;have:=h k;rw[wj,sm]at this;show v k-c 0*at0 r k=sm A.length (λi=>c (i+1)*ent A i k);have e:ent (r::A) 0 k=at0 r k:=rfl;rw[e]at this;simp only[zdB]at this;rfl'
theorem z2d{A:List Row}{i:Nat}(h:i<A.length):Span (vecs A) (λk=>ent A i k):=z0c (z17 h)
def trn(m:Nat)(A:List Row):List Row:=(List.range m).map λk=>A.map λr=>at0 r k
theorem z0T(m:Nat)(A:List Row):(trn m A).length=m:=by simp[trn]
theorem z2Y{m:Nat}{A:List Row}{r:Row}(h:r∈trn m A):r.length=A.length:=by
 obtain⟨k,_,rfl⟩:=wf.mp h;simp
theorem zlh(m:Nat)(A:List Row)(k i:Nat):ent (trn m A) k i=if k<m then ent A i k else 0:=by
 by_cases h:k<m
 · rw[if_pos h];unfold ent trn at0;rw[show((List.range m).map λk=>A.map λr=>r.getD k 0).getD k []=A.map λr=>r.getD k 0 by simp[List.getD,h]];by_cases hi:i<A.length
   · simp[List.getD,w8 hi]
   · simp[List.getD,wN (Ww hi)]
 · rw[if_neg h,z0J (by rw[z0T];rfl')]
theorem z1j{m:Nat}{A:List Row}(hl:∀ r∈A,r.length=m)(k i:Nat):ent (trn m A) k i=ent A i k:=by
 rw[zlh];split
 · rfl
 · exact(zco hl (by rfl')).symm
theorem zoI{A B:List Row}{m:Nat}(h:A.length=B.length)(ha:∀ r∈A,r.length=m)(hb:∀ r∈B,r.length=m)(q:∀ i k,ent A i k=ent B i k):A=B:=by
 refine WS h λi h1 h2=>?_;have e1:A.getD i []=A[i]:=by simp[List.getD,w8 h1]
 have e2:B.getD i []=B[i]:=by simp[List.getD,w8 h2]
 refine ext0 (by rw[ha _ (W4 h1),hb _ (W4 h2)]) λk=>?_;have:=q i k;unfold ent at this;rw[e1,e2]at this;exact this
theorem zoJ{m p:Nat}{A:List Row}(hl:∀ r∈A,r.length=m)(hp:A.length=p):trn p (trn m A)=A:=by
 refine zoI (m:=m) (by rw[z0T,hp]) (λr hr=>by rw[z2Y hr,z0T]) hl λi k=>?_;rw[z1j (λr hr=>by rw[z2Y hr,hp]),z1j hl]
structure Sq(r:Nat)(A:List Row):Prop where
 asc:Asc r 0 A
 form:Form 0 (z0s A)
 len:A.length=r
theorem zbe{n:Nat}:∀{f:Nat} {S:List Row} {i:Nat},Asc n f S->i<S.length->f+i<=z00 (S.getD i [])/\z00 (S.getD i [])+(S.length-i)<=n
 | f,r::S,0,⟨h1,h2,h3,h4,h5⟩,_=>by
  have:=z5H h5 (by rfl');show f+0<=z00 r/\z00 r+(S.length+1-0)<=n;rfl'
 | f,r::S,i+1,⟨h1,h2,h3,h4,h5⟩,h=>by
  obtain⟨a,b⟩:=zbe (i:=i) h5 (by simpa using h);have e:(r::S).getD (i+1) []=S.getD i []:=rfl;rw[e,wj];rfl'
variable {r:Nat}{A:List Row}
theorem Sq.rows(q:Sq r A):∀ x∈A,x.length=r:=λx hx=>(q.asc.mem hx).1
theorem Sq.head(q:Sq r A){i:Nat}(hi:i<r):z00 (A.getD i [])=i:=by
 have:=zbe q.asc (i:=i) (by rw[q.len];exact hi);have:=q.len;rfl'
theorem Sq.pos(q:Sq r A){i:Nat}(hi:i<r):0<ent A i i:=by
 have:=(z71 q.asc (k:=i) (by rw[q.len];exact hi)).2.2.2;unfold hd at this;rw[q.head hi]at this;exact this
theorem Sq.low(q:Sq r A){i j:Nat}(h:j<i):ent A i j=0:=by
 by_cases hi:i<r
 · exact z0f _ _ (by rw[q.head hi];exact h)
 · exact z0J (by rw[q.len];rfl') j
theorem Sq.red(q:Sq r A){i j:Nat}(h:i<j)(hj:j<r):0<=ent A i j/\ent A i j<ent A j j:=by
 have:=z9D q.form (j:=i) (k:=j) h (by rw[q.len];exact hj);unfold hd at this;rw[q.head hj]at this;exact this
theorem Sq.far(q:Sq r A){i j:Nat}(h:r<=j):ent A i j=0:=zco q.rows h
theorem zcp{n:Nat}:∀{f:Nat} {S:List Row} {v:Vec} {x:Row},Asc n f S->Span (vecs S) v->(∀ k,k<z00 x->v k=0)->x∈S->hd x∣v (z00 x)
 | f,r::S,v,x,A,⟨c,s⟩,z,hx=>by
  have e:=A.coef s;rcases wn.mp hx with rfl|hx
  · exact⟨c,by rw[e];exact wL _ _⟩
  · have hh:=(A.2.2.2.2.mem hx).2.1;have e0:=z (z00 r) (by rfl');have hp:=A.2.2.2.1;have hc:c=0:=by
     rw[e0]at e;rcases W5.mp e.symm with h|h
     · exact h
     · rfl'
    subst hc;exact zcp A.2.2.2.2 (Span.congr (λk=>by simp) s) z hx
theorem Sq.dvd(q:Sq r A){v:Vec}{i:Nat}(hi:i<r)(s:Span (vecs A) v)(z:∀ k,k<i->v k=0):ent A i i∣v i:=by
 have h:=zcp q.asc s (x:=A.getD i []) (λk hk=>z k (by rw[q.head hi]at hk;exact hk)) (z17 (by rw[q.len];exact hi));unfold hd at h;rw[q.head hi]at h;exact h
abbrev pt(i:Nat)(d:Int):Vec:=λk=>if k=i then d else 0
theorem Sq.clean(q:Sq r A){i:Nat}{d:Int}(hi:i<r)(hd:0<d)(h1:Span (vecs A) (pt i d))(h2:∀ y,Span (vecs A) y->d∣y i):∀ k,ent A i k=pt i d k:=by
 have a:=q.dvd hi h1 λk hk=>by simp[pt];rfl'
 have b:=h2 _ (z2d (by rw[q.len];exact hi));have e:ent A i i=d:=VO (Int.le_of_lt (q.pos hi)) (Int.le_of_lt hd) (by simpa[pt]using a) b;have u:Span (vecs A) (λk=>ent A i k-pt i d k):=(z2d (by rw[q.len];exact hi)).sub h1;have z:=Asc.small0 q.asc u λx hx=>by
  obtain⟨j,hj,rfl⟩:=wH hx;have ej:A[j]=A.getD j []:=by simp[List.getD,w8 hj]
  rw[q.len]at hj;have hp:=q.pos hj;unfold St.hd;rw[ej,q.head hj];show 0<=ent A i j-pt i d j/\ent A i j-pt i d j<ent A j j;rcases vW j i with h|h|h
  · rw[q.low h];simp only[pt];rw[if_neg (by rfl')];rfl'
  · subst h;simp only[pt,if_true];rfl'
  · have:=q.red h hj;simp only[pt];rw[if_neg (by rfl')];rfl'
 intro k;have:=z k;rfl'
def Clean(t:Nat)(A:List Row):Prop:=∀ i,i<t->∀ k,k≠i->ent A i k=0
theorem z2K{y:Vec}(hl:∀ x∈A,x.length=r):Span (vecs (trn r A)) y↔∃ c:Nat->Int,∀ k,y k=sm r (λj=>c j*ent A k j):=by
 rw[z18];simp only[z0T,z1j hl]
theorem Clean.dvd(q:Sq r A){t i:Nat}(c:Clean t A)(hi:i<t){y:Vec}(s:Span (vecs (trn r A)) y):ent A i i∣y i:=by
 by_cases hr:i<r
 · obtain⟨c',h⟩:=(z2K q.rows).mp s;rw[h i,z1Q hr λk _ hn=>by rw[c i hi k hn];simp];exact⟨c' i,wL _ _⟩
 · rw[q.far (by rfl')];obtain⟨c',h⟩:=(z2K q.rows).mp s;rw[h i,z0z λk hk=>by rw[c i hi k (by rfl')];simp];exact⟨0,rfl⟩
theorem Clean.col(q:Sq r A){t:Nat}(c:Clean t A){i:Nat}(hi:i<=t)(hr:i<r):Span (vecs (trn r A)) (pt i (ent A i i)):=by
 refine Span.congr (λk=>?_) (z2d (A:=trn r A) (i:=i) (by rw[z0T];exact hr));rw[z1j q.rows];simp only[pt];by_cases h:k=i
 · subst h;rw[if_pos rfl]
 · rw[if_neg h];by_cases hk:k<i
   · exact c k (by rfl') i (by rfl')
   · exact q.low (by rfl')
theorem half{X Y:List Row}{t:Nat}(x:Sq r X)(y:Sq r Y)(s:SameSpan (vecs Y) (vecs (trn r X)))(c:Clean t X)(ht:t<=r):
   Clean t Y/\(∀ i,i<t->ent Y i i=ent X i i)/\(t<r->ent Y t t∣ent X t t/\(ent Y t t=ent X t t->Clean (t+1) Y)):=by
 have key:∀ i,i<t->∀ k,ent Y i k=pt i (ent X i i) k:=λi hi=>y.clean (by rfl') (x.pos (by rfl')) (s.iff.mpr (c.col x (by rfl') (by rfl'))) λv hv=>c.dvd x hi (s.iff.mp hv);have cl:Clean t Y:=λi hi k hn=>by rw[key i hi];simp[pt,hn]
 refine⟨cl,λi hi=>by rw[key i hi];simp[pt],λh=>?_⟩;have sp:=s.iff.mpr (c.col x (wx t) h);have d:=y.dvd h sp λk hk=>by simp[pt];rfl'
 simp only[pt,if_true]at d;refine⟨d,λe=>?_⟩;have k2:=y.clean (i:=t) (d:=ent X t t) h (x.pos h) sp λv hv=>by
   obtain⟨c',hc⟩:=z18.mp hv;rw[hc t,y.len,z1Q h λk hk hn=>?_]
   · rw[e];exact⟨c' t,wL _ _⟩
   · rcases WU hn with hlt|hgt
     · rw[cl k hlt t (by rfl')];simp
     · rw[y.low hgt];simp
 intro i hi k hn;by_cases ht:i<t
 · exact cl i ht k hn
 · have:i=t:=by rfl'
   subst this;rw[k2];simp[pt,hn]
theorem zdC{X Y Z:List Row}{t:Nat}(x:Sq r X)(y:Sq r Y)(z:Sq r Z)(s:SameSpan (vecs Y) (vecs (trn r X)))(s':SameSpan (vecs Z) (vecs (trn r Y)))(c:Clean t X)(ht:t<r):
   Clean t Z/\(Clean (t+1) Z\/ent Z t t<ent X t t):=by
 obtain⟨a1,a2,a3⟩:=half x y s c (by rfl');obtain⟨b1,b2,b3⟩:=half y z s' a1 (by rfl');obtain⟨a4,a5⟩:=a3 ht;obtain⟨b4,b5⟩:=b3 ht;have xp:=x.pos ht;have yp:=y.pos ht;have zp:=z.pos ht;have l1:=Wy xp a4;have l2:=Wy yp b4;refine⟨b1,?_⟩;by_cases e:ent Z t t=ent X t t
 · left;have cy:=a5 (by rfl');obtain⟨d1,_,_⟩:=half y z s' cy (by rfl');exact d1
 · right;rfl'
def z2e(r:Nat)(w:Int)(A:List Row):Prop:=∀ i,i<r->Span (vecs A) (pt i w)
theorem Sq.comm(q:Sq r A){w:Int}(h:z2e r w A):z2e r w (trn r A):=by
 have hM:∃ M:Nat->Nat->Int,∀ i,i<r->∀ k,pt i w k=sm r (λj=>M i j*ent A j k):=by
   have:∀ i,∃ c:Nat->Int,i<r->∀ k,pt i w k=sm r (λj=>c j*ent A j k):=λi=>by
     by_cases hi:i<r
     · obtain⟨c,hc⟩:=z18.mp (h i hi);rw[q.len]at hc;exact⟨c,λ_=>hc⟩
     · exact⟨λ_=>0,λh=>absurd h hi⟩
   exact⟨λi=>wS (this i),λi hi=>wE (this i) hi⟩
 obtain⟨M,hM⟩:=hM;have indep:∀ z:Nat->Int,(∀ k,k<r->sm r (λj=>z j*ent A j k)=0)->∀ j,j<r->z j=0:=λz hz j=>by
   induction j using WW with
   | ind j ih =>
     intro hj;have e:=hz j hj;rw[z1Q hj λk hk hn=>?_]at e
     · rcases W5.mp e with h|h
       · exact h
       · have:=q.pos hj;rfl'
     · rcases WU hn with h|h
       · rw[ih k h hk];simp
       · rw[q.low h];simp
 intro i hi;refine(z2K q.rows).mpr ⟨λj=>M j i,λk=>?_⟩;by_cases hk:k<r
 · have:=indep (λi=>sm r (λj=>M j i*ent A k j)-pt i w k) (λm hm=>?_) i hi
   · have hs:pt i w k=pt k w i:=by simp only[pt];split<;>split<;>first|rfl|rfl'
     show pt i w k=sm r (λj=>M j i*ent A k j);rw[hs];have this:sm r (λj=>M j i*ent A k j)-pt i w k=0:=this;rfl'
   · rw[z0h (g:=λi=>sm r (λj=>(ent A k j*(M j i*ent A i m)))-pt i w k*ent A i m) λi _=>?_]
     · rw[z6s,z76,z0h (g:=λj=>ent A k j*pt j w m) λj hj=>?_]
       · rw[z1Q (i:=m) hm λj _ hn=>by simp only[pt];rw[if_neg (by rfl')];simp];rw[z1Q (i:=k) hk λj _ hn=>by simp only[pt];rw[if_neg (by rfl')];simp];simp only[pt,if_true];rw[wL];rfl'
       · rw[z1Y,←hM j hj m]
     · rw[vg,←zcn];congr 1;exact z0h λj _=>by rw[wL (M j i),Wd]
 · have:pt i w k=0:=by simp only[pt];rw[if_neg (by rfl')]
   rw[show(pt i w) k=0 from this,z0z λj _=>by rw[z0J (A:=A) (i:=k) (by rw[q.len];rfl')];simp]
theorem Sq.whole(q:Sq r A){w:Int}(h:z2e r w A){i:Nat}(hi:i<r):ent A i i∣w:=by
 have:=q.dvd hi (h i hi) λk hk=>by simp[pt];rfl'
 simpa[pt]using this
end St

end
section
namespace St
open Lat
theorem zli:∀{m k:Nat} {f:Nat->Int},k<=m->(∀ i,k<=i->i<m->f i=0)->sm m f=sm k f
 | m,0,f,_,z=>z0z λi hi=>z i (wQ _) hi
 | m+1,k+1,f,h,z=>by rw[sm,sm,zli (k:=k) (by rfl') λi h1 h2=>z (i+1) (by rfl') (by rfl')]
theorem z77{m a:Nat}{c:Nat->Int}{D:Nat->Nat->Int}(hd:∀ l,l<m->D l l≠0)(hl:∀ l j,l<j->j<m->D l j=0)(h:∀ j,a<=j->j<m->sm m (λl=>c l*D l j)=0):
  ∀ d l,l+d=m->a<=l->l<m->c l=0:=λd=>by
 induction d using WW with
 | ind d ih =>
  intro l e ha hm;have q:=h l ha hm;rw[z1Q hm λk hk hn=>?_]at q
  · rcases W5.mp q with q|q
    · exact q
    · exact absurd q (hd l hm)
  · rcases WU hn with x|x
    · rw[hl k l x hm];simp
    · rw[ih (m-k) (by rfl') k (by rfl') (by rfl') hk];simp
theorem z9L{P:List Row}{k i:Nat}(h:i<k)(j:Nat):ent (P.take k) i j=ent P i j:=by
 unfold ent;congr 1;simp[List.getD,Vs,h]
structure Below(r N:Nat)(w:Int)(P:List Row):Prop where
 len:P.length=r
 wid:r<=N
 rows:∀ x∈P,x.length=N
 pos:∀ i,i<r->ent P i i≠0
 low:∀ i j,i<j->j<r->ent P i j=0
 whole:∀ i,i<r->∃ v:Vec,Span (vecs P) v/\v i=w/\∀ k,k<r->k≠i->v k=0
theorem Below.heads{r N:Nat}{w:Int}{P S:List Row}(B:Below r N w P){k:Nat}(hk:k<=r)(A:Asc N 0 S)(s:SameSpan (vecs S) (vecs (P.take k))){x:Row}(hx:x∈S):z00 x<k/\hd x∣w:=by
 have kl:(P.take k).length=k:=by rw[Wq,B.len];rfl'
 obtain⟨c,hc⟩:=z18.mp (s.iff.mp (z0c hx));rw[kl]at hc;have hh:z00 x<k:=by
  refine Nat.lt_of_not_le λhge=>?_;have z:=z77 (m:=k) (a:=0) (c:=c) (D:=λl j=>ent P l j) (λl hl=>B.pos l (by rfl')) (λl j h1 h2=>B.low l j h1 (by rfl')) (λj _ hj=>by
   have:=hc j;rw[z0h (g:=λl=>c l*ent P l j) λl hl=>by rw[z9L hl]]at this;rw[←this];exact z0f x j (by rfl'))
  have:=(A.mem hx).2.2.2;unfold hd at this;have e:=hc (z00 x);rw[z0z λl hl=>by rw[z (k-l) l (by rfl') (by rfl') hl];simp]at e;rfl'
 refine⟨hh,?_⟩;obtain⟨v,v1,v2,v3⟩:=B.whole (z00 x) (by rfl');obtain⟨d,hd'⟩:=z18.mp v1;rw[B.len]at hd';have z:=z77 (m:=r) (a:=z00 x+1) (c:=d) (D:=λl j=>ent P l j) B.pos B.low λj h1 h2=>by rw[←hd' j];exact v3 j h2 (by rfl')
 have sv:Span (vecs S) v:=s.iff.mpr (z18.mpr ⟨d,λj=>by
  rw[hd' j,kl,zli hk λi h1 h2=>by rw[z (r-i) i (by rfl') (by rfl') h2];simp];exact z0h λl hl=>by rw[z9L hl]⟩)
 have:=zcp A sv (x:=x) (λj hj=>v3 j (by rfl') (by rfl')) hx;rw[v2]at this;exact this
structure Lin(F:Vec->Int):Prop where
 add:∀ u v:Vec,F (λk=>u k+v k)=F u+F v
 smul:∀(c:Int) (u:Vec),F (λk=>c*u k)=c*F u
theorem Lin.zero{F:Vec->Int}(h:Lin F):F (λ_=>0)=0:=by
 have:=h.smul 0 (λ_=>0);simpa using this
theorem Lin.sum{F:Vec->Int}(h:Lin F):∀(m:Nat) (c:Nat->Int) (R:Nat->Vec),F (λk=>sm m (λi=>c i*R i k))=sm m (λi=>c i*F (R i))
 | 0,_,_=>h.zero
 | m+1,c,R=>by
  have:=h.sum m (λi=>c (i+1)) (λi=>R (i+1));rw[sm,←this,←h.smul,←h.add];rfl
theorem Lin.span{F:Vec->Int}(h:Lin F){P:List Row}{v:Vec}(z:∀ l,l<P.length->F (λk=>ent P l k)=0)(s:Span (vecs P) v):F v=0:=by
 obtain⟨c,hc⟩:=z18.mp s;rw[show v=λk=>sm P.length (λi=>c i*ent P i k)from funext hc,h.sum];exact z0z λi hi=>by rw[z i hi];simp
theorem zbf{N:Nat}:∀{f:Nat} {S:List Row} {z:Nat->Int},Asc N f S->(∀ k,sm S.length (λi=>z i*ent S i k)=0)->∀ i,i<S.length->z i=0
 | f,r::S,z,A,h,i,hi=>by
  have e:=h (z00 r);rw[wj,sm,z0z λk hk=>?_]at e
  · have z0:z 0=0:=by
     have p:=A.2.2.2.1;have e:z 0*hd r+0=0:=e;rcases W5.mp (show z 0*hd r=0 by rfl')with q|q
     · exact q
     · rfl'
    match i,hi with
    | 0,_=>exact z0
    | i+1,hi =>
     refine zbf (z:=λi=>z (i+1)) A.2.2.2.2 (λk=>?_) i (by simpa using hi);have e:=h k;rw[wj,sm,z0]at e;have e:0*ent (r::S) 0 k+sm S.length (λi=>z (i+1)*ent S i k)=0:=e;rfl'
  · rw[zdB];have:=(A.2.2.2.2.mem (z17 hk)).2.1;rw[show ent S k (z00 r)=0 from z0f _ _ (by rfl')];simp
theorem lift{N:Nat}{P S:List Row}(s:SameSpan (vecs P) (vecs S))(A:Asc N 0 S)(ζ:Nat->Int):
  ∃ z:Nat->Int,∀ F,Lin F->(∀ l,l<P.length->F (λk=>ent P l k)=z l)->∀ i,i<S.length->F (λk=>ent S i k)=ζ i:=by
 have hU:∀ i,∃ c:Nat->Int,i<S.length->∀ k,ent S i k=sm P.length (λl=>c l*ent P l k):=λi=>by
  by_cases hi:i<S.length
  · obtain⟨c,hc⟩:=z18.mp (s.iff.mpr (z2d hi));exact⟨c,λ_=>hc⟩
  · exact⟨λ_=>0,λh=>absurd h hi⟩
 have hV:∀ i,∃ c:Nat->Int,i<P.length->∀ k,ent P i k=sm S.length (λl=>c l*ent S l k):=λi=>by
  by_cases hi:i<P.length
  · obtain⟨c,hc⟩:=z18.mp (s.iff.mp (z2d hi));exact⟨c,λ_=>hc⟩
  · exact⟨λ_=>0,λh=>absurd h hi⟩
 obtain⟨U,hU⟩:∃ U:Nat->Nat->Int,∀ i,i<S.length->∀ k,ent S i k=sm P.length (λl=>U i l*ent P l k):=⟨λi=>wS (hU i),λi=>wE (hU i)⟩;obtain⟨V,hV⟩:∃ V:Nat->Nat->Int,∀ i,i<P.length->∀ k,ent P i k=sm S.length (λl=>V i l*ent S l k):=⟨λi=>wS (hV i),λi=>wE (hV i)⟩
 have key:∀ i,i<S.length→∀ m,m<S.length→sm P.length (fun l=>U i l*V l m)=if m=i then 1 else 0:=fun i hi m hm=>by
  have:=zbf (z:=λm=>sm P.length (λl=>U i l*V l m)-if m=i then 1 else 0) A (λk=>?_) m hm
  · have this:sm P.length (λl=>U i l*V l m)-(if m=i then 1 else 0)=0:=this;rfl'
  · rw[z0h (g:=λm=>sm P.length (λl=>U i l*(V l m*ent S m k))-(if m=i then 1 else 0)*ent S m k) λm _=>?_]
    · rw[z6s,z76,z0h (g:=λl=>U i l*ent P l k) λl hl=>by rw[z1Y,←hV l hl k],←hU i hi k,z1Q hi λm _ hn=>by rw[if_neg hn];simp];simp
    · rw[vg,←zcn];congr 1;exact z0h λl _=>by rw[Wd]
 refine⟨λl=>sm S.length (λm=>V l m*ζ m),λF h hF i hi=>?_⟩;rw[show(λk=>ent S i k)=λk=>sm P.length (λl=>U i l*ent P l k)from funext (hU i hi),h.sum P.length (U i) (λl k=>ent P l k)];rw[z0h (g:=λl=>sm S.length (λm=>U i l*V l m*ζ m)) λl hl=>by rw[hF l hl,←z1Y];exact z0h λm _=>(Wd _ _ _).symm];rw[z76,z0h (g:=λm=>(if m=i then 1 else 0)*ζ m) λm hm=>by rw[zcn,key i hi m hm],z1Q hi λm _ hn=>by rw[if_neg hn];simp];simp
def fun_(r n:Nat)(c b v:Vec):Int:=sm n (λk=>v (r+k)*b k)-sm r (λj=>c j*v j)
theorem z90(r n:Nat)(c b:Vec):Lin (fun_ r n c b) where
 add u v:=by
  unfold fun_;rw[z0h (g:=λk=>u (r+k)*b k+v (r+k)*b k) λk _=>Vh _ _ _,z7P,z0h (m:=r) (g:=λj=>c j*u j+c j*v j) λk _=>vw _ _ _,z7P];rfl'
 smul a u:=by
  unfold fun_;rw[z0h (g:=λk=>a*(u (r+k)*b k)) λk _=>Wd _ _ _,z1Y,z0h (m:=r) (g:=λj=>a*(c j*u j)) λk _=>by rw[←Wd,wL (c k),Wd],z1Y,WM]
def EqP(r n:Nat)(P:List Row)(b:Vec):Prop:=∃ c:Vec,∀ l,l<P.length->fun_ r n c b (λk=>ent P l k)=0
theorem EqP.same{r n:Nat}{P S:List Row}{b:Vec}(s:SameSpan (vecs P) (vecs S)):EqP r n P b↔EqP r n S b :=
 ⟨λ⟨c,h⟩=>⟨c,λl hl=>(z90 r n c b).span h (s.iff.mpr (z2d hl))⟩,λ⟨c,h⟩=>⟨c,λl hl=>(z90 r n c b).span h (s.iff.mp (z2d hl))⟩⟩
end St

end
section
namespace St
open Lat
def wts(n:Nat)(W:List Row)(b:Vec):Vec:=λi=>sm n (λk=>ent W i k*b k)
def pair(A W:List Row):List Row:=List.zipWith (·++·) A W
theorem z2f{A W:List Row}(h:A.length=W.length):(pair A W).length=A.length:=by unfold pair;rw[WA];rfl'
theorem zlj{A W:List Row}{i:Nat}(h:i<A.length)(h':i<W.length):(pair A W).getD i []=A.getD i []++W.getD i []:=by
 simp[pair,List.getD,vp,w8 h,w8 h']
theorem z58{r n:Nat}{A W:List Row}(ha:∀ x∈A,x.length=r){i:Nat}(h:i<A.length)(h':i<W.length)(k:Nat):ent (pair A W) i k=if k<r then ent A i k else ent W i (k-r):=by
 unfold ent;rw[zlj h h',z72 (ha _ (z17 h))]
theorem zbg{r n:Nat}{A W:List Row}(ha:∀ x∈A,x.length=r)(hw:∀ x∈W,x.length=n):∀ x∈pair A W,x.length=r+n:=λx hx=>by
 obtain⟨i,hi,rfl⟩:=wH hx;simp only[pair,Vn,wI];rw[ha _ (W4 _),hw _ (W4 _)]
theorem z59{r n:Nat}{A W:List Row}{b:Vec}(ha:∀ x∈A,x.length=r)(hl:A.length=W.length)(c:Vec)(l:Nat)(h:l<A.length):fun_ r n c b (λk=>ent (pair A W) l k)=wts n W b l-sm r (λj=>c j*ent A l j):=by
 unfold fun_ wts;rw[z0h (g:=λk=>ent W l k*b k) λk _=>by show ent (pair A W) l (r+k)*b k=_;rw[z58 (n:=n) ha h (by rfl'),if_neg (by rfl'),show r+k-r=k by rfl']];rw[z0h (m:=r) (g:=λj=>c j*ent A l j) λj hj=>by show c j*ent (pair A W) l j=_;rw[z58 (n:=n) ha h (by rfl'),if_pos hj]]
theorem ziU{r n:Nat}{A W:List Row}{b:Vec}(ha:∀ x∈A,x.length=r)(hl:A.length=W.length):EqP r n (pair A W) b↔Span (vecs (trn r A)) (wts n W b):=by
 rw[z2K ha];have e:=z59 (r:=r) (n:=n) (b:=b) ha hl;constructor
 · rintro⟨c,h⟩;refine⟨c,λk=>?_⟩;by_cases hk:k<A.length
   · have:=h k (by rw[z2f hl];exact hk);rw[e c k hk]at this;rfl'
   · rw[show wts n W b k=0 from z0z λj _=>by rw[z0J (by rfl')];simp];exact(z0z λj _=>by rw[z0J (by rfl')];simp).symm
 · rintro⟨c,h⟩;refine⟨c,λl hl'=>?_⟩;rw[z2f hl]at hl';rw[e c l hl',h l];rfl'
theorem zeH{r:Nat}{w:Int}{B:List Row}(h:z2e r w B){u:Vec}(hu:∀ k,r<=k->u k=0):Span (vecs B) (λk=>w*u k):=by
 have key:∀ m,m≤r→Span (vecs B) (fun k=>if k<m then w*u k else 0):=fun m=>by
   induction m with
   | zero=>intro _;exact Span.congr (λk=>by simp) Span.zero
   | succ m ih =>
    intro hm;refine Span.congr (λk=>?_) ((ih (by rfl')).add ((h m (by rfl')).smul (u m)));by_cases e:k=m
    · subst e;rw[if_neg (by rfl'),if_pos (by rfl')];simp[pt,wL]
    · simp only[pt,if_neg e];by_cases q:k<m
      · rw[if_pos q,if_pos (by rfl')];simp
      · rw[if_neg q,if_neg (by rfl')];simp
 refine Span.congr (λk=>?_) (key r (wx _));by_cases q:k<r
 · rw[if_pos q]
 · rw[if_neg q,hu k (by rfl')];simp
theorem zk1{r:Nat}{P:List Row}{v:Vec}(s:Span (vecs P) v):Span (vecs (P.map (·.take r))) (λk=>if k<r then v k else 0):=by
 obtain⟨c,h⟩:=z18.mp s;refine z18.mpr ⟨c,λk=>?_⟩;have e:∀ i,ent (P.map (·.take r)) i k=if k<r then ent P i k else 0:=λi=>by
   by_cases hi:i<P.length
   · unfold ent;rw[show(P.map (·.take r)).getD i []=(P.getD i []).take r by simp[List.getD,w8 hi],z1p]
   · rw[z0J (by simpa using Ww hi),z0J (by rfl')];simp
 rw[wo];by_cases hk:k<r
 · rw[if_pos hk,h k];exact z0h λi _=>by rw[e,if_pos hk]
 · rw[if_neg hk];exact(z0z λi _=>by rw[e,if_neg hk];simp).symm
theorem z5O{r:Nat}{P S:List Row}(s:SameSpan (vecs P) (vecs S)):SameSpan (vecs (P.map (·.take r))) (vecs (S.map (·.take r))):=by
 have one:∀{P S:List Row},SameSpan (vecs P) (vecs S)->∀ x∈P.map (·.take r),Span (vecs (S.map (·.take r))) (λk=>at0 x k):=λ{P S} s x hx=>by
  obtain⟨y,hy,rfl⟩:=wf.mp hx;exact Span.congr (λk=>by rw[z1p]) (zk1 (r:=r) (s.iff.mp (z0c hy)))
 exact z4u (one s) (one s.symm)
theorem z5P{r:Nat}{A W:List Row}(ha:∀ x∈A,x.length=r)(hl:A.length=W.length):(pair A W).map (·.take r)=A:=by
 refine WS (by rw[wo,z2f hl]) λi h1 h2=>?_;simp only[pair,List.getElem_map,Vn];rw[u5 (ha _ (W4 _))]
theorem zdD{r:Nat}(S:List Row):pair (S.map (·.take r)) (S.map (·.drop r))=S:=by
 induction S with
 | nil=>rfl
 | cons x S ih=>show(x.take r++x.drop r)::_=_;rw[List.take_append_drop];congr 1
theorem zlk{r N:Nat}{S:List Row}(h:∀ x∈S,z00 x<r):tops r S=S.map (·.take r):=by
 unfold tops;congr 1;exact List.filter_eq_self.mpr λx hx=>decide_eq_true (h x hx)
structure Mst(r n:Nat)(w:Int)(G K A W:List Row):Prop where
 sq:Sq r A
 wl:W.length=r
 wr:∀ x∈W,x.length=n
 whole:z2e r w (trn r A)
 ker:∀ b:Vec,(∀ k,n<=k->b k=0)->(Span (vecs G) b↔(∀ j,j<K.length->wts n K b j=0)/\Span (vecs (trn r A)) (wts n W b))
 onto:∀ ζ κ:Vec,∃ b:Vec,(∀ k,n<=k->b k=0)/\(∀ j,j<K.length->wts n K b j=κ j)/\Span (vecs (trn r A)) (λi=>wts n W b i-if i<r then ζ i else 0)
variable {r n:Nat}{w:Int}{G K A W T S W':List Row}
theorem Mst.rest(m:Mst r n w G K A W)(hl:W'.length=r)(hr:∀ x∈W',x.length=n)(q:Nat->Nat->Int)(e:∀ i k,i<r->ent W' i k=ent W i k-w*q i k):Mst r n w G K A W':=by
 have key:∀ b:Vec,Span (vecs (trn r A)) (λi=>wts n W b i-wts n W' b i):=λb=>by
   refine Span.congr (λi=>?_) (zeH m.whole (u:=λi=>if i<r then sm n (λk=>q i k*b k) else 0) λk hk=>by simp;rfl');by_cases hi:i<r
   · unfold wts;rw[if_pos hi,←z6s,←z1Y];exact z0h λk _=>by rw[e i k hi,vg,Wd];rfl'
   · have z1:wts n W b i=0:=z0z λk _=>by rw[z0J (by rw[m.wl];rfl')];simp
     have z2:wts n W' b i=0:=z0z λk _=>by rw[z0J (by rfl')];simp
     rw[if_neg hi,z1,z2];simp
 refine⟨m.sq,hl,hr,m.whole,λb hb=>?_,λζ κ=>?_⟩
 · rw[m.ker b hb];refine and_congr_right λ_=>⟨λh=>Span.congr (λi=>by rfl') (h.sub (key b)),λh=>Span.congr (λi=>by rfl') (h.add (key b))⟩
 · obtain⟨b,h1,h2,h3⟩:=m.onto ζ κ;exact⟨b,h1,h2,Span.congr (λi=>by rfl') (h3.sub (key b))⟩
theorem Mst.step(m:Mst r n w G K A W)(t:Sq r T)(sT:SameSpan (vecs T) (vecs (trn r A)))(As:Asc (r+n) 0 S)(Fs:Form 0 (z0s S))(sl:S.length=r)(sh:∀ x∈S,z00 x<r)(ss:SameSpan (vecs S) (vecs (pair (trn r T) W))):
   Mst r n w G K (S.map (·.take r)) (S.map (·.drop r)):=by
 have et:tops r S=S.map (·.take r):=zlk (N:=0) sh;obtain⟨a1,a2⟩:=z57 As (show r<=r+n by rfl');rw[et]at a1 a2;have sq:Sq r (S.map (·.take r)):=⟨a1,by rw[←et];exact z5I As Fs (by rfl'),by rw[wo,sl]⟩;have cl:(trn r T).length=r:=z0T _ _;have cr:∀ x∈trn r T,x.length=r:=λx hx=>by rw[z2Y hx,t.len]
 have tt:trn r (trn r T)=T:=zoJ t.rows t.len;have dr:∀ x∈S.map (·.drop r),x.length=n:=λx hx=>by
   obtain⟨y,hy,rfl⟩:=wf.mp hx;rw[Wc,(As.mem hy).1];rfl'
 have hs:=z5O (r:=r) ss;rw[z5P cr (by rw[cl,m.wl])]at hs;have wT:z2e r w T:=λi hi=>sT.iff.mpr (m.whole i hi);have wC:=t.comm wT;have wA:z2e r w (S.map (·.take r)):=λi hi=>hs.iff.mpr (wC i hi);have eq:∀ y,Span (vecs (trn r A)) y↔Span (vecs (trn r (trn r T))) y:=λy=>by rw[tt];exact sT.symm.iff
 have pc:=zdD (r:=r) S;refine⟨sq,by rw[wo,sl],dr,sq.comm wA,λb hb=>?_,λζ κ=>?_⟩
 · rw[m.ker b hb];refine and_congr_right λ_=>?_;rw[eq,←ziU (n:=n) cr (by rw[cl,m.wl]),←ziU (n:=n) sq.rows (by simp),pc];exact EqP.same ss.symm
 · obtain⟨z,hz⟩:=lift ss.symm As ζ;obtain⟨b,h1,h2,h3⟩:=m.onto z κ;refine⟨b,h1,h2,?_⟩;obtain⟨c,hc⟩:=(z2K cr).mp ((eq _).mp h3);have pl:(pair (trn r T) W).length=r:=by rw[z2f (by rw[cl,m.wl]),cl]
   have:=hz (fun_ r n c b) (z90 r n c b) λl hl=>by
     rw[pl]at hl;have e:=hc l;rw[if_pos hl]at e;rw[z59 cr (by rw[cl,m.wl]) c l (by rfl')];rfl'
   refine(z2K sq.rows).mpr ⟨c,λi=>?_⟩;by_cases hi:i<r
   · have e:=this i (by rfl');rw[←pc]at e;rw[z59 sq.rows (by simp) c i (by rw[sq.len];exact hi)]at e;rw[if_pos hi];rfl'
   · rw[if_neg hi,show wts n (S.map (·.drop r)) b i=0 from z0z λk _=>by rw[z0J (by simp[sl];rfl')];simp];rw[z0z λj _=>by rw[z0J (by rw[sq.len];rfl')];simp];rfl
end St

end
section
namespace St
open Lat
def pr(A:List Row):Nat->Int
 | 0=>1
 | k+1=>pr A k*ent A k k
theorem zll{T:List Vec}{R:Nat->Vec}(c:Nat->Int):∀ m,(∀ j,j<m->Span T (R j))->Span T (λk=>sm m (λj=>c j*R j k)):=by
 intro m
 induction m generalizing c R with
 | zero=>intro _;exact Span.zero
 | succ m ih=>intro h;exact((h 0 (by rfl')).smul (c 0)).add (ih (R:=λj=>R (j+1)) (λj=>c (j+1)) λj hj=>h (j+1) (by rfl'))
theorem zdE{D:List Row}(hl:∀ i j,i<j->ent D i j=0):∀ i,i<=D.length->∀ j,j<i->Span (vecs D) (pt j (pr D i)):=by
 intro i
 induction i with
 | zero=>intro _ j hj;rfl'
 | succ i ih =>
  intro hi j hj;have ih:=ih (by rfl');by_cases e:j<i
  · refine Span.congr (λk=>?_) ((ih j e).smul (ent D i i));simp only[pt,pr];split
    · exact wL _ _
    · simp
  · have e:j=i:=by rfl'
    subst e;refine Span.congr (λk=>?_) (((z2d (A:=D) (i:=j) (by rfl')).smul (pr D j)).sub (zll (R:=λl=>pt l (pr D j)) (λl=>ent D j l) j ih));by_cases h1:k<j
    · rw[z1Q h1 λl _ hn=>by simp only[pt];rw[if_neg (by rfl')];simp];simp only[pt,if_true];rw[if_neg (by rfl'),wL];rfl'
    · rw[z0z λl hl=>by simp only[pt];rw[if_neg (by rfl')];simp];by_cases h2:k=j
      · subst h2;simp[pt,pr]
      · rw[hl j k (by rfl')];simp[pt,h2]
theorem zdF{A B:List Row}:∀{k:Nat},(∀ i,i<k->ent A i i=ent B i i)->pr A k=pr B k
 | 0,_=>rfl
 | k+1,h=>by rw[pr,pr,zdF λi hi=>h i (by rfl'),h k (by rfl')]
theorem zeI{A:List Row}:∀{k:Nat},(∀ i,i<k->0<ent A i i)->0<pr A k
 | 0,_=>by show(0:Int)<1;decide
 | k+1,h=>by rw[pr];exact Vm (zeI λi hi=>h i (by rfl')) (h k (by rfl'))
variable {r n:Nat}{w:Int}{G K A W T S:List Row}
theorem Sq.prod(q:Sq r A):z2e r (pr A r) (trn r A):=λi hi=>by
 have:=zdE (D:=trn r A) (λi j h=>by rw[z1j q.rows];exact q.low h) r (by rw[z0T];exact wx _) i hi;rw[zdF (B:=A) λi _=>by rw[z1j q.rows]]at this;exact this
theorem Sq.below(q:Sq r A)(h:z2e r w (trn r A)):Below r r w (trn r A) where
 len:=z0T _ _
 wid:=wx _
 rows x hx:=by rw[z2Y hx,q.len]
 pos i hi:=by rw[z1j q.rows];have:=q.pos hi;rfl'
 low i j h1 h2:=by rw[z1j q.rows];exact q.low h1
 whole i hi:=⟨_,h i hi,by simp[pt],λk _ hn=>by simp[pt,hn]⟩
theorem Sq.below_pair(t:Sq r T)(h:z2e r w (trn r T))(wl:W.length=r)(wr:∀ x∈W,x.length=n):Below r (r+n) w (pair (trn r T) W):=by
 have B:=t.below h;have pl:(pair (trn r T) W).length=r:=by rw[z2f (by rw[B.len,wl]),B.len]
 have e:∀ i k,i<r->k<r->ent (pair (trn r T) W) i k=ent (trn r T) i k:=λi k hi hk=>by
   rw[z58 (n:=n) B.rows (by rw[B.len];exact hi) (by rfl'),if_pos hk]
 refine⟨pl,by rfl',zbg B.rows wr,λi hi=>by rw[e i i hi hi];exact B.pos i hi,λi j h1 h2=>by rw[e i j (by rfl') h2];exact B.low i j h1 h2,λi hi=>?_⟩;obtain⟨c,hc⟩:=z18.mp (h i hi);rw[z0T]at hc;refine⟨λk=>sm r (λl=>c l*ent (pair (trn r T) W) l k),z18.mpr ⟨c,λk=>by rw[pl]⟩,?_,λk hk hn=>?_⟩
 · show sm r (λl=>c l*ent (pair (trn r T) W) l i)=w;rw[z0h (g:=λl=>c l*ent (trn r T) l i) λl hl=>by rw[e l i hl hi],←hc i];simp[pt]
 · show sm r (λl=>c l*ent (pair (trn r T) W) l k)=0;rw[z0h (g:=λl=>c l*ent (trn r T) l k) λl hl=>by rw[e l k hl hk],←hc k];simp[pt,hn]
theorem zeJ:∀{R:List Row} {cs:List Int} (k:Nat),cs.length=R.length->mix R cs k=sm R.length (λi=>at0 cs i*ent R i k)
 | [],[],_,_=>rfl
 | x::R,c::cs,k,h=>by
  rw[mix,wj,sm];show c*at0 x k+mix R cs k=_;rw[zeJ k (by simpa using h)];rfl
theorem Below.ind{N:Nat}{P:List Row}(B:Below r N w P):Ind P:=λcs hl hz c hc=>by
 have z:=z77 (m:=r) (a:=0) (c:=λi=>at0 cs i) (D:=λl j=>ent P l j) B.pos B.low λj _ _=>by
  have:=hz j;rw[zeJ j hl,B.len]at this;exact this
 obtain⟨i,hi,rfl⟩:=wH hc;have e:=z (r-i) i (by rw[hl,B.len]at hi;rfl') (by rfl') (by rw[hl,B.len]at hi;exact hi);simpa[at0,List.getD,w8 hi]using e
theorem Below.full{N:Nat}{P:List Row}(B:Below r N w P)(As:Asc N 0 S)(ss:SameSpan (vecs S) (vecs P)):∀ x∈S,z00 x<r/\hd x∣w:=λx hx =>
 B.heads (wx r) As (by rw[show P.take r=P by rw[←B.len];exact VH];exact ss) hx
def units(n:Nat):List Row:=(List.range n).map (z0k n)
theorem z0Y(n:Nat):(units n).length=n:=by simp[units]
theorem zbh(n:Nat):∀ x∈units n,x.length=n:=λx hx=>by obtain⟨i,_,rfl⟩:=wf.mp hx;exact z23 n i
theorem z7Q{i k:Nat}(hi:i<n):ent (units n) i k=if k=i/\k<n then 1 else 0:=by
 unfold ent units;rw[show((List.range n).map (z0k n)).getD i []=z0k n i by simp[List.getD,hi],z0y]
theorem zk2{f:Nat}(As:Asc r f T)(h:∀ i,i<r->∃ x∈T,z00 x=i):r<=T.length:=by
 have:=z3M (l:=List.range r) (m:=T.map z00) id List.nodup_range (λx _ y _ e=>e) λi hi=>by
  obtain⟨x,hx,e⟩:=h i (wM.mp hi);exact wf.mpr ⟨x,hx,e⟩
 simpa using this
theorem start(Ag:Asc n 0 G)(gl:G.length=r)(As:Asc (r+n) 0 S)(Fs:Form 0 (z0s S))(sl:S.length=n)(ss:SameSpan (vecs S) (vecs (pair (trn n G) (units n)))):
   ∃ W,S.filter (λx=>decide (z00 x<r))=S.take r/\W=(S.take r).map (·.drop r)/\(bots r S).length=n-r/\Mst r n (pr (tops r S) r) G (bots r S) (tops r S) W/\tops r S=(S.take r).map (·.take r)/\r<=n:=by
 have gr:∀ x∈G,x.length=n:=λx hx=>(Ag.mem hx).1;have rn:r<=n:=by have:=z5H Ag (wQ _);rfl'
 have cr:∀ x∈trn n G,x.length=r:=λx hx=>by rw[z2Y hx,gl]
 have cl:(trn n G).length=n:=z0T _ _;obtain⟨a1,a2⟩:=z57 As (show r<=r+n by rfl');have hs:=z5O (r:=r) ss;rw[z5P cr (by rw[cl,z0Y])]at hs;have cover:∀ i,i<r->∃ x∈tops r S,z00 x=i:=λi hi=>by
   let D:List Row:=(List.range r).map λi=>(trn n G).getD (z00 (G.getD i [])) [];have dl:D.length=r:=by simp[D]
   have de:∀ i j,i<r->ent D i j=ent G j (z00 (G.getD i [])):=λi j hi=>by
     have:D.getD i []=(trn n G).getD (z00 (G.getD i [])) []:=by simp[D,List.getD,hi]
     rw[←z1j gr];unfold ent;rw[this]
   have low:∀ i j,i<j->ent D i j=0:=λi j h=>by
     by_cases hi:i<r
     · rw[de i j hi];by_cases hj:j<r
       · exact z0f _ _ (zeD Ag h (by rw[gl];exact hj))
       · exact z0J (by rw[gl];rfl') _
     · exact z0J (by rw[dl];rfl') _
   have sp:=zdE low r (by rw[dl];exact wx _) i hi;have pos:0<pr D r:=zeI λi hi=>by
     rw[de i i hi];exact(z71 Ag (k:=i) (by rw[gl];exact hi)).2.2.2
   have sp2:Span (vecs (trn n G)) (pt i (pr D r)):=Span.trans (λv hv=>by
     obtain⟨x,hx,rfl⟩:=wf.mp hv;obtain⟨j,hj,rfl⟩:=wf.mp hx;have hj:=wM.mp hj;exact z0c (z17 (by rw[cl];exact(z71 Ag (k:=j) (by rw[gl];exact hj)).2.2.1))) sp
   have sp3:=hs.iff.mpr sp2;have sp4:Span (vecs (tops r S)) (pt i (pr D r)):=by
     refine Span.trans (λv hv=>?_) sp3;obtain⟨x,hx,rfl⟩:=wf.mp hv;obtain⟨y,hy,rfl⟩:=wf.mp hx;exact Span.congr (λk=>by simp only[vec];rw[z1p]) (z5J (n:=r) As (z0c hy))
   exact Asc.first a1 sp4 (λk hk=>by simp[pt];rfl') (by simp[pt];rfl')
 have tl:(tops r S).length=r:=by
   have h1:=zk2 a1 cover;have h2:=z5H a1 (wQ _);rfl'
 have fl:(S.filter λx=>decide (z00 x<r)).length=r:=by rw[←a2];exact tl
 have sp:=z9I As (n:=r);have tk:S.filter (λx=>decide (z00 x<r))=S.take r:=by
   have:=congrArg (List.take r) sp;rw[u5 fl]at this;exact this.symm
 have dk:S.filter (λx=>!decide (z00 x<r))=S.drop r:=by
   have:=congrArg (List.drop r) sp;rw[List.drop_left' fl]at this;exact this.symm
 have te:tops r S=(S.take r).map (·.take r):=by unfold tops;rw[tk]
 have be:bots r S=(S.drop r).map (·.drop r):=by unfold bots;rw[dk]
 have bl:(bots r S).length=n-r:=by rw[be,wo,Wc,sl]
 have sq:Sq r (tops r S):=⟨a1,z5I As Fs (by rfl'),tl⟩;have hS:∀ i,i<r->∀ k,ent S i k=ent (pair (tops r S) ((S.take r).map (·.drop r))) i k:=λi hi k=>by
   rw[te,zdD,z9L hi]
 have wl:((S.take r).map (·.drop r)).length=r:=by rw[wo,Wq,sl];rfl'
 have zl:∀ j,j<n-r->∀ k,k<r->ent S (r+j) k=0:=λj hj k hk=>by
   have m:S.getD (r+j) []∈S.filter (λx=>!decide (z00 x<r)):=by
     rw[dk,show S.getD (r+j) []=(S.drop r).getD j [] by simp[List.getD,ve]];exact z17 (by rw[Wc,sl];exact hj)
   have:=(W3.mp m).2;rw[Bool.not_eq_true',decide_eq_false_iff_not]at this;exact z0f _ _ (by rfl')
 have bk:∀ j,j<n-r->∀ k,ent S (r+j) (r+k)=ent (bots r S) j k:=λj hj k=>by
   rw[be];unfold ent;rw[show((S.drop r).map (·.drop r)).getD j []=(S.getD (r+j) []).drop r by simp[List.getD,ve,w8 (show r+j<S.length by rfl')],z2I]
 have fb:∀(c b:Vec) (j:Nat),j<n-r->fun_ r n c b (λk=>ent S (r+j) k)=wts n (bots r S) b j:=λc b j hj=>by
   unfold fun_ wts;rw[z0h (g:=λk=>ent (bots r S) j k*b k) λk _=>by show ent S (r+j) (r+k)*b k=_;rw[bk j hj],z0z (m:=r) λk hk=>by show c k*ent S (r+j) k=0;rw[zl j hj k hk];simp];rfl'
 have fa:∀(c b:Vec) (i:Nat),i<r->fun_ r n c b (λk=>ent S i k)=wts n ((S.take r).map (·.drop r)) b i-sm r (λj=>c j*ent (tops r S) i j):=λc b i hi=>by
   rw[show(λk=>ent S i k)=λk=>ent (pair (tops r S) ((S.take r).map (·.drop r))) i k from funext (hS i hi)];exact z59 sq.rows (by rw[tl,wl]) c i (by rw[tl];exact hi)
 have fp:∀(c b:Vec) (l:Nat),l<n->fun_ r n c b (λk=>ent (pair (trn n G) (units n)) l k)=b l-sm r (λj=>c j*ent G j l):=λc b l hl=>by
   rw[z59 cr (by rw[cl,z0Y]) c l (by rw[cl];exact hl)];congr 1
   · unfold wts;rw[z1Q hl λk _ hn=>by rw[z7Q hl,if_neg (by rfl')];simp,z7Q hl,if_pos ⟨rfl,hl⟩];simp
   · exact z0h λj _=>by rw[z1j gr]
 have pl:(pair (trn n G) (units n)).length=n:=by rw[z2f (by rw[cl,z0Y]),cl]
 refine⟨_,tk,rfl,bl,⟨sq,wl,λx hx=>?_,sq.prod,λb hb=>?_,λζ κ=>?_⟩,te,rn⟩
 · obtain⟨y,hy,rfl⟩:=wf.mp hx;rw[Wc,(As.mem (WP hy)).1];rfl'
 · have e1:Span (vecs G) b↔EqP r n (pair (trn n G) (units n)) b:=by
     rw[z18,gl];constructor
     · rintro⟨c,h⟩;exact⟨c,λl hl=>by rw[fp c b l (by rfl'),h l];rfl'⟩
     · rintro⟨c,h⟩;refine⟨c,λk=>?_⟩;by_cases hk:k<n
       · have:=h k (by rfl');rw[fp c b k hk]at this;rfl'
       · rw[hb k (by rfl')];exact(z0z λj _=>by rw[zco gr (by rfl')];simp).symm
   rw[e1,EqP.same ss.symm,bl,z2K sq.rows];constructor
   · rintro⟨c,h⟩;refine⟨λj hj=>by rw[←fb c b j hj];exact h _ (by rfl'),c,λk=>?_⟩;by_cases hk:k<r
     · have:=h k (by rfl');rw[fa c b k hk]at this;rfl'
     · rw[show wts n ((S.take r).map (·.drop r)) b k=0 from z0z λj _=>by rw[z0J (by rw[wl];rfl')];simp];exact(z0z λj _=>by rw[z0J (by rw[tl];rfl')];simp).symm
   · rintro⟨h1,c,h2⟩;refine⟨c,λl hl=>?_⟩;by_cases hk:l<r
     · rw[fa c b l hk,h2 l];rfl'
     · have:=h1 (l-r) (by rfl');rw[←fb c b (l-r) (by rfl'),show r+(l-r)=l by rfl']at this;exact this
 · obtain⟨z,hz⟩:=lift ss.symm As (λi=>if i<r then ζ i else κ (i-r));have:=hz (fun_ r n (λ_=>0) (λk=>if k<n then z k else 0)) (z90 _ _ _ _) λl hl=>by
     rw[fp _ _ l (by rfl'),if_pos (by rfl'),z0z λj _=>by simp];rfl'
   refine⟨λk=>if k<n then z k else 0,λk hk=>if_neg (by rfl'),λj hj=>?_,?_⟩
   · have e:=this (r+j) (by rfl');rw[fb _ _ j (by rfl'),if_neg (by rfl'),show r+j-r=j by rfl']at e;exact e
   · refine Span.congr (λi=>?_) Span.zero;by_cases hi:i<r
     · have e:=this i (by rfl');rw[fa _ _ i hi,if_pos hi,z0z λj _=>by simp]at e;rw[if_pos hi];rfl'
     · rw[if_neg hi,show wts n ((S.take r).map (·.drop r)) _ i=0 from z0z λj _=>by rw[z0J (by rw[wl];rfl')];simp];rfl
end St

end
section
namespace St
open Lat
abbrev Meas:=List (Row×Int)
def mw(M:Meas)(i:Nat):Row:=(M.getD i ([],0)).1
def mp(M:Meas)(i:Nat):Int:=(M.getD i ([],0)).2
def dt(n:Nat)(w:Row)(b:Vec):Int:=sm n (λk=>at0 w k*b k)
structure Ms(n:Nat)(G:List Row)(M:Meas):Prop where
 rows:∀ x∈M,x.1.length=n
 ker:∀ b:Vec,(∀ k,n<=k->b k=0)->(Span (vecs G) b↔∀ i,i<M.length->mp M i∣dt n (mw M i) b)
 onto:∀ ζ:Vec,∃ b:Vec,(∀ k,n<=k->b k=0)/\∀ i,i<M.length->mp M i∣dt n (mw M i) b-ζ i
variable {n:Nat}{G:List Row}{M M':Meas}
theorem Ms.rest(m:Ms n G M)(hr:∀ x∈M',x.1.length=n)(hl:M'.length=M.length)(hp:∀ i,i<M.length->mp M' i=mp M i)(hd:∀ i,i<M.length->∀ b:Vec,mp M i∣dt n (mw M' i) b-dt n (mw M i) b):Ms n G M':=by
 refine⟨hr,λb hb=>?_,λζ=>?_⟩
 · rw[m.ker b hb,hl];refine forall_congr' λi=>forall_congr' λhi=>?_;rw[hp i hi];have:=hd i hi b;constructor
   · intro h;have:=vh this h;rwa [Int.sub_add_cancel]at this
   · intro h;have:=Int.dvd_sub h this;rwa [show dt n (mw M' i) b-(dt n (mw M' i) b-dt n (mw M i) b)=dt n (mw M i) b by rfl']at this
 · obtain⟨b,h1,h2⟩:=m.onto ζ;refine⟨b,h1,λi hi=>?_⟩;rw[hl]at hi;rw[hp i hi];have:=vh (hd i hi b) (h2 i hi)
   rwa [show dt n (mw M' i) b-dt n (mw M i) b+(dt n (mw M i) b-ζ i)=dt n (mw M' i) b-ζ i by rfl']at this
theorem Ms.link(m:Ms n G M){p q:Nat}{g f1 f2 a b:Int}(hp:p<M.length)(hq:q<M.length)(hn:p≠q)(ea:mp M p=g*a)(eb:mp M q=g*b)(hg:g≠0)(e1:f1*a+f2*b=1)
   (hr:∀ x∈M',x.1.length=n) (hl:M'.length=M.length) (ho:∀ i,i≠p->i≠q->mp M' i=mp M i/\mw M' i=mw M i) (hp1:mp M' p=g) (hq1:mp M' q=a*(g*b))
   (hp2:∀ v:Vec,g∣dt n (mw M' p) v-(dt n (mw M p) v+dt n (mw M q) v)) (hq2:∀ v:Vec,a*(g*b)∣dt n (mw M' q) v-(-(f2*b)*dt n (mw M p) v+f1*a*dt n (mw M q) v)):Ms n G M':=by
 have key:∀ X Y U V:Int,g∣U-(X+Y)->a*(g*b)∣V-(-(f2*b)*X+f1*a*Y)->((g*a∣X/\g*b∣Y)↔(g∣U/\a*(g*b)∣V)):=by
   rintro X Y U V ⟨u,hu⟩ ⟨v,hv⟩;constructor
   · rintro⟨⟨x,rfl⟩,⟨y,rfl⟩⟩;exact⟨⟨u+a*x+b*y,by grind⟩,⟨v-f2*x+f1*y,by grind⟩⟩
   · rintro⟨⟨x,rfl⟩,⟨y,rfl⟩⟩;refine⟨⟨f1*(x-u)-b*(y-v),?_⟩,⟨f2*(x-u)+a*(y-v),?_⟩⟩
     · grind
     · grind
 refine⟨hr,λb' hb=>?_,λζ=>?_⟩
 · rw[m.ker b' hb,hl];have k:=key (dt n (mw M p) b') (dt n (mw M q) b') (dt n (mw M' p) b') (dt n (mw M' q) b') (hp2 b') (hq2 b');constructor
   · intro h i hi;have:=k.mp ⟨by rw[←ea];exact h p hp,by rw[←eb];exact h q hq⟩;by_cases i1:i=p
     · subst i1;rw[hp1];exact this.1
     · by_cases i2:i=q
       · subst i2;rw[hq1];exact this.2
       · rw[(ho i i1 i2).1,(ho i i1 i2).2];exact h i hi
   · intro h i hi;have:=k.mpr ⟨by rw[←hp1];exact h p hp,by rw[←hq1];exact h q hq⟩;by_cases i1:i=p
     · subst i1;rw[ea];exact this.1
     · by_cases i2:i=q
       · subst i2;rw[eb];exact this.2
       · have:=h i hi;rw[(ho i i1 i2).1,(ho i i1 i2).2]at this;exact this
 · obtain⟨v,h1,h2⟩:=m.onto λi=>if i=p then f1*a*ζ p-ζ q else if i=q then f2*b*ζ p+ζ q else ζ i
   refine⟨v,h1,λi hi=>?_⟩;have x1:=h2 p hp;rw[if_pos rfl,ea]at x1;have x2:=h2 q hq;rw[if_neg (by rfl'),if_pos rfl,eb]at x2;have k:=(key (dt n (mw M p) v-(f1*a*ζ p-ζ q)) (dt n (mw M q) v-(f2*b*ζ p+ζ q)) (dt n (mw M' p) v-ζ p) (dt n (mw M' q) v-ζ q)
     (by have:=hp2 v;rwa [show dt n (mw M' p) v-ζ p-(dt n (mw M p) v-(f1*a*ζ p-ζ q)+(dt n (mw M q) v-(f2*b*ζ p+ζ q)))=dt n (mw M' p) v-(dt n (mw M p) v+dt n (mw M q) v) by grind])
     (by have:=hq2 v;rwa [show dt n (mw M' q) v-ζ q-(-(f2*b)*(dt n (mw M p) v-(f1*a*ζ p-ζ q))+f1*a*(dt n (mw M q) v-(f2*b*ζ p+ζ q)))=dt n (mw M' q) v-(-(f2*b)*dt n (mw M p) v+f1*a*dt n (mw M q) v) by grind])).mp ⟨x1,x2⟩
   by_cases i1:i=p
   · subst i1;rw[hp1];exact k.1
   · by_cases i2:i=q
     · subst i2;rw[hq1];exact k.2
     · have:=h2 i (by rfl');rw[if_neg i1,if_neg i2]at this;rw[(ho i i1 i2).1,(ho i i1 i2).2];exact this
theorem zoK{g a b f1 f2 w:Int}(hg:g≠0)(e1:f1*a+f2*b=1)(h1:g*a∣w)(h2:g*b∣w):a*(g*b)∣w:=by
 obtain⟨s,hs⟩:=h1;obtain⟨t,ht⟩:=h2;exact⟨f1*t+f2*s,by grind⟩
theorem zoL{p:Int}{x y:Row}{q:Nat->Int}(e:∀ k,at0 x k=at0 y k-p*q k)(b:Vec):p∣dt n x b-dt n y b:=by
 refine⟨- sm n (λk=>q k*b k),?_⟩;unfold dt;rw[←z6s,z0h (g:=λk=>(-p)*(q k*b k)) λk _=>by rw[e k];grind,z1Y];grind
theorem Mst.meas{r:Nat}{w:Int}{K A W:List Row}(m:Mst r n w G K A W)(hc:Clean r A)(kr:∀ x∈K,x.length=n)(M:Meas)(hl:M.length=r+K.length)(h1:∀ i,i<r->mw M i=W.getD i []/\mp M i=ent A i i)(h2:∀ j,j<K.length->mw M (r+j)=K.getD j []/\mp M (r+j)=0):Ms n G M:=by
 have sp:∀ y:Vec,(∀ k,r<=k->y k=0)->(Span (vecs (trn r A)) y↔∀ i,i<r->ent A i i∣y i):=λy hy=>by
   rw[z2K m.sq.rows];constructor
   · rintro⟨c,h⟩ i hi;rw[h i,z1Q hi λk _ hn=>by rw[hc i hi k hn];simp];exact⟨c i,wL _ _⟩
   · intro h;refine⟨λi=>y i / ent A i i,λk=>?_⟩;by_cases hk:k<r
     · rw[z1Q hk λj _ hn=>by rw[hc k hk j hn];simp];exact(Int.ediv_mul_cancel (h k hk)).symm
     · rw[hy k (by rfl')];exact(z0z λj _=>by rw[z0J (by rw[m.sq.len];rfl')];simp).symm
 have wz:∀ b k,r<=k->wts n W b k=0:=λb k hk=>z0z λj _=>by rw[z0J (by rw[m.wl];exact hk)];simp
 have d1:∀ b i,i<r->dt n (mw M i) b=wts n W b i:=λb i hi=>by rw[(h1 i hi).1];rfl
 have d2:∀ b j,j<K.length->dt n (mw M (r+j)) b=wts n K b j:=λb j hj=>by rw[(h2 j hj).1];rfl
 refine⟨λx hx=>?_,λb hb=>?_,λζ=>?_⟩
 · obtain⟨i,hi,rfl⟩:=wH hx;have e:M[i].1=mw M i:=by simp[mw,List.getD,w8 hi]
   rw[e];by_cases q:i<r
   · rw[(h1 i q).1];exact m.wr _ (z17 (by rw[m.wl];exact q))
   · rw[show i=r+(i-r) by rfl',(h2 (i-r) (by rfl')).1];exact kr _ (z17 (by rfl'))
 · rw[m.ker b hb,sp _ (wz b),hl];constructor
   · rintro⟨a1,a2⟩ i hi;by_cases q:i<r
     · rw[(h1 i q).2,d1 b i q];exact a2 i q
     · rw[show i=r+(i-r) by rfl',(h2 (i-r) (by rfl')).2,d2 b _ (by rfl'),a1 _ (by rfl')];exact vF 0
   · intro h;refine⟨λj hj=>?_,λi hi=>?_⟩
     · have:=h (r+j) (by rfl');rw[(h2 j hj).2,d2 b j hj]at this;exact Int.zero_dvd.mp this
     · have:=h i (by rfl');rw[(h1 i hi).2,d1 b i hi]at this;exact this
 · obtain⟨b,b1,b2,b3⟩:=m.onto ζ (λj=>ζ (r+j));rw[sp _ λk hk=>by rw[wz b k hk,if_neg (by rfl')];rfl]at b3;refine⟨b,b1,λi hi=>?_⟩;by_cases q:i<r
   · have:=b3 i q;rw[if_pos q]at this;rw[(h1 i q).2,d1 b i q];exact this
   · have:=b2 (i-r) (by rfl');rw[show i=r+(i-r) by rfl',(h2 (i-r) (by rfl')).2,d2 b _ (by rfl'),this];simp
end St

end
section
namespace St
open Lat
theorem z5Q:∀{n:Nat} {f:Nat->Nat} {t:List Int},z0X ((List.range n).map f) t↔t.length=n/\∀ i,i<n->0<=at0 t i/\at0 t i<f i:=by
 have key:∀(ns:List Nat) (t:List Int),z0X ns t↔t.length=ns.length∧∀ i,i<ns.length→0≤at0 t i∧at0 t i<(ns.getD i 0:Int):=by
  intro ns
  induction ns with
  | nil =>
   intro t;cases t with
   | nil=>simp[z0X]
   | cons x t=>simp[z0X]
  | cons a ns ih =>
   intro t;cases t with
   | nil=>simp[z0X]
   | cons x t =>
    rw[z0X,ih];constructor
    · rintro⟨h0,h1,h2,h3⟩;refine⟨by simp[h2],λi hi=>?_⟩;cases i with
      | zero=>exact⟨h0,h1⟩
      | succ i=>exact h3 i (by simpa using hi)
    · rintro⟨h2,h3⟩;have a:=h3 0 (by simp);exact⟨a.1,a.2,by simpa using h2,λi hi=>h3 (i+1) (by simpa using hi)⟩
 intro n f t;rw[key];simp only[wo,Wr];refine and_congr_right λ_=>forall_congr' λi=>forall_congr' λhi=>?_;rw[show((List.range n).map f).getD i 0=f i by simp[List.getD,hi]]
def mkr(n:Nat)(f:Nat->Int):Row:=(List.range n).map f
theorem ziV(n:Nat)(f:Nat->Int):(mkr n f).length=n:=by simp[mkr]
theorem ziW{n:Nat}{f:Nat->Int}{k:Nat}(h:k<n):at0 (mkr n f) k=f k:=by simp[at0,mkr,List.getD,h]
theorem zdG{n:Nat}{f:Nat->Int}(hf:∀ k,n<=k->f k=0)(k:Nat):at0 (mkr n f) k=f k:=by
 by_cases h:k<n
 · exact ziW h
 · rw[hf k (by rfl')];exact z0x (by rw[ziV];rfl')
variable {n:Nat}{G:List Row}{M:Meas}
end St

end
section
namespace St
open Lat
theorem zdH(l:List Nat)(x:Nat):prod (l++[x])=prod l*x:=by
 induction l with
 | nil=>simp[prod]
 | cons a l ih=>rw[v6,prod,prod,ih,Wl]
theorem ziX{A:List Row}:∀{r:Nat},(∀ i,i<r->0<ent A i i)->pr A r=(prod ((List.range r).map λi=>(ent A i i).toNat):Int)
 | 0,_=>rfl
 | r+1,h=>by
  have:=h r (by rfl');rw[pr,ziX λi hi=>h i (by rfl'),vB,Wk,wv,Vw,zdH,VZ];congr 1;rfl'
theorem zdI{f:Nat->Nat}{e:Nat}:∀{r:Nat},(∀ i,i<r->f i<=2 ^ e)->prod ((List.range r).map f)<=2 ^ (e*r)
 | 0,_=>by simp[prod]
 | r+1,h=>by
  rw[vB,Wk,wv,Vw,zdH,Nat.mul_succ,Wa];exact Ws (zdI λi hi=>h i (by rfl')) (h r (by rfl'))
variable {r:Nat}{A D:List Row}
theorem zk3(dl:D.length=r)(low:∀ i j,i<j->ent D i j=0)(pos:∀ i,i<r->0<ent D i i):∀ k,k<=r->∀ t:Vec,(∀ j,k<=j->t j=0) ->
  ∃ x:Vec,(∀ j,j<k->0<=x j/\x j<ent D j j)/\(∀ j,k<=j->x j=0)/\Span (vecs D) (λj=>t j-x j):=by
 intro k
 induction k with
 | zero=>intro _ t ht;exact⟨λ_=>0,λj hj=>by rfl',λ_ _=>rfl,Span.congr (λj=>by rw[ht j (by rfl')];rfl) Span.zero⟩
 | succ k ih =>
  intro hk t ht;have p:=pos k (by rfl');obtain⟨f0,f1⟩:=z7M (t k) p;have sd:Span (vecs D) (λj=>ent D k j):=z2d (by rfl');obtain⟨x,x1,x2,x3⟩:=ih (by rfl') (λj=>if j<k then t j-(t k).fdiv (ent D k k)*ent D k j else 0) λj hj=>if_neg (by rfl');refine⟨λj=>if j=k then t k-(t k).fdiv (ent D k k)*ent D k k else x j,λj hj=>?_,λj hj=>?_,?_⟩
  · dsimp only;by_cases e:j=k
    · subst e;rw[if_pos rfl];exact⟨f0,f1⟩
    · rw[if_neg e];exact x1 j (by rfl')
  · dsimp only;rw[if_neg (by rfl')];exact x2 j (by rfl')
  · refine Span.congr (λj=>?_) (x3.add (sd.smul ((t k).fdiv (ent D k k))));dsimp only;by_cases e:j=k
    · subst e;rw[if_neg (by rfl'),if_pos rfl,x2 j (by rfl')];rfl'
    · rw[if_neg e];by_cases h:j<k
      · rw[if_pos h];rfl'
      · rw[if_neg h,low k j (by rfl'),ht j (by rfl')];simp
theorem Sq.prod_bound(q:Sq r A)(dl:D.length=r)(low:∀ i j,i<j->ent D i j=0)(pos:∀ i,i<r->0<ent D i i)(sp:∀ x∈D,Span (vecs A) (λk=>at0 x k)):
   Lat.prod ((List.range r).map λi=>(ent A i i).toNat)<=Lat.prod ((List.range r).map λi=>(ent D i i).toNat):=by
 have sub:∀ v,Span (vecs D) v->Span (vecs A) v:=λv hv=>Span.trans (λu hu=>by obtain⟨x,hx,rfl⟩:=wf.mp hu;exact sp x hx) hv;have ch:∀ t:Row,t.length=r->∃ x:Vec,(∀ j,j<r->0<=x j/\x j<ent D j j)/\(∀ j,r<=j->x j=0)/\Span (vecs D) (λj=>at0 t j-x j):=λt ht=>zk3 dl low pos r (wx _) _ λj hj=>z0x (by rfl');have ch':∀ t:Row,∃ x:Vec,t.length=r->(∀ j,j<r->0<=x j/\x j<ent D j j)/\(∀ j,r<=j->x j=0)/\Span (vecs D) (λj=>at0 t j-x j):=λt=>by
   by_cases h:t.length=r
   · obtain⟨x,hx⟩:=ch t h;exact⟨x,λ_=>hx⟩
   · exact⟨λ_=>0,λh'=>absurd h' h⟩
 refine z8W (λt=>mkr r (wS (ch' t))) (λs t hs ht e=>?_) λs hs=>?_
 · obtain⟨sl,sb⟩:=z5Q.mp hs;obtain⟨tl,tb⟩:=z5Q.mp ht;obtain⟨s1,s2,s3⟩:=wE (ch' s) sl;obtain⟨t1,t2,t3⟩:=wE (ch' t) tl;generalize wS (ch' s)=b at e s1 s2 s3;generalize wS (ch' t)=c at e t1 t2 t3;have e:mkr r b=mkr r c:=e;have bc:∀ k,b k=c k:=λk=>by
     have:=congrArg (λx=>at0 x k) e;simp only[zdG s2,zdG t2]at this;exact this
   have d:Span (vecs A) (λk=>at0 s k-at0 t k):=sub _ (Span.congr (λk=>by have:=bc k;rfl') (s3.sub t3));refine ext0 (by rfl') λk=>?_;have z:=Asc.small q.asc d (λx hx=>by
     obtain⟨j,hj,rfl⟩:=wH hx;have ej:A[j]=A.getD j []:=by simp[List.getD,w8 hj]
     rw[q.len]at hj;unfold hd;rw[ej,q.head hj];have a:=sb j hj;have b:=tb j hj;have p:=q.pos hj;show -(ent A j j)<at0 s j-at0 t j/\at0 s j-at0 t j<ent A j j;rfl') k
   rfl'
 · obtain⟨sl,sb⟩:=z5Q.mp hs;obtain⟨s1,s2,s3⟩:=wE (ch' s) sl;refine z5Q.mpr ⟨ziV _ _,λi hi=>?_⟩;rw[ziW hi];have:=s1 i hi;have p:=pos i hi;rfl'
theorem zdJ{n e:Nat}{G T:List Row}(Ag:Asc n 0 G)(gl:G.length=r)(q:Sq r T)(s:∀ x∈trn n G,Span (vecs T) (λk=>at0 x k))(hb:∀ x∈G,hd x<2 ^ e):pr T r<=2 ^ (e*r):=by
 let D:List Row:=(List.range r).map λi=>(trn n G).getD (z00 (G.getD i [])) [];have gr:∀ x∈G,x.length=n:=λx hx=>(Ag.mem hx).1;have dl:D.length=r:=by simp[D]
 have de:∀ i j,i<r->ent D i j=ent G j (z00 (G.getD i [])):=λi j hi=>by
  have:D.getD i []=(trn n G).getD (z00 (G.getD i [])) []:=by simp[D,List.getD,hi]
  rw[←z1j gr];unfold ent;rw[this]
 have low:∀ i j,i<j->ent D i j=0:=λi j h=>by
  by_cases hi:i<r
  · rw[de i j hi];by_cases hj:j<r
    · exact z0f _ _ (zeD Ag h (by rw[gl];exact hj))
    · exact z0J (by rw[gl];rfl') _
  · exact z0J (by rw[dl];rfl') _
 have pos:∀ i,i<r->0<ent D i i:=λi hi=>by
  rw[de i i hi];exact(z71 Ag (k:=i) (by rw[gl];exact hi)).2.2.2
 have b:=q.prod_bound dl low pos λx hx=>by
  obtain⟨j,hj,rfl⟩:=wf.mp hx;have hj:=wM.mp hj;exact s _ (z17 (by rw[z0T];exact(z71 Ag (k:=j) (by rw[gl];exact hj)).2.2.1))
 have b2:=zdI (f:=λi=>(ent D i i).toNat) (e:=e) (r:=r) λi hi=>by
  have h:ent D i i<2 ^ e:=by rw[de i i hi];exact hb _ (z17 (by rw[gl];exact hi))
  have p2:(0:Int)<2 ^ e:=Int.pow_pos (by decide);have:((2 ^ e:Nat):Int)=(2:Int) ^ e:=by norm_cast
  rfl'
 rw[ziX λi hi=>q.pos hi];have:((2 ^ (e*r):Nat):Int)=(2:Int) ^ (e*r):=by norm_cast
 rfl'
theorem Sq.entry(q:Sq r A){w:Int}(h:z2e r w A)(hw:0<w)(i j:Nat):0<=ent A i j/\ent A i j<=w:=by
 by_cases hj:j<r
 · have d:=Wy hw (q.whole h hj);rcases vW i j with x|x|x
   · have:=q.red x hj;rfl'
   · subst x;have:=q.pos hj;rfl'
   · rw[q.low x];rfl'
 · rw[q.far (by rfl')];rfl'
end St

end
section
namespace St
open Lat
variable {n:Nat}{G:List Row}{M K0:Meas}
theorem z2O{i:Nat}(h:i<M.length):mp (M++K0) i=mp M i/\mw (M++K0) i=mw M i:=by
 unfold mp mw;simp[List.getD,wY h]
theorem z9M{p q i:Nat}{x y:Row×Int}(hpq:p≠q)(hp:p<M.length)(hq:q<M.length):((M.set p x).set q y).getD i ([],0)=if i=q then y else if i=p then x else M.getD i ([],0):=by
 by_cases h1:i=q
 · subst h1;simp[List.getD,hq]
 · rw[if_neg h1];by_cases h2:i=p
   · subst h2;simp[List.getD,Wn,hp,Ne.symm h1,if_neg (Ne.symm h1)]
   · rw[if_neg h2];simp[List.getD,Wn,Ne.symm h1,Ne.symm h2]
theorem z3E{i:Nat}:(M++K0).getD i ([],0)=if i<M.length then M.getD i ([],0) else K0.getD (i-M.length) ([],0):=by
 by_cases h:i<M.length
 · rw[if_pos h];simp[List.getD,wY h]
 · rw[if_neg h];simp[List.getD,W7 (Ww h)]
structure Bz(g f1 f2 a b a' b':Int):Prop where
 gp:0<g
 ea:a=g*a'
 eb:b=g*b'
 one:f1*a'+f2*b'=1
theorem Bz.of{g f1 f2 a b:Int}(gp:0<g)(ga:g∣a)(gb:g∣b)(h:f1*a+f2*b=g):Bz g f1 f2 a b (a / g) (b / g):=by
 obtain⟨a',rfl⟩:=ga;obtain⟨b',rfl⟩:=gb;rw[V0 _ (by rfl'),V0 _ (by rfl')];refine⟨gp,rfl,rfl,?_⟩;have:g*(f1*a'+f2*b')=g*1:=by grind
 exact vM (by rfl') this
theorem zoM{p q:Nat}{g f1 f2 a' b' lc:Int}{u l:Row}{qu ql:Nat->Int}(m:Ms n G (M++K0))(hlc:lc=a'*mp M q)(hpq:p≠q)(hp:p<M.length)(hq:q<M.length)(z:Bz g f1 f2 (mp M p) (mp M q) a' b')(hu:u.length=n)(hl:l.length=n)
   (eu:∀ k,at0 u k=(at0 (mw M p) k+at0 (mw M q) k)-g*qu k) (el:∀ k,at0 l k=((-(f2*b'))*at0 (mw M p) k+(f1*a')*at0 (mw M q) k)-lc*ql k) :
   Ms n G ((M.set p (u,g)).set q (l,lc)++K0):=by
 have len:((M.set p (u,g)).set q (l,lc)).length=M.length:=by simp
 have get:∀ i,((M.set p (u,g)).set q (l,lc)++K0).getD i ([],0)=if i=q then(l,lc) else if i=p then(u,g) else(M++K0).getD i ([],0):=λi=>by
   rw[z3E,len,z9M hpq hp hq];by_cases h1:i=q
   · subst h1;rw[if_pos hq,if_pos rfl,if_pos rfl]
   · by_cases h2:i=p
     · subst h2;rw[if_pos hp,if_neg h1,if_neg h1,if_pos rfl,if_pos rfl]
     · rw[if_neg h1,if_neg h2,if_neg h1,if_neg h2,z3E]
 obtain⟨x1,x2⟩:=z2O (K0:=K0) hp;obtain⟨y1,y2⟩:=z2O (K0:=K0) hq;have dl:∀(x y:Row) (c d:Int) (w:Row) (s:Int) (t:Nat->Int) (v:Vec),(∀ k,at0 w k=(c*at0 x k+d*at0 y k)-s*t k)->s∣dt n w v-(c*dt n x v+d*dt n y v):=λx y c d w s t v h=>by
   refine⟨- sm n (λk=>t k*v k),?_⟩;unfold dt;rw[←z1Y,←z1Y,←z7P,←z6s,z0h (g:=λk=>(-s)*(t k*v k)) λk _=>by rw[h k];grind,z1Y];grind
 have hg:=z.gp;refine m.link (p:=p) (q:=q) (g:=g) (f1:=f1) (f2:=f2) (a:=a') (b:=b') (by rw[wI];rfl') (by rw[wI];rfl') hpq (by rw[x1];exact z.ea) (by rw[y1];exact z.eb) (by rfl') z.one ?_ ?_ ?_ ?_ ?_ ?_ ?_
 · intro x hx;rcases wq.mp hx with hx|hx
   · rcases WJ hx with hx|rfl
     · rcases WJ hx with hx|rfl
       · exact m.rows x (wq.mpr (.inl hx))
       · exact hu
     · exact hl
   · exact m.rows x (wq.mpr (.inr hx))
 · rw[wI,wI,len]
 · intro i h1 h2;unfold mp mw;rw[get,if_neg h2,if_neg h1];exact⟨rfl,rfl⟩
 · unfold mp;rw[get,if_neg hpq,if_pos rfl]
 · have e:=z.eb;unfold mp;rw[get,if_pos rfl];show lc=_;rw[hlc,e]
 · intro v;rw[x2,y2];have h:=dl (mw M p) (mw M q) 1 1 u g qu v λk=>by rw[eu k];rfl'
   rw[show mw ((M.set p (u,g)).set q (l,lc)++K0) p=u by unfold mw;rw[get,if_neg hpq,if_pos rfl]];simpa using h
 · intro v;have e:=z.eb;rw[x2,y2,←e,←hlc];have h:=dl (mw M p) (mw M q) (-(f2*b')) (f1*a') l lc ql v el;rw[show mw ((M.set p (u,g)).set q (l,lc)++K0) q=l by unfold mw;rw[get,if_pos rfl]];exact h
structure Chn(w:Int)(t s:Nat)(M:Meas):Prop where
 pos:∀ i,i<M.length->0<mp M i
 whole:∀ i,i<M.length->mp M i∣w
 all:∀ i j,i<t->i<j->j<M.length->mp M i∣mp M j
 here:∀ j,t<j->j<s->j<M.length->mp M t∣mp M j
theorem Chn.link{w g f1 f2 a' b' lc:Int}{t s:Nat}{u l:Row}(c:Chn w t s M)(hts:t<s)(hs:s<M.length)(z:Bz g f1 f2 (mp M t) (mp M s) a' b')(hlc:lc=a'*mp M s):Chn w t (s+1) ((M.set t (u,g)).set s (l,lc)):=by
 have len:((M.set t (u,g)).set s (l,lc)).length=M.length:=by simp
 have get:∀ i,mp ((M.set t (u,g)).set s (l,lc)) i=if i=s then lc else if i=t then g else mp M i:=λi=>by
   unfold mp;rw[z9M (by rfl') (by rfl') hs];split
   · rfl
   · split<;>rfl
 have hg:=z.gp;have pt:=c.pos t (by rfl');have ps:=c.pos s hs;have ap:0<a':=by
   have e:=z.ea;rcases vQ a' 0 with h|h|h
   · have:=Int.mul_neg_of_pos_of_neg hg h;rfl'
   · rw[h]at e;rfl'
   · exact h
 refine⟨λi hi=>?_,λi hi=>?_,λi j h1 h2 h3=>?_,λj h1 h2 h3=>?_⟩
 · rw[len]at hi;rw[get];split
   · rw[hlc];exact Vm ap ps
   · split
     · exact hg
     · exact c.pos i hi
 · rw[len]at hi;rw[get];split
   · have e:=z.eb;rw[hlc,e];exact zoK (by rfl') z.one (by rw[←z.ea];exact c.whole t (by rfl')) (by rw[←e];exact c.whole s hs)
   · split
     · exact WQ ⟨a',z.ea⟩ (c.whole t (by rfl'))
     · exact c.whole i hi
 · rw[len]at h3;rw[get i,if_neg (by rfl'),if_neg (by rfl'),get j];split
   · rw[hlc];exact WQ (c.all i s h1 (by rfl') hs) ⟨a',wL _ _⟩
   · split
     · have d1:=c.all i t h1 (by rfl') (by rfl');have d2:=c.all i s h1 (by rfl') hs;have e:g=f1*mp M t+f2*mp M s:=by
        rw[z.ea,z.eb];have:=z.one
        grind
       rw[e];exact vh (WQ d1 ⟨f1,wL _ _⟩) (WQ d2 ⟨f2,wL _ _⟩)
     · exact c.all i j h1 h2 h3
 · rw[len]at h3;rw[get t,if_neg (by rfl'),if_pos rfl,get j];split
   · rw[hlc,z.eb];exact⟨a'*b',by grind⟩
   · rw[if_neg (by rfl')];exact WQ ⟨a',z.ea⟩ (c.here j h1 (by rfl') h3)
theorem Chn.next{w:Int}{t s:Nat}(c:Chn w t s M)(h:M.length<=s):Chn w (t+1) (t+2) M :=
 ⟨c.pos,c.whole,fun i j h1 h2 h3=>by
  by_cases e:i<t
  · exact c.all i j e h2 h3
  · have:i=t:=by rfl'
    subst this;exact c.here j h2 (by rfl') h3,λj h1 h2=>by rfl'⟩
theorem Chn.first{w:Int}(hp:∀ i,i<M.length->0<mp M i)(hw:∀ i,i<M.length->mp M i∣w):Chn w 0 1 M:=⟨hp,hw,λi j h=>by rfl',λj h1 h2=>by rfl'⟩
end St

end
section
namespace St
open Lat
theorem Sq.whole_col{r:Nat}{A:List Row}{w:Int}(q:Sq r A)(h:z2e r w (trn r A)){i:Nat}(hi:i<r):ent A i i∣w:=by
 obtain⟨c,hc⟩:=z18.mp (h i hi);rw[z0T]at hc;have B:=q.below h;have z:=z77 (m:=r) (a:=i+1) (c:=c) (D:=λl j=>ent (trn r A) l j) B.pos B.low λj h1 h2=>by rw[←hc j];simp only[pt];rw[if_neg (by rfl')]
 have e:=hc i;rw[z1Q hi λk hk hn=>?_]at e
 · rw[z1j q.rows]at e;simp only[pt,if_true]at e;exact⟨c i,by rw[e];exact wL _ _⟩
 · rcases WU hn with x|x
   · rw[B.low k i x hi];simp
   · rw[z (r-k) k (by rfl') (by rfl') hk];simp
theorem Sq.entryC{r:Nat}{A:List Row}(q:Sq r A){w:Int}(h:z2e r w (trn r A))(hw:0<w)(i j:Nat):0<=ent A i j/\ent A i j<=w:=by
 by_cases hj:j<r
 · have d:=Wy hw (q.whole_col h hj);rcases vW i j with x|x|x
   · have:=q.red x hj;rfl'
   · subst x;have:=q.pos hj;rfl'
   · rw[q.low x];rfl'
 · rw[q.far (by rfl')];rfl'
theorem Good.sq{r N B:Nat}{w:Int}{P S:List Row}(G:Good N B P S)(b:Below r N w P):S.length=r/\∀ x∈S,z00 x<r:=by
 refine⟨by rw[G.full b.ind,b.len],λx hx=>(b.full G.asc G.span x hx).1⟩
end St

end
section
set_option maxHeartbeats 1000000
namespace St
open Lat
theorem zlm{n:Nat}{v:Vec}(h:∀ k,n<=k->v k=0):Span (vecs (units n)) v:=by
 have key:∀ m,m≤n→Span (vecs (units n)) (fun k=>if k<m then v k else 0):=by
   intro m
   induction m with
   | zero=>intro _;exact Span.congr (λk=>by simp) Span.zero
   | succ m ih =>
    intro hm;have hu:z0k n m∈units n:=wf.mpr ⟨m,wM.mpr (by rfl'),rfl⟩;refine Span.congr (λk=>?_) ((ih (by rfl')).add ((z1q hu).smul (v m)));show(if k<m then v k else 0)+v m*at0 (z0k n m) k=if k<m+1 then v k else 0
    rw[z0y];by_cases h1:k<m
    · rw[if_pos h1,if_neg (show ¬(k=m/\k<n) by rfl'),if_pos (show k<m+1 by rfl')];rfl'
    · by_cases h2:k=m
      · subst h2;rw[if_neg h1,if_pos (show k=k/\k<n from⟨rfl,by rfl'⟩),if_pos (show k<k+1 by rfl')];rfl'
      · rw[if_neg h1,if_neg (show ¬(k=m/\k<n) by rfl'),if_neg (show ¬k<m+1 by rfl')];rfl'
 refine Span.congr (λk=>?_) (key n (wx n));by_cases hk:k<n
 · simp only[if_pos hk]
 · simp only[if_neg hk];exact(h k (by rfl')).symm
theorem zk4(n:Nat):Asc n 0 (units n):=by
 have key:∀ m f,f+m=n->Asc n f ((VT f m).map (z0k n)):=by
  intro m
  induction m with
  | zero=>intro f _;exact trivial
  | succ m ih =>
   intro f hf;rw[V4,wv];have hh:z00 (z0k n f)=f:=z1r _ _ (λk hk=>by rw[z0y,if_neg (by rfl')]) (by rw[z0y,if_pos ⟨rfl,by rfl'⟩];decide);refine⟨z23 n f,by rw[hh];exact wx f,by rw[hh];rfl',?_,?_⟩
   · unfold hd;rw[hh,z0y,if_pos ⟨rfl,by rfl'⟩];decide
   · rw[hh];exact ih (f+1) (by rfl')
 have:=key n 0 (by rfl');unfold units;rw[vy];exact this
theorem zeK(n:Nat):Form 0 (z0s (units n)):=by
 have key:∀ m f,f+m=n->Form f (z0s ((VT f m).map (z0k n))):=by
  intro m
  induction m with
  | zero=>intro f _;exact trivial
  | succ m ih =>
   intro f hf;rw[V4,wv];have hh:∀ j,j<n->z00 (z0k n j)=j:=λj hj=>z1r _ _ (λk hk=>by rw[z0y,if_neg (by rfl')]) (by rw[z0y,if_pos ⟨rfl,by rfl'⟩];decide);have h0:=hh f (by rfl');show Form f ((z00 (z0k n f),vec (z0k n f))::z0s _);rw[h0];refine⟨wx f,λk hk=>by show at0 (z0k n f) k=0;rw[z0y,if_neg (by rfl')],by show 0<at0 (z0k n f) f;rw[z0y,if_pos ⟨rfl,by rfl'⟩];decide,λp hp=>?_,ih (f+1) (by rfl')⟩;obtain⟨r,hr,rfl⟩:=wf.mp hp;obtain⟨j,hj,rfl⟩:=wf.mp hr;have hj:=List.mem_range'_1.mp hj;show 0<=at0 (z0k n f) (z00 (z0k n j))/\at0 (z0k n f) (z00 (z0k n j))<at0 (z0k n j) (z00 (z0k n j));rw[hh j (by rfl'),z0y,z0y,if_neg (by rfl'),if_pos ⟨rfl,by rfl'⟩];decide
 have:=key n 0 (by rfl');unfold units;rw[vy];exact this
theorem zk5{n:Nat}{P wr U:List Row}(lP:P.length=n)(hP:∀ r∈P,r.length=n)(hw:∀ r∈wr,r.length=n)(A:Asc (n+n) 0 U)(F:Form 0 (z0s U))(ss:SameSpan (vecs U) (vecs (z75 P wr)))(onto:∀ v:Vec,(∀ k,n<=k->v k=0)->Span (vecs (P++wr)) v):
   ((U.filter λr=>decide (z00 r<n)).map (·.drop n)).length=n/\∀ j,j<n->(((U.filter λr=>decide (z00 r<n)).map (·.drop n)).getD j []).length=n/\Span (vecs wr) (λk=>at0 (z0k n j) k-mix P (((U.filter λr=>decide (z00 r<n)).map (·.drop n)).getD j []) k):=by
 have vf:vecs (z75 P wr)=vecs (z3N P++wr):=by
   unfold z75;show List.map vec _=List.map vec _;rw[Wk,Wk];congr 1;exact zk0 _ _
 obtain⟨tA,tl⟩:=z57 (n:=n) A (by rfl');have tF:=z5I (n:=n) A F (by rfl');have te:tops n U=units n:=by
   refine zbc tA tF (zk4 n) (zeK n) ⟨λv hv=>?_,λv hv=>?_⟩
   · obtain⟨r,hr,rfl⟩:=wf.mp hv;exact zlm λk hk=>z0x (by rw[(tA.mem hr).1];exact hk)
   · obtain⟨r,hr,rfl⟩:=wf.mp hv;obtain⟨j,hj,rfl⟩:=wf.mp hr;have hj:=wM.mp hj;have uo:∀ k,n<=k->at0 (z0k n j) k=0:=λk hk=>z0x (by rw[z23];exact hk);obtain⟨x,y,sx,sy,e⟩:=(z5N _).mp (onto (vec (z0k n j)) uo);obtain⟨c,hc,ec⟩:=z3D sx;have u0:∀ k,at0 ((List.range n).map x++c) k=if k<n then x k else at0 c (k-n):=λk=>by
       rw[z74 (a:=(List.range n).map x) (n:=n) (by simp)];by_cases h:k<n
       · rw[if_pos h,if_pos h];unfold at0;simp[List.getD,h]
       · rw[if_neg h,if_neg h]
     have dr:((List.range n).map x++c).drop n=c:=by
       have:((List.range n).map x).length=n:=by simp
       rw[VP,this,Nat.sub_self,Vg,WB (by rfl')];rfl
     have s1:Span (vecs (z3N P)) (λk=>at0 ((List.range n).map x++c) k):=(z9H hP (by rw[wI,wo,Wr,hc])).mpr λk hk=>by
       rw[u0,if_pos hk,dr,ec k]
     have s2:Span (vecs (z3N P++wr)) (λk=>at0 ((List.range n).map x++c) k+y k):=(z5N _).mpr ⟨_,y,s1,sy,λ_=>rfl⟩;rw[←vf]at s2;refine Span.congr (λk=>?_) (z5J (n:=n) A (ss.iff.mpr s2));show(if k<n then at0 ((List.range n).map x++c) k+y k else 0)=vec (z0k n j) k;by_cases h:k<n
     · rw[if_pos h,u0,if_pos h];exact(e k).symm
     · rw[if_neg h];exact(uo k (by rfl')).symm
 have fl:(U.filter λr=>decide (z00 r<n)).length=n:=by rw[←tl,te,z0Y]
 refine⟨by rw[wo,fl],λj hj=>?_⟩;have hj':j<(U.filter λr=>decide (z00 r<n)).length:=by rfl'
 have hm:=W4 hj';have hU:=(W3.mp hm).1;have et:((U.filter λr=>decide (z00 r<n))[j]).take n=z0k n j:=by
   have q:(tops n U)[j]?=(units n)[j]?:=by rw[te]
   unfold tops units at q;rw[wu,wu,w8 hj',Wz hj]at q;exact Option.some.inj q
 have ed:(((U.filter λr=>decide (z00 r<n)).map (·.drop n)).getD j [])=((U.filter λr=>decide (z00 r<n))[j]).drop n:=by
   rw[List.getD,wu,w8 hj'];rfl
 rw[ed];generalize (U.filter λr=>decide (z00 r<n))[j]=r at *;have lr:=(A.mem hU).1;have ld:(r.drop n).length=n:=by rw[Wc];rfl'
 refine⟨ld,?_⟩;have s1:=ss.iff.mp (z1q hU);rw[vf]at s1;obtain⟨x,y,sx,sy,e⟩:=(z5N _).mp s1;have yo:=zlf hw sy;have er:∀ k,at0 r k=if k<n then at0 (z0k n j) k else at0 (r.drop n) (k-n):=λk=>by
   by_cases h:k<n
   · rw[if_pos h,←et,z1p,if_pos h]
   · rw[if_neg h,z2I,show n+(k-n)=k by rfl']
 have u0:∀ k,at0 ((List.range n).map x++r.drop n) k=x k:=λk=>by
   rw[z74 (a:=(List.range n).map x) (n:=n) (by simp)];by_cases h:k<n
   · rw[if_pos h];unfold at0;simp[List.getD,h]
   · rw[if_neg h];have e:=e k;have e:at0 r k=x k+y k:=e;rw[er,if_neg h,yo k (by rfl')]at e;rfl'
 have dr:((List.range n).map x++r.drop n).drop n=r.drop n:=by
   have:((List.range n).map x).length=n:=by simp
   rw[VP,this,Nat.sub_self,Vg,WB (by rfl')];rfl
 have q:=(z9H hP (by rw[wI,wo,Wr,ld,lP])).mp (Span.congr (λk=>(u0 k).symm) sx);rw[dr]at q;refine Span.congr (λk=>?_) sy;by_cases h:k<n
 · have e:=e k;have e:at0 r k=x k+y k:=e;rw[er,if_pos h,←u0 k,q k h]at e;rfl'
 · rw[yo k (by rfl'),z9 hP k (by rfl'),z0x (r:=z0k n j) (by rw[z23];rfl')];rfl
end St
namespace St
open Lat
theorem ziY(R:List Row)(c:List Int)(k:Nat)(h:c.length=R.length):mix R c k=sm R.length (λi=>at0 c i*at0 (R.getD i []) k):=zeJ k h
theorem zeL{p:Int}:∀{m:Nat} {f:Nat->Int},(∀ i,i<m->p∣f i)->p∣sm m f
 | 0,f,_=>Va _
 | m+1,f,h=>by
  rw[sm];exact vh (h 0 (by rfl')) (zeL λi hi=>h (i+1) (by rfl'))
def z1S(n:Nat)(M:Meas):List Row:=(List.range n).map λj=>(z0k n j).map (mp M j*·)
theorem z9N(n:Nat)(c:Int)(j k:Nat):at0 ((z0k n j).map (c*·)) k=c*at0 (z0k n j) k:=by
 unfold at0;rw[List.getD,List.getD,wu];cases (z0k n j)[k]? with
 | none=>exact(WE _).symm
 | some x=>rfl
theorem z9O(n:Nat)(M:Meas):∀ r∈z1S n M,r.length=n:=λr hr=>by
 obtain⟨j,_,rfl⟩:=wf.mp hr;rw[wo,z23]
theorem zln{n:Nat}{M:Meas}{y:Vec}(s:Span (vecs (z1S n M)) y):∀ k,k<n->mp M k∣y k:=by
 refine Span.least (P:=λy=>∀ k,k<n->mp M k∣y k) (λk _=>Va _) (λv w a b k hk=>vh (a k hk) (b k hk)) (λc v a k hk=>WQ (a k hk) (V5 _ _)) (λg hg=>?_) s;obtain⟨r,hr,rfl⟩:=wf.mp hg;obtain⟨j,hj,rfl⟩:=wf.mp hr;intro k hk;show mp M k∣at0 ((z0k n j).map (mp M j*·)) k;rw[z9N,z0y];by_cases h:k=j
 · subst h;exact Int.dvd_mul_right _ _
 · rw[if_neg (by rfl'),WE];exact Va _
theorem zoN{n:Nat}{M:Meas}{y:Vec}(d:∀ k,k<n->mp M k∣y k)(h:∀ k,n<=k->y k=0):Span (vecs (z1S n M)) y:=by
 have key:∀ m,m≤n→Span (vecs (z1S n M)) (fun k=>if k<m then y k else 0):=by
   intro m
   induction m with
   | zero=>intro _;exact Span.congr (λk=>by simp) Span.zero
   | succ m ih =>
    intro hm;obtain⟨q,hq⟩:=d m (by rfl');have hu:(z0k n m).map (mp M m*·)∈z1S n M:=wf.mpr ⟨m,wM.mpr (by rfl'),rfl⟩;refine Span.congr (λk=>?_) ((ih (by rfl')).add ((z1q hu).smul q));show(if k<m then y k else 0)+q*at0 ((z0k n m).map (mp M m*·)) k=if k<m+1 then y k else 0
    rw[z9N,z0y];by_cases h1:k<m
    · rw[if_pos h1,if_neg (show ¬(k=m/\k<n) by rfl'),if_pos (show k<m+1 by rfl')];simp
    · by_cases h2:k=m
      · subst h2;rw[if_neg h1,if_pos (show k=k/\k<n from⟨rfl,by rfl'⟩),if_pos (show k<k+1 by rfl'),hq,vN,wL];rfl'
      · rw[if_neg h1,if_neg (show ¬(k=m/\k<n) by rfl'),if_neg (show ¬k<m+1 by rfl')];simp
 refine Span.congr (λk=>?_) (key n (wx n));by_cases hk:k<n
 · simp only[if_pos hk]
 · simp only[if_neg hk];exact(h k (by rfl')).symm
structure Plc(n:Nat)(M:Meas)(P:List Row):Prop where
 len:P.length=n
 rows:∀ r∈P,r.length=n
 near:∀ i k,i<n->k<n->mp M k∣at0 (P.getD i []) k-at0 (mw M k) i
theorem Plc.mix{n:Nat}{M:Meas}{P:List Row}(p:Plc n M P){t:List Int}(ht:t.length=n){k:Nat}(hk:k<n):mp M k∣St.mix P t k-dt n (mw M k) (λi=>at0 t i):=by
 rw[ziY P t k (by rw[ht,p.len]),p.len];unfold dt;rw[←z6s];refine zeL λi hi=>?_;have e:at0 t i*at0 (P.getD i []) k-at0 (mw M k) i*at0 t i=at0 t i*(at0 (P.getD i []) k-at0 (mw M k) i):=by rw[WM,wL (at0 (mw M k) i)]
 show mp M k∣at0 t i*at0 (P.getD i []) k-at0 (mw M k) i*at0 t i;rw[e];exact WQ (p.near i k hi hk) (V5 _ _)
theorem Plc.onto{n:Nat}{G:List Row}{M:Meas}{P:List Row}(p:Plc n M P)(ms:Ms n G M)(lM:M.length=n):∀ v:Vec,(∀ k,n<=k->v k=0)->Span (vecs (P++z1S n M)) v:=λv hv=>by
 obtain⟨b,hb,d⟩:=ms.onto v;have lc:((List.range n).map b).length=n:=by simp
 have ac:∀ i,at0 ((List.range n).map b) i=b i:=λi=>by
   by_cases h:i<n
   · unfold at0;simp[List.getD,h]
   · rw[z0x (by rfl'),hb i (by rfl')]
 refine(z5N _).mpr ⟨St.mix P ((List.range n).map b),λk=>v k-St.mix P ((List.range n).map b) k,z4v _,zoN (λk hk=>?_) (λk hk=>?_),λk=>by show v k=_+(v k-_);rfl'⟩
 · have a:=p.mix lc hk;have e:(λi=>at0 ((List.range n).map b) i)=b:=funext ac;rw[e]at a;have c:=d k (by rw[lM];exact hk);have:=Int.dvd_neg.mpr (vh a c)
   rwa [show -(St.mix P ((List.range n).map b) k-dt n (mw M k) b+(dt n (mw M k) b-v k))=v k-St.mix P ((List.range n).map b) k by rfl']at this
 · show v k-St.mix P ((List.range n).map b) k=0;rw[hv k hk,z9 p.rows k hk];rfl
theorem zeM{n:Nat}{G:List Row}{M:Meas}{P U:List Row}(p:Plc n M P)(ms:Ms n G M)(lM:M.length=n)(A:Asc (n+n) 0 U)(F:Form 0 (z0s U))(ss:SameSpan (vecs U) (vecs (z75 P (z1S n M)))){T:List Row}(hT:T=(U.filter λr=>decide (z00 r<n)).map (·.drop n)):
   T.length=n/\(∀ r∈T,r.length=n)/\∀ c:List Int,c.length=n->∀ k,k<n->mp M k∣dt n (mw M k) (St.mix T c)-at0 c k:=by
 obtain⟨b1,b2⟩:=zk5 p.len p.rows (z9O n M) A F ss (p.onto ms lM);rw[←hT]at b1 b2;refine⟨b1,λr hr=>?_,λc hc k hk=>?_⟩
 · obtain⟨j,hj,rfl⟩:=wH hr;have:=(b2 j (by rfl')).1;rw[List.getD,w8 hj]at this;exact this
 · have one:∀ j,j<n->mp M k∣at0 (z0k n j) k-dt n (mw M k) (λi=>at0 (T.getD j []) i):=λj hj=>by
    have a:=zln (b2 j hj).2 k hk;have b:=p.mix (b2 j hj).1 hk;have:=vh a b
    rwa [show at0 (z0k n j) k-St.mix P (T.getD j []) k+(St.mix P (T.getD j []) k-dt n (mw M k) (λi=>at0 (T.getD j []) i))=at0 (z0k n j) k-dt n (mw M k) (λi=>at0 (T.getD j []) i) by rfl']at this
   have e1:dt n (mw M k) (St.mix T c)=sm n (λj=>at0 c j*dt n (mw M k) (λi=>at0 (T.getD j []) i)):=by
    unfold dt;rw[z0h (g:=λi=>sm n (λj=>at0 c j*(at0 (mw M k) i*at0 (T.getD j []) i))) λi _=>by
     rw[ziY T c i (by rw[hc,b1]),b1,←z1Y];exact z0h λj _=>WO _ _ _,z76]
    exact z0h λj _=>by rw[z1Y]
   have e2:at0 c k=sm n (λj=>at0 c j*at0 (z0k n j) k):=by
    rw[z1Q (i:=k) hk λj hj hne=>by rw[z0y,if_neg (by rfl'),WE],z0y,if_pos ⟨rfl,hk⟩,vN]
   rw[e1,e2,←z6s];refine zeL λj hj=>?_;show mp M k∣at0 c j*dt n (mw M k) (λi=>at0 (T.getD j []) i)-at0 c j*at0 (z0k n j) k;rw[←WM];have:=Int.dvd_neg.mpr (one j hj);rw[Int.neg_sub]at this;exact WQ this (V5 _ _)
end St

end
section
local macro_rules|`(tactic|rfl')=>`(tactic|first|lia|omega +splitDisjunctions)
namespace L2
open PySem
theorem z78{a b:List Int}(h:a.length=b.length)(k:Nat):St.at0 (addR a b) k=St.at0 a k+St.at0 b k:=by
 have e:addR a b=St.lin 1 a 1 b:=by unfold addR St.lin;congr 1;funext x y;rfl'
 rw[e,St.z8Y h];rfl'
theorem zcq(q:Int)(a:List Int)(k:Nat):St.at0 (sclR q a) k=q*St.at0 a k:=by
 simp only[St.at0,sclR,List.getD,wu];cases a[k]?<;>simp
theorem zdK(n:Nat):z22 n=St.ziO n:=by unfold z22 St.ziO;simp
theorem zbi(n k:Nat):St.at0 (z22 n) k=0:=by rw[zdK];exact St.zjY n k
theorem zdL{n:Nat}:∀(rows:II) (cs:List Int) (t:List Int),t.length=n->(∀ r∈rows,r.length=n)->∀ k,St.at0 ((rows.zip cs).foldl (λt p=>addR t (sclR p.2 p.1)) t) k=St.at0 t k+St.mix rows cs k
 | [],cs,t,_,_,k=>by simp[St.mix]
 | r::rows,[],t,_,_,k=>by simp[St.mix]
 | r::rows,c::cs,t,ht,hw,k=>by
  have hr:=hw r wc;rw[WV,WX,zdL rows cs _ (by rw[z3X (by rw[z0L,ht,hr])];exact ht) (λx hx=>hw x (wa _ hx)),z78 (by rw[z0L,ht,hr]),zcq];show St.at0 t k+c*St.at0 r k+St.mix rows cs k=St.at0 t k+(c*St.at0 r k+St.mix rows cs k);rfl'
theorem z9P{n:Nat}{rows:II}{cs:List Int}(hw:∀ r∈rows,r.length=n)(k:Nat):St.at0 (mixR n rows cs) k=St.mix rows cs k:=by
 unfold mixR;rw[zdL rows cs (z22 n) z35 hw,zbi];rfl'
theorem zero_add{n:Nat}{v:List Int}(hv:v.length=n):addR (z22 n) v=v:=St.ext0 (by rw[z3X (by rw[z35,hv]),z35,hv]) λk=>by rw[z78 (by rw[z35,hv]),zbi];rfl'
theorem z3Z{r:List Int}{x:Int}(h:x∈r):∃ k,St.at0 r k=x:=by
 obtain⟨k,hk,e⟩:=vx.mp h;exact⟨k,by simp[St.at0,List.getD,w8 hk,e]⟩
theorem zeN{r:List Int}{B:Nat}(h:St.Lt B r):∀ x∈r,x.natAbs<B:=λx hx=>by
 obtain⟨k,rfl⟩:=z3Z hx;exact h k
end L2
namespace L2
open PySem
theorem zdM{g:Tg}{F:FS}(P:Rho->Prop):∀(xs:List Dt) (ρ:Rho),P ρ->(∀ x∈xs,∀ ρ,P ρ->∃ ρ',(g.put x ρ).bind F=some (.nx ρ')/\P ρ')->∃ ρ',forF g F xs ρ=some (.nx ρ')/\P ρ'
 | [],ρ,p,_=>⟨ρ,rfl,p⟩
 | x::xs,ρ,p,h=>by
  obtain⟨ρ1,h1,p1⟩:=h x wc ρ p;obtain⟨ρ2,h2,p2⟩:=zdM P xs ρ1 p1 λy hy=>h y (wa _ hy);refine⟨ρ2,?_,p2⟩;rw[z1f,h1];exact h2
theorem ziZ{n i:Nat}(h:i<n):ixN n (i:Int)=some i:=by
 unfold ixN;rw[if_pos (by rfl'),if_pos (by rfl')];simp
theorem zbj{i j:Int}(h:0<j):z3v i j=true:=by unfold z3v;rw[decide_eq_true (show j≠0 by rfl')]
end L2
namespace L2
open PySem
theorem zbk{α γ:Type}{g:Tg}{F:FS}(e:α->Dt)(bad:α->Prop)(R:γ->Rho)(f:Fl)(d:Dt):∀(xs:List α) (j:γ),(∀ x∈xs,∀ j,bad x->(g.put (e x) (R j)).bind F=some (.rt f d))->(∀ x∈xs,∀ j,¬bad x->∃ j',(g.put (e x) (R j)).bind F=some (.nx (R j'))) ->
  ((∃ x∈xs,bad x)->forF g F (xs.map e) (R j)=some (.rt f d))/\((∀ x∈xs,¬bad x)->∃ j',forF g F (xs.map e) (R j)=some (.nx (R j')))
 | [],j,_,_=>⟨λ⟨x,hx,_⟩=>(nomatch hx),λ_=>⟨j,rfl⟩⟩
 | x::xs,j,h1,h2=>by
  by_cases hb:bad x
  · have e1:=h1 x wc j hb;refine⟨λ_=>?_,λh=>absurd hb (h x wc)⟩;rw[wv,z1f,e1];rfl
  · obtain⟨j1,e1⟩:=h2 x wc j hb;obtain⟨i1,i2⟩:=zbk e bad R f d xs j1 (λy hy=>h1 y (wa _ hy)) (λy hy=>h2 y (wa _ hy));rw[wv,z1f,e1];refine⟨λ⟨y,hy,by_⟩=>?_,λh=>i2 λy hy=>h y (wa _ hy)⟩;rcases wn.mp hy with rfl|hy
    · exact absurd by_ hb
    · exact i1 ⟨y,hy,by_⟩
theorem us0{P:List Value->Prop}(h:P []):∀ us:List Value,us.length=0->P us:=λus hl=>(V3.mp hl).symm ▸ h
theorem usS{P:List Value->Prop}{n:Nat}(h:∀ a us,us.length=n->P (a::us)):∀ us:List Value,us.length=n+1->P us:=λus hl=>by
 cases us with
 | nil=>cases hl
 | cons a us=>exact h a us (Nat.succ.inj hl)
theorem us1{P:List Value->Prop}(h:∀ a,P [a]):∀ us:List Value,us.length=1->P us:=usS λa=>us0 (h a)
theorem us2{P:List Value->Prop}(h:∀ a b,P [a,b]):∀ us:List Value,us.length=2->P us:=usS λa=>(usS λb=>us0 (h a b))
theorem us3{P:List Value->Prop}(h:∀ a b c,P [a,b,c]):∀ us:List Value,us.length=3->P us:=usS λa=>(usS λb=>(usS λc=>us0 (h a b c)))
theorem us4{P:List Value->Prop}(h:∀ a b c d,P [a,b,c,d]):∀ us:List Value,us.length=4->P us:=usS λa=>(usS λb=>(usS λc=>(usS λd=>us0 (h a b c d))))
end L2

end
section
set_option maxHeartbeats 1000000
namespace K17
open PySem L2
noncomputable section
def z6t:FS:=(sRet (vAnd (fIsi "int" (fN 0)) (vNot (fIsi "bool" (fN 0)))))
def z2q:FC:=cOf 1 1 true z6t
def z9Q:FS:=(sSeq (sIf (fOr (fNot (fTru (fIsi "list" (fN 0)))) (z0m (fOp opNe (fBlt bLen (z02 (fN 0) fNil)) (fN 1)))) (sRet (fC (.bl false))) z0F)
 (sRet (fBlt bAll (z02 (z0b 1 [] (iSeq (fN 0)) (Tg.one 0) fYes (z06 true z2q (z02 (fN 0) fNil))) fNil))))
def z40:FC:=cOf 2 2 true z9Q
def z7R:FS:=(sRet (z0b 1 [] (z0l (fN 0)) (Tg.one 0) fYes (fC (.int 0))))
def z37:FC:=cOf 1 1 true z7R
def z6u:FS:=(sRet (z0b 1 [1] (z0l (fN 0)) (Tg.one 0) fYes (fIf (z0m (fOp opEq (fN 0) (fN 1))) (fC (.int 1)) (fC (.int 0)))))
def z1Z:FC:=cOf 2 2 true z6u
def zcr:FS:=(sRet (z0b 2 [] (iZip (fN 0) (fN 1)) (Tg.many [0,1]) fYes (fOp z0w (fN 0) (fN 1))))
def z2Z:FC:=cOf 2 2 true zcr
def zcs:FS:=(sRet (z0b 2 [] (iZip (fN 0) (fN 1)) (Tg.many [0,1]) fYes (fOp z68 (fN 0) (fN 1))))
def z5R:FC:=cOf 2 2 true zcs
def z9R:FS:=(sRet (z0b 1 [1] (iSeq (fN 0)) (Tg.one 0) fYes (fOp z1R (fN 1) (fN 0))))
def z0S:FC:=cOf 2 2 true z9R
def z7S:FS:=(sRet (fBlt bSum (z02 (z0b 2 [] (iZip (fN 0) (fN 1)) (Tg.many [0,1]) fYes (fOp z1R (fN 0) (fN 1))) fNil)))
def z41:FC:=cOf 2 2 true z7S
def zct:FS:=(sSeq (sSet [] 3 (z06 true z37 (z02 (fN 2) fNil)))
 (sSeq (sFor [] (iZip (fN 0) (fN 1)) (Tg.many [4,5])
 (sSet [] 3 (z06 true z2Z (z02 (fN 3) (z02 (z06 true z0S (z02 (fN 4) (z02 (fN 5) fNil))) fNil)))))
 (sRet (fN 3))))
def z91:FC:=cOf 3 6 true zct
def z7T:FS:=(sSeq (sFor [] (z3i (fN 0)) (Tg.many [1,2])
 (sIf (z0m (fOp opNe (fN 2) (fC (.int 0)))) (sRet (fN 1)) z0F))
 (sRet (fBlt bLen (z02 (fN 0) fNil))))
def z0e:FC:=cOf 1 3 true z7T
def z5a:FS:=(sRet (vAnd (z06 true z2q (z02 (fN 0) fNil)) (z9h opLe opLe (fC (.int 1)) (fN 0) (fC (.int 6)))))
def z3F:FC:=cOf 1 1 true z5a
def z7U:FS:=(sRet (vAnd (z06 true z40 (z02 (fN 0) (z02 (fN 1) fNil))) (fBlt bAll (z02 (z0b 1 [] (iSeq (fN 0)) (Tg.one 0) fYes (fOp opLt (fBlt bAbs (z02 (fN 0) fNil)) (fOp z8m (fC (.int 10)) (fC (.int 30))))) fNil))))
def z5S:FC:=cOf 2 2 true z7U
def z4w:FS:=(sIf (fNot (fTru (z06 true z3F (z02 (fN 0) fNil)))) z4X z0F)
def z30:FC:=cOf 1 1 true z4w
def z5b:FS:=(sIf (fNot (fTru (z06 true z5S (z02 (fN 0) (z02 (fN 1) fNil))))) z4X z0F)
def z24:FC:=cOf 2 2 true z5b
def z7V:FS:=(sRet (fTup (z02 (fN 0) (z02 (fBlt bTup (z02 (z0b 1 [] (iSeq (fN 1)) (Tg.one 0) fYes (fBlt bTup (z02 (fN 0) fNil))) fNil)) fNil))))
def z5T:FC:=cOf 2 2 true z7V
def z7W:FS:=(sSeq (z6c (z06 true z30 (z02 (fN 0) fNil)))
 (sSeq (sIf (fOr (fNot (fTru (fIsi "list" (fN 1)))) (z0m (fOp opGt (fBlt bLen (z02 (fN 1) fNil)) (fC (.int 8))))) z4X z0F)
 (sSeq (sFor [] (iSeq (fN 1)) (Tg.one 2)
 (z6c (z06 true z24 (z02 (fN 2) (z02 (fN 0) fNil)))))
 (sRet (z06 true z5T (z02 (fN 0) (z02 (fN 1) fNil)))))))
def z42:FC:=cOf 2 3 true z7W
def z2r:FS:=(sIf (fNot (fTru (z06 true z40 (z02 (fN 1) (z02 (fN 0) fNil))))) z4X z0F)
def z1I:FC:=cOf 2 2 true z2r
def z3O:FS:=(z6c (z06 true z1I (z02 (fAt (fN 0) (fC (.int 0))) (z02 (fN 1) fNil))))
def z2B:FC:=cOf 2 2 true z3O
def z9S:FS:=(sSeq (sSet [] 2 (fLst (z02 (fN 0) (z02 (fC (.int 1)) (z02 (fC (.int 0)) fNil)))))
 (sSeq (sSet [] 3 (fLst (z02 (fN 1) (z02 (fC (.int 0)) (z02 (fC (.int 1)) fNil)))))
 (sSeq (z3J (z0m (fOp opNe (fAt (fN 3) (fC (.int 0))) (fC (.int 0)))) (sSeq (sSet [] 4 (fOp z3g (fAt (fN 2) (fC (.int 0))) (fAt (fN 3) (fC (.int 0)))))
 (sSeq (sSet [] 5 (z0b 1 [2,4,3] (z0l (fC (.int 3))) (Tg.one 0) fYes (fOp z68 (fAt (fN 1) (fN 0)) (fOp z1R (fN 2) (fAt (fN 3) (fN 0))))))
 (sSeq (sSet [] 2 (fN 3))
 (sSet [] 3 (fN 5))))))
 (sSeq (sIf (z0m (fOp opLt (fAt (fN 2) (fC (.int 0))) (fC (.int 0)))) (sSet [] 2 (z0b 1 [] (iSeq (fN 2)) (Tg.one 0) fYes (fNeg (fN 0)))) z0F)
 (sRet (fBlt bTup (z02 (fN 2) fNil)))))))
def z5c:FC:=cOf 2 6 true z9S
def zcu:FS:=(sSeq (sIf (z0m (fOp opEq (fN 1) (fC (.int 0)))) (sRet (fN 0)) z0F)
 (sRet (fOp z1P (fN 0) (fN 1))))
def z2P:FC:=cOf 2 2 true zcu
def z7X:FS:=(sSeq (sSet [] 1 (fC (.int 1)))
 (sSeq (sFor [] (iSeq (fN 0)) (Tg.one 2)
 (sSet [] 1 (fOp z1R (fN 1) (fN 2))))
 (sRet (fN 1))))
def z5U:FC:=cOf 1 3 true z7X
def z6v:FS:=(sSeq (sSet [] 2 (fBlt bLst (z02 (fN 0) fNil)))
 (sSeq (sOwn 3 (fLst fNil))
 (sSeq (sFor [] (iSeq (fN 1)) (Tg.one 4)
 (sSeq (sSet [] 5 (z06 true z0e (z02 (fN 4) fNil)))
 (sSeq (sSet [] 6 (fOp z3g (fAt (fN 2) (fN 5)) (fAt (fN 4) (fN 5))))
 (sSeq (sIf (z0m (fOp opNe (fN 6) (fC (.int 0)))) (sSet [] 2 (z06 true z5R (z02 (fN 2) (z02 (z06 true z0S (z02 (fN 4) (z02 (fN 6) fNil))) fNil)))) z0F)
 (sWr wApp 3 (fN 6))))))
 (sRet (fTup (z02 (fN 3) (z02 (fN 2) fNil)))))))
def z4x:FC:=cOf 2 7 true z6v
def z7Y:FS:=(sRet (fAt (z06 true z4x (z02 (fN 0) (z02 (fN 1) fNil))) (fC (.int 1))))
def z0Z:FC:=cOf 2 2 true z7Y
def z7Z:FS:=(sSeq (sSet [] 2 (z06 true z0e (z02 (fN 0) fNil)))
 (sSeq (sSet [] 3 (z06 true z5c (z02 (fAt (fN 0) (fN 2)) (z02 (fAt (fN 1) (fN 2)) fNil))))
 (sSeq (sSet [] 4 (z06 true z2Z (z02 (z06 true z0S (z02 (fN 0) (z02 (fAt (fN 3) (fC (.int 1))) fNil))) (z02 (z06 true z0S (z02 (fN 1) (z02 (fAt (fN 3) (fC (.int 2))) fNil))) fNil))))
 (sSeq (sSet [] 5 (z06 true z5R (z02 (z06 true z0S (z02 (fN 1) (z02 (fOp z3g (fAt (fN 0) (fN 2)) (fAt (fN 3) (fC (.int 0)))) fNil))) (z02 (z06 true z0S (z02 (fN 0) (z02 (fOp z3g (fAt (fN 1) (fN 2)) (fAt (fN 3) (fC (.int 0)))) fNil))) fNil))))
 (sRet (fTup (z02 (fN 4) (z02 (fN 5) fNil))))))))
def z38:FC:=cOf 2 6 true z7Z
def z5d:FS:=(sRet (fIf (z0m (fOp opLt (fAt (fN 0) (z06 true z0e (z02 (fN 0) fNil))) (fC (.int 0)))) (z06 true z0S (z02 (fN 0) (z02 (fNeg (fC (.int 1))) fNil))) (fBlt bLst (z02 (fN 0) fNil))))
def z19:FC:=cOf 1 1 true z5d
def z3n:FS:=(sSeq (sOwn 2 (fBlt bLst (z02 (fN 0) fNil)))
 (sSeq (z2D 3 (z06 true z0Z (z02 (fN 1) (z02 (fN 2) fNil))))
 (sSeq (z3J (z0m (fOp opLt (z06 true z0e (z02 (fN 3) fNil)) (fBlt bLen (z02 (fN 3) fNil)))) (sSeq (z2D 4 (z0b 2 [3] (z3i (fN 2)) (Tg.many [0,1]) (z0m (fOp opEq (z06 true z0e (z02 (fN 1) fNil)) (z06 true z0e (z02 (fN 2) fNil)))) (fN 0)))
 (sSeq (sIf (z0m (fOp opEq (fBlt bLen (z02 (fN 4) fNil)) (fC (.int 0)))) (sRet (z6o z0e (fOp z0w (fN 2) (fLst (z02 (z06 true z19 (z02 (fN 3) fNil)) fNil))))) z0F)
 (sSeq (z2D 5 (z06 true z38 (z02 (fAt (fN 2) (fAt (fN 4) (fC (.int 0)))) (z02 (fN 3) fNil))))
 (sSeq (sPut 2 (fAt (fN 4) (fC (.int 0))) (fAt (fN 5) (fC (.int 0))))
 (z2D 3 (z06 true z0Z (z02 (fAt (fN 5) (fC (.int 1))) (z02 (fN 2) fNil)))))))))
 (sRet (fN 2)))))
def z2s:FC:=cOf 2 6 false z3n
def z9T:FS:=(sSeq (sOwn 1 (fLst fNil))
 (sSeq (sFor [] (iRev (fN 0)) (Tg.one 2)
 (sWrA z9r 1 (z06 true z0Z (z02 (fN 2) (z02 (fN 1) fNil)))))
 (sRet (fN 1))))
def z5e:FC:=cOf 1 3 true z9T
def z80:FS:=(sSeq (sSet [] 1 (fLst fNil))
 (sSeq (sFor [] (iSeq (fN 0)) (Tg.one 2)
 (sSet [] 1 (z06 true z5e (z02 (z06 false z2s (z02 (fN 1) (z02 (fN 2) fNil))) fNil))))
 (sRet (fN 1))))
def z25:FC:=cOf 1 3 true z80
def z3o:FS:=(sRet (z06 true z25 (z02 (z0b 2 [] (iZip (fN 0) (fN 1)) (Tg.many [0,1]) fYes (fOp z0w (fBlt bLst (z02 (fN 0) fNil)) (fBlt bLst (z02 (fN 1) fNil)))) fNil)))
def z10:FC:=cOf 2 2 true z3o
def z2Q:FS:=(sRet (z0b 1 [1] (iSeq (fN 0)) (Tg.one 0) (z0m (fOp opLt (z06 true z0e (z02 (fN 0) fNil)) (fN 1))) (fSl (fN 0) (z1w (fN 1)) z0E)))
def z1V:FC:=cOf 2 2 true z2Q
def z2t:FS:=(sRet (z0b 1 [1] (iSeq (fN 0)) (Tg.one 0) (z0m (fOp opGe (z06 true z0e (z02 (fN 0) fNil)) (fN 1))) (fSl (fN 0) (z1w (fN 1)) z0E)))
def z0O:FC:=cOf 2 2 true z2t
def zcv:FS:=(sRet (z06 true z25 (z02 (fAt (fN 0) (fC (.int 1))) fNil)))
def z5V:FC:=cOf 1 1 true zcv
def z9U:FS:=(sRet (z0b 1 [0] (z0l (fN 1)) (Tg.one 0) fYes (z0b 1 [0] (iSeq (fN 1)) (Tg.one 0) fYes (fAt (fN 0) (fN 1)))))
def z2L:FC:=cOf 2 2 true z9U
def z4y:FS:=(sSeq (sFor [] (z3i (fN 0)) (Tg.many [1,2])
 (sIf (fOr (z0m (fOp opNe (z06 true z0e (z02 (fN 2) fNil)) (fN 1))) (fTru (fBlt bAny (z02 (z0b 1 [] (iSeq (fSl (fN 2) (z1w (fOp z0w (fN 1) (fC (.int 1)))) z0E)) (Tg.one 0) fYes (fOp opNe (fN 0) (fC (.int 0)))) fNil)))) (sRet (fC (.bl false))) z0F))
 (sRet (fC (.bl true))))
def z20:FC:=cOf 1 3 true z4y
def zcw:FS:=(sRet (z0b 1 [1] (iSeq (fN 0)) (Tg.one 0) fYes (z06 true z2P (z02 (fN 0) (z02 (fN 1) fNil)))))
def z2C:FC:=cOf 2 2 true zcw
def z43:FS:=(sSeq (sSet [] 3 (fBlt bLen (z02 (fN 0) fNil)))
 (sSeq (sSet [] 4 (fN 0))
 (sSeq (sSet [] 5 (fN 1))
 (sSeq (z3J (fNot (fTru (z06 true z20 (z02 (fN 4) fNil)))) (sSeq (sSet [] 6 (z06 true z2L (z02 (z06 true z25 (z02 (z06 true z2L (z02 (fN 4) (z02 (fN 3) fNil))) fNil)) (z02 (fN 3) fNil))))
 (sSeq (sSet [] 7 (z06 true z10 (z02 (fN 6) (z02 (fN 5) fNil))))
 (sSeq (sSet [] 4 (z0b 1 [3] (iSeq (fN 7)) (Tg.one 0) fYes (fSl (fN 0) z0E (z1w (fN 1)))))
 (sSet [] 5 (z0b 1 [3,2] (iSeq (fN 7)) (Tg.one 0) fYes (z06 true z2C (z02 (fSl (fN 0) (z1w (fN 1)) z0E) (z02 (fN 2) fNil)))))))))
 (sRet (z0b 2 [4] (z3i (fN 5)) (Tg.many [0,1]) fYes (fTup (z02 (fN 1) (z02 (fAt (fAt (fN 2) (fN 0)) (fN 0)) fNil)))))))))
def z5W:FC:=cOf 3 8 false z43
def z5f:FS:=(sSeq (sSet [] 2 (z06 true z5c (z02 (fAt (fN 0) (fC (.int 1))) (z02 (fAt (fN 1) (fC (.int 1))) fNil))))
 (sSeq (sSet [] 3 (fAt (fN 2) (fC (.int 0))))
 (sSeq (sSet [] 4 (fOp z1R (fOp z3g (fAt (fN 0) (fC (.int 1))) (fN 3)) (fAt (fN 1) (fC (.int 1)))))
 (sSeq (sSet [] 5 (z06 true z2Z (z02 (fAt (fN 0) (fC (.int 0))) (z02 (fAt (fN 1) (fC (.int 0))) fNil))))
 (sSeq (sSet [] 6 (z06 true z2Z (z02 (z06 true z0S (z02 (fAt (fN 0) (fC (.int 0))) (z02 (fOp z1R (fNeg (fAt (fN 2) (fC (.int 2)))) (fOp z3g (fAt (fN 1) (fC (.int 1))) (fN 3))) fNil))) (z02 (z06 true z0S (z02 (fAt (fN 1) (fC (.int 0))) (z02 (fOp z1R (fAt (fN 2) (fC (.int 1))) (fOp z3g (fAt (fN 0) (fC (.int 1))) (fN 3))) fNil))) fNil))))
 (sRet (fTup (z02 (fTup (z02 (z06 true z2C (z02 (fN 5) (z02 (fN 3) fNil))) (z02 (fN 3) fNil))) (z02 (fTup (z02 (z06 true z2C (z02 (fN 6) (z02 (fN 4) fNil))) (z02 (fN 4) fNil))) fNil)))))))))
def z3p:FC:=cOf 2 7 true z5f
def z44:FS:=(sSeq (sOwn 1 (fBlt bLst (z02 (fN 0) fNil)))
 (sSeq (z8q (z0l (fBlt bLen (z02 (fN 1) fNil))) (Tg.one 2)
 (z8q (z8V (fOp z0w (fN 2) (fC (.int 1))) (fBlt bLen (z02 (fN 1) fNil))) (Tg.one 3)
 (sSeq (z2D 4 (z06 true z3p (z02 (fAt (fN 1) (fN 2)) (z02 (fAt (fN 1) (fN 3)) fNil))))
 (sSeq (sPut 1 (fN 2) (fAt (fN 4) (fC (.int 0))))
 (sPut 1 (fN 3) (fAt (fN 4) (fC (.int 1))))))))
 (sRet (z0b 2 [] (iSeq (fN 1)) (Tg.many [0,1]) fYes (fTup (z02 (z06 true z2C (z02 (fN 0) (z02 (fN 1) fNil))) (z02 (fN 1) fNil)))))))
def z39:FC:=cOf 1 5 true z44
def z3q:FS:=(sSeq (sSet [] 1 (fAt (fN 0) (fC (.int 0))))
 (sSeq (sSet [] 2 (z06 true z5V (z02 (fN 0) fNil)))
 (sSeq (sSet [] 3 (fBlt bLen (z02 (fN 2) fNil)))
 (sSeq (sSet [] 4 (z06 true z10 (z02 (z06 true z2L (z02 (fN 2) (z02 (fN 1) fNil))) (z02 (z0b 1 [1] (z0l (fN 1)) (Tg.one 0) fYes (z06 true z1Z (z02 (fN 1) (z02 (fN 0) fNil)))) fNil))))
 (sSeq (sSet [] 5 (z0b 1 [3] (iSeq (fSl (fN 4) z0E (z1w (fN 3)))) (Tg.one 0) fYes (fSl (fN 0) z0E (z1w (fN 1)))))
 (sSeq (sSet [] 6 (z06 true z5U (z02 (z0b 2 [] (z3i (fN 5)) (Tg.many [0,1]) fYes (fAt (fN 1) (fN 0))) fNil)))
 (sSeq (sSet [] 7 (z06 false z5W (z02 (fN 5) (z02 (z0b 1 [3] (iSeq (fSl (fN 4) z0E (z1w (fN 3)))) (Tg.one 0) fYes (fSl (fN 0) (z1w (fN 1)) z0E)) (z02 (fN 6) fNil)))))
 (sRet (fOp z0w (z06 true z39 (z02 (fN 7) fNil)) (z0b 1 [] (iSeq (z06 true z0O (z02 (fN 4) (z02 (fN 3) fNil)))) (Tg.one 0) fYes (fTup (z02 (fN 0) (z02 (fC (.int 0)) fNil)))))))))))))
def z0P:FC:=cOf 1 8 false z3q
def zcx:FS:=(sRet (z0b 2 [] (iSeq (z06 false z0P (z02 (fN 0) fNil))) (Tg.many [0,1]) fYes (fN 1)))
def z92:FC:=cOf 1 1 true zcx
def z6w:FS:=(sRet (z0b 2 [1] (iSeq (fN 0)) (Tg.many [0,1]) fYes (z06 true z2P (z02 (z06 true z41 (z02 (fN 2) (z02 (fN 0) fNil))) (z02 (fN 1) fNil)))))
def z2u:FC:=cOf 2 2 true z6w
def zcy:FS:=(sSeq (z6c (z06 true z2B (z02 (fN 0) (z02 (fN 1) fNil))))
 (sRet (z06 true z2u (z02 (z06 false z0P (z02 (fN 0) fNil)) (z02 (fN 1) fNil)))))
def z93:FC:=cOf 2 2 true zcy
def z2g:FS:=(sSeq (sIf (fNot (fTru (z06 true z40 (z02 (fN 1) (z02 (fBlt bLen (z02 (fN 0) fNil)) fNil))))) z4X z0F)
 (sFor [] (iZip (fN 1) (fN 0)) (Tg.many [2,3])
 (sIf (z0m (fOp opNe (z06 true z2P (z02 (fN 2) (z02 (fAt (fN 3) (fC (.int 1))) fNil))) (fN 2))) z4X z0F)))
def z1J:FC:=cOf 2 4 true z2g
def z4z:FS:=(sSeq (sSet [] 1 (fBlt bLen (z02 (fN 0) fNil)))
 (sSeq (sSet [] 2 (z0b 1 [1] (z0l (fN 1)) (Tg.one 0) fYes (z06 true z1Z (z02 (fN 1) (z02 (fN 0) fNil)))))
 (sSeq (sSet [] 3 (z0b 1 [0] (iSeq (fN 2)) (Tg.one 0) fYes (z06 true z2u (z02 (fN 1) (z02 (fN 0) fNil)))))
 (sSeq (sSet [] 4 (z0b 1 [2,0] (z0l (fN 1)) (Tg.one 0) fYes (z06 true z0S (z02 (fAt (fN 1) (fN 0)) (z02 (fAt (fAt (fN 2) (fN 0)) (fC (.int 1))) fNil)))))
 (sSeq (sSet [] 5 (z06 true z10 (z02 (fOp z0w (fN 3) (fN 4)) (z02 (fOp z0w (fN 2) (z0b 1 [1] (z0l (fN 1)) (Tg.one 0) fYes (z06 true z37 (z02 (fN 1) fNil)))) fNil))))
 (sRet (z06 true z1V (z02 (fN 5) (z02 (fN 1) fNil)))))))))
def z31:FC:=cOf 1 6 true z4z
def z5g:FS:=(sSeq (sSet [] 2 (z06 false z0P (z02 (fN 0) fNil)))
 (sSeq (z6c (z06 true z1J (z02 (fN 2) (z02 (fN 1) fNil))))
 (sRet (z06 true z91 (z02 (z06 true z31 (z02 (fN 2) fNil)) (z02 (fN 1) (z02 (fAt (fN 0) (fC (.int 0))) fNil)))))))
def z5h:FC:=cOf 2 3 true z5g
def z5i:FS:=(sSeq (sIf (z0m (fOp opLt (fN 1) (fBlt bLen (z02 (fN 0) fNil)))) (sRet (fAt (fN 0) (fN 1))) z0F)
 (sSeq (sIf (z0m (fOp opEq (fN 0) (fLst fNil))) (sRet (fC (.int 0))) z0F)
 (sRet (fOp z0w (fOp z1R (fAt (fN 0) (fOp z1P (fN 1) (fBlt bLen (z02 (fN 0) fNil)))) (fC (.int 31))) (fN 1)))))
def z0I:FC:=cOf 2 2 true z5i
def z81:FS:=(sRet (vAnd (fIsi "int" (fN 0)) (vNot (fIsi "bool" (fN 0)))))
def z3a:FC:=cOf 1 1 true z81
def z6x:FS:=(sSeq (sIf (fOr (fNot (fTru (fIsi "list" (fN 0)))) (z0m (fOp opNe (fBlt bLen (z02 (fN 0) fNil)) (fN 1)))) (sRet (fC (.bl false))) z0F)
 (sSeq (sFor [] (iSeq (fN 0)) (Tg.one 2)
 (sIf (fNot (fTru (z06 true z3a (z02 (fN 2) fNil)))) (sRet (fC (.bl false))) z0F))
 (sRet (fC (.bl true)))))
def z3r:FC:=cOf 2 3 true z6x
def z3s:FS:=(sSeq (sIf (z0m (fOp opEq (fN 1) (fC (.int 2)))) (sSeq (sSet [] 2 (fOp z1P (fN 0) (fOp z8m (fC (.int 10)) (fC (.int 30)))))
 (sSeq (sIf (z0m (fOp opEq (fOp z1P (fOp z3g (fN 0) (fOp z8m (fC (.int 10)) (fC (.int 30)))) (fC (.int 2))) (fC (.int 1)))) (sRet (fNeg (fN 2))) z0F)
 (sRet (fN 2)))) z0F)
 (sSeq (sSet [] 3 (fAt (fLst (z02 (fC (.int 9)) (z02 (fC (.int 61)) fNil))) (fN 1)))
 (sSeq (sSet [] 2 (fOp z1P (fN 0) (fN 3)))
 (sSeq (sIf (z0m (fOp opGt (fN 2) (fOp z3g (fN 3) (fC (.int 2))))) (sRet (fOp z68 (fN 2) (fN 3))) z0F)
 (sRet (fN 2))))))
def z2v:FC:=cOf 2 4 true z3s
def zcz:FS:=(sRet (z0b 1 [0,1,3] (z0l (fN 2)) (Tg.one 0) fYes (z06 true z2v (z02 (z06 true z0I (z02 (fN 1) (z02 (fOp z0w (fN 2) (fN 0)) fNil))) (z02 (fN 3) fNil)))))
def z4A:FC:=cOf 4 4 true zcz
def zbl:FS:=(sSeq (sSet [] 1 (fAt (fLst (z02 (fC (.int 0)) (z02 (fC (.int 0)) (z02 (fC (.int 0)) (z02 (fC (.int 1)) (z02 (fC (.int 2)) fNil)))))) (fOp z1P (z06 true z0I (z02 (fN 0) (z02 (fC (.int 2)) fNil))) (fC (.int 5)))))
 (sSeq (sSet [] 2 (fOp z0w (fC (.int 1)) (fOp z1P (z06 true z0I (z02 (fN 0) (z02 (fC (.int 0)) fNil))) (fC (.int 4)))))
 (sSeq (sSet [] 3 (fOp z1P (z06 true z0I (z02 (fN 0) (z02 (fC (.int 1)) fNil))) (fC (.int 5))))
 (sSeq (sIf (z0m (fOp opEq (fOp z1P (z06 true z0I (z02 (fN 0) (z02 (fC (.int 3)) fNil))) (fC (.int 7))) (fC (.int 6)))) (sSeq (sSet [] 2 (fC (.int 6)))
 (sSeq (sSet [] 3 (fC (.int 8)))
 (sSet [] 1 (fC (.int 0))))) z0F)
 (sSeq (sIf (z0m (fOp opEq (fN 1) (fC (.int 2)))) (sSeq (sSet [] 2 (fOp z0w (fC (.int 1)) (fOp z1P (fN 2) (fC (.int 2)))))
 (sSet [] 3 (fOp z1P (fN 3) (fC (.int 4))))) z0F)
 (sRet (fTup (z02 (fN 2) (z02 (z0b 1 [0,2,1] (z0l (fN 3)) (Tg.one 0) fYes (z06 true z4A (z02 (fN 1) (z02 (fOp z0w (fC (.int 8)) (fOp z1R (fN 2) (fN 0))) (z02 (fN 2) (z02 (fN 3) fNil)))))) fNil)))))))))
def z82:FC:=cOf 1 4 true zbl
def z45:FS:=(sSeq (sIf (z0m (fOp opEq (fN 1) (fC (.int 0)))) (sSeq (sSet [] 2 (fOp z1P (fN 0) (fOp z8m (fC (.int 10)) (fC (.int 20)))))
 (sSeq (sIf (z0m (fOp opEq (fOp z1P (fOp z3g (fN 0) (fC (.int 3))) (fC (.int 2))) (fC (.int 1)))) (sRet (fNeg (fN 2))) z0F)
 (sRet (fN 2)))) z0F)
 (sSeq (sIf (z0m (fOp opEq (fOp z1P (fN 0) (fC (.int 4))) (fC (.int 1)))) (sRet (fOp z1P (fOp z68 (fOp z68 (fN 1) (fC (.int 1))) (fOp z1P (fOp z3g (fN 0) (fC (.int 4))) (fC (.int 3)))) (fN 1))) z0F)
 (sRet (fOp z1P (fOp z1P (fN 0) (fOp z8m (fC (.int 10)) (fC (.int 40)))) (fN 1)))))
def z1T:FC:=cOf 2 3 true z45
def zlo:FS:=(sSeq (sSet [] 1 (z06 true z82 (z02 (fN 0) fNil)))
 (sSeq (sSet [] 2 (z06 true z42 (z02 (fAt (fN 1) (fC (.int 0))) (z02 (z0b 1 [] (iSeq (fAt (fN 1) (fC (.int 1)))) (Tg.one 0) fYes (fBlt bLst (z02 (fN 0) fNil))) fNil))))
 (sSeq (sSet [] 3 (z06 true z92 (z02 (fN 2) fNil)))
 (sSeq (sSet [] 4 (z0b 1 [0,3] (z0l (fAt (fN 1) (fC (.int 0)))) (Tg.one 0) fYes (z06 true z1T (z02 (z06 true z0I (z02 (fN 1) (z02 (fOp z0w (fC (.int 40)) (fN 0)) fNil))) (z02 (fAt (fN 2) (fN 0)) fNil)))))
 (sSeq (sSet [] 5 (fBlt bLst (z02 (fN 4) fNil)))
 (sSeq (sSet [] 6 (z06 true z5h (z02 (fN 2) (z02 (fN 5) fNil))))
 (sSeq (sIf (fOr (z0m (fOp opNe (fN 5) (fN 4))) (fNot (fTru (z06 true z3r (z02 (fN 6) (z02 (fAt (fN 1) (fC (.int 0))) fNil)))))) (sRet (fC (.bl false))) z0F)
 (sSeq (sSet [] 7 (fBlt bLst (z02 (fN 6) fNil)))
 (sSeq (sSet [] 8 (z06 true z93 (z02 (fN 2) (z02 (fN 6) fNil))))
 (sRet (vAnd (fOp opEq (fN 6) (fN 7)) (vAnd (z06 true z3r (z02 (fN 8) (z02 (fAt (fN 1) (fC (.int 0))) fNil))) (fOp opEq (fN 8) (fN 4))))))))))))))
def zj:FC:=cOf 1 9 true zlo
theorem z1K(ns:List Int)(k:Int)(h0:0<=k):z0I [.scr ns,.int k]=some (.int (z0p ns k)):=by
 unfold z0I z5i z0p;by_cases h:k<ns.length
 · have e:atI ns k=some (ns.getD k.toNat 0):=by
     rw[ziJ h0,w8 (by rfl')];simp[List.getD,w8 (show k.toNat<ns.length by rfl')]
   simp[cOf,h,e]
 · by_cases h2:ns=[]
   · subst h2;simp[cOf,h,zdo [] [],show ¬k<0 by rfl'];rfl
   · have hp:0<ns.length:=List.length_pos_iff.mpr h2;obtain⟨f1,f2⟩:=z0A k (show(0:Int)<ns.length by rfl');have e:atI ns (k.fmod ns.length)=some (ns.getD (k.fmod ns.length).toNat 0):=by
      rw[ziJ f1,w8 (by rfl')];simp[List.getD,w8 (show(k.fmod ns.length).toNat<ns.length by rfl')]
     have e2:opEq (.scr ns) (.lst [])=some (.nw,.bl false):=by have:=zdo ns [];rw[decide_eq_false h2]at this;exact this
     simp[cOf,h,h2,e,e2,z8s,z3v,show ¬((ns.length:Int)=0) by rfl']
theorem zdN(c m:Int)(h0:0<=m)(h3:m<3):z2v [.int c,.int m]=some (.int (z4Y c m)):=by
 unfold z2v z4Y;have hm:m=0\/m=1\/m=2:=by rfl'
 have d30:z21 c 1000000000000000000000000000000=true:=by unfold z21;decide
 have d9:z21 9 2=true:=by unfold z21;decide
 have d61:z21 61 2=true:=by unfold z21;decide
 have p30:z4P 10 30=true:=by unfold z4P;decide
 have two:∀(m w v:Int),m≠2->atI [Dt.int 9,Dt.int 61] m=some (.int w)->0<w->z21 w 2=true->w.fdiv 2=v->cOf 2 4 true z3s [.int c,.int m]=some (.int (if v<c.fmod w then c.fmod w-w else c.fmod w)):=λm w v hm2 ha hw hd hv=>by
   refine z3B (f := .nw) rfl (run (ρ':=[.sh false (.int c),.sh false (.int m),.no,.no]) (by simp[cOf,z0K,hm2]) (run (ρ':=[.sh false (.int c),.sh false (.int m),.no,.sh true (.int w)]) (by simp[cOf,ha]) (run (ρ':=[.sh false (.int c),.sh false (.int m),.sh true (.int (c.fmod w)),.sh true (.int w)]) (by simp[cOf,z3v,show ¬w=0 by rfl']) ?_))) rfl;by_cases h:v<c.fmod w
   · simp[cOf,hd,hv,h]
   · simp[cOf,hd,hv,h]
 rcases hm with rfl|rfl|rfl
 · exact(two 0 9 4 (by decide) rfl (by decide) d9 rfl).trans (by simp)
 · exact(two 1 61 30 (by decide) rfl (by decide) d61 rfl).trans (by simp)
 · by_cases h:(c.fdiv 1000000000000000000000000000000).fmod 2=1
   · simp[cOf,z3s,z0K,z3v,p30,d30,h]
   · simp[cOf,z3s,z0K,z3v,p30,d30,h]
theorem zlp(ns:List Int)(a:Int)(n:Nat)(m:Int)(ha:0<=a)(hn:n<=1000)(h0:0<=m)(h3:m<3):z4A [.scr ns,.int a,.int n,.int m]=some (L (z3W ns a n m)):=by
 unfold z4A zcz;have q:z0b 1 [0,1,3] (z0l (fN 2)) (Tg.one 0) fYes (z06 true z2v (z02 (z06 true z0I (z02 (fN 1) (z02 (fOp z0w (fN 2) (fN 0)) fNil))) (z02 (fN 3) fNil))) (rho0 4 [.scr ns,.int a,.int n,.int m])=some (.nw,L (z3W ns a n m)):=by
  have:=z0d (nt:=1) (js:=[0,1,3]) (Fi:=z0l (fN 2)) (g:=Tg.one 0) (Fe:=z06 true z2v (z02 (z06 true z0I (z02 (fN 1) (z02 (fOp z0w (fN 2) (fN 0)) fNil))) (z02 (fN 3) fNil))) (ρ:=rho0 4 [.scr ns,.int a,.int n,.int m]) (e:=λ(k:Nat) => .int (0+(k:Int))) (h:=λ(k:Nat) => .int (z4Y (z0p ns (a+(k:Int))) m)) (xs:=List.range n)
   (by simp[cOf,z0l,intD,z2U,z0N,show(n:Int)<=1000000 by rfl',show -1000000<=(n:Int) by rfl'])
   (λk hk=>by simp[cOf,Tg.put,sigD,z6S,z1K ns (a+(k:Int)) (by rfl'),zdN _ m h0 h3])
  rw[this];simp[L,z3W]
 exact z3B rfl (f := .nw) (by unfold sRet;rw[q];rfl) rfl
theorem zcA(ns:List Int)(m:Int)(k n:Nat)(f1 f2 f3:Bool)(h0:0<=m)(h3:m<3)(hk:k<=100)(hn:n<=100):
    (z0b 1 [0,2,1] (z0l (fN 3)) (Tg.one 0) fYes (z06 true z4A (z02 (fN 1) (z02 (fOp z0w (fC (.int 8)) (fOp z1R (fN 2) (fN 0))) (z02 (fN 2) (z02 (fN 3) fNil)))))) [.sh false (.scr ns),.sh f1 (.int m),.sh f2 (.int k),.sh f3 (.int n)] =
      some (.nw,LL ((List.range n).map λ(j:Nat)=>z3W ns (8+(k:Int)*(j:Int)) k m)):=by
  have:=z0d (nt:=1) (js:=[0,2,1]) (Fi:=z0l (fN 3)) (g:=Tg.one 0) (Fe:=z06 true z4A (z02 (fN 1) (z02 (fOp z0w (fC (.int 8)) (fOp z1R (fN 2) (fN 0))) (z02 (fN 2) (z02 (fN 3) fNil))))) (ρ:=[.sh false (.scr ns),.sh f1 (.int m),.sh f2 (.int k),.sh f3 (.int n)]) (e:=λ(j:Nat) => .int (0+(j:Int))) (h:=λ(j:Nat)=>L (z3W ns (8+(k:Int)*(j:Int)) k m)) (xs:=List.range n)
    (by simp[cOf,z0l,intD,z2U,z0N,show(n:Int)<=1000000 by rfl',show -1000000<=(n:Int) by rfl'])
    (λj hj=>by
      have hj:=wM.mp hj
      have hm:z1e (k:Int) (j:Int)=true:=z8s (by                     have:(j:Int).natAbs=j:=by omega
                                                                    rfl')
      have hp:(0:Int)<=8+(k:Int)*(j:Int):=by have:=Vi (show(0:Int)<=k by rfl') (show(0:Int)<=j by rfl');rfl'
      have e:=zlp ns (8+(k:Int)*(j:Int)) k m hp (by rfl') h0 h3;simp[cOf,Tg.put,sigD,z6S,hm,e])
  rw[this];simp[LL]
theorem zeO(ns:List Int):z82 [.scr ns]=some (.tup [.int (z11 ns),LL (z1H ns)]):=by
 have c0:=z1K ns 0 (by decide);have c1:=z1K ns 1 (by decide);have c2:=z1K ns 2 (by decide);have c3:=z1K ns 3 (by decide);have r0:=z0A (z0p ns 0) (show(0:Int)<4 by decide);have r1:=z0A (z0p ns 1) (show(0:Int)<5 by decide);have r2:=z0A (z0p ns 2) (show(0:Int)<5 by decide);have kl:=z6p ns;have ml:=zb4 ns;have mc:=z4r ns;have tl:=λf1 f2 f3=>zcA ns (z0W ns) (z11 ns) (z3K ns) f1 f2 f3 (by rfl') (by rfl') (by rfl') (by rfl');have fin:∀(m k n:Int) (f1 f2 f3:Bool),m=z0W ns->k=z11 ns->n=z3K ns->sRet (fTup (z02 (fN 2) (z02 (z0b 1 [0,2,1] (z0l (fN 3)) (Tg.one 0) fYes (z06 true z4A (z02 (fN 1) (z02 (fOp z0w (fC (.int 8)) (fOp z1R (fN 2) (fN 0))) (z02 (fN 2) (z02 (fN 3) fNil)))))) fNil))) [.sh false (.scr ns),.sh f1 (.int m),.sh f2 (.int k),.sh f3 (.int n)]=some (.rt .nw (.tup [.int (z11 ns),LL (z1H ns)])):=by
   rintro m k n f1 f2 f3 rfl rfl rfl;simp[sRet,fTup,z02,fNil,fN,zaT,Cell.val,zoF,z0o,tl f1 f2 f3,z3S,Fl.isNw,sndL,z1H]
 have lk:∃ m0:Int,atI [Dt.int 0,Dt.int 0,Dt.int 0,Dt.int 1,Dt.int 2] ((z0p ns 2).fmod 5)=some (.int m0)/\(¬(z0p ns 3).fmod 7=6->m0=z0W ns)/\(m0=2↔(z0p ns 2).fmod 5=4):=by
   have hr2:(z0p ns 2).fmod 5=0\/(z0p ns 2).fmod 5=1\/(z0p ns 2).fmod 5=2\/(z0p ns 2).fmod 5=3\/(z0p ns 2).fmod 5=4:=by omega +splitDisjunctions
   rcases hr2 with h2|h2|h2|h2|h2<;>rw[h2]
   · exact⟨0,rfl,λh=>by simp[z0W,h,h2],by decide⟩
   · exact⟨0,rfl,λh=>by simp[z0W,h,h2],by decide⟩
   · exact⟨0,rfl,λh=>by simp[z0W,h,h2],by decide⟩
   · exact⟨1,rfl,λh=>by simp[z0W,h,h2],by decide⟩
   · exact⟨2,rfl,λh=>by simp[z0W,h,h2],by decide⟩
 obtain⟨m0,lk,lm,l2⟩:=lk;have mo:∀(c:Int) (k:Nat),z3v c ((k+1:Nat):Int)=true:=λc k=>by unfold z3v;exact decide_eq_true (by rfl')
 have mo2:=λc=>mo c 1;have mo4:=λc=>mo c 3;have mo5:=λc=>mo c 4;have mo7:=λc=>mo c 6;simp only[Nat.reduceAdd,Int.cast_ofNat_Int]at mo2 mo4 mo5 mo7;have t3:∀(m k n:Int),m=z0W ns->k=z11 ns->n=z3K ns->m≠2->_:=λm k n a b c d=>run (F:=sIf (z0m (fOp opEq (fN 1) (fC (.int 2)))) (sSeq (sSet [] 2 (fOp z0w (fC (.int 1)) (fOp z1P (fN 2) (fC (.int 2))))) (sSet [] 3 (fOp z1P (fN 3) (fC (.int 4))))) z0F) (ρ:=[.sh false (.scr ns),.sh true (.int m),.sh true (.int k),.sh true (.int n)]) (ρ':=[.sh false (.scr ns),.sh true (.int m),.sh true (.int k),.sh true (.int n)]) (by simp[cOf,z0K,d]) (fin m k n true true true a b c);refine z3B (f := .nw) rfl (run (ρ':=[.sh false (.scr ns),.sh true (.int m0),.no,.no]) (by simp[cOf,c2,lk,mo5]) (run (ρ':=[.sh false (.scr ns),.sh true (.int m0),.sh true (.int (1+(z0p ns 0).fmod 4)),.no]) (by simp[cOf,c0,mo4]) (run (ρ':=[.sh false (.scr ns),.sh true (.int m0),.sh true (.int (1+(z0p ns 0).fmod 4)),.sh true (.int ((z0p ns 1).fmod 5))]) (by simp[cOf,c1,mo5]) ?_))) rfl;by_cases h3:(z0p ns 3).fmod 7=6
 · exact run (ρ':=[.sh false (.scr ns),.sh true (.int 0),.sh true (.int 6),.sh true (.int 8)]) (by simp[cOf,c3,h3,z0K,mo7]) (t3 0 6 8 (by simp[z0W,h3]) (by simp[z11,z0W,z4Z,h3]) (by simp[z3K,z0W,z9x,h3]) (by decide))
 · have lm:=lm h3;refine run (ρ':=[.sh false (.scr ns),.sh true (.int m0),.sh true (.int (1+(z0p ns 0).fmod 4)),.sh true (.int ((z0p ns 1).fmod 5))]) (by simp[cOf,c3,h3,z0K,mo7]) ?_;by_cases h2:m0=2
   · have h4:=l2.mp h2;refine run (ρ':=[.sh false (.scr ns),.sh true (.int m0),.sh true (.int (1+(1+(z0p ns 0).fmod 4).fmod 2)),.sh true (.int (((z0p ns 1).fmod 5).fmod 4))]) (by simp[cOf,h2,z0K,mo2,mo4]) (fin m0 _ _ true true true lm ?_ ?_)
     · have:=z0A (1+(z0p ns 0).fmod 4) (show(0:Int)<2 by decide);simp[z11,z0W,z4Z,h3,h4];omega +splitDisjunctions
     · have:=z0A ((z0p ns 1).fmod 5) (show(0:Int)<4 by decide);simp[z3K,z0W,z9x,h3,h4];omega +splitDisjunctions
   · have h4:¬(z0p ns 2).fmod 5=4:=λh=>h2 (l2.mpr h);exact t3 m0 _ _ lm (by simp[z11,z0W,z4Z,h3,h4];omega +splitDisjunctions) (by simp[z3K,z0W,z9x,h3,h4];omega +splitDisjunctions) h2
theorem z8v(d:Dt):z2q [d]=some (.bl (isWh d)):=by
 unfold z2q z6t;cases d<;>simp[cOf,isWh,Dt.flat,nrm]
theorem z83(a:List Int)(n:Int):z40 [L a,.int n]=some (.bl (decide ((a.length:Int)=n))):=by
 unfold z40 z9Q;have q:z0b 1 [] (iSeq (fN 0)) (Tg.one 0) fYes (z06 true z2q (z02 (fN 0) fNil)) [.sh false (L a),.sh false (.int n)]=some (.nw,.lst (a.map λ_ => .bl true)) :=
   z0d (e:=Dt.int) (h:=λ_ => .bl true) (xs:=a) (by simp[cOf]) (λx _=>by simp[cOf,Tg.put,sigD,z8v,isWh])
 by_cases h:(a.length:Int)=n
 · simp[cOf,z16,h,q,bAll,z5F (λ_=>true) a]
 · simp[cOf,z16,h]
theorem z9V(n:Nat)(h:n<=1000):z37 [.int n]=some (L (z22 n)):=by
 unfold z37 z7R;have q:z0b 1 [] (z0l (fN 0)) (Tg.one 0) fYes (fC (.int 0)) [.sh false (.int n)]=some (.nw,L (z22 n)):=by
  rw[z0d (e:=λ(k:Nat) => .int (0+(k:Int))) (h:=λ_ => .int 0) (xs:=List.range n) (by simp[cOf,z0l,intD,z2U,z0N,show(n:Int)<=1000000 by rfl',show -1000000<=(n:Int) by rfl']) (λx _=>by simp[cOf,Tg.put])];simp[L,z22,List.map_const']
 simp[cOf,q]
theorem z79(a b:List Int)(h:a.length=b.length):z2Z [L a,L b]=some (L (addR a b)):=by
 unfold z2Z zcr;have q:z0b 2 [] (iZip (fN 0) (fN 1)) (Tg.many [0,1]) fYes (fOp z0w (fN 0) (fN 1)) [.sh false (L a),.sh false (L b)]=some (.nw,L (addR a b)):=by
  rw[z0d (e:=λp:Int×Int => .tup [.int p.1,.int p.2]) (h:=λp => .int (p.1+p.2)) (xs:=a.zip b) (by simp[cOf,iZip,h,z3k]) (λp _=>by simp[cOf,Tg.put,z29,sigD]),zl7]
 simp[cOf,q]
theorem zdO(a b:List Int)(h:a.length=b.length):z5R [L a,L b]=some (L (subR a b)):=by
 unfold z5R zcs;have q:z0b 2 [] (iZip (fN 0) (fN 1)) (Tg.many [0,1]) fYes (fOp z68 (fN 0) (fN 1)) [.sh false (L a),.sh false (L b)]=some (.nw,L (subR a b)):=by
  rw[z0d (e:=λp:Int×Int => .tup [.int p.1,.int p.2]) (h:=λp => .int (p.1-p.2)) (xs:=a.zip b) (by simp[cOf,iZip,h,z3k]) (λp _=>by simp[cOf,Tg.put,z29,sigD]),zjV]
 simp[cOf,q]
theorem z1s(a:List Int)(k:Int)(h:∀ x∈a,z1e k x=true):z0S [L a,.int k]=some (L (sclR k a)):=by
 unfold z0S z9R;have q:z0b 1 [1] (iSeq (fN 0)) (Tg.one 0) fYes (fOp z1R (fN 1) (fN 0)) [.sh false (L a),.sh false (.int k)]=some (.nw,L (sclR k a)):=by
  rw[z0d (e:=Dt.int) (h:=λx => .int (k*x)) (xs:=a) (by simp[cOf]) (λx hx=>by simp[cOf,Tg.put,sigD,z6S,h x hx])];simp[L,sclR]
 simp[cOf,q]
theorem zcB(n:Nat)(h1:1<=n)(h2:n<=6):z3F [.int n]=some (.bl true):=by
 unfold z3F z5a;have e:=z8v (.int n);simp[cOf,e,isWh,z9h,show(1:Int)<=n by rfl',show(n:Int)<=6 by rfl']
theorem zaD(n:Nat)(h1:1<=n)(h2:n<=6):z30 [.int n]=some .non:=by
 unfold z30 z4w;simp[cOf,zcB n h1 h2]
theorem zeP(a:List Int)(n:Nat)(hl:a.length=n)(h:∀ x∈a,x.natAbs<10 ^ 30):z5S [L a,.int n]=some (.bl true):=by
 unfold z5S z7U;have e:=z83 a n;have p30:z4P 10 30=true:=by unfold z4P;decide
 have q:z0b 1 [] (iSeq (fN 0)) (Tg.one 0) fYes (fOp opLt (fBlt bAbs (z02 (fN 0) fNil)) (fOp z8m (fC (.int 10)) (fC (.int 30)))) [.sh false (L a),.sh false (.int n)]=some (.nw,.lst (a.map λ_ => .bl true)) :=
  z0d (e:=Dt.int) (h:=λ_ => .bl true) (xs:=a) (by simp[cOf]) (λx hx=>by
   have:=h x hx;have:(if x<0 then -x else x)<1000000000000000000000000000000:=by split<;>rfl'
   simp[cOf,Tg.put,sigD,bAbs,p30,this])
 simp[cOf,e,hl,q,bAll,z5F (λ_=>true) a]
theorem zcC(a:List Int)(n:Nat)(hl:a.length=n)(h:∀ x∈a,x.natAbs<10 ^ 30):z24 [L a,.int n]=some .non:=by
 unfold z24 z5b;simp[cOf,zeP a n hl h]
theorem zeQ(k:Int)(rows:II):z5T [.int k,LL rows]=some (z0G k rows):=by
 unfold z5T z7V;have q:z0b 1 [] (iSeq (fN 1)) (Tg.one 0) fYes (fBlt bTup (z02 (fN 0) fNil)) [.sh false (.int k),.sh false (LL rows)]=some (.nw,.lst (rows.map T)) :=
  z0d (e:=L) (h:=T) (xs:=rows) (by simp[cOf]) (λx hx=>by simp[cOf,Tg.put,sigD,bTup,z3j])
 simp[cOf,q,bTup,zb2]
theorem zeR(n:Nat)(bills:II)(h1:1<=n)(h2:n<=6)(hm:bills.length<=8)(hw:Wide n bills)(hb:∀ r∈bills,∀ x∈r,x.natAbs<10 ^ 30):z42 [.int n,LL bills]=some (z0G n bills):=by
 unfold z42 z7W;obtain⟨j,q⟩:=z7K (g:=Tg.one 2) (F:=z6c (z06 true z24 (z02 (fN 2) (z02 (fN 0) fNil)))) (e:=L) (R:=λ(_:Unit) (c:Cell)=>[.sh false (.int n),.sh false (LL bills),c]) (step:=λ_ _=>()) bills () .no
  (λb x j hx=>⟨.sh false (L x),by simp[cOf,Tg.put,zcC x n (hw x hx) (hb x hx)]⟩)
 have q:forF (Tg.one 2) (z6c (z06 true z24 (z02 (fN 2) (z02 (fN 0) fNil)))) (bills.map L) [.sh false (.int n),.sh false (LL bills),.no]=some (.nx [.sh false (.int n),.sh false (LL bills),j]):=q;simp[cOf,zaD n h1 h2,show ¬(8<(bills.length:Int)) by rfl',q,zeQ]
theorem z9W(n:Nat)(bills:II)(b:List Int)(h:b.length=n):z2B [z0G n bills,L b]=some .non:=by
 have e:z1I [.int n,L b]=some .non:=by
  unfold z1I z2r;simp[cOf,z83,h]
 unfold z2B z3O;simp[cOf,atI,ixN,e]
abbrev HF:FS:=sIf (z0m (fOp opNe (fN 2) (fC (.int 0)))) (sRet (fN 1)) z0F
theorem zbm(c0:Cell):∀(r:List Int) (j:Nat) (c1 c2:Cell),(St.z00 r<r.length->forF (Tg.many [1,2]) HF (z2V j (r.map .int)) [c0,c1,c2]=some (.rt .nw (.int ((j+St.z00 r:Nat):Int)))) /\
  (¬St.z00 r<r.length->∃ c1' c2',forF (Tg.many [1,2]) HF (z2V j (r.map .int)) [c0,c1,c2]=some (.nx [c0,c1',c2']))
 | [],j,c1,c2=>⟨λh=>by simp[St.z00]at h,λ_=>⟨c1,c2,rfl⟩⟩
 | x::r,j,c1,c2=>by
  obtain⟨i1,i2⟩:=zbm c0 r (j+1) (.sh false (.int j)) (.sh false (.int x));rw[wv,z2V,z1f];by_cases hx:x=0
  · have e:(Tg.put (Tg.many [1,2]) (.tup [.int j,.int x]) [c0,c1,c2]).bind HF=some (.nx [c0,.sh false (.int j),.sh false (.int x)]):=by simp[cOf,z16,hx]
    have eh:St.z00 (x::r)=St.z00 r+1:=by simp[St.z00,hx]
    rw[e,eh,wj];refine⟨λh=>?_,λh=>i2 (by rfl')⟩;have:=i1 (by rfl');rw[show j+(St.z00 r+1)=j+1+St.z00 r by rfl'];exact this
  · have e:(Tg.put (Tg.many [1,2]) (.tup [.int j,.int x]) [c0,c1,c2]).bind HF=some (.rt .nw (.int j)):=by simp[cOf,z16,hx]
    have eh:St.z00 (x::r)=0:=by simp[St.z00,hx]
    rw[e,eh,wj];exact⟨λ_=>rfl,λh=>absurd (Nat.succ_pos _) h⟩
theorem z0Q(r:List Int):z0e [L r]=some (.int (St.z00 r)):=by
 unfold z0e z7T;obtain⟨h1,h2⟩:=zbm (.sh false (L r)) r 0 .no .no;have hl:=St.z7L r;by_cases h:St.z00 r<r.length
 · have h1:=h1 h;simp only[WT]at h1;simp[cOf,h1]
 · obtain⟨c1,c2,h2⟩:=h2 h;simp[cOf,h2,show St.z00 r=r.length by rfl']
theorem z9X{r:List Int}{k:Nat}(h:k<r.length):atI (r.map Dt.int) (k:Int)=some (.int (St.at0 r k)):=by
 rw[z50,zl8 h];simp[St.at0,List.getD,w8 h]
theorem zoO(a b:List Int)(q:Int):subR a (sclR q b)=St.sub a q b:=by
 unfold subR sclR St.sub;rw[List.zipWith_map_right]
theorem zj0{r:List Int}{x:Int}(h:x∈r):∃ k,St.at0 r k=x:=by
 obtain⟨k,hk,e⟩:=vx.mp h;exact⟨k,by simp[St.at0,List.getD,w8 hk,e]⟩
theorem zj1{x:Int}{m:Nat}(h:x.natAbs<2 ^ m):Builtin.Int.intBits x<=m:=zcc h
theorem z2w{i j:Int}{m k:Nat}(h1:i.natAbs<2 ^ m)(h2:j.natAbs<2 ^ k)(h:m+k<=134217728):z1e i j=true:=by
 unfold z1e;rw[decide_eq_true (show Builtin.Int.intBits i+Builtin.Int.intBits j<=134217728 from by have:=zj1 h1;have:=zj1 h2;rfl')];rfl
theorem z3b{i j:Int}(h0:0<j)(h:j<2 ^ 9000):z21 i j=true:=by
 unfold z21;rw[decide_eq_true (show j≠0 by rfl'),decide_eq_true (show j.natAbs.log2<9000 from ?_)]
 · rfl
 · rw[Vf (by rfl')];have:((2 ^ 9000:Nat):Int)=(2:Int) ^ 9000:=by norm_cast
   rfl'
abbrev LF:FS:=(sSeq (sSet [] 5 (z06 true z0e (z02 (fN 4) fNil)))
 (sSeq (sSet [] 6 (fOp z3g (fAt (fN 2) (fN 5)) (fAt (fN 4) (fN 5))))
 (sSeq (sIf (z0m (fOp opNe (fN 6) (fC (.int 0)))) (sSet [] 2 (z06 true z5R (z02 (fN 2) (z02 (z06 true z0S (z02 (fN 4) (z02 (fN 6) fNil))) fNil)))) z0F)
 (sWr wApp 3 (fN 6)))))
theorem z9Y{n m:Nat}(hm:2*m<=134217728)(c0 c1:Cell):∀(S:II) (left:List Int) (cs:List Int) (c4 c5 c6:Cell),(∀ r∈S,r.length=n/\St.z00 r<n/\0<St.hd r/\St.hd r<2 ^ 9000)->left.length=n->St.LowB m left S->cs.length+S.length<=1000 ->
  ∃ c4' c5' c6',forF (Tg.one 4) LF (S.map L) [c0,c1,.sh true (L left),.ow true (cs.map .int),c4,c5,c6]=some (.nx [c0,c1,.sh true (L (St.z0g left S)),.ow true ((cs++St.z9A left S).map .int),c4',c5',c6'])
 | [],left,cs,c4,c5,c6,_,_,_,_=>⟨c4,c5,c6,by simp[zl3,St.z0g,St.z9A]⟩
 | r::S,left,cs,c4,c5,c6,hr,hl,hb,hc=>by
  obtain⟨r1,r2,r3,r4⟩:=hr r wc;have hs:(St.sub left (St.z0H left r) r).length=n:=by rw[St.z2X (by rfl')];exact hl
  obtain⟨d4,d5,d6,ih⟩:=z9Y hm c0 c1 S (St.sub left (St.z0H left r) r) (cs++[St.z0H left r]) (.sh false (L r)) (.sh true (.int (St.z00 r))) (.sh true (.int (St.z0H left r))) (λx hx=>hr x (wa _ hx)) hs hb.2 (by simp at hc ⊢;rfl');refine⟨d4,d5,d6,?_⟩;rw[wv,z1f];have a1:=z9X (r:=left) (k:=St.z00 r) (by rfl');have a2:=z9X (r:=r) (k:=St.z00 r) (by rfl');have dv:z21 (St.at0 left (St.z00 r)) (St.at0 r (St.z00 r))=true:=z3b r3 r4;have ef:(St.at0 left (St.z00 r)).fdiv (St.at0 r (St.z00 r))=St.z0H left r:=rfl;have hcs:cs.length<1000000:=by simp at hc;rfl'
  have e:(Tg.put (Tg.one 4) (L r) [c0,c1,.sh true (L left),.ow true (cs.map .int),c4,c5,c6]).bind LF=some (.nx [c0,c1,.sh true (L (St.sub left (St.z0H left r) r)),.ow true ((cs++[St.z0H left r]).map .int),.sh false (L r),.sh true (.int (St.z00 r)),.sh true (.int (St.z0H left r))]):=by
   refine(show LF [c0,c1,.sh true (L left),.ow true (cs.map .int),.sh false (L r),c5,c6]=_ from run (ρ':=[c0,c1,.sh true (L left),.ow true (cs.map .int),.sh false (L r),.sh true (.int (St.z00 r)),c6]) (by simp[cOf,z0Q]) (run (ρ':=[c0,c1,.sh true (L left),.ow true (cs.map .int),.sh false (L r),.sh true (.int (St.z00 r)),.sh true (.int (St.z0H left r))]) (by simp[cOf,a1,a2,dv,ef]) (run (ρ':=[c0,c1,.sh true (L (St.sub left (St.z0H left r) r)),.ow true (cs.map .int),.sh false (L r),.sh true (.int (St.z00 r)),.sh true (.int (St.z0H left r))]) ?_ (by simp[cOf,hcs]))));by_cases ho:St.z0H left r=0
   · have es:St.sub left (St.z0H left r) r=left:=by rw[ho];exact St.sub_zero (by rfl')
     rw[es];simp[cOf,ho,z16]
   · have mo:∀ x∈r,z1e (St.z0H left r) x=true:=λx hx=>by
      obtain⟨k,rfl⟩:=zj0 hx;rcases hb.1 with h|⟨h1,h2⟩
      · exact absurd h ho
      · exact z2w h1 (h2 k) (by rfl')
     have e1:=z1s r (St.z0H left r) mo;have e2:=zdO left (sclR (St.z0H left r) r) (by rw[z0L];rfl');rw[zoO]at e2;simp[cOf,ho,z16,e1,e2]
  rw[e];show forF (Tg.one 4) LF (S.map L) _=_;rw[ih,St.z0g,St.z9A];simp
def RowD(d:Dt)(v:List Int):Prop:=d=L v\/d=T v
theorem zdP{n m:Nat}(d:Dt)(v:List Int)(S:II)(hd:RowD d v)(hm:2*m<=134217728)(hr:∀ r∈S,r.length=n/\St.z00 r<n/\0<St.hd r/\St.hd r<2 ^ 9000)(hl:v.length=n)(hb:St.LowB m v S)(hc:S.length<=1000):
   z4x [d,LL S]=some (.tup [L (St.z9A v S),L (St.z0g v S)]):=by
 unfold z4x z6v;rcases hd with rfl|rfl
 · obtain⟨d4,d5,d6,q⟩:=z9Y hm (.sh false (L v)) (.sh false (LL S)) S v [] .no .no .no hr hl hb (by simpa using hc);simp[cOf]at q ⊢;simp[q]
 · obtain⟨d4,d5,d6,q⟩:=z9Y hm (.sh false (T v)) (.sh false (LL S)) S v [] .no .no .no hr hl hb (by simpa using hc);simp[cOf]at q ⊢;simp[q]
theorem z6y{n m:Nat}(d:Dt)(v:List Int)(S:II)(hd:RowD d v)(hm:2*m<=134217728)(hr:∀ r∈S,r.length=n/\St.z00 r<n/\0<St.hd r/\St.hd r<2 ^ 9000)(hl:v.length=n)(hb:St.LowB m v S)(hc:S.length<=1000):
  z0Z [d,LL S]=some (L (St.z0g v S)):=by
 have e:=zdP d v S hd hm hr hl hb hc;have hn:nrm (flOf false) d=(if d.flat then .nw else .sh,d):=rfl;unfold z0Z z7Y;rcases hd with rfl|rfl<;>simp[cOf,e,zl9]
theorem zk6{i j:Int}(h0:j≠0)(h:j.natAbs<2 ^ 9000):z21 i j=true:=by
 unfold z21;rw[decide_eq_true h0,decide_eq_true (show j.natAbs.log2<9000 from(Vf (by rfl')).mpr h)];rfl
abbrev BC:FT:=z0m (fOp opNe (fAt (fN 3) (fC (.int 0))) (fC (.int 0)))
abbrev BF:FS:=(sSeq (sSet [] 4 (fOp z3g (fAt (fN 2) (fC (.int 0))) (fAt (fN 3) (fC (.int 0)))))
 (sSeq (sSet [] 5 (z0b 1 [2,4,3] (z0l (fC (.int 3))) (Tg.one 0) fYes (fOp z68 (fAt (fN 1) (fN 0)) (fOp z1R (fN 2) (fAt (fN 3) (fN 0))))))
 (sSeq (sSet [] 2 (fN 3))
 (sSet [] 3 (fN 5)))))
theorem zdQ(c0 c1 c4 c5:Cell)(u0 u1 u2 l0 l1 l2:Int)(hl:l0≠0)(h:l0.natAbs<2 ^ 9000)(m0:z1e (u0.fdiv l0) l0=true)(m1:z1e (u0.fdiv l0) l1=true)(m2:z1e (u0.fdiv l0) l2=true):
  BF [c0,c1,.sh true (L [u0,u1,u2]),.sh true (L [l0,l1,l2]),c4,c5]=some (.nx [c0,c1,.sh true (L [l0,l1,l2]),.sh true (L [u0-u0.fdiv l0*l0,u1-u0.fdiv l0*l1,u2-u0.fdiv l0*l2]),.sh true (.int (u0.fdiv l0)),.sh true (L [u0-u0.fdiv l0*l0,u1-u0.fdiv l0*l1,u2-u0.fdiv l0*l2])]):=by
 have dv:=zk6 (i:=u0) hl h;have q:z0b 1 [2,4,3] (z0l (fC (.int 3))) (Tg.one 0) fYes (fOp z68 (fAt (fN 1) (fN 0)) (fOp z1R (fN 2) (fAt (fN 3) (fN 0)))) [z4W c0,z4W c1,.sh true (L [u0,u1,u2]),.sh true (L [l0,l1,l2]),.sh true (.int (u0.fdiv l0)),z4W c5]=some (.nw,L [u0-u0.fdiv l0*l0,u1-u0.fdiv l0*l1,u2-u0.fdiv l0*l2]):=by
  rw[z0d (e:=λ(k:Nat) => .int (0+(k:Int))) (h:=λ(k:Nat) => .int ([u0,u1,u2].getD k 0-u0.fdiv l0*[l0,l1,l2].getD k 0)) (xs:=List.range 3) (by simp[cOf,show z2U 3=true from z9y (n:=3) (by decide),z0N]) (λk hk=>by
   have hk:k<3:=wM.mp hk;have a1:=z51 (xs:=[u0,u1,u2]) (i:=k) 0 hk;have a2:=z51 (xs:=[l0,l1,l2]) (i:=k) 0 hk;have mk:z1e (u0.fdiv l0) ([l0,l1,l2].getD k 0)=true:=by
    have:k=0\/k=1\/k=2:=by rfl'
    rcases this with rfl|rfl|rfl
    · exact m0
    · exact m1
    · exact m2
   generalize [u0,u1,u2].getD k 0=uk at *;generalize [l0,l1,l2].getD k 0=lk at *;generalize [u0,u1,u2]=us at *;generalize [l0,l1,l2]=ls at *;simp[cOf,z50,a1,a2,mk])]
  rfl
 exact run (ρ':=[c0,c1,.sh true (L [u0,u1,u2]),.sh true (L [l0,l1,l2]),.sh true (.int (u0.fdiv l0)),c5]) (by simp[cOf,dv]) (run (ρ':=[c0,c1,.sh true (L [u0,u1,u2]),.sh true (L [l0,l1,l2]),.sh true (.int (u0.fdiv l0)),.sh true (L [u0-u0.fdiv l0*l0,u1-u0.fdiv l0*l1,u2-u0.fdiv l0*l2])]) (by simp[cOf,q]) (run (ρ':=[c0,c1,.sh true (L [l0,l1,l2]),.sh true (L [l0,l1,l2]),.sh true (.int (u0.fdiv l0)),.sh true (L [u0-u0.fdiv l0*l0,u1-u0.fdiv l0*l1,u2-u0.fdiv l0*l2])]) (by simp[cOf]) (by simp[cOf])))
theorem zdR{a b:Int}{e:Nat}(he:e<=9000)(ha:a.natAbs<2 ^ e)(hb:b.natAbs<2 ^ e)(c0 c1:Cell):∀(k:Nat) (u0 u1 u2 l0 l1 l2:Int) (c4 c5:Cell),Br.BI a b u0 u1 u2 l0 l1 l2->l0.natAbs<=k ->
 ∃ v0 v1 v2 w1 w2 d4 d5,z12 BC BF (k+1) [c0,c1,.sh true (L [u0,u1,u2]),.sh true (L [l0,l1,l2]),c4,c5]=some (.nx [c0,c1,.sh true (L [v0,v1,v2]),.sh true (L [0,w1,w2]),d4,d5])/\Br.BI a b v0 v1 v2 0 w1 w2:=by
 intro k
 induction k using WW with
 | _ k IH =>
 intro u0 u1 u2 l0 l1 l2 c4 c5 B hk;have hc:BC [c0,c1,.sh true (L [u0,u1,u2]),.sh true (L [l0,l1,l2]),c4,c5]=some (!decide (l0=0)):=by simp[cOf,z16]
 rw[z12,hc,z0o];by_cases hl:l0=0
 · subst hl;exact⟨u0,u1,u2,l1,l2,c4,c5,by simp,B⟩
 · have p3:2 ^ (e+3)=8*2 ^ e:=by rw[Wa];rfl'
   obtain⟨z1,z2,z3,z4⟩:=Br.ziK u0 l0 hl;have c1':=B.c1;have c2':=B.c2;have b3:=B.b3;have b4:=B.b4;have hq:(u0.fdiv l0).natAbs<2 ^ (e+3):=by
    have:1*(u0.fdiv l0).natAbs<=l0.natAbs*(u0.fdiv l0).natAbs:=wF _ (by rfl');rw[WN l0.natAbs]at this;rfl'
   have h9:(2:Nat) ^ e<=2 ^ 9000:=wm (by decide) he;have st:=zdQ c0 c1 c4 c5 u0 u1 u2 l0 l1 l2 hl (by rfl') (z2w hq (show l0.natAbs<2 ^ (e+3) by rfl') (by rfl')) (z2w hq (show l1.natAbs<2 ^ (e+3) by rfl') (by rfl')) (z2w hq (show l2.natAbs<2 ^ (e+3) by rfl') (by rfl'));cases k with
   | zero=>rfl'
   | succ k =>
    obtain⟨v0,v1,v2,w1,w2,d4,d5,ih,B'⟩:=IH k (Wb k) _ _ _ _ _ _ (.sh true (.int (u0.fdiv l0))) (.sh true (L [u0-u0.fdiv l0*l0,u1-u0.fdiv l0*l1,u2-u0.fdiv l0*l2])) (B.turn hl) (by rfl');refine⟨v0,v1,v2,w1,w2,d4,d5,?_,B'⟩;rw[st];simp only[hl,decide_false,u9,if_true,z0o];exact ih
theorem zbn(a b:Int)(e:Nat)(he:e<=9000)(ha:a.natAbs<2 ^ e)(hb:b.natAbs<2 ^ e):∃ x y,z5c [.int a,.int b]=some (T [(WY a b:Int),x,y])/\a*x+b*y=WY a b/\x.natAbs<=a.natAbs+2*b.natAbs+1/\y.natAbs<=a.natAbs+2*b.natAbs+1:=by
 obtain⟨v0,v1,v2,w1,w2,d4,d5,lp,B⟩:=zdR he ha hb (.sh false (.int a)) (.sh false (.int b)) b.natAbs a 1 0 b 0 1 .no .no (Br.BI.start a b) (wx _);have lp:=z5D lp;have fin:=B.fin;have up:=B.up;have b1:=B.b1;have b2:=B.b2;have pre:∀{r:Option Oc},(sSeq (sIf (z0m (fOp opLt (fAt (fN 2) (fC (.int 0))) (fC (.int 0)))) (sSet [] 2 (z0b 1 [] (iSeq (fN 2)) (Tg.one 0) fYes (fNeg (fN 0)))) z0F) (sRet (fBlt bTup (z02 (fN 2) fNil)))) [.sh false (.int a),.sh false (.int b),.sh true (L [v0,v1,v2]),.sh true (L [0,w1,w2]),d4,d5]=r->z9S (rho0 6 [.int a,.int b])=r:=λh=>run (ρ':=[.sh false (.int a),.sh false (.int b),.sh true (L [a,1,0]),.no,.no,.no]) (by simp[cOf,L]) (run (ρ':=[.sh false (.int a),.sh false (.int b),.sh true (L [a,1,0]),.sh true (L [b,0,1]),.no,.no]) (by simp[cOf,L]) (run lp h));have at0:atI ([v0,v1,v2].map Dt.int) 0=some (.int v0):=rfl;by_cases h0:v0<0
 · refine⟨-v1,-v2,?_,by rw[Vj,Vj];rfl',by rfl',by rfl'⟩;have q:z0b 1 [] (iSeq (fN 2)) (Tg.one 0) fYes (fNeg (fN 0)) [.sh false (.int a),.sh false (.int b),.sh true (L [v0,v1,v2]),.sh true (L [0,w1,w2]),z4W d4,z4W d5]=some (.nw,L [-v0,-v1,-v2]):=by
    rw[z0d (e:=Dt.int) (h:=λx => .int (-x)) (xs:=[v0,v1,v2]) (by simp[cOf,L]) (λx hx=>by simp[cOf])];rfl
   have e0:(WY a b:Int) = -v0:=by rfl'
   rw[e0];refine z3B (f := .nw) rfl (pre (run (ρ':=[.sh false (.int a),.sh false (.int b),.sh true (L [-v0,-v1,-v2]),.sh true (L [0,w1,w2]),d4,d5]) ?_ (by simp[cOf,T]))) rfl;generalize [v0,v1,v2]=vs at *;simp[cOf,at0,h0,q]
 · refine⟨v1,v2,?_,by rfl',by rfl',by rfl'⟩;have e0:(WY a b:Int)=v0:=by rfl'
   rw[e0];refine z3B (f := .nw) rfl (pre (run (ρ':=[.sh false (.int a),.sh false (.int b),.sh true (L [v0,v1,v2]),.sh true (L [0,w1,w2]),d4,d5]) ?_ (by simp[cOf,T]))) rfl;generalize [v0,v1,v2]=vs at *;simp[cOf,at0,h0]
theorem zoP(a b:List Int)(x y:Int):addR (sclR x a) (sclR y b)=St.lin x a y b:=by
 unfold addR sclR St.lin;rw[VQ]
theorem zlq(a b:List Int)(x y:Int):subR (sclR x a) (sclR y b)=St.lin x a (-y) b:=by
 unfold subR sclR St.lin;rw[VQ];congr 1
 funext p q
 rw[vS];rfl'
theorem z5X{q:Int}{r:List Int}{m k:Nat}(h1:q.natAbs<2 ^ m)(h2:St.Lt (2 ^ k) r)(h:m+k<=134217728):∀ x∈r,z1e q x=true:=λx hx=>by
 obtain⟨i,rfl⟩:=zj0 hx;exact z2w h1 (h2 i) h
theorem zeS{n e q:Nat}(r left:List Int)(hr:r.length=n)(hl:left.length=n)(hh:St.z00 r<n)(hp:0<St.hd r)(h1:St.hd r<2 ^ e)(h2:0<=St.at0 left (St.z00 r))(h3:St.at0 left (St.z00 r)<St.hd r)(he:e<=8990)(s1:St.Lt (2 ^ q) r)(s2:St.Lt (2 ^ q) left)(hq:q<=100000000):
  ∃ g x y,z38 [L r,L left]=some (.tup [L (St.z0C r left x y),L (St.z1c r left g)])/\0<g/\g∣St.hd r/\g∣St.at0 left (St.z00 r)/\St.hd r*x+St.at0 left (St.z00 r)*y=g/\x.natAbs<2 ^ (e+2)/\y.natAbs<2 ^ (e+2):=by
 have cast:((2 ^ e:Nat):Int)=(2:Int) ^ e:=by norm_cast
 have a1:(St.hd r).natAbs<2 ^ e:=by rfl'
 have a2:(St.at0 left (St.z00 r)).natAbs<2 ^ e:=by rfl'
 obtain⟨x,y,eb,exy,bx,bY⟩:=zbn (St.hd r) (St.at0 left (St.z00 r)) e (by rfl') a1 a2;have g0:0<WY (St.hd r) (St.at0 left (St.z00 r)):=vG _ (by rfl');have d1:(WY (St.hd r) (St.at0 left (St.z00 r)):Int)∣St.hd r:=VR _ _;have d2:(WY (St.hd r) (St.at0 left (St.z00 r)):Int)∣St.at0 left (St.z00 r):=VD _ _;generalize eg:(WY (St.hd r) (St.at0 left (St.z00 r)):Int)=g at *;have g0:0<g:=by rfl'
 have p2:2 ^ (e+2)=4*2 ^ e:=by rw[Wa];rfl'
 have x1:x.natAbs<2 ^ (e+2):=by rfl'
 have y1:y.natAbs<2 ^ (e+2):=by rfl'
 refine⟨g,x,y,?_,g0,d1,d2,exy,x1,y1⟩;have gle:g<=St.hd r:=Wy hp d1;have g9:g<2 ^ 9000:=by
  have h9:(2:Nat) ^ e<=2 ^ 9000:=wm (by decide) (by rfl');have:((2 ^ 9000:Nat):Int)=(2:Int) ^ 9000:=by norm_cast
  rfl'
 have dv1:z21 (St.hd r) g=true:=z3b g0 g9;have dv2:z21 (St.at0 left (St.z00 r)) g=true:=z3b g0 g9;have k1:((St.hd r).fdiv g).natAbs<2 ^ (e+2):=by have:=St.z3Y (St.hd r) g0;rfl'
 have k2:((St.at0 left (St.z00 r)).fdiv g).natAbs<2 ^ (e+2):=by have:=St.z3Y (St.at0 left (St.z00 r)) g0;rfl'
 have t1:=z9X (r:=r) (k:=St.z00 r) (by rfl');have t2:=z9X (r:=left) (k:=St.z00 r) (by rfl');have t1:atI (r.map Dt.int) (St.z00 r:Int)=some (.int (St.hd r)):=t1;have e1:=z1s r x (z5X x1 s1 (by rfl'));have e2:=z1s left y (z5X y1 s2 (by rfl'));have e3:=z1s left ((St.hd r).fdiv g) (z5X k1 s2 (by rfl'));have e4:=z1s r ((St.at0 left (St.z00 r)).fdiv g) (z5X k2 s1 (by rfl'));have e5:=z79 (sclR x r) (sclR y left) (by rw[z0L,z0L];rfl');have e6:=zdO (sclR ((St.hd r).fdiv g) left) (sclR ((St.at0 left (St.z00 r)).fdiv g) r) (by rw[z0L,z0L];rfl');rw[zoP]at e5;rw[zlq]at e6;have hT:T [g,x,y] = .tup [.int g,.int x,.int y]:=rfl;have nT:∀ f,nrm f (.tup [.int g,.int x,.int y])=(.nw,.tup [.int g,.int x,.int y]):=λf=>nrm_T f [g,x,y];rw[hT]at eb;unfold z38 z7Z;have eL:St.z1c r left g=St.lin ((St.hd r).fdiv g) left (-((St.at0 left (St.z00 r)).fdiv g)) r:=rfl;simp[cOf,z0Q,t1,t2,eb,nT,dv1,dv2,e1,e2,e3,e4,e5,e6,St.z0C,eL]
theorem zcD{n q:Nat}(left:List Int)(hl:left.length=n)(hh:St.z00 left<n):z19 [L left]=some (L (if St.at0 left (St.z00 left)<0 then sclR (-1) left else left)):=by
 have t2:=z9X (r:=left) (k:=St.z00 left) (by rfl');have e1:=z1s left (-1) (λx _=>zcj (by decide));unfold z19 z5d;by_cases h:St.at0 left (St.z00 left)<0
 · simp[cOf,z0Q,t2,h,e1]
 · simp[cOf,z0Q,t2,h,z3V]
def z1L(S:II):II:=(z2F (S.map λr=>((St.z00 r:Int),r))).map (·.2)
theorem z7a(S:II):(z1L S).Perm S:=by
 have:=(z1X (S.map λr=>((St.z00 r:Int),r))).map (·.2);rw[wW]at this;have e:S.map ((λx:Int×List Int=>x.2)∘λr=>((St.z00 r:Int),r))=S:=by
  have:((λx:Int×List Int=>x.2)∘λr:List Int=>((St.z00 r:Int),r))=id:=rfl;rw[this,List.map_id]
 rw[e]at this;exact this
theorem z9Z(S:II)(hn:(S.map St.z00).Nodup):((z1L S).map St.z00).Pairwise (·<·):=by
 have h1:((z1L S).map St.z00).Pairwise (·<=·):=by
  have q:=z4p (S.map λr=>((St.z00 r:Int),r));have mem:∀ p∈z2F (S.map λr=>((St.z00 r:Int),r)),p.1=(St.z00 p.2:Int):=λp hp=>by
   obtain⟨r,_,rfl⟩:=wf.mp ((z1X _).mem_iff.mp hp);rfl
  unfold z1L;rw[wW,VB];refine List.Pairwise.imp_of_mem (λ{a b} ha hb hab=>?_) q;have e1:=mem a ha;have e2:=mem b hb;show St.z00 a.2<=St.z00 b.2;have hab:a.1<=b.1:=hab;rfl'
 have h2:((z1L S).map St.z00).Nodup:=((z7a S).map St.z00).nodup_iff.mpr hn;exact(List.pairwise_and_iff.mpr ⟨h1,h2⟩).imp λ{a b} ⟨p,q⟩=>by rfl'
theorem za:∀ S:II,z2o z0e (S.map L)=some (S.map λr=>(St.z00 r:Int))
 | []=>rfl
 | r::S=>by rw[wv,z2o,z0Q,za S];rfl
theorem zk7(S:II):(z2F ((S.map λr=>(St.z00 r:Int)).zip (S.map L))).map (·.2)=(z1L S).map L:=by
 have e:(S.map λr=>(St.z00 r:Int)).zip (S.map L)=(S.map λr=>((St.z00 r:Int),r)).map λq=>(q.1,L q.2):=by
  rw[List.zip_map,wW];have:S.zip S=S.map λr=>(r,r):=by
   induction S with
   | nil=>rfl
   | cons r S ih=>rw[WV,ih];rfl
  rw[this,wW];rfl
 rw[e,z5E];unfold z1L;rw[wW,wW];rfl
def z1g:Nat->II->List (Nat×List Int)
 | _,[]=>[]
 | j,r::S=>(j,r)::z1g (j+1) S
theorem z46:∀(j:Nat) (S:II),z2V j (S.map L)=(z1g j S).map λp => .tup [.int p.1,L p.2]
 | j,[]=>rfl
 | j,r::S=>by rw[wv,z2V,z1g,wv,z46 (j+1) S]
theorem z6z(h:Nat):∀(j:Nat) (S:II),(∀ r∈S,St.z00 r≠h)->(z1g j S).filter (λp=>decide (St.z00 p.2=h))=[]
 | j,[],_=>rfl
 | j,r::S,q=>by
  rw[z1g,WH,z6z h (j+1) S λx hx=>q x (wa _ hx)];simp[q r wc]
theorem zbo(h:Nat):∀(j:Nat) (S1:II) (r:List Int) (S2:II),St.z00 r=h->((S1++r::S2).map St.z00).Pairwise (·<·)->(z1g j (S1++r::S2)).filter (λp=>decide (St.z00 p.2=h))=[(j+S1.length,r)]
 | j,[],r,S2,hr,pw=>by
  rw[vC]at pw ⊢;rw[wv,wZ]at pw;rw[z1g,WH,z6z h (j+1) S2 λx hx=>by have:=pw.1 _ (wf.mpr ⟨x,hx,rfl⟩);rfl'];simp[hr]
 | j,x::S1,r,S2,hr,pw=>by
  rw[v6]at pw ⊢;rw[wv,wZ]at pw;have hx:=pw.1 (St.z00 r) (wf.mpr ⟨r,by simp,rfl⟩);rw[z1g,WH,zbo h (j+1) S1 r S2 hr pw.2];simp[show St.z00 x≠h by rfl'];rfl'
theorem zbp(S:II)(left:List Int)(c0 c1 c4 c5:Cell)(f:Bool):z0b 2 [3] (z3i (fN 2)) (Tg.many [0,1]) (z0m (fOp opEq (z06 true z0e (z02 (fN 1) fNil)) (z06 true z0e (z02 (fN 2) fNil)))) (fN 0) [c0,c1,.ow f (S.map L),.sh true (L left),c4,c5] =
   some (.nw,.lst (((z1g 0 S).filter λp=>decide (St.z00 p.2=St.z00 left)).map λp => .int (p.1:Int))):=by
 refine z4q (e:=λp:Nat×List Int => .tup [.int p.1,L p.2]) (h:=λp => .int (p.1:Int)) (p:=λp=>decide (St.z00 p.2=St.z00 left)) (xs:=z1g 0 S) ?_ (λx hx=>?_) (λx hx _=>?_)
 · cases f<;>simp[cOf,z46]
 · simp[cOf,z0Q,z0K];rfl'
 · simp[cOf]
abbrev WC:FT:=z0m (fOp opLt (z06 true z0e (z02 (fN 3) fNil)) (fBlt bLen (z02 (fN 3) fNil)))
abbrev WF:FS:=(sSeq (z2D 4 (z0b 2 [3] (z3i (fN 2)) (Tg.many [0,1]) (z0m (fOp opEq (z06 true z0e (z02 (fN 1) fNil)) (z06 true z0e (z02 (fN 2) fNil)))) (fN 0)))
 (sSeq (sIf (z0m (fOp opEq (fBlt bLen (z02 (fN 4) fNil)) (fC (.int 0)))) (sRet (z6o z0e (fOp z0w (fN 2) (fLst (z02 (z06 true z19 (z02 (fN 3) fNil)) fNil))))) z0F)
 (sSeq (z2D 5 (z06 true z38 (z02 (fAt (fN 2) (fAt (fN 4) (fC (.int 0)))) (z02 (fN 3) fNil))))
 (sSeq (sPut 2 (fAt (fN 4) (fC (.int 0))) (fAt (fN 5) (fC (.int 0))))
 (z2D 3 (z06 true z0Z (z02 (fAt (fN 5) (fC (.int 1))) (z02 (fN 2) fNil))))))))
theorem zlr(S:II)(t:List Int)(h:S.length<60):z0w (.lst (S.map L)) (.lst [L t])=some (newL ((S++[t]).map L)):=by
 have:z0w (.lst (S.map L)) (.lst [L t])=z4Q (.lst (S.map L)) (.lst [L t]):=rfl;rw[this,z4Q,if_pos (by simp;rfl')];simp
theorem zls(S:II)(left t:List Int)(c0 c1 c4 c5:Cell)(f:Bool)(hn:∀ r∈S,St.z00 r≠St.z00 left)(ht:z19 [L left]=some (L t))(hh:((S++[t]).map St.z00).Nodup)(h60:S.length<60):
  ∃ fl,WF [c0,c1,.ow f (S.map L),.sh true (L left),c4,c5]=some (.rt fl (LL (z1L (S++[t])))):=by
 have pl:=zbp S left c0 c1 c4 c5 f;rw[z6z _ 0 S hn]at pl;have st:z6o z0e (fOp z0w (fN 2) (fLst (z02 (z06 true z19 (z02 (fN 3) fNil)) fNil))) [c0,c1,.ow f (S.map L),.sh true (L left),.sh true (.lst []),c5]=some (newL ((z1L (S++[t])).map L)):=by
  have e1:fOp z0w (fN 2) (fLst (z02 (z06 true z19 (z02 (fN 3) fNil)) fNil)) [c0,c1,.ow f (S.map L),.sh true (L left),.sh true (.lst []),c5]=some (newL ((S++[t]).map L)):=by
   have:=zlr S t h60;simp[cOf,ht,this]
  unfold z6o;rw[e1];have k1:=za (S++[t]);have nd:((S++[t]).map λr=>(St.z00 r:Int)).Nodup:=by
   have:((S++[t]).map λr=>(St.z00 r:Int))=((S++[t]).map St.z00).map (λn:Nat=>(n:Int)):=by rw[wW];rfl
   rw[this];exact List.Pairwise.map _ (λa b hab e=>hab (by rfl')) hh
  show(z2o z0e ((S++[t]).map L)).bind _=_;rw[k1,z0o,if_pos ⟨by simp;rfl',nd⟩,zk7]
 refine⟨lfl ((z1L (S++[t])).map L),?_⟩;have e1:z2D 4 (z0b 2 [3] (z3i (fN 2)) (Tg.many [0,1]) (z0m (fOp opEq (z06 true z0e (z02 (fN 1) fNil)) (z06 true z0e (z02 (fN 2) fNil)))) (fN 0)) [c0,c1,.ow f (S.map L),.sh true (L left),c4,c5]=some (.nx [c0,c1,.ow f (S.map L),.sh true (L left),.sh true (.lst []),c5]):=by
  unfold z2D;rw[pl];rfl
 refine run e1 ?_;have e2:sIf (z0m (fOp opEq (fBlt bLen (z02 (fN 4) fNil)) (fC (.int 0)))) (sRet (z6o z0e (fOp z0w (fN 2) (fLst (z02 (z06 true z19 (z02 (fN 3) fNil)) fNil))))) z0F [c0,c1,.ow f (S.map L),.sh true (L left),.sh true (.lst []),c5]=some (.rt (lfl ((z1L (S++[t])).map L)) (LL (z1L (S++[t])))):=by
  have c:z0m (fOp opEq (fBlt bLen (z02 (fN 4) fNil)) (fC (.int 0))) [c0,c1,.ow f (S.map L),.sh true (L left),.sh true (.lst []),c5]=some true:=by simp[cOf,z0K]
  unfold sIf;rw[c,z0o,if_pos rfl,sRet,st];rfl
 unfold sSeq;rw[e2];rfl
theorem zeT(S1 S2:II)(r left up lo:List Int)(c0 c1 c4 c5:Cell)(f:Bool)(hh:St.z00 r=St.z00 left)(pw:((S1++r::S2).map St.z00).Pairwise (·<·))(hc:z38 [L r,L left]=some (.tup [L up,L lo]))(res:List Int)(hl:z0Z [L lo,LL (S1++up::S2)]=some (L res)):
   ∃ d4 d5,WF [c0,c1,.ow f ((S1++r::S2).map L),.sh true (L left),c4,c5]=some (.nx [c0,c1,.ow f ((S1++up::S2).map L),.sh true (L res),d4,d5]):=by
 have pl:=zbp (S1++r::S2) left c0 c1 c4 c5 f;rw[zbo _ 0 S1 r S2 hh pw]at pl;have pl:z0b 2 [3] (z3i (fN 2)) (Tg.many [0,1]) (z0m (fOp opEq (z06 true z0e (z02 (fN 1) fNil)) (z06 true z0e (z02 (fN 2) fNil)))) (fN 0) [c0,c1,.ow f ((S1++r::S2).map L),.sh true (L left),c4,c5]=some (.nw,.lst [.int (S1.length:Int)]):=by rw[pl];simp
 refine⟨.sh true (.lst [.int (S1.length:Int)]),.sh true (.tup [L up,L lo]),?_⟩;have at1:atI ((S1++r::S2).map L) (S1.length:Int)=some (L r):=z2y (by simp);have ix:ixN ((S1++r::S2).map L).length (S1.length:Int)=some S1.length:=by
   unfold ixN;rw[if_pos (by rfl'),if_pos (by simp;rfl')];simp
 have set1:((S1++r::S2).map L).set S1.length (L up)=(S1++up::S2).map L:=by
   rw[Wk,Wk,List.set_append];simp
 have hl:z0Z [L lo,.lst ((S1++up::S2).map L)]=some (L res):=hl;generalize (S1++r::S2).map L=D at *;generalize (S1++up::S2).map L=D' at *;have e1:z2D 4 (z0b 2 [3] (z3i (fN 2)) (Tg.many [0,1]) (z0m (fOp opEq (z06 true z0e (z02 (fN 1) fNil)) (z06 true z0e (z02 (fN 2) fNil)))) (fN 0)) [c0,c1,.ow f D,.sh true (L left),c4,c5]=some (.nx [c0,c1,.ow f D,.sh true (L left),.sh true (.lst [.int (S1.length:Int)]),c5]):=by
   unfold z2D;rw[pl];rfl
 refine run e1 (run (ρ':=[c0,c1,.ow f D,.sh true (L left),.sh true (.lst [.int (S1.length:Int)]),c5]) ?_ (run (ρ':=[c0,c1,.ow f D,.sh true (L left),.sh true (.lst [.int (S1.length:Int)]),.sh true (.tup [L up,L lo])]) ?_ (run (ρ':=[c0,c1,.ow f D',.sh true (L left),.sh true (.lst [.int (S1.length:Int)]),.sh true (.tup [L up,L lo])]) ?_ ?_)))
 · simp[cOf,z0K]
 · simp[cOf,at1,hc]
 · simp[cOf,ix,set1]
 · simp[cOf,hl]
theorem zk8(S:II)(h:Nat):(∀ r∈S,St.z00 r≠h)\/∃ S1 r S2,S=S1++r::S2/\St.z00 r=h:=by
 by_cases q:∃ r∈S,St.z00 r=h
 · obtain⟨r,hr,e⟩:=q;obtain⟨S1,S2,rfl⟩:=vd hr;exact .inr ⟨S1,r,S2,rfl,e⟩
 · exact .inl λr hr e=>q ⟨r,hr,e⟩
theorem za0{n e:Nat}{S:II}(A:St.Asc n 0 S)(hd:∀ r∈S,St.hd r<2 ^ e)(he:e<=8990):∀ r∈S,r.length=n/\St.z00 r<n/\0<St.hd r/\St.hd r<2 ^ 9000:=λr hr=>by
 have q:=A.mem hr;refine⟨q.1,q.2.2.1,q.2.2.2,?_⟩;have h1:=hd r hr;have h9:(2:Nat) ^ e<=2 ^ 9000:=wm (by decide) (by rfl');have c1:((2 ^ 9000:Nat):Int)=(2:Int) ^ 9000:=by norm_cast
 have c2:((2 ^ e:Nat):Int)=(2:Int) ^ e:=by norm_cast
 rfl'
structure Sz(n e eh m0 kk:Nat):Prop where
 n20:n<=20
 e90:eh<=8990
 ehe:eh<=e
 e33:e<=33000
 m0e:m0=e+20*(e+1)
 kke:kk=2*e+3+20*(e+1)
theorem Sz.lim{n e eh m0 kk:Nat}(z:Sz n e eh m0 kk):m0+n*kk<=16000000:=by
 have h1:=z.n20;have h2:=z.e33;have h3:=z.m0e;have h4:=z.kke;have:n*kk<=20*kk:=wF _ h1;rfl'
theorem zoQ{n e eh m0 kk:Nat}(z:Sz n e eh m0 kk)(S0:II)(v:List Int)(h20:S0.length<=20)(c0 c1:Cell)(f:Bool):∀(k:Nat) (S:II) (left:List Int) (c4 c5:Cell),St.Wi n e eh m0 kk S0 v S left->n-St.z00 left<=k ->
 (∃ S' left' c4' c5',z12 WC WF (k+1) [c0,c1,.ow f (S.map L),.sh true (L left),c4,c5]=some (.nx [c0,c1,.ow f (S'.map L),.sh true (L left'),c4',c5'])/\St.Post n (e+3+(m0+n*kk)) S0 v S') \/
 (∃ S' fl,z12 WC WF (k+1) [c0,c1,.ow f (S.map L),.sh true (L left),c4,c5]=some (.rt fl (LL S'))/\St.Post n (e+3+(m0+n*kk)) S0 v S'):=by
 intro k
 induction k using WW with
 | _ k IH =>
 intro S left c4 c5 I hk;have lim:=z.lim;have hlen:S.length=S0.length:=by have:=congrArg List.length I.heads;simpa using this
 have hc:WC [c0,c1,.ow f (S.map L),.sh true (L left),c4,c5]=some (decide (St.z00 left<n)):=by
   have:(decide ((St.z00 left:Int)<(left.length:Int)))=decide (St.z00 left<n):=by
     have:=I.len;by_cases h:St.z00 left<n
     · rw[decide_eq_true h,decide_eq_true (by rfl')]
     · rw[decide_eq_false h,decide_eq_false (by rfl')]
   simp[cOf,z0Q,this];have:=I.len;rfl'
 rw[z12,hc,z0o];by_cases hn:St.z00 left<n
 · rw[decide_eq_true hn,if_pos rfl];rcases zk8 S (St.z00 left)with no|⟨S1,r,S2,rfl,hr⟩
   · right;have ht:=zcD (n:=n) (q:=0) left I.len hn;generalize et:(if St.at0 left (St.z00 left)<0 then sclR (-1) left else left)=t at ht;have hne:St.at0 left (St.z00 left)≠0:=St.z6X left (by rw[I.len];exact hn)
     have tc:∃ c:Int,(c=1∨c = -1)∧(∀ k,St.at0 t k=c*St.at0 left k)∧0<St.at0 t (St.z00 left)∧t.length=n:=by
       by_cases h:St.at0 left (St.z00 left)<0
       · rw[if_pos h]at et;subst et;have e1:∀ k,St.at0 (sclR (-1) left) k = -1*St.at0 left k:=λk=>by
          simp only[St.at0,sclR,List.getD,wu];cases left[k]?<;>simp
         exact⟨-1,.inr rfl,e1,by rw[e1];rfl',by rw[z0L];exact I.len⟩
       · rw[if_neg h]at et;subst et;exact⟨1,.inl rfl,λk=>by rfl',by rfl',I.len⟩
     obtain⟨c,hc1,hc2,hc3,hc4⟩:=tc;have th:St.z00 t=St.z00 left:=St.z1r _ _ (λk hk=>by rw[hc2,St.z0f left k hk];simp) (by rfl');have nd:((S++[t]).map St.z00).Nodup:=by
       rw[Wk,VA];refine⟨(St.Asc.iff.mp I.asc).2.imp λ{a b} h=>by rfl',by simp,λa ha b hb=>?_⟩;obtain⟨x,hx,rfl⟩:=wf.mp ha;have:=no x hx;have hb:b=St.z00 t:=by simpa using hb
       rfl'
     obtain⟨fl,ew⟩:=zls S left t c0 c1 c4 c5 f no ht nd (by rfl');refine⟨z1L (S++[t]),fl,by rw[ew];rfl,?_⟩;refine I.new hn no hc4 c hc1 hc2 hc3 ?_ (z9Z _ nd);exact(z7a _).trans (List.perm_append_comm)
   · have hm:r∈S1++r::S2:=by simp
     have q:=I.asc.mem hm;have hcast:((2 ^ e:Nat):Int)=(2:Int) ^ e:=by norm_cast
     have hle:m0+St.z00 left*kk<=m0+n*kk:=by have:=wF kk (Wx hn);rfl'
     obtain⟨g,x,y,ec,hg,ga,gb,hxy,hx,hy⟩:=zeS (n:=n) (e:=eh) (q:=e+3+(m0+St.z00 left*kk)) r left q.1 I.len q.2.2.1 q.2.2.2 (I.hds r hm) (I.low r hm).1 (I.low r hm).2 z.e90 (I.all r hm) (I.size.mono (wm (by decide) (by rfl'))) (by have:=z.e33;rfl');have hl2:S1.length+S2.length+1<=20:=by simp at hlen;rfl'
     obtain⟨I',hlt,lb,hds'⟩:=I.step hr hn hg ga gb hxy (wD hx (wm (by decide) (by have:=z.ehe;rfl'))) (wD hy (wm (by decide) (by have:=z.ehe;rfl'))) (by have:=z.m0e;rfl') (by
       have:=z.kke;have:(S1.length+S2.length+1)*(e+1)<=20*(e+1):=wF _ hl2;rfl')
     have el:=z6y (n:=n) (m:=m0+n*kk) (L (St.z1c r left g)) (St.z1c r left g) (S1++St.z0C r left x y::S2) (.inl rfl) (by rfl') (za0 I'.asc hds' z.e90) (by
       unfold St.z1c;rw[St.z8X (by rw[I.len,q.1])];exact I.len) lb (by simp;rfl')
     obtain⟨d4,d5,ew⟩:=zeT S1 S2 r left _ _ c0 c1 c4 c5 f hr (St.Asc.iff.mp I.asc).2 ec _ el;cases k with
     | zero=>rfl'
     | succ k =>
       rcases IH k (Wb k) _ _ d4 d5 I' (by rfl') with⟨S',l',d4',d5',h1,h2⟩|⟨S',fl,h1,h2⟩
       · exact .inl ⟨S',l',d4',d5',by rw[ew];exact h1,h2⟩
       · exact .inr ⟨S',fl,by rw[ew];exact h1,h2⟩
 · rw[decide_eq_false hn];exact .inl ⟨S,left,c4,c5,rfl,I.done hn⟩
theorem zdS{n e eh m0 kk:Nat}(z:Sz n e eh m0 kk)(S:II)(d:Dt)(v:List Int)(hd:RowD d v)(A:St.Asc n 0 S)(hv:v.length=n)(h0:∀ r∈S,St.Lt (2 ^ e) r)(hh:∀ r∈S,St.hd r<2 ^ eh)(hs:St.Lt (2 ^ e) v)(h20:S.length<=20):
   ∃ S',z2s [LL S,d]=some (LL S')/\St.Post n (e+3+(m0+n*kk)) S v S':=by
 have lim:=z.lim;have hm0:=z.m0e;have hml:e+S.length*(e+1)<=m0:=by have:S.length*(e+1)<=20*(e+1):=wF _ h20;rfl'
 obtain⟨I,lb⟩:=St.Wi.start (n:=n) (e:=e) (eh:=eh) (s:=e) (m0:=m0) (kk:=kk) A hv h0 hh hs hml (by rfl');have el:=z6y (n:=n) (m:=m0) d v S hd (by rfl') (za0 A I.hds z.e90) hv lb (by rfl');have el:z0Z [d,.lst (S.map L)]=some (L (St.z0g v S)):=el;have fl:∃ f:Bool,∀ d0:Dt,sOwn 2 (fBlt bLst (z02 (fN 0) fNil)) [.sh false (LL S),.sh false d0,.no,.no,.no,.no]=some (.nx [.sh false (LL S),.sh false d0,.ow f (S.map L),.no,.no,.no]):=by
   cases S with
   | nil=>exact⟨true,λd0=>by simp[cOf]⟩
   | cons r S=>exact⟨false,λd0=>by simp[cOf,newL,lfl]⟩
 obtain⟨f,hf⟩:=fl;have hb:∀ o,z3J WC WF [.sh false (LL S),.sh false d,.ow f (S.map L),.sh true (L (St.z0g v S)),.no,.no]=some o->(∃ S' fl,seqO (sRet (fN 2)) o=some (.rt fl (LL S'))/\St.Post n (e+3+(m0+n*kk)) S v S')->∃ S',z2s [LL S,d]=some (LL S')/\St.Post n (e+3+(m0+n*kk)) S v S':=by
   rintro o ho ⟨S',fl,h1,h2⟩;refine⟨S',?_,h2⟩;have e2:z2D 3 (z06 true z0Z (z02 (fN 1) (z02 (fN 2) fNil))) [.sh false (LL S),.sh false d,.ow f (S.map L),.no,.no,.no]=some (.nx [.sh false (LL S),.sh false d,.ow f (S.map L),.sh true (L (St.z0g v S)),.no,.no]):=by
    rcases hd with rfl|rfl<;>simp[cOf,el]
   have q:z3n [.sh false (LL S),.sh false d,.no,.no,.no,.no]=some (.rt fl (LL S')):=by
    unfold z3n;refine run (hf d) (run e2 ?_);show(z3J WC WF _).bind (seqO (sRet (fN 2)))=_;rw[ho];exact h1
   unfold z2s cOf;rw[if_pos (show[LL S,d].length=2 from rfl)];show(z3n [.sh false (LL S),.sh false d,.no,.no,.no,.no]).bind _=_;rw[q];rfl
 rcases zoQ z S v h20 (.sh false (LL S)) (.sh false d) f (n-St.z00 (St.z0g v S)) S (St.z0g v S) .no .no I (wx _) with⟨S',l',d4',d5',h1,h2⟩|⟨S',fl,h1,h2⟩
 · exact hb _ (z5D h1) ⟨S',flOf f,rfl,h2⟩
 · exact hb _ (z5D h1) ⟨S',fl,rfl,h2⟩
theorem z8w:∀(A T:II),∃ A',St.even (A++T)=A'++St.even T
 | [],T=>⟨[],rfl⟩
 | r::A,T=>by
  obtain⟨A',e⟩:=z8w A T;exact⟨St.z0g r (St.even (A++T))::A',by rw[v6,St.even,e];rfl⟩
theorem za1{n:Nat}:∀{f:Nat} {A T:II},St.Asc n f (A++T)->St.Asc n 0 T
 | f,[],T,h=>h.weak (wQ _)
 | f,r::A,T,h=>za1 (A:=A) h.2.2.2.2
abbrev EF:FS:=sWrA z9r 1 (z06 true z0Z (z02 (fN 2) (z02 (fN 1) fNil)))
theorem zj2{n e eh u:Nat}(he:eh<=8990)(he3:e<=33000)(hu:u<=17000000)(c0:Cell)(S:II)(A:St.Asc n 0 S)(hs:∀ r∈S,St.Lt (2 ^ u) r)(hE:∀ r∈St.even S,St.Lt (2 ^ e) r)(hH:∀ r∈St.even S,St.hd r<2 ^ eh)(h20:S.length<=21)(heu:e<=u):
  ∀(R T:II) (c2:Cell),S=R.reverse++T->∃ c2',forF (Tg.one 2) EF (R.map L) [c0,.ow true ((St.even T).map L),c2]=some (.nx [c0,.ow true ((St.even S).map L),c2'])
 | [],T,c2,h=>⟨c2,by rw[h];rfl⟩
 | r::R,T,c2,h=>by
  have h':S=R.reverse++(r::T):=by rw[h];simp
  obtain⟨c2',ih⟩:=zj2 he he3 hu c0 S A hs hE hH h20 heu R (r::T) (.sh false (L r)) h';refine⟨c2',?_⟩;rw[wv,z1f];have hlen:T.length+1<=21:=by have:=congrArg List.length h';simp at this;rfl'
  have rm:r∈S:=by rw[h'];simp
  have AT:St.Asc n 0 T:=za1 (A:=R.reverse++[r]) (by rw[WL];show St.Asc n 0 (R.reverse++(r::T));rw[←h'];exact A);have AE:=(St.z36 AT).1;obtain⟨A',ea⟩:=z8w (R.reverse++[r]) T;have sub:∀ x∈St.even T,x∈St.even S:=λx hx=>by
   rw[h',show R.reverse++(r::T)=(R.reverse++[r])++T by simp,ea];exact wq.mpr (.inr hx)
  have hE':∀ x∈St.even T,St.Lt (2 ^ e) x:=λx hx=>hE x (sub x hx);have hel:(St.even T).length<=20:=by rw[St.z3m];rfl'
  have hmul:(St.even T).length*(e+1)<=20*(e+1):=wF _ hel;obtain⟨_,lb⟩:=St.z2H (n:=n) (t:=0) (s:=u) (e:=e) (m:=u+20*(e+1)) (S:=St.even T) (left:=r) (λx hx=>⟨(AE.mem hx).1,(AE.mem hx).2.2.2⟩) (A.mem rm).1 (λk hk=>by rfl') (λx hx _=>hE' x hx) (hs r rm) (by rfl') (by rfl');have el:=z6y (n:=n) (m:=u+20*(e+1)) (L r) r (St.even T) (.inl rfl) (by rfl') (za0 AE (λx hx=>hH x (sub x hx)) he) (A.mem rm).1 lb (by rfl');have el:z0Z [L r,.lst ((St.even T).map L)]=some (L (St.z0g r (St.even T))):=el;have e1:(Tg.put (Tg.one 2) (L r) [c0,.ow true ((St.even T).map L),c2]).bind EF=some (.nx [c0,.ow true (L (St.z0g r (St.even T))::(St.even T).map L),.sh false (L r)]):=by
   simp[cOf,el,show(St.even T).length<1000000 by rfl']
  rw[e1];exact ih
theorem zk9{n e eh u:Nat}(S:II)(he:eh<=8990)(he3:e<=33000)(hu:u<=17000000)(A:St.Asc n 0 S)(hs:∀ r∈S,St.Lt (2 ^ u) r)(hE:∀ r∈St.even S,St.Lt (2 ^ e) r)(hH:∀ r∈St.even S,St.hd r<2 ^ eh)(h20:S.length<=21)(heu:e<=u):z5e [LL S]=some (LL (St.even S)):=by
 obtain⟨c2,q⟩:=zj2 he he3 hu (.sh false (LL S)) S A hs hE hH h20 heu S.reverse [] .no (by simp);have q:forF (Tg.one 2) EF (S.map L).reverse [.sh false (LL S),.ow true [],.no]=some (.nx [.sh false (LL S),.ow true ((St.even S).map L),c2]):=by rw[←List.map_reverse];exact q
 unfold z5e z9T;simp[cOf,q]
abbrev CF:FS:=sSet [] 1 (z06 true z5e (z02 (z06 false z2s (z02 (fN 1) (z02 (fN 2) fNil))) fNil))
theorem za2{n e eh B:Nat}(ed:List Int->Dt)(hed:∀ r,RowD (ed r) r)(hn:n<=20)(he:eh<=8990)(hee:eh<=e)(he3:e<=33000)(all:II)(hl:∀ r∈all,r.length=n)(hb:∀ r∈all,St.Lt B r)(hB:0<B)(hBe:B<=2 ^ e)(hbn:∀ k,k<=all.length->St.bnd k B+1<=2 ^ e)(hH:∀ k S,k<=all.length->St.Good n B (all.take k) S->∀ r∈S,St.hd r<2 ^ eh)(h20:all.length<=20)(c0:Cell):
  ∀(todo done:II) (S:II) (c2:Cell),all=done++todo->St.Good n B done S->∃ S' c2',forF (Tg.one 2) CF (todo.map ed) [c0,.sh true (LL S),c2]=some (.nx [c0,.sh true (LL S'),c2'])/\St.Good n B all S'
 | [],done,S,c2,h,G=>⟨S,c2,rfl,by rw[h,vc];exact G⟩
 | v::todo,done,S,c2,h,G=>by
  have z:Sz n e eh (e+20*(e+1)) (2*e+3+20*(e+1)):=⟨hn,he,hee,he3,rfl,rfl⟩;have hdn:all.take done.length=done:=by rw[h];simp
  have hdv:all.take (done.length+1)=done++[v]:=by rw[h,List.take_append,WD (by rfl')];simp
  have hld:done.length+1+todo.length=all.length:=by rw[h];simp;rfl'
  have hv:v∈all:=by rw[h];simp
  have sub:∀ r∈done,r∈all:=λr hr=>by rw[h];exact wq.mpr (.inl hr)
  have small:=G.small (λr hr=>hb r (sub r hr)) hB;have len:=G.len;have small:∀ r∈S,St.Lt (2 ^ e) r:=λr hr=>(small r hr).mono (hbn _ (by rfl'));obtain⟨S1,e1,P⟩:=zdS z S (ed v) v (hed v) G.asc (hl v hv) small (hH done.length S (by rfl') (by rw[hdn];exact G)) ((hb v hv).mono hBe) (by rfl');have G':=G.step P;have small':=G'.small (λr hr=>by
   rcases wq.mp hr with hr|hr
   · exact hb r (sub r hr)
   · rw[wP.mp hr];exact hb v hv) hB
  have len':=G'.len;have len2:(done++[v]).length=done.length+1:=by simp
  have small':∀ r∈St.even S1,St.Lt (2 ^ e) r:=λr hr=>(small' r hr).mono (hbn _ (by rfl'));have lim:=z.lim;have e2:=zk9 (n:=n) (e:=e) (u:=e+3+(e+20*(e+1)+n*(2*e+3+20*(e+1)))) S1 he he3 (by rfl') P.asc P.size small' (hH (done.length+1) _ (by rfl') (by rw[hdv];exact G')) (by rw[←St.z3m];rfl') (by rfl');obtain⟨S',c2',ih,GG⟩:=za2 ed hed hn he hee he3 all hl hb hB hBe hbn hH h20 c0 todo (done++[v]) (St.even S1) (.sh false (ed v)) (by rw[h];simp) G';refine⟨S',c2',?_,GG⟩;rw[wv,z1f];have st:(Tg.put (Tg.one 2) (ed v) [c0,.sh true (LL S),c2]).bind CF=some (.nx [c0,.sh true (LL (St.even S1)),.sh false (ed v)]):=by
   have sn:∀ f,(nrm f (ed v)).2=ed v:=λf=>rfl;simp[cOf,sn,e1,e2]
  rw[st];exact ih
theorem z5j{n e eh B:Nat}(ed:List Int->Dt)(hed:∀ r,RowD (ed r) r)(hn:n<=20)(he:eh<=8990)(hee:eh<=e)(he3:e<=33000)(rows:II)(d:Dt)(hd:d = .lst (rows.map ed)\/d = .tup (rows.map ed))(hl:∀ r∈rows,r.length=n)(hb:∀ r∈rows,St.Lt B r)(hB:0<B)(hBe:B<=2 ^ e)(hbn:∀ k,k<=rows.length->St.bnd k B+1<=2 ^ e)(hH:∀ k S,k<=rows.length->St.Good n B (rows.take k) S->∀ r∈S,St.hd r<2 ^ eh)(h20:rows.length<=20):
   ∃ S,z25 [d]=some (LL S)/\St.Good n B rows S:=by
 obtain⟨S,c2,q,G⟩:=za2 ed hed hn he hee he3 rows hl hb hB hBe hbn hH h20 (.sh false d) rows [] [] .no rfl St.Good.nil;refine⟨S,?_,G⟩;have q:forF (Tg.one 2) CF (rows.map ed) [.sh false d,.sh true (.lst []),.no]=some (.nx [.sh false d,.sh true (LL S),c2]):=q;unfold z25 z80;rcases hd with rfl|rfl
 · simp[cOf,q]
 · simp[cOf,q]
theorem zeU{n e B:Nat}(ed:List Int->Dt)(hed:∀ r,RowD (ed r) r)(hn:n<=20)(he:e<=8990)(rows:II)(d:Dt)(hd:d = .lst (rows.map ed)\/d = .tup (rows.map ed))(hl:∀ r∈rows,r.length=n)(hb:∀ r∈rows,St.Lt B r)(hB:0<B)(hBe:B<=2 ^ e)(hbn:∀ k,k<=rows.length->St.bnd k B+1<=2 ^ e)(h20:rows.length<=20):
 ∃ S,z25 [d]=some (LL S)/\St.Good n B rows S:=z5j (eh:=e) ed hed hn he (wx _) (by rfl') rows d hd hl hb hB hBe hbn (λk S hk G r hr=>by
 have q:=G.small (λr hr=>hb r (WP hr)) hB r hr (St.z00 r);have l:=G.len;have b:=hbn S.length (by rw[Wq]at l;rfl');have q:(St.hd r).natAbs<St.bnd S.length B+1:=q;have c2:((2 ^ e:Nat):Int)=(2:Int) ^ e:=by norm_cast
 rfl') h20
theorem zlt{n e B:Nat}(k:Int)(bills:II)(hn:n<=20)(he:e<=8990)(hl:∀ r∈bills,r.length=n)(hb:∀ r∈bills,St.Lt B r)(hB:0<B)(hBe:B<=2 ^ e)(hbn:∀ k,k<=bills.length->St.bnd k B+1<=2 ^ e)(h20:bills.length<=20):
  ∃ S,z5V [z0G k bills]=some (LL S)/\St.Good n B bills S:=by
 obtain⟨S,q,G⟩:=zeU (n:=n) (e:=e) (B:=B) T (λr => .inr rfl) hn he bills (TTu bills) (.inr rfl) hl hb hB hBe hbn h20;refine⟨S,?_,G⟩;unfold z5V zcv;simp[cOf,q]
theorem zeV(d:Dt):z3a [d]=some (.bl (isWh d)):=by
 unfold z3a z81;cases d<;>simp[cOf,isWh,Dt.flat,nrm]
theorem z8x(a:List Int)(n:Int):z3r [L a,.int n]=some (.bl (decide ((a.length:Int)=n))):=by
 unfold z3r z6x;obtain⟨j,q⟩:=z7K (g:=Tg.one 2) (F:=sIf (fNot (fTru (z06 true z3a (z02 (fN 2) fNil)))) (sRet (fC (.bl false))) z0F) (e:=Dt.int) (R:=λ(_:Unit) (c:Cell)=>[.sh false (L a),.sh false (.int n),c]) (step:=λ_ _=>()) a () .no
   (λb x j hx=>⟨.sh false (.int x),by simp[cOf,Tg.put,zeV,isWh]⟩)
 have q:forF (Tg.one 2) (sIf (fNot (fTru (z06 true z3a (z02 (fN 2) fNil)))) (sRet (fC (.bl false))) z0F) (a.map Dt.int) [.sh false (L a),.sh false (.int n),.no]=some (.nx [.sh false (L a),.sh false (.int n),j]):=q;by_cases h:(a.length:Int)=n
 · simp[cOf,z16,h,q]
 · simp[cOf,z16,h]
theorem z8y(m j:Nat)(hm:m<=1000):z1Z [.int m,.int j]=some (L (St.z0k m j)):=by
 unfold z1Z z6u;have q:z0b 1 [1] (z0l (fN 0)) (Tg.one 0) fYes (fIf (z0m (fOp opEq (fN 0) (fN 1))) (fC (.int 1)) (fC (.int 0))) [.sh false (.int m),.sh false (.int j)]=some (.nw,L (St.z0k m j)):=by
  rw[z0d (e:=λ(k:Nat) => .int (0+(k:Int))) (h:=λk => .int (if k=j then 1 else 0)) (xs:=List.range m) (by simp[cOf,y13 m (by rfl'),z0N]) (λk _=>by
   by_cases h:k=j
   · simp[cOf,z0K,h]
   · simp[cOf,z0K,h,show ¬(k:Int)=(j:Int) by rfl'])]
  rw[L_map (λk=>if k=j then 1 else 0)];rfl
 simp[cOf,q]
theorem zj3(m:Nat):∀(s:Nat) (bs:II),(bs.zip ((VT s bs.length).map (St.z0k m))).map (λp=>p.1++p.2)=St.tagF m s bs
 | s,[]=>rfl
 | s,b::bs=>by rw[wj,V4,wv,WV,wv,zj3 m (s+1) bs,St.tagF]
theorem z84(S:II)(n:Nat):z1V [LL S,.int n]=some (LL ((S.filter λr=>decide (St.z00 r<n)).map (·.drop n))):=by
 have q:z0b 1 [1] (iSeq (fN 0)) (Tg.one 0) (z0m (fOp opLt (z06 true z0e (z02 (fN 0) fNil)) (fN 1))) (fSl (fN 0) (z1w (fN 1)) z0E) [.sh false (LL S),.sh false (.int n)]=some (.nw,.lst ((S.filter λr=>decide (St.z00 r<n)).map λr=>L (r.drop n))) :=
  z4q (e:=L) (h:=λr=>L (r.drop n)) (p:=λr=>decide (St.z00 r<n)) (xs:=S) (by simp[cOf]) (λr hr=>by
   simp[cOf,z0Q]) (λr hr _=>by
   simp[cOf,z52,z1z])
 unfold z1V z2Q;simp[cOf,q]
theorem z7b(S:II)(n:Nat):z0O [LL S,.int n]=some (LL (St.bots n S)):=by
 have q:z0b 1 [1] (iSeq (fN 0)) (Tg.one 0) (z0m (fOp opGe (z06 true z0e (z02 (fN 0) fNil)) (fN 1))) (fSl (fN 0) (z1w (fN 1)) z0E) [.sh false (LL S),.sh false (.int n)]=some (.nw,.lst ((S.filter λr=>!decide (St.z00 r<n)).map λr=>L (r.drop n))) :=
  z4q (e:=L) (h:=λr=>L (r.drop n)) (p:=λr=>!decide (St.z00 r<n)) (xs:=S) (by simp[cOf]) (λr hr=>by
   by_cases h:St.z00 r<n
   · simp[cOf,z0Q,h]
   · simp[cOf,z0Q,h];rfl') (λr hr _=>by
   simp[cOf,z52,z1z])
 unfold z0O z2t;simp[cOf,q,St.bots]
structure Hall(n:Nat)(bills:II):Prop where
 n1:1<=n
 n6:n<=6
 m8:bills.length<=8
 wide:∀ r∈bills,r.length=n
 small:∀ r∈bills,∀ x∈r,x.natAbs<10 ^ 30
theorem Hall.lt{n:Nat}{bills:II}(H:Hall n bills):∀ r∈bills,St.Lt (10 ^ 30) r:=λr hr=>St.zjX (by decide) (H.small r hr)
theorem zeW{n:Nat}{bills:II}(H:Hall n bills):∃ S,z5V [z0G n bills]=some (LL S)/\St.Good n (10 ^ 30) bills S/\∀ r∈S,St.Lt (2 ^ 900) r:=by
 have m8:=H.m8;have n6:=H.n6;obtain⟨S,es,G⟩:=zlt (n:=n) (e:=900) (B:=10 ^ 30) n bills (by rfl') (by rfl') H.wide H.lt (by decide) (by decide) (λk hk=>St.bnd30 k (by rfl')) (by rfl');have:=G.len;exact⟨S,es,G,λr hr=>(G.small H.lt (by decide) r hr).mono (St.bnd30 _ (by rfl'))⟩
theorem hd_lt{n e:Nat}{S:II}(A:St.Asc n 0 S)(h:∀ r∈S,St.Lt (2 ^ e) r):∀ r∈S,St.hd r<2 ^ e:=λr hr=>by
 have h1:=h r hr (St.z00 r);have h3:(St.hd r).natAbs<2 ^ e:=h1;have:((2 ^ e:Nat):Int)=(2:Int) ^ e:=by norm_cast
 rfl'
theorem copies(bills:II)(ρ:Rho)(F:FE)(f:Fl)(h:F ρ=some (f,LL bills)):z0b 1 [] (iSeq F) (Tg.one 0) fYes (fBlt bLst (z02 (fN 0) fNil)) ρ=some (.nw,LL bills) :=
 z0d (e:=L) (h:=L) (xs:=bills) (by unfold iSeq;rw[h];rfl) (λx hx=>by simp[cOf])
theorem zeX(ns:List Int):Hall (z11 ns) (z1H ns):=⟨(z6p ns).1,(z6p ns).2,by rw[zds];exact zb4 ns,zck ns,zeB ns⟩
theorem Hall.made{n:Nat}{bills:II}(H:Hall n bills):z42 [.int n,LL bills]=some (z0G n bills):=zeR n bills H.n1 H.n6 H.m8 H.wide H.small
structure Bask(n:Nat)(bills:II)(one other:List Int)(b:Bool):Prop where
 l1:one.length=n
 l2:other.length=n
 s1:St.Lt (2 ^ 100) one
 s2:St.Lt (2 ^ 210) other
 sp:b=true->∃ uses:List Int,uses.length=bills.length/\(∀ x∈uses,x.natAbs<10 ^ 30)/\other=addR one (mixR n bills uses)
theorem Bask.span{n:Nat}{bills:II}{one other:List Int}{b:Bool}(q:Bask n bills one other b)(H:Hall n bills)(hb:b=true):Lat.Span (St.vecs bills) (λk=>St.at0 other k-St.at0 one k):=by
 obtain⟨uses,h1,_,h2⟩:=q.sp hb;refine Lat.Span.congr (λk=>?_) (St.z4v (R:=bills) uses);have hml:(mixR n bills uses).length=n:=zdr H.wide;rw[h2,z78 (by rw[hml];exact q.l1),z9P H.wide];rfl'
theorem zcE(a p:Int)(hp:0<p):z2P [.int a,.int p]=some (.int (a.fmod p)):=by
 unfold z2P zcu;simp[cOf,z0K,show ¬p=0 by rfl',zbj hp]
def rstR(p:Int)(r:List Int):List Int:=r.map (·.fmod p)
theorem z7c(p:Int)(r:List Int):(rstR p r).length=r.length:=by simp[rstR]
theorem z94(p:Int)(r:List Int)(k:Nat):St.at0 (rstR p r) k=St.at0 r k-p*(St.at0 r k).fdiv p:=by
 have e:St.at0 (rstR p r) k=(St.at0 r k).fmod p:=by
  unfold St.at0 rstR;by_cases h:k<r.length
  · simp[List.getD,w8 h]
  · simp[List.getD,wN (Ww h)]
 rw[e,Int.fmod_def]
theorem zeY{p:Int}(hp:0<p){r:List Int}:∀ x∈rstR p r,0<=x/\x<p:=λx hx=>by
 obtain⟨y,_,rfl⟩:=wf.mp hx;exact⟨W6 y hp,Wg y hp⟩
theorem z7d(r:List Int)(p:Int)(hp:0<p):z2C [L r,.int p]=some (L (rstR p r)):=by
 unfold z2C zcw;have q:z0b 1 [1] (iSeq (fN 0)) (Tg.one 0) fYes (z06 true z2P (z02 (fN 0) (z02 (fN 1) fNil))) [.sh false (L r),.sh false (.int p)]=some (.nw,L (rstR p r)):=by
  rw[z0d (e:=Dt.int) (h:=λx => .int (x.fmod p)) (xs:=r) (by simp[cOf]) (λx _=>by
   have:=zcE x p hp;simp[cOf,this])]
  simp[rstR,L]
 simp[cOf,q]
theorem z85(A:II)(m:Nat)(h:∀ r∈A,r.length=m)(hm:m<=1000):z2L [LL A,.int m]=some (LL (St.trn m A)):=by
 unfold z2L z9U
 have q:z0b 1 [0] (z0l (fN 1)) (Tg.one 0) fYes (z0b 1 [0] (iSeq (fN 1)) (Tg.one 0) fYes (fAt (fN 0) (fN 1))) [.sh false (LL A),.sh false (.int m)]=some (.nw,LL (St.trn m A)):=by
  rw[z0d (e:=λ(k:Nat) => .int (0+(k:Int))) (h:=λk=>L (A.map λr=>St.at0 r k)) (xs:=List.range m) (by simp[cOf,y13 m (by rfl'),z0N]) (λk hk=>by
   have hk:=wM.mp hk;have i:z0b 1 [0] (iSeq (fN 1)) (Tg.one 0) fYes (fAt (fN 0) (fN 1)) [.sh false (.int (k:Int)),.sh false (LL A)]=some (.nw,L (A.map λr=>St.at0 r k)):=by
    rw[z0d (e:=L) (h:=λr => .int (St.at0 r k)) (xs:=A) (by simp[cOf]) (λr hr=>by
     have e:atI (r.map Dt.int) ((k:Nat):Int)=some (.int (St.at0 r k)):=by
      rw[z50,z51 0 (by rw[h r hr];exact hk)];rfl
     simp[cOf,e])]
    simp[L]
   simp[cOf,i])]
  simp[St.trn,LL]
 simp[cOf,q]
abbrev SF:FS:=(sIf (fOr (z0m (fOp opNe (z06 true z0e (z02 (fN 2) fNil)) (fN 1))) (fTru (fBlt bAny (z02 (z0b 1 [] (iSeq (fSl (fN 2) (z1w (fOp z0w (fN 1) (fC (.int 1)))) z0E)) (Tg.one 0) fYes (fOp opNe (fN 0) (fC (.int 0)))) fNil)))) (sRet (fC (.bl false))) z0F)
def z6e(p:Nat×List Int):Prop:=St.z00 p.2=p.1/\∀ x∈p.2.drop (p.1+1),x=0
theorem cut1{α:Type}(xs:List α)(j:Nat):cutD xs (some ((j:Int)+1)) none=xs.drop (j+1):=by
 have:=z52 xs (j+1)
 rwa [show(((j+1:Nat)):Int)=(j:Int)+1 by rfl']at this
theorem za3(c0 c1 c2:Cell)(p:Nat×List Int):(¬z6e p->(Tg.put (Tg.many [1,2]) (.tup [.int p.1,L p.2]) [c0,c1,c2]).bind SF=some (.rt .nw (.bl false)))/\(z6e p->(Tg.put (Tg.many [1,2]) (.tup [.int p.1,L p.2]) [c0,c1,c2]).bind SF=some (.nx [c0,.sh false (.int p.1),.sh false (L p.2)])):=by
 obtain⟨j,r⟩:=p;have cm:z0b 1 [] (iSeq (fSl (fN 2) (z1w (fOp z0w (fN 1) (fC (.int 1)))) z0E)) (Tg.one 0) fYes (fOp opNe (fN 0) (fC (.int 0))) [c0,.sh false (.int j),.sh false (L r)]=some (.nw,.lst ((r.drop (j+1)).map λx => .bl (!decide (x=0)))):=by
   rw[z0d (e:=Dt.int) (h:=λx => .bl (!decide (x=0))) (xs:=r.drop (j+1)) (by
    simp[cOf,cut1,z1z,List.map_drop]) (λx _=>by simp[cOf,z16])]
 have e:=z5F (λx:Int=>!decide (x=0)) (r.drop (j+1));have q:z6e (j,r)↔St.z00 r=j/\((r.drop (j+1)).map λx=>!decide (x=0)).any id=false:=by
   unfold z6e;refine and_congr_right λ_=>?_;rw[List.any_map,Vu];simp
 generalize (r.drop (j+1)).map (λx=>Dt.bl (!decide (x=0)))=D at cm e;generalize (r.drop (j+1)).map (λx=>!decide (x=0))=bs at e q;rw[q];by_cases hh:St.z00 r=j
 · cases hb:bs.any id with
   | true=>exact⟨λ_=>by simp[cOf,z0Q,z16,hh,cm,bAny,e,hb],λh=>by cases h.2⟩
   | false=>exact⟨λh=>absurd ⟨hh,rfl⟩ h,λ_=>by simp[cOf,z0Q,z16,hh,cm,bAny,e,hb]⟩
 · exact⟨λ_=>by simp[cOf,z0Q,z16,show ¬((St.z00 r:Int)=(j:Int)) by rfl'],λh=>absurd h.1 hh⟩
theorem z5k(A:II):((∀ p∈z1g 0 A,z6e p)->z20 [LL A]=some (.bl true))/\((∃ p∈z1g 0 A,¬z6e p)->z20 [LL A]=some (.bl false)):=by
 have key:=zbk (g:=Tg.many [1,2]) (F:=SF) (λp:Nat×List Int => .tup [.int p.1,L p.2]) (λp=>¬z6e p) (λj:Cell×Cell=>[.sh false (LL A),j.1,j.2]) .nw (.bl false) (z1g 0 A) (.no,.no)
   (λp _ j hb=>(za3 _ _ _ p).1 hb) (λp _ j hb=>⟨(.sh false (.int p.1),.sh false (L p.2)),(za3 _ _ _ p).2 (Classical.not_not.mp hb)⟩)
 rw[←z46]at key;constructor
 · intro h;obtain⟨j,e⟩:=key.2 λp hp (k:¬z6e p)=>k (h p hp);unfold z20 z4y;simp[cOf,e]
 · intro h;have e:=key.1 h;unfold z20 z4y;simp[cOf,e]
theorem za4(A W:II):St.pair A W=(A.zip W).map λp=>p.1++p.2:=by
 unfold St.pair
 induction A generalizing W with
 | nil=>rfl
 | cons a A ih =>
  cases W with
  | nil=>rfl
  | cons b W=>rw[List.zipWith_cons_cons,WV,wv,ih]
theorem z6A{n e eh B:Nat}(hn:n<=20)(he:eh<=8990)(hee:eh<=e)(he3:e<=33000)(A W:II)(hlt:A.length=W.length)(hl:∀ x∈St.pair A W,x.length=n)(hb:∀ x∈St.pair A W,St.Lt B x)(hB:0<B)(hBe:B<=2 ^ e)(hbn:∀ k,k<=A.length->St.bnd k B+1<=2 ^ e)
  (hH:∀ k S,k<=A.length->St.Good n B ((St.pair A W).take k) S->∀ r∈S,St.hd r<2 ^ eh) (h20:A.length<=20):∃ S,z10 [LL A,LL W]=some (LL S)/\St.Good n B (St.pair A W) S:=by
 have hlz:(St.pair A W).length=A.length:=St.z2f hlt;obtain⟨S,q,G⟩:=z5j (n:=n) (e:=e) (eh:=eh) (B:=B) L (λr => .inl rfl) hn he hee he3 (St.pair A W) (LL (St.pair A W)) (.inl rfl) hl hb hB hBe (λk hk=>hbn k (by rfl')) (λk S hk=>hH k S (by rfl')) (by rfl');refine⟨S,?_,G⟩;unfold z10 z3o;have z:z0b 2 [] (iZip (fN 0) (fN 1)) (Tg.many [0,1]) fYes (fOp z0w (fBlt bLst (z02 (fN 0) fNil)) (fBlt bLst (z02 (fN 1) fNil))) [.sh false (LL A),.sh false (LL W)]=some (.nw,LL (St.pair A W)):=by
  rw[z0d (e:=λp:List Int×List Int => .tup [L p.1,L p.2]) (h:=λp=>L (p.1++p.2)) (xs:=A.zip W) (by simp[cOf,hlt,z3k]) (λp hp=>by
   have h1:=hl (p.1++p.2) (by rw[za4];exact wf.mpr ⟨p,hp,rfl⟩);have c:=zlb p.1 p.2 (by simp at h1;rfl');simp[cOf,c])]
  rw[za4];simp[LL]
 simp[cOf,z,q]
theorem z3c:∀{j:Nat} {A:II} {p:Nat×List Int},p∈z1g j A↔∃ i,i<A.length/\p=(j+i,A.getD i [])
 | j,[],p=>by simp[z1g]
 | j,r::A,p=>by
  rw[z1g,wn,z3c];constructor
  · rintro(rfl|⟨i,hi,rfl⟩)
    · exact⟨0,by simp,rfl⟩
    · exact⟨i+1,by simpa using hi,by rw[show j+1+i=j+(i+1) by rfl'];rfl⟩
  · rintro⟨i,hi,rfl⟩;cases i with
    | zero=>exact .inl rfl
    | succ i=>exact .inr ⟨i,by simpa using hi,by rw[show j+1+i=j+(i+1) by rfl'];rfl⟩
theorem z86{r:Nat}{A:II}(q:St.Sq r A):(∀ p∈z1g 0 A,z6e p)↔St.Clean r A:=by
 constructor
 · intro h i hi k hn;have:=(h (0+i,A.getD i []) (z3c.mpr ⟨i,by rw[q.len];exact hi,rfl⟩)).2;rcases WU hn with x|x
   · exact q.low x
   · by_cases hk:k<r
     · have hl:(A.getD i []).length=r:=q.rows _ (St.z17 (by rw[q.len];exact hi));refine this (St.ent A i k) (WZ (i:=k-(0+i+1)) ?_);show((A.getD i []).drop (0+i+1))[k-(0+i+1)]?=_;rw[ve,show 0+i+1+(k-(0+i+1))=k by rfl',w8 (show k<(A.getD i []).length by rw[hl];exact hk)];have e:St.ent A i k=(A.getD i []).getD k 0:=rfl;rw[e];simp[List.getD,w8 (show k<((A[i]?).getD []).length by have:=hl;simp only[List.getD]at this;rw[this];exact hk)]
     · exact q.far (by rfl')
 · intro c p hp;obtain⟨i,hi,rfl⟩:=z3c.mp hp;rw[q.len]at hi;refine⟨by show St.z00 (A.getD i [])=0+i;rw[q.head hi];rfl',λx hx=>?_⟩;obtain⟨j,hj,rfl⟩:=wH hx;rw[List.getElem_drop];have:=c i hi (0+i+1+j) (by rfl');unfold St.ent St.at0 at this;rw[Wc]at hj;have hj:0+i+1+j<(A.getD i []).length:=by have hj:j<(A.getD i []).length-(0+i+1):=hj;rfl'
   rw[List.getD,w8 hj]at this;exact this
theorem bnd6(k:Nat)(h:k<=6):St.bnd k (2 ^ 5461)+1<=2 ^ 32900:=by
 have h1:=St.z70 (r:=k) (s:=6) (B:=2 ^ 5461) h (wJ _) (by decide);have h2:St.bnd 6 (2 ^ 5461)<=2 ^ 32826:=by
  unfold St.bnd;have a:2*6*2 ^ 5461<=2 ^ 5465:=by
   rw[show(5465:Nat)=4+5461 from rfl,Wa];exact wF _ (by decide)
  have b:=v8 a 6;rw[←Nat.pow_mul]at b;have c:(2:Nat) ^ 32826=2 ^ (5465*6)*2 ^ (6*6):=by rw[←Wa]
  rw[c];exact wF _ b
 have h3:(2:Nat) ^ 32826<2 ^ 32900:=v4 (by decide) (by decide);rfl'
structure Mb(r n:Nat)(w:Int):Prop where
 r6:r<=6
 n6:n<=6
 wp:0<w
 wb:w<2 ^ 5400
theorem Mb.lt{r n:Nat}{w x:Int}(b:Mb r n w)(h0:0<=x)(h1:x<=w):x.natAbs<2 ^ 5461:=by
 have:=b.wb;have h:(2:Nat) ^ 5400<=2 ^ 5461:=wm (by decide) (by decide);have c:((2 ^ 5400:Nat):Int)=(2:Int) ^ 5400:=by norm_cast
 rfl'
theorem Mb.hd{r n:Nat}{w x:Int}(b:Mb r n w)(h:x∣w):x<2 ^ 5400:=by
 have:=Wy b.wp h;have:=b.wb;rfl'
abbrev GC:FT:=fNot (fTru (z06 true z20 (z02 (fN 4) fNil)))
abbrev GF:FS:=(sSeq (sSet [] 6 (z06 true z2L (z02 (z06 true z25 (z02 (z06 true z2L (z02 (fN 4) (z02 (fN 3) fNil))) fNil)) (z02 (fN 3) fNil))))
 (sSeq (sSet [] 7 (z06 true z10 (z02 (fN 6) (z02 (fN 5) fNil))))
 (sSeq (sSet [] 4 (z0b 1 [3] (iSeq (fN 7)) (Tg.one 0) fYes (fSl (fN 0) z0E (z1w (fN 1)))))
 (sSet [] 5 (z0b 1 [3,2] (iSeq (fN 7)) (Tg.one 0) fYes (z06 true z2C (z02 (fSl (fN 0) (z1w (fN 1)) z0E) (z02 (fN 2) fNil))))))))
structure Mw(r n:Nat)(w:Int)(G K A W:II):Prop where
 m:St.Mst r n w G K A W
 wb:∀ x∈W,St.Lt (2 ^ 5461) x
theorem zeZ{r n:Nat}{w:Int}{G K A W:II}(b:Mb r n w)(I:Mw r n w G K A W)(c0 c1 c6 c7:Cell)(f2 f3 f4 f5:Bool):
   ∃ T A' W' f4' f5' c6' c7',GF [c0,c1,.sh f2 (.int w),.sh f3 (.int r),.sh f4 (LL A),.sh f5 (LL W),c6,c7]=some (.nx [c0,c1,.sh f2 (.int w),.sh f3 (.int r),.sh f4' (LL A'),.sh f5' (LL W'),c6',c7'])/\Mw r n w G K A' W'/\St.Sq r T/\Lat.SameSpan (St.vecs T) (St.vecs (St.trn r A))/\Lat.SameSpan (St.vecs A') (St.vecs (St.trn r T)):=by
 have r6:=b.r6;have n6:=b.n6;have q:=I.m.sq;have wC:=I.m.whole;have eA:=λi k=>q.entryC wC b.wp i k;have tl:(St.trn r A).length=r:=St.z0T _ _;have tr:∀ x∈St.trn r A,x.length=r:=λx hx=>by rw[St.z2Y hx,q.len]
 have B1:=q.below wC;have mem_lt:∀{P:II} {E:Nat},(∀ i k,(St.ent P i k).natAbs<E)->∀ x∈P,St.Lt E x:=λ{P E} h x hx k=>by
   obtain⟨i,hi,rfl⟩:=wH hx;have:=h i k;unfold St.ent at this
   rwa [show P.getD i []=P[i] by simp[List.getD,w8 hi]]at this
 have t1:=z85 A r q.rows (by rfl');obtain⟨T,e1,G1⟩:=z5j (n:=r) (e:=32900) (eh:=5400) (B:=2 ^ 5461) L (λr => .inl rfl) (by rfl') (by decide) (by decide) (by decide) (St.trn r A) (LL (St.trn r A)) (.inl rfl) tr
   (mem_lt λi k=>by rw[St.z1j q.rows];exact b.lt (eA k i).1 (eA k i).2) (wJ _) (wm (by decide) (by decide)) (λk hk=>bnd6 k (by rfl'))
   (λk S hk G x hx=>b.hd (B1.heads (by rfl') G.asc G.span hx).2) (by rfl')
 obtain⟨l1,_⟩:=G1.sq B1;have sT:St.Sq r T:=⟨G1.asc,G1.form,l1⟩;have wT:St.z2e r w T:=λi hi=>G1.span.iff.mpr (wC i hi);have eT:=λi k=>sT.entry wT b.wp i k;have t2:=z85 T r sT.rows (by rfl');have wT2:=sT.comm wT;have B2:=sT.below_pair wT2 I.m.wl I.m.wr;obtain⟨S,e2,G2⟩:=z6A (n:=r+n) (e:=32900) (eh:=5400) (B:=2 ^ 5461) (by rfl') (by decide) (by decide) (by decide) (St.trn r T) W (by rw[St.z0T,I.m.wl]) B2.rows
   (λx hx k=>by
     obtain⟨i,hi,rfl⟩:=wH hx;have hi':i<r:=by rw[B2.len]at hi;exact hi
     have e:St.at0 ((St.pair (St.trn r T) W)[i]) k=St.ent (St.pair (St.trn r T) W) i k:=by unfold St.ent;simp[List.getD,w8 hi]
     rw[e,St.z58 (n:=n) (r:=r) (λx hx=>by rw[St.z2Y hx,sT.len]) (by rw[St.z0T];exact hi') (by rw[I.m.wl];exact hi')];split
     · rw[St.z1j sT.rows];exact b.lt (eT k i).1 (eT k i).2
     · exact I.wb _ (St.z17 (by rw[I.m.wl];exact hi')) _)
   (wJ _) (wm (by decide) (by decide)) (λk hk=>bnd6 k (by rw[St.z0T]at hk;rfl'))
   (λk S hk G x hx=>b.hd (B2.heads (by rw[St.z0T]at hk;rfl') G.asc G.span hx).2) (by rw[St.z0T];rfl')
 obtain⟨l2,h2⟩:=G2.sq B2;have M':=I.m.step sT G1.span G2.asc G2.form l2 h2 G2.span;have hs:=St.z5O (r:=r) G2.span;rw[St.z5P (λx hx=>by rw[St.z2Y hx,sT.len]) (by rw[St.z0T,I.m.wl])]at hs;have len:∀ x∈S,x.length=r+n:=λx hx=>(G2.asc.mem hx).1;have k3:∀ d0 d1:Cell,z0b 1 [3] (iSeq (fN 7)) (Tg.one 0) fYes (fSl (fN 0) z0E (z1w (fN 1))) [d0,d1,.sh f2 (.int w),.sh f3 (.int r),.sh f4 (LL A),.sh f5 (LL W),.sh true (LL (St.trn r T)),.sh true (LL S)]=some (.nw,LL (S.map (·.take r))):=λd0 d1=>by
   rw[z0d (e:=L) (h:=λx=>L (x.take r)) (xs:=S) (by simp[cOf]) (λx hx=>by simp[cOf,zcl,z53])];simp[LL]
 have k4:∀ d0 d1:Cell,z0b 1 [3,2] (iSeq (fN 7)) (Tg.one 0) fYes (z06 true z2C (z02 (fSl (fN 0) (z1w (fN 1)) z0E) (z02 (fN 2) fNil))) [d0,d1,.sh f2 (.int w),.sh f3 (.int r),.sh true (LL (S.map (·.take r))),.sh f5 (LL W),.sh true (LL (St.trn r T)),.sh true (LL S)]=some (.nw,LL (S.map λx=>rstR w (x.drop r))):=λd0 d1=>by
   rw[z0d (e:=L) (h:=λx=>L (rstR w (x.drop r))) (xs:=S) (by simp[cOf]) (λx hx=>by
     have:=z7d (x.drop r) w b.wp;simp[cOf,z52,z1z,this])]
   simp[LL]
 refine⟨T,S.map (·.take r),S.map λx=>rstR w (x.drop r),true,true,.sh true (LL (St.trn r T)),.sh true (LL S),?_,⟨?_,?_⟩,sT,G1.span,hs⟩
 · refine run (ρ':=[c0,c1,.sh f2 (.int w),.sh f3 (.int r),.sh f4 (LL A),.sh f5 (LL W),.sh true (LL (St.trn r T)),c7]) ?_ (run (ρ':=[c0,c1,.sh f2 (.int w),.sh f3 (.int r),.sh f4 (LL A),.sh f5 (LL W),.sh true (LL (St.trn r T)),.sh true (LL S)]) ?_ (run (ρ':=[c0,c1,.sh f2 (.int w),.sh f3 (.int r),.sh true (LL (S.map (·.take r))),.sh f5 (LL W),.sh true (LL (St.trn r T)),.sh true (LL S)]) ?_ ?_))
   · simp[cOf,t1,e1,t2]
   · simp[cOf,e2]
   · simp[cOf,k3]
   · simp[cOf,k4]
 · refine M'.rest (W':=S.map λx=>rstR w (x.drop r)) (by rw[wo,l2]) (λx hx=>?_) (λi k=>(St.ent (S.map (·.drop r)) i k).fdiv w) λi k hi=>?_
   · obtain⟨y,hy,rfl⟩:=wf.mp hx;rw[z7c,Wc,len y hy];rfl'
   · have hi:i<S.length:=by rfl'
     have x1:St.ent (S.map λx=>rstR w (x.drop r)) i k=St.at0 (rstR w ((S.getD i []).drop r)) k:=by unfold St.ent;simp[List.getD,w8 hi]
     have x2:St.ent (S.map (·.drop r)) i k=St.at0 ((S.getD i []).drop r) k:=by unfold St.ent;simp[List.getD,w8 hi]
     rw[x1,x2,z94]
 · intro x hx k;obtain⟨y,hy,rfl⟩:=wf.mp hx;by_cases hk:k<(rstR w (y.drop r)).length
   · have:=zeY b.wp (r:=y.drop r) (St.at0 (rstR w (y.drop r)) k) (by unfold St.at0;rw[List.getD,w8 hk];exact W4 _);exact b.lt this.1 (by rfl')
   · rw[St.z0x (by rfl')];exact wJ _
theorem zf{r n:Nat}{w:Int}{G K:List (List Int)}(b:Mb r n w)(c0 c1:Cell)(f2 f3:Bool):∀(d t:Nat),t+d=r→∀(a:Nat) (A W:List (List Int)) (f4 f5:Bool) (c6 c7:Cell),Mw r n w G K A W→St.Clean t A→(t<r→St.ent A t t=(a:Int)) →
  ∃ k A' W' f4' f5' c6' c7',z12 GC GF k [c0,c1,.sh f2 (.int w),.sh f3 (.int r),.sh f4 (LL A),.sh f5 (LL W),c6,c7]=some (.nx [c0,c1,.sh f2 (.int w),.sh f3 (.int r),.sh f4' (LL A'),.sh f5' (LL W'),c6',c7'])/\Mw r n w G K A' W'/\St.Clean r A':=by
 intro d
 induction d with
 | zero =>
  intro t ht a A W f4 f5 c6 c7 I c _;have hc:St.Clean r A:=by rw[←ht];exact c
  have:=(z5k A).1 ((z86 I.m.sq).mpr hc);refine⟨1,A,W,f4,f5,c6,c7,?_,I,hc⟩;have hc:GC [c0,c1,.sh f2 (.int w),.sh f3 (.int r),.sh f4 (LL A),.sh f5 (LL W),c6,c7]=some false:=by simp[cOf,this]
  rw[z12,hc];rfl
 | succ d ihd =>
  intro t ht a
  induction a using WW with
  | ind a iha =>
   intro A W f4 f5 c6 c7 I c ha;have htr:t<r:=by rfl'
   by_cases hc:St.Clean r A
   · have:=(z5k A).1 ((z86 I.m.sq).mpr hc);refine⟨1,A,W,f4,f5,c6,c7,?_,I,hc⟩;have hc:GC [c0,c1,.sh f2 (.int w),.sh f3 (.int r),.sh f4 (LL A),.sh f5 (LL W),c6,c7]=some false:=by simp[cOf,this]
     rw[z12,hc];rfl
   · have no:∃ p∈z1g 0 A,¬z6e p:=Classical.byContradiction fun k=>hc ((z86 I.m.sq).mp fun p hp=>Classical.byContradiction fun q=>k ⟨p,hp,q⟩)
     have:=(z5k A).2 no;have hl:GC [c0,c1,.sh f2 (.int w),.sh f3 (.int r),.sh f4 (LL A),.sh f5 (LL W),c6,c7]=some true:=by simp[cOf,this]
     obtain⟨T,A',W',f4',f5',c6',c7',e,I',sT,s1,s2⟩:=zeZ b I c0 c1 c6 c7 f2 f3 f4 f5;obtain⟨cl,alt⟩:=St.zdC I.m.sq sT I'.m.sq s1 s2 c htr
     have fin:(∃ k A'' W'' f4'' f5'' c6'' c7'',z12 GC GF k [c0,c1,.sh f2 (.int w),.sh f3 (.int r),.sh f4' (LL A'),.sh f5' (LL W'),c6',c7']=some (.nx [c0,c1,.sh f2 (.int w),.sh f3 (.int r),.sh f4'' (LL A''),.sh f5'' (LL W''),c6'',c7''])∧Mw r n w G K A'' W''∧St.Clean r A''):=by
      rcases alt with h|h
      · by_cases ht2:t+1<r
        · have p:=I'.m.sq.pos ht2;exact ihd (t+1) (by rfl') (St.ent A' (t+1) (t+1)).toNat A' W' f4' f5' c6' c7' I' h λ_=>by rfl'
        · exact ihd (t+1) (by rfl') 0 A' W' f4' f5' c6' c7' I' h λh=>absurd h ht2
      · have p:=I'.m.sq.pos htr;have ha:=ha htr;exact iha (St.ent A' t t).toNat (by rfl') A' W' f4' f5' c6' c7' I' cl λ_=>by rfl'
     obtain⟨k,A2,W2,f42,f52,c62,c72,e2,I2,h2⟩:=fin;refine⟨k+1,A2,W2,f42,f52,c62,c72,?_,I2,h2⟩;rw[z12,hl,z0o,if_pos rfl,e];exact e2
def MD(M:St.Meas):Dt := .lst (M.map λx => .tup [L x.1,.int x.2])
def z1U(A W:II):St.Meas:=(z1g 0 W).map λp=>(p.2,St.ent A p.1 p.1)
theorem z87:∀(j:Nat) (A:II),(z1g j A).length=A.length
 | j,[]=>rfl
 | j,r::A=>by rw[z1g,wj,wj,z87]
theorem z88:∀(j:Nat) (A:II) (i:Nat),i<A.length->(z1g j A)[i]?=some (j+i,A.getD i [])
 | j,r::A,0,_=>rfl
 | j,r::A,i+1,h=>by
  rw[z1g,List.getElem?_cons_succ,z88 (j+1) A i (by simpa using h),show j+1+i=j+(i+1) by rfl'];rfl
theorem za5(A W:II){i:Nat}(h:i<W.length):St.mw (z1U A W) i=W.getD i []/\St.mp (z1U A W) i=St.ent A i i:=by
 unfold St.mw St.mp z1U;rw[List.getD,wu,z88 0 W i h,WT];exact⟨rfl,rfl⟩
theorem zlu{r:List Int}{k:Nat}(h:k<r.length):atI (r.map Dt.int) (k:Int)=some (.int (St.at0 r k)):=by
 rw[z50,z51 0 h];rfl
theorem zf0{r n:Nat}{w:Int}{G K A W:II}(b:Mb r n w)(I:Mw r n w G K A W):∃ A' W',z5W [LL A,LL W,.int w]=some (MD (z1U A' W'))/\Mw r n w G K A' W'/\St.Clean r A':=by
 have al:=I.m.sq.len;obtain⟨k,A',W',f4,f5,c6,c7,e,I',hc⟩:=zf b (.sh false (LL A)) (.sh false (LL W)) false true r 0 (by rfl') (St.ent A 0 0).toNat A W false false .no .no I (λi hi=>by rfl') λh=>by have:=I.m.sq.pos h;rfl'
 have e:=z5D e;refine⟨A',W',?_,I',hc⟩;have cm:∀ d0 d1 d2 d3 d6 d7:Cell,∃ f,z0b 2 [4] (z3i (fN 5)) (Tg.many [0,1]) fYes (fTup (z02 (fN 1) (z02 (fAt (fAt (fN 2) (fN 0)) (fN 0)) fNil))) [d0,d1,d2,d3,.sh f4 (LL A'),.sh f5 (LL W'),d6,d7]=some (f,MD (z1U A' W')):=λd0 d1 d2 d3 d6 d7=>by
  have key:=z9v (nt:=2) (js:=[4]) (Fi:=z3i (fN 5)) (g:=Tg.many [0,1]) (Fe:=fTup (z02 (fN 1) (z02 (fAt (fAt (fN 2) (fN 0)) (fN 0)) fNil))) (ρ:=[d0,d1,d2,d3,.sh f4 (LL A'),.sh f5 (LL W'),d6,d7]) (e:=λp:Nat×List Int => .tup [.int p.1,L p.2]) (h:=λp=>(.sh,.tup [L p.2,.int (St.ent A' p.1 p.1)])) (xs:=z1g 0 W') (by simp[cOf,z46]) (λp hp=>by
   obtain⟨i,hi,rfl⟩:=z3c.mp hp;rw[I'.m.wl]at hi;rw[WT];have h1:=getD_L A' (k:=i) (by rw[I'.m.sq.len];rfl');have h2:=zlu (r:=A'.getD i []) (k:=i) (by rw[I'.m.sq.rows _ (St.z17 (by rw[I'.m.sq.len];rfl'))];rfl');have x:St.ent A' i i=St.at0 (A'.getD i []) i:=rfl;rw[x];generalize A'.getD i []=ra at h1 h2 ⊢;generalize W'.getD i []=rb;simp[cOf,h1,h2];rfl)
  have x:MD (z1U A' W') = .lst ((z1g 0 W').map λp => .tup [L p.2,.int (St.ent A' p.1 p.1)]):=by
   unfold MD z1U;rw[wW];rfl
  rw[x];exact⟨_,key⟩
 obtain⟨f,cm⟩:=cm (.sh false (LL A)) (.sh false (LL W)) (.sh false (.int w)) (.sh true (.int r)) c6 c7;have q:z43 [.sh false (LL A),.sh false (LL W),.sh false (.int w),.no,.no,.no,.no,.no]=some (.rt f (MD (z1U A' W'))):=by
  unfold z43;refine run (ρ':=[.sh false (LL A),.sh false (LL W),.sh false (.int w),.sh true (.int r),.no,.no,.no,.no]) (by simp[cOf,al]) (run (ρ':=[.sh false (LL A),.sh false (LL W),.sh false (.int w),.sh true (.int r),.sh false (LL A),.no,.no,.no]) (by simp[cOf];rfl) (run (ρ':=[.sh false (LL A),.sh false (LL W),.sh false (.int w),.sh true (.int r),.sh false (LL A),.sh false (LL W),.no,.no]) (by simp[cOf];rfl) (run e ?_)));unfold sRet;rw[cm];rfl
 unfold z5W cOf;rw[if_pos (show[LL A,LL W,Dt.int w].length=3 from rfl)];show(z43 [.sh false (LL A),.sh false (LL W),.sh false (.int w),.no,.no,.no,.no,.no]).bind _=_;rw[q];rfl
theorem zka{n:Nat}(w1 w2:List Int)(a b:Int)(h1:w1.length=n)(h2:w2.length=n)(ha:0<a)(hb:0<b)(ba:a<2 ^ 5400)(bb:b<2 ^ 5400)(l1:St.Lt (2 ^ 5461) w1)(l2:St.Lt (2 ^ 5461) w2):
  ∃ g x y a' b' lc,z3p [.tup [L w1,.int a],.tup [L w2,.int b]]=some (.tup [.tup [L (rstR g (addR w1 w2)),.int g],.tup [L (rstR lc (addR (sclR (-y*b') w1) (sclR (x*a') w2))),.int lc]])/\St.Bz g x y a b a' b'/\lc=a'*b/\0<lc/\g∣a:=by
 have cast:((2 ^ 5400:Nat):Int)=(2:Int) ^ 5400:=by norm_cast
 have a1:a.natAbs<2 ^ 5400:=by rfl'
 have a2:b.natAbs<2 ^ 5400:=by rfl'
 obtain⟨x,y,eb,exy,bx,bY⟩:=zbn a b 5400 (by decide) a1 a2;have g0:0<WY a b:=vG _ (by rfl');have d1:(WY a b:Int)∣a:=VR _ _;have d2:(WY a b:Int)∣b:=VD _ _;generalize eg:(WY a b:Int)=g at *;have g0:0<g:=by rfl'
 have z:=St.Bz.of (f1:=x) (f2:=y) g0 d1 d2 (by rw[wL x,wL y];exact exy);have p2:2 ^ 5403=8*2 ^ 5400:=by rw[show(5403:Nat)=3+5400 from rfl,Wa]
 have x1:x.natAbs<2 ^ 5403:=by rfl'
 have y1:y.natAbs<2 ^ 5403:=by rfl'
 have gle:g<=a:=Wy ha d1;have g9:g<2 ^ 9000:=by
  have h9:(2:Nat) ^ 5400<=2 ^ 9000:=wm (by decide) (by decide);have:((2 ^ 9000:Nat):Int)=(2:Int) ^ 9000:=by norm_cast
  rfl'
 have dv1:z21 a g=true:=z3b g0 g9;have dv2:z21 b g=true:=z3b g0 g9;have f1:a.fdiv g=a / g:=vK _ (by rfl');have f2:b.fdiv g=b / g:=vK _ (by rfl');have k1:(a / g).natAbs<2 ^ 5400:=by rw[←f1];have:=St.z3Y a g0;rfl'
 have k2:(b / g).natAbs<2 ^ 5400:=by rw[←f2];have:=St.z3Y b g0;rfl'
 have ap:0<a / g:=Int.ediv_pos_of_pos_of_dvd ha (by rfl') d1;have lp:0<a / g*b:=Vm ap hb;refine⟨g,x,y,a / g,b / g,a / g*b,?_,z,rfl,lp,d1⟩;have m1:z1e (a / g) b=true:=z3l k1 a2 (by decide);have m2:z1e (-y) (b / g)=true:=z3l (by rw[vo];exact y1) k2 (by decide);have m3:z1e x (a / g)=true:=z3l x1 k1 (by decide);have s1:(-y*(b / g)).natAbs<2 ^ (5403+5400):=by
  rw[W0,Wa,vo];exact v5 y1 k2
 have s2:(x*(a / g)).natAbs<2 ^ (5403+5400):=by
  rw[W0,Wa];exact v5 x1 k1
 have e1:=z1s w1 (-y*(b / g)) (z5X s1 l1 (by decide));have e2:=z1s w2 (x*(a / g)) (z5X s2 l2 (by decide));have e3:=z79 (sclR (-y*(b / g)) w1) (sclR (x*(a / g)) w2) (by rw[z0L,z0L,h1,h2]);have e4:=z79 w1 w2 (by rw[h1,h2]);have e5:=z7d (addR w1 w2) g g0;have e6:=z7d (addR (sclR (-y*(b / g)) w1) (sclR (x*(a / g)) w2)) (a / g*b) lp;have eb:z5c [.int a,.int b]=some (.tup [.int g,.int x,.int y]):=eb;generalize addR (sclR (-y*(b / g)) w1) (sclR (x*(a / g)) w2)=u at *;generalize sclR (-y*(b / g)) w1=u1 at *;generalize sclR (x*(a / g)) w2=u2 at *;generalize addR w1 w2=u3 at *;have q:z5f [.sh false (.tup [L w1,.int a]),.sh false (.tup [L w2,.int b]),.no,.no,.no,.no,.no]=some (.rt .nw (.tup [.tup [L (rstR g u3),.int g],.tup [L (rstR (a / g*b) u),.int (a / g*b)]])):=by
  unfold z5f;refine run (ρ':=[.sh false (.tup [L w1,.int a]),.sh false (.tup [L w2,.int b]),.sh true (.tup [.int g,.int x,.int y]),.no,.no,.no,.no]) (by simp[cOf,eb]) ?_;refine run (ρ':=[.sh false (.tup [L w1,.int a]),.sh false (.tup [L w2,.int b]),.sh true (.tup [.int g,.int x,.int y]),.sh true (.int g),.no,.no,.no]) (by simp[cOf]) ?_;refine run (ρ':=[.sh false (.tup [L w1,.int a]),.sh false (.tup [L w2,.int b]),.sh true (.tup [.int g,.int x,.int y]),.sh true (.int g),.sh true (.int (a / g*b)),.no,.no]) (by simp[cOf,dv1,f1,m1]) ?_;refine run (ρ':=[.sh false (.tup [L w1,.int a]),.sh false (.tup [L w2,.int b]),.sh true (.tup [.int g,.int x,.int y]),.sh true (.int g),.sh true (.int (a / g*b)),.sh true (L u3),.no]) (by simp[cOf,e4]) ?_;refine run (ρ':=[.sh false (.tup [L w1,.int a]),.sh false (.tup [L w2,.int b]),.sh true (.tup [.int g,.int x,.int y]),.sh true (.int g),.sh true (.int (a / g*b)),.sh true (L u3),.sh true (L u)]) (by simp[cOf,dv1,dv2,f1,f2,m2,m3,e1,e2,e3]) ?_;simp[cOf,e5,e6]
 unfold z3p cOf;rw[if_pos (show[Dt.tup [L w1,.int a],.tup [L w2,.int b]].length=2 from rfl)];show(z5f [.sh false (.tup [L w1,.int a]),.sh false (.tup [L w2,.int b]),.no,.no,.no,.no,.no]).bind _=_;rw[q];rfl
theorem z5l{γ:Type}{g:Tg}{F:FS}(R:γ->Rho)(P:Nat->γ->Prop):∀(n k:Nat) (j:γ),P k j->(∀ i j,k<=i->i<k+n->P i j->∃ j',(g.put (.int (i:Int)) (R j)).bind F=some (.nx (R j'))/\P (i+1) j')->∃ j',forF g F (z2l (k:Int) n) (R j)=some (.nx (R j'))/\P (k+n) j'
 | 0,k,j,p,_=>⟨j,rfl,p⟩
 | n+1,k,j,p,h=>by
  obtain⟨j1,h1,p1⟩:=h k j (wx _) (by rfl') p;obtain⟨j2,h2,p2⟩:=z5l R P n (k+1) j1 p1 λi j hi hl=>h i j (by rfl') (by rfl');refine⟨j2,?_,by rw[show k+(n+1)=k+1+n by rfl'];exact p2⟩;rw[z0N,Vb,wv,z1f,show Dt.int ((k:Int)+((0:Nat):Int)) = .int (k:Int) by simp,h1,wW];rw[←h2,z0N];show forF g F _ (R j1)=forF g F _ (R j1);congr 1;apply vE;intro i _;show Dt.int ((k:Int)+((i+1:Nat):Int))=Dt.int (((k+1:Nat):Int)+(i:Int));congr 1;rfl'
structure Cs(n r:Nat)(w:Int)(G:II)(K0:St.Meas)(t s:Nat)(M:St.Meas):Prop where
 ms:St.Ms n G (M++K0)
 ch:St.Chn w t s M
 len:M.length=r
 lt:∀ x∈M,St.Lt (2 ^ 5461) x.1
theorem zf1{p:Int}(hp:0<p)(hb:p<2 ^ 5400)(r:List Int):St.Lt (2 ^ 5461) (rstR p r):=λk=>by
 have c:((2 ^ 5400:Nat):Int)=(2:Int) ^ 5400:=by norm_cast
 have h:(2:Nat) ^ 5400<=2 ^ 5461:=wm (by decide) (by decide);by_cases hk:k<(rstR p r).length
 · have:=zeY hp (r:=r) (St.at0 (rstR p r) k) (by unfold St.at0;rw[List.getD,w8 hk];exact W4 _);rfl'
 · rw[St.z0x (by rfl')];exact wJ _
abbrev KF:FS:=(sSeq (z2D 4 (z06 true z3p (z02 (fAt (fN 1) (fN 2)) (z02 (fAt (fN 1) (fN 3)) fNil))))
 (sSeq (sPut 1 (fN 2) (fAt (fN 4) (fC (.int 0))))
 (sPut 1 (fN 3) (fAt (fN 4) (fC (.int 1))))))
abbrev tD(x:List Int×Int):Dt := .tup [L x.1,.int x.2]
theorem zkb{n r:Nat}{w:Int}{G:II}{K0:St.Meas}{t s:Nat}{M:St.Meas}(b:Mb r n w)(I:Cs n r w G K0 t s M)(hts:t<s)(hs:s<r)(c0 c4:Cell)(f:Bool):
   ∃ M' c4' f',KF [c0,.ow f (M.map tD),.sh false (.int t),.sh false (.int s),c4]=some (.nx [c0,.ow f' (M'.map tD),.sh false (.int t),.sh false (.int s),c4'])/\Cs n r w G K0 t (s+1) M':=by
 have lM:=I.len;have get:∀ i,i<r->M[i]?=some (St.mw M i,St.mp M i):=λi hi=>by
   unfold St.mw St.mp;rw[List.getD,w8 (show i<M.length by rfl')];rfl
 have mem:∀ i,i<r->(St.mw M i,St.mp M i)∈M:=λi hi=>WZ (get i hi);have rows:∀ i,i<r->(St.mw M i).length=n:=λi hi=>I.ms.rows _ (wq.mpr (.inl (mem i hi)));have bd:∀ i,i<r->St.mp M i<2 ^ 5400:=λi hi=>b.hd (I.ch.whole i (by rfl'));obtain⟨g,x,y,a',b',lc,e,z,hlc,lp,gd⟩:=zka (n:=n) (St.mw M t) (St.mw M s) (St.mp M t) (St.mp M s) (rows t (by rfl')) (rows s hs) (I.ch.pos t (by rfl')) (I.ch.pos s (by rfl')) (bd t (by rfl')) (bd s hs) (I.lt _ (mem t (by rfl'))) (I.lt _ (mem s hs));have ch':=I.ch.link (u:=rstR g (addR (St.mw M t) (St.mw M s))) (l:=rstR lc (addR (sclR (-y*b') (St.mw M t)) (sclR (x*a') (St.mw M s)))) hts (by rfl') z hlc;have lu:(rstR g (addR (St.mw M t) (St.mw M s))).length=n:=by rw[z7c,z3X (by rw[rows t (by rfl'),rows s hs]),rows t (by rfl')]
 have ll:(rstR lc (addR (sclR (-y*b') (St.mw M t)) (sclR (x*a') (St.mw M s)))).length=n:=by rw[z7c,z3X (by rw[z0L,z0L,rows t (by rfl'),rows s hs]),z0L,rows t (by rfl')]
 have ms':=St.zoM (u:=rstR g (addR (St.mw M t) (St.mw M s))) (l:=rstR lc (addR (sclR (-y*b') (St.mw M t)) (sclR (x*a') (St.mw M s)))) I.ms hlc (by rfl') (by rfl') (by rfl') z lu ll
   (λk=>by rw[z94,z78 (by rw[rows t (by rfl'),rows s hs])]) (λk=>by rw[z94,z78 (by rw[z0L,z0L,rows t (by rfl'),rows s hs]),zcq,zcq,vS])
 have gb:g<2 ^ 5400:=by have:=Wy (I.ch.pos t (by rfl')) gd;have:=bd t (by rfl');rfl'
 have lb:lc<2 ^ 5400:=b.hd (by
   have:=ch'.whole s (by simp;rfl');unfold St.mp at this;rw[St.z9M (by rfl') (by rfl') (by rfl'),if_pos rfl]at this;exact this)
 have u2:=zf1 z.gp gb (addR (St.mw M t) (St.mw M s));have l2:=zf1 lp lb (addR (sclR (-y*b') (St.mw M t)) (sclR (x*a') (St.mw M s)));generalize rstR g (addR (St.mw M t) (St.mw M s))=u at *;generalize rstR lc (addR (sclR (-y*b') (St.mw M t)) (sclR (x*a') (St.mw M s)))=l at *;have at1:atI (M.map tD) (t:Int)=some (tD (St.mw M t,St.mp M t)):=z2y (by rw[wu,get t (by rfl')];rfl);have at2:atI (M.map tD) (s:Int)=some (tD (St.mw M s,St.mp M s)):=z2y (by rw[wu,get s hs];rfl);have mlen:(M.map tD).length=r:=by rw[wo,lM]
 have st:((M.set t (u,g)).set s (l,lc)).map tD=((M.map tD).set t (tD (u,g))).set s (tD (l,lc)):=by rw[List.map_set,List.map_set]
 generalize M.map tD=D at *;have x1:ixN D.length (t:Int)=some t:=ziZ (by rfl');have x2:ixN D.length (s:Int)=some s:=ziZ (by rfl');have e1:z2D 4 (z06 true z3p (z02 (fAt (fN 1) (fN 2)) (z02 (fAt (fN 1) (fN 3)) fNil))) [c0,.ow f D,.sh false (.int t),.sh false (.int s),c4]=some (.nx [c0,.ow f D,.sh false (.int t),.sh false (.int s),.sh true (.tup [tD (u,g),tD (l,lc)])]):=by
   have e:z3p [tD (St.mw M t,St.mp M t),tD (St.mw M s,St.mp M s)]=some (.tup [tD (u,g),tD (l,lc)]):=e;generalize tD (St.mw M t,St.mp M t)=y1 at *;generalize tD (St.mw M s,St.mp M s)=y2 at *;have sn:∀(f:Fl) (d:Dt),(nrm f d).2=d:=λ_ _=>rfl;simp[cOf,at1,at2,sn,e]
 have e2:∃ f1,sPut 1 (fN 2) (fAt (fN 4) (fC (.int 0))) [c0,.ow f D,.sh false (.int t),.sh false (.int s),.sh true (.tup [tD (u,g),tD (l,lc)])]=some (.nx [c0,.ow f1 (D.set t (tD (u,g))),.sh false (.int t),.sh false (.int s),.sh true (.tup [tD (u,g),tD (l,lc)])]):=by
   generalize tD (u,g)=y1;generalize tD (l,lc)=y2;have sn:∀(f:Fl) (d:Dt),(nrm f d).2=d:=λ_ _=>rfl;refine⟨f&&(nrm (if y1.flat=true/\y2.flat=true then Fl.nw else Fl.fr).item y1).1.isFr,?_⟩;simp[cOf,x1,sn]
 obtain⟨f1,e2⟩:=e2;have e3:∃ f2,sPut 1 (fN 3) (fAt (fN 4) (fC (.int 1))) [c0,.ow f1 (D.set t (tD (u,g))),.sh false (.int t),.sh false (.int s),.sh true (.tup [tD (u,g),tD (l,lc)])]=some (.nx [c0,.ow f2 ((D.set t (tD (u,g))).set s (tD (l,lc))),.sh false (.int t),.sh false (.int s),.sh true (.tup [tD (u,g),tD (l,lc)])]):=by
   have x2:ixN (D.set t (tD (u,g))).length (s:Int)=some s:=by rw[Wj];exact x2
   generalize D.set t (tD (u,g))=E at *;generalize tD (u,g)=y1;generalize tD (l,lc)=y2;have sn:∀(f:Fl) (d:Dt),(nrm f d).2=d:=λ_ _=>rfl;refine⟨f1&&(nrm (if y1.flat=true/\y2.flat=true then Fl.nw else Fl.fr).item y2).1.isFr,?_⟩;simp[cOf,x2,sn]
 obtain⟨f2,e3⟩:=e3;refine⟨(M.set t (u,g)).set s (l,lc),.sh true (.tup [tD (u,g),tD (l,lc)]),f2,run e1 (run e2 (by rw[st];exact e3)),⟨ms',ch',by simp[lM],λx hx=>?_⟩⟩;rcases WJ hx with hx|rfl
 · rcases WJ hx with hx|rfl
   · exact I.lt x hx
   · exact u2
 · exact l2
theorem zf2{n r:Nat}{w:Int}{G:II}{K0:St.Meas}{t:Nat}{M:St.Meas}(b:Mb r n w)(I:Cs n r w G K0 t (t+1) M)(ht:t<r)(c0 c3 c4:Cell)(f:Bool):
  ∃ M' c3' c4' f',forF (Tg.one 3) KF (z2l ((t+1:Nat):Int) (r-(t+1))) [c0,.ow f (M.map tD),.sh false (.int t),c3,c4]=some (.nx [c0,.ow f' (M'.map tD),.sh false (.int t),c3',c4'])/\Cs n r w G K0 (t+1) (t+2) M':=by
 obtain⟨j,e,p⟩:=z5l (g:=Tg.one 3) (F:=KF) (λj:St.Meas×Cell×Cell×Bool=>[c0,.ow j.2.2.2 (j.1.map tD),.sh false (.int t),j.2.1,j.2.2.1]) (λs j=>Cs n r w G K0 t s j.1) (r-(t+1)) (t+1) (M,c3,c4,f) I λs j h1 h2 p=>by
  obtain⟨M',c4',f',e,p'⟩:=zkb b p (by rfl') (by rfl') c0 j.2.2.1 j.2.2.2;exact⟨(M',.sh false (.int s),c4',f'),e,p'⟩
 exact⟨j.1,j.2.1,j.2.2.1,j.2.2.2,e,⟨p.ms,p.ch.next (by rw[p.len];rfl'),p.len,p.lt⟩⟩
theorem ch_own(M:St.Meas):∃ f,sOwn 1 (fBlt bLst (z02 (fN 0) fNil)) [.sh false (MD M),.no,.no,.no,.no]=some (.nx [.sh false (MD M),.ow f (M.map tD),.no,.no,.no]):=by
 cases M with
 | nil=>exact⟨true,by simp[cOf,MD]⟩
 | cons x M=>exact⟨false,by simp[cOf,MD,newL,lfl,Dt.flat,z1n]⟩
abbrev RA:FI:=z0l (fBlt bLen (z02 (fN 1) fNil))
abbrev RB:FI:=z8V (fOp z0w (fN 2) (fC (.int 1))) (fBlt bLen (z02 (fN 1) fNil))
theorem ch_ra(c0:Cell)(D:List Dt)(f:Bool)(h:D.length<=1000):RA [c0,.ow f D,.no,.no,.no]=some (z2l 0 D.length):=by
 have ok2:z2U (D.length:Int)=true:=z9y (by rfl');cases f<;>simp[cOf,ok2]
theorem ch_rb(c0 d3 d4:Cell)(D:List Dt)(f:Bool)(t:Nat)(h:D.length<=1000)(ht:t<=1000):RB [c0,.ow f D,.sh false (.int t),d3,d4]=some (z2l ((t+1:Nat):Int) (D.length-(t+1))):=by
 have ok1:z2U ((t:Int)+1)=true:=by have:=z9y (n:=t+1) (by rfl');rwa [show((t+1:Nat):Int)=(t:Int)+1 by rfl']at this
 have ok2:z2U (D.length:Int)=true:=z9y (by rfl');have rg:((D.length:Int)-((t:Int)+1)).toNat=D.length-(t+1):=by rfl'
 have h1:fOp z0w (fN 2) (fC (.int 1)) [c0,.ow f D,.sh false (.int t),d3,d4]=some (.nw,.int ((t:Int)+1)):=by simp[cOf]
 have h2:fBlt bLen (z02 (fN 1) fNil) [c0,.ow f D,.sh false (.int t),d3,d4]=some (.nw,.int (D.length:Int)):=by cases f<;>simp[cOf]
 rw[show((t+1:Nat):Int)=(t:Int)+1 by rfl'];unfold RB z8V;rw[h1,z0o,h2,z0o];have i1:intD ((Fl.nw,Dt.int ((t:Int)+1)):Dv).2=some ((t:Int)+1):=rfl;have i2:intD ((Fl.nw,Dt.int (D.length:Int)):Dv).2=some (D.length:Int):=rfl;rw[i1,z0o,i2,z0o,ok1,ok2,rg];rfl
theorem zoR{n r:Nat}{w:Int}{G:II}{K0:St.Meas}{M:St.Meas}{t:Nat}(b:Mb r n w)(I:Cs n r w G K0 t (t+1) M)(ht:t<r)(c0 d2 d3 d4:Cell)(f:Bool):
  ∃ M' c3' c4' f',(Tg.put (Tg.one 2) (.int t) [c0,.ow f (M.map tD),d2,d3,d4]).bind (z8q RB (Tg.one 3) KF)=some (.nx [c0,.ow f' (M'.map tD),.sh false (.int t),c3',c4'])/\Cs n r w G K0 (t+1) (t+2) M':=by
 have r6:=b.r6;obtain⟨M',c3',c4',f',e,p'⟩:=zf2 b I ht c0 d3 d4 f;refine⟨M',c3',c4',f',?_,p'⟩;have pl:(M.map tD).length=r:=by rw[wo,I.len]
 have it:=ch_rb c0 d3 d4 (M.map tD) f t (by rfl') (by rfl');rw[pl]at it;have pt:Tg.put (Tg.one 2) (.int t) [c0,.ow f (M.map tD),d2,d3,d4]=some [c0,.ow f (M.map tD),.sh false (.int t),d3,d4]:=rfl;rw[pt,z0o,zl1,it,z0o];exact e
theorem zoS{n r:Nat}{w:Int}{G:II}{K0:St.Meas}{M:St.Meas}(b:Mb r n w)(I:Cs n r w G K0 0 1 M)(c0:Cell)(f:Bool):∃ M' f' c2 c3 c4,z8q RA (Tg.one 2) (z8q RB (Tg.one 3) KF) [c0,.ow f (M.map tD),.no,.no,.no]=some (.nx [c0,.ow f' (M'.map tD),c2,c3,c4])/\Cs n r w G K0 r (r+1) M':=by
 have r6:=b.r6;generalize hF:z8q RB (Tg.one 3) KF=F;obtain⟨j,e,p⟩:=z5l (g:=Tg.one 2) (F:=F) (λj:St.Meas×Cell×Cell×Cell×Bool=>[c0,.ow j.2.2.2.2 (j.1.map tD),j.2.1,j.2.2.1,j.2.2.2.1]) (λs j=>Cs n r w G K0 s (s+1) j.1) r 0 (M,.no,.no,.no,f) I λt j h1 h2 p=>by
  obtain⟨M',c3',c4',f',e,p'⟩:=zoR b p (by rfl') c0 j.2.1 j.2.2.1 j.2.2.2.1 j.2.2.2.2;rw[hF]at e;exact⟨(M',.sh false (.int t),c3',c4',f'),e,p'⟩
 have pl:(M.map tD).length=r:=by rw[wo,I.len]
 have it:=ch_ra c0 (M.map tD) f (by rfl');rw[pl]at it;refine⟨j.1,j.2.2.2.2,j.2.1,j.2.2.1,j.2.2.2.1,?_,by rw[WT]at p;exact p⟩;rw[zl1,it,z0o];exact e
theorem zoT(M1:St.Meas)(pos:∀ x∈M1,0<x.2)(c0 c2 c3 c4:Cell)(f1:Bool):z0b 2 [] (iSeq (fN 1)) (Tg.many [0,1]) fYes (fTup (z02 (z06 true z2C (z02 (fN 0) (z02 (fN 1) fNil))) (z02 (fN 1) fNil))) [c0,.ow f1 (M1.map tD),c2,c3,c4]=some (.nw,MD (M1.map λx=>(rstR x.2 x.1,x.2))):=by
 rw[z0d (e:=tD) (h:=λx=>tD (rstR x.2 x.1,x.2)) (xs:=M1) (by cases f1<;>simp[cOf]) (λx hx=>by
  have:=z7d x.1 x.2 (pos x hx);simp[cOf,tD,this])]
 unfold MD;rw[wW];rfl
theorem zoU{n r:Nat}{w:Int}{G:II}{K0 M1:St.Meas}(b:Mb r n w)(p:Cs n r w G K0 r (r+1) M1)(pos:∀ x∈M1,0<x.2):Cs n r w G K0 r (r+1) (M1.map λx=>(rstR x.2 x.1,x.2)):=by
 have get:∀ i,i<r->M1[i]?=some (St.mw M1 i,St.mp M1 i):=λi hi=>by
   have hi:i<M1.length:=by rw[p.len];exact hi
   unfold St.mw St.mp;rw[List.getD,w8 hi];rfl
 have gm:∀ i,i<r->St.mp (M1.map λx=>(rstR x.2 x.1,x.2)) i=St.mp M1 i/\St.mw (M1.map λx=>(rstR x.2 x.1,x.2)) i=rstR (St.mp M1 i) (St.mw M1 i):=λi hi=>by
   have e:=get i hi;unfold St.mp St.mw at e ⊢;rw[List.getD,wu,e];exact⟨rfl,rfl⟩
 have lm:(M1.map λx=>(rstR x.2 x.1,x.2)).length=r:=by rw[wo,p.len]
 have pl:=p.len;refine⟨p.ms.rest (λx hx=>?_) (by rw[wI,wI,lm,pl]) (λi hi=>?_) (λi hi v=>?_),⟨λi hi=>?_,λi hi=>?_,λi j h1 h2 h3=>?_,λj h1 h2 h3=>?_⟩,lm,λx hx=>?_⟩
 · rcases wq.mp hx with hx|hx
   · obtain⟨y,hy,rfl⟩:=wf.mp hx;show(rstR y.2 y.1).length=n;rw[z7c];exact p.ms.rows y (wq.mpr (.inl hy))
   · exact p.ms.rows x (wq.mpr (.inr hx))
 · by_cases h:i<r
   · rw[(St.z2O (by rfl')).1,(St.z2O (by rfl')).1,(gm i h).1]
   · unfold St.mp;rw[St.z3E,St.z3E,lm,pl,if_neg h,if_neg h]
 · by_cases h:i<r
   · rw[(St.z2O (by rfl')).1,(St.z2O (by rfl')).2,(St.z2O (by rfl')).2,(gm i h).2];exact St.zoL (q:=λk=>(St.at0 (St.mw M1 i) k).fdiv (St.mp M1 i)) (λk=>z94 _ _ k) v
   · unfold St.mw;rw[St.z3E,St.z3E,lm,pl,if_neg h,if_neg h];exact⟨0,by rfl'⟩
 · rw[(gm i (by rfl')).1];exact p.ch.pos i (by rfl')
 · rw[(gm i (by rfl')).1];exact p.ch.whole i (by rfl')
 · rw[(gm i (by rfl')).1,(gm j (by rfl')).1];exact p.ch.all i j h1 h2 (by rfl')
 · rfl'
 · obtain⟨y,hy,rfl⟩:=wf.mp hx;obtain⟨i,hi,rfl⟩:=wH hy;have w1:=p.ch.whole i hi;unfold St.mp at w1;rw[List.getD,w8 hi]at w1;exact zf1 (pos _ hy) (b.hd w1) _
theorem zf3{n r:Nat}{w:Int}{G:II}{K0:St.Meas}{M:St.Meas}(b:Mb r n w)(I:Cs n r w G K0 0 1 M):
   ∃ M',z39 [MD M]=some (MD M')/\Cs n r w G K0 r (r+1) M'/\∀ x∈M',∀ y∈x.1,0<=y/\y<x.2:=by
 obtain⟨f,own⟩:=ch_own M;obtain⟨M1,f1,c2,c3,c4,e1,p⟩:=zoS b I (.sh false (MD M)) f;have pos:∀ x∈M1,0<x.2:=λx hx=>by
   obtain⟨i,hi,rfl⟩:=wH hx;have:=p.ch.pos i hi;unfold St.mp at this;rw[List.getD,w8 hi]at this;exact this
 have cm:=zoT M1 pos (.sh false (MD M)) c2 c3 c4 f1;have cr:=zoU b p pos;refine⟨M1.map λx=>(rstR x.2 x.1,x.2),?_,cr,λx hx=>?_⟩
 · generalize M1.map (λx=>(rstR x.2 x.1,x.2))=M2 at *;generalize M1.map tD=D1 at *;generalize M.map tD=D at *;have q:z44 [.sh false (MD M),.no,.no,.no,.no]=some (.rt .nw (MD M2)):=by
    unfold z44;refine run own (run e1 ?_);unfold sRet;rw[cm];rfl
   unfold z39 cOf;rw[if_pos (show[MD M].length=1 from rfl)];show(z44 [.sh false (MD M),.no,.no,.no,.no]).bind _=_;rw[q];rfl
 · obtain⟨y,hy,rfl⟩:=wf.mp hx;exact zeY (pos y hy)
theorem zcF(k:Nat)(h:k<=6):St.bnd k (2 ^ 900)+1<=2 ^ 5461:=by
 have h1:=St.z70 (r:=k) (s:=6) (B:=2 ^ 900) h (wJ _) (by decide);have h2:St.bnd 6 (2 ^ 900)<=2 ^ 5460:=by
  unfold St.bnd;have a:2*6*2 ^ 900<=2 ^ 904:=by
   rw[show(904:Nat)=4+900 from rfl,Wa];exact wF _ (by decide)
  have b:=v8 a 6;rw[←Nat.pow_mul]at b;have c:(2:Nat) ^ 5460=2 ^ (904*6)*2 ^ (6*6):=by rw[←Wa]
  rw[c];exact wF _ b
 have h3:(2:Nat) ^ 5460<2 ^ 5461:=v4 (by decide) (by decide);rfl'
def zj4(xs:List Int):Int:=xs.foldl (λt x=>t*x) 1
theorem zf4{e:Nat}(xs:List Int)(h:∀ x∈xs,x.natAbs<2 ^ e)(he:e*(xs.length+1)<=1000000):z5U [L xs]=some (.int (zj4 xs)):=by
 have key:∀(ys:List Int) (t:Int) (k:Nat) (c0 c2:Cell) (f:Bool),(∀ x∈ys,x.natAbs<2 ^ e)->t.natAbs<2 ^ k->k+e*(ys.length+1)<=2000000->∃ f' c2',forF (Tg.one 2) (sSet [] 1 (fOp z1R (fN 1) (fN 2))) (ys.map Dt.int) [c0,.sh f (.int t),c2]=some (.nx [c0,.sh f' (.int (ys.foldl (λt x=>t*x) t)),c2']):=by
  intro ys
  induction ys with
  | nil=>intro t k c0 c2 f _ _ _;exact⟨f,c2,rfl⟩
  | cons y ys ih =>
   intro t k c0 c2 f hy ht hk;have e1:e*(ys.length+1+1)=e*(ys.length+1)+e:=Nat.mul_succ _ _;rw[wj,e1]at hk;have m:z1e t y=true:=z3l ht (hy y wc) (by rfl');have b:(t*y).natAbs<2 ^ (k+e):=by rw[W0,Wa];exact v5 ht (hy y wc)
   obtain⟨f',c2',q⟩:=ih (t*y) (k+e) c0 (.sh false (.int y)) true (λx hx=>hy x (wa _ hx)) b (by rfl');refine⟨f',c2',?_⟩;rw[wv,z1f,WX,←q];have s:(Tg.put (Tg.one 2) (.int y) [c0,.sh f (.int t),c2]).bind (sSet [] 1 (fOp z1R (fN 1) (fN 2)))=some (.nx [c0,.sh true (.int (t*y)),.sh false (.int y)]):=by
    simp[cOf,m]
   rw[s];rfl
 obtain⟨f',c2',q⟩:=key xs 1 1 (.sh false (L xs)) .no true h (by decide) (by rfl');unfold z5U z7X;have q:forF (Tg.one 2) (sSet [] 1 (fOp z1R (fN 1) (fN 2))) (xs.map Dt.int) [.sh false (L xs),.sh true (.int 1),.no]=some (.nx [.sh false (L xs),.sh f' (.int (zj4 xs)),c2']):=q;simp[cOf,q]
theorem zlv(A:II)(r:Nat):zj4 ((List.range r).map λi=>St.ent A i i)=St.pr A r:=by
 unfold zj4
 induction r with
 | zero=>rfl
 | succ r ih=>rw[vB,Wk,List.foldl_append,ih];rfl
theorem za6(P:II){n:Nat}(h:P.length=n):St.pair P (St.units n)=St.z3N P:=by
 have e0:=zj3 P.length 0 P;rw[←vy]at e0;rw[za4];unfold St.units;rw[←h];exact e0
structure Mz(n r:Nat)(G:II)(M:St.Meas):Prop where
 ms:St.Ms n G M
 len:M.length=n
 rn:r<=n
 pos:∀ i,i<r->0<St.mp M i
 dvd:∀ i j,i<j->j<r->St.mp M i∣St.mp M j
 zero:∀ i,r<=i->i<n->St.mp M i=0
 big:∀ x∈M,x.2<2 ^ 5400/\∀ y∈x.1,y.natAbs<2 ^ 5461
theorem zcG{n g:Nat}{bills G:II}(n6:n<=6)(hg:g<=899)(es:z5V [z0G n bills]=some (LL G))(Ga:St.Asc n 0 G)(gg:∀ x∈G,St.Lt (2 ^ g) x):∃ M,z0P [z0G n bills]=some (MD M)/\Mz n G.length G M/\∀ x∈M,(0<x.2->x.2<=2 ^ (g*G.length)/\∀ y∈x.1,0<=y/\y<x.2)/\(x.2=0->∀ y∈x.1,y.natAbs<St.bnd n (2 ^ (g+1))+1):=by
 have g899:∀ x∈G,St.Lt (2 ^ 899) x:=λx hx=>(gg x hx).mono (wm (by decide) hg);have gl:=St.z5H Ga (wQ _);generalize hr:G.length=r at *;have rn:r<=n:=by rfl'
 have gr:∀ x∈G,x.length=n:=λx hx=>(Ga.mem hx).1;have t1:=z85 G n gr (by rfl');have pl:(St.trn n G).length=n:=St.z0T _ _;have tr:∀ x∈St.trn n G,x.length=r:=λx hx=>by rw[St.z2Y hx,hr]
 have pltq:∀ q:Nat,(∀ x∈G,St.Lt (2 ^ q) x)->∀ x∈St.pair (St.trn n G) (St.units n),St.Lt (2 ^ (q+1)) x:=λq hq x hx k=>by
   obtain⟨i,hi,rfl⟩:=wH hx;have hi':i<n:=by rw[St.z2f (by rw[pl,St.z0Y]),pl]at hi;exact hi
   have e:St.at0 ((St.pair (St.trn n G) (St.units n))[i]) k=St.ent (St.pair (St.trn n G) (St.units n)) i k:=by unfold St.ent;simp[List.getD,w8 hi]
   rw[e,St.z58 (n:=n) (r:=r) tr (by rw[pl];exact hi') (by rw[St.z0Y];exact hi')];have p2:(1:Nat)<2 ^ (q+1):=Vt (by rfl');split
   · rw[St.z1j gr];by_cases hi:k<G.length
     · have:=hq _ (St.z17 hi) i;have:(St.ent G k i).natAbs<2 ^ q:=this;rw[WG];rfl'
     · rw[St.z0J (by rfl')];simp only[Int.natAbs_zero];rfl'
   · rw[St.z7Q hi'];split<;>simp<;>rfl'
 have plt:∀ x∈St.pair (St.trn n G) (St.units n),St.Lt (2 ^ 900) x:=pltq 899 g899;obtain⟨S,e2,G2⟩:=z6A (n:=r+n) (e:=5461) (eh:=5461) (B:=2 ^ 900) (by rfl') (by decide) (wx _) (by decide) (St.trn n G) (St.units n) (by rw[pl,St.z0Y]) (St.zbg tr (St.zbh n)) plt (wJ _) (wm (by decide) (by decide)) (λk hk=>zcF k (by rfl'))
   (λk S hk G0 x hx=>by
     have q:=G0.small (λr hr=>plt r (WP hr)) (wJ _) x hx (St.z00 x);have l:=G0.len;have b:=zcF S.length (by rw[Wq]at l;rfl');have q:(St.hd x).natAbs<St.bnd S.length (2 ^ 900)+1:=q;have c2:((2 ^ 5461:Nat):Int)=(2:Int) ^ 5461:=by norm_cast
     rfl') (by rfl')
 have sl:S.length=n:=by
   have:=G2.full (by rw[za6 _ pl];exact St.z9G tr);rw[this,St.z2f (by rw[pl,St.z0Y]),pl]
 have s5461:∀ x∈S,St.Lt (2 ^ 5461) x:=λx hx=>(G2.small plt (wJ _) x hx).mono (zcF _ (by rfl'));obtain⟨W,tk,eW,bl,m0,te,_⟩:=St.start Ga hr G2.asc G2.form sl G2.span;have sq:=m0.sq;have wp:0<St.pr (St.tops r S) r:=St.zeI λi hi=>sq.pos hi;have hs:=St.z5O (r:=r) G2.span;rw[St.z5P tr (by rw[pl,St.z0Y])]at hs;have sb:∀ e,(∀ x∈G,St.hd x<2 ^ e)->St.pr (St.tops r S) r<=2 ^ (e*r):=λe he=>St.zdJ Ga hr sq (λx hx=>by
   have:=hs.iff.mpr (St.z0c hx);refine Lat.Span.trans (λv hv=>?_) this;obtain⟨y,hy,rfl⟩:=wf.mp hv;obtain⟨z,hz,rfl⟩:=wf.mp hy;exact Lat.Span.congr (λk=>by simp only[St.vec];rw[St.z1p]) (St.z5J (n:=r) G2.asc (St.z0c hz))) he
 have wb:=sb 899 (hd_lt Ga g899);have wg:=sb g (hd_lt Ga gg);have b:Mb r n (St.pr (St.tops r S) r):=⟨by rfl',n6,wp,by
   have h1:(2:Nat) ^ (899*r)<=2 ^ 5394:=wm (by decide) (by rfl');have h2:(2:Nat) ^ 5394<2 ^ 5400:=v4 (by decide) (by decide);have c1:((2 ^ (899*r):Nat):Int)=(2:Int) ^ (899*r):=by norm_cast
   have c2:((2 ^ 5400:Nat):Int)=(2:Int) ^ 5400:=by norm_cast
   rfl'⟩
 generalize hw:St.pr (St.tops r S) r=w at *;have wl:=m0.wl;have mw0:Mw r n w G (St.bots r S) (St.tops r S) W:=⟨m0,λx hx k=>by
   rw[eW]at hx;obtain⟨y,hy,rfl⟩:=wf.mp hx;rw[St.z2I];exact s5461 y (WP hy) _⟩
 obtain⟨A',W',e3,I',hc⟩:=zf0 b mw0;have br:∀ x∈St.bots r S,x.length=n:=λx hx=>by
   unfold St.bots at hx;obtain⟨y,hy,rfl⟩:=wf.mp hx;rw[Wc,(G2.asc.mem (W3.mp hy).1).1];rfl'
 have dl:(z1U A' W').length=r:=by unfold z1U;rw[wo,z87,I'.m.wl]
 have kl:((St.bots r S).map λx=>(x,(0:Int))).length=n-r:=by rw[wo,bl]
 have k0:∀ j,j<n-r->((St.bots r S).map λx=>(x,(0:Int))).getD j ([],0)=((St.bots r S).getD j [],0):=λj hj=>by
   simp[List.getD,wu,w8 (show j<(St.bots r S).length by rfl')]
 have ms0:St.Ms n G (z1U A' W'++(St.bots r S).map λx=>(x,(0:Int))):=I'.m.meas hc br _ (by rw[wI,dl,kl,bl])
   (λi hi=>by
     have:=za5 A' W' (i:=i) (by rw[I'.m.wl];exact hi);rw[(St.z2O (by rfl')).1,(St.z2O (by rfl')).2];exact this)
   (λj hj=>by
     unfold St.mw St.mp;rw[St.z3E,dl,if_neg (by rfl'),show r+j-r=j by rfl',k0 j (by rfl')];exact⟨rfl,rfl⟩)
 have cs:Cs n r w G ((St.bots r S).map λx=>(x,(0:Int))) 0 1 (z1U A' W'):=⟨ms0,St.Chn.first (λi hi=>by
     rw[(za5 A' W' (i:=i) (by rw[I'.m.wl];rfl')).2];exact I'.m.sq.pos (by rfl')) (λi hi=>by
     rw[(za5 A' W' (i:=i) (by rw[I'.m.wl];rfl')).2];exact I'.m.sq.whole_col I'.m.whole (by rfl')),dl,λx hx=>by
     unfold z1U at hx;obtain⟨q,hq,rfl⟩:=wf.mp hx;obtain⟨i,hi,rfl⟩:=z3c.mp hq;exact I'.wb _ (St.z17 hi)⟩
 obtain⟨M',e4,c',lt'⟩:=zf3 b cs;have e5:=z7b S r;refine⟨M'++(St.bots r S).map λx=>(x,(0:Int)),?_,⟨c'.ms,by rw[wI,c'.len,kl];rfl',rn,λi hi=>?_,λi j h1 h2=>?_,λi h1 h2=>?_,λx hx=>?_⟩,λx hx=>?_⟩
 · have u1:∀ d0 d2 d3 d4 d5 d6 d7:Cell,∀ f1,z0b 1 [1] (z0l (fN 1)) (Tg.one 0) fYes (z06 true z1Z (z02 (fN 1) (z02 (fN 0) fNil))) [d0,.sh f1 (.int n),d2,d3,d4,d5,d6,d7]=some (.nw,LL (St.units n)):=λd0 d2 d3 d4 d5 d6 d7 f1=>by
     rw[z0d (e:=λ(k:Nat) => .int (0+(k:Int))) (h:=λk=>L (St.z0k n k)) (xs:=List.range n) (by simp[cOf,y13 n (by rfl'),z0N]) (λj _=>by
       have u:=z8y n j (by rfl');simp[cOf,u])]
     simp[LL,St.units]
   have ntk:newL ((S.map L).take r)=newL ((S.take r).map L):=by rw[vX]
   have c1:∀ d0 d1 d2 d5 d6 d7:Cell,∀ f3 f4,z0b 1 [3] (iSeq (fSl (fN 4) z0E (z1w (fN 3)))) (Tg.one 0) fYes (fSl (fN 0) z0E (z1w (fN 1))) [d0,d1,d2,.sh f3 (.int r),.sh f4 (LL S),d5,d6,d7]=some (.nw,LL (St.tops r S)):=λd0 d1 d2 d5 d6 d7 f3 f4=>by
     rw[te,z0d (e:=L) (h:=λx=>L (x.take r)) (xs:=S.take r) (by cases f4<;>simp[cOf,zcl,newL,vX]) (λx hx=>by simp[cOf,zcl,z53])];unfold LL;rw[wW];rfl
   have c2:∀ d0 d1 d2 d5 d6 d7:Cell,∀ f3 f4,z0b 1 [3] (iSeq (fSl (fN 4) z0E (z1w (fN 3)))) (Tg.one 0) fYes (fSl (fN 0) (z1w (fN 1)) z0E) [d0,d1,d2,.sh f3 (.int r),.sh f4 (LL S),d5,d6,d7]=some (.nw,LL W):=λd0 d1 d2 d5 d6 d7 f3 f4=>by
     rw[eW,z0d (e:=L) (h:=λx=>L (x.drop r)) (xs:=S.take r) (by cases f4<;>simp[cOf,zcl,newL,vX]) (λx hx=>by simp[cOf,z52,z1z])];unfold LL;rw[wW];rfl
   have tl:=sq.len;have c3:∀ d0 d1 d2 d3 d4 d6 d7:Cell,∀ f5,z0b 2 [] (z3i (fN 5)) (Tg.many [0,1]) fYes (fAt (fN 1) (fN 0)) [d0,d1,d2,d3,d4,.sh f5 (LL (St.tops r S)),d6,d7]=some (.nw,L ((List.range r).map λi=>St.ent (St.tops r S) i i)):=λd0 d1 d2 d3 d4 d6 d7 f5=>by
     rw[z0d (e:=λp:Nat×List Int => .tup [.int p.1,L p.2]) (h:=λp => .int (St.ent (St.tops r S) p.1 p.1)) (xs:=z1g 0 (St.tops r S)) (by simp[cOf,z46]) (λp hp=>by
       obtain⟨i,hi,rfl⟩:=z3c.mp hp;rw[WT];have h2:=zlu (r:=(St.tops r S).getD i []) (k:=i) (by rw[sq.rows _ (St.z17 hi)];rfl');have x:St.ent (St.tops r S) i i=St.at0 ((St.tops r S).getD i []) i:=rfl;rw[x];generalize (St.tops r S).getD i []=ra at h2 ⊢;simp[cOf,h2])]
     have x:(z1g 0 (St.tops r S)).map (λp=>Dt.int (St.ent (St.tops r S) p.1 p.1))=((List.range r).map λi=>St.ent (St.tops r S) i i).map Dt.int:=by
       refine List.ext_getElem? λi=>?_;rw[wu,wu,wu];by_cases hi:i<r
       · rw[z88 0 _ i (by rfl'),Wz hi,WT];rfl
       · rw[wN (by rw[z87];rfl'),wN (by simp;rfl')];rfl
     rw[x]
   have pe:=zf4 (e:=5400) ((List.range r).map λi=>St.ent (St.tops r S) i i) (λx hx=>by
     obtain⟨i,hi,rfl⟩:=wf.mp hx;have hi:=wM.mp hi;have h1:=b.hd (sq.whole_col m0.whole hi);have h2:=sq.pos hi;have c2:((2 ^ 5400:Nat):Int)=(2:Int) ^ 5400:=by norm_cast
     rfl') (by rw[wo,Wr];have:=b.r6;rfl')
   rw[zlv,hw]at pe;have k1:∀ d0 d1 d2 d5 d6 d7:Cell,∀ f3 f4,∃ fl,z0b 1 [] (iSeq (z06 true z0O (z02 (fN 4) (z02 (fN 3) fNil)))) (Tg.one 0) fYes (fTup (z02 (fN 0) (z02 (fC (.int 0)) fNil))) [d0,d1,d2,.sh f3 (.int r),.sh f4 (LL S),d5,d6,d7]=some (fl,MD ((St.bots r S).map λx=>(x,(0:Int)))):=λd0 d1 d2 d5 d6 d7 f3 f4=>by
     have key:=z9v (nt:=1) (js:=[]) (Fi:=iSeq (z06 true z0O (z02 (fN 4) (z02 (fN 3) fNil)))) (g:=Tg.one 0) (Fe:=fTup (z02 (fN 0) (z02 (fC (.int 0)) fNil))) (ρ:=[d0,d1,d2,.sh f3 (.int r),.sh f4 (LL S),d5,d6,d7]) (e:=L) (h:=λx=>(.sh,.tup [L x,.int 0])) (xs:=St.bots r S) (by simp[cOf,e5]) (λx hx=>by simp[cOf];rfl);have x:MD ((St.bots r S).map λx=>(x,(0:Int))) = .lst ((St.bots r S).map λx => .tup [L x,.int 0]):=by
       unfold MD;rw[wW];rfl
     rw[x];exact⟨_,key⟩
   have cat:∀ fa fb,∃ fl,fOp z0w (λ_=>some (fa,MD M')) (λ_=>some (fb,MD ((St.bots r S).map λx=>(x,(0:Int))))) []=some (fl,MD (M'++(St.bots r S).map λx=>(x,(0:Int)))):=λfa fb=>by
     have l1:(M'.map λx=>Dt.tup [L x.1,.int x.2]).length<=6:=by rw[wo,c'.len];exact b.r6
     have l2:(((St.bots r S).map λx=>(x,(0:Int))).map λx=>Dt.tup [L x.1,.int x.2]).length<=6:=by rw[wo,kl];rfl'
     have x:MD (M'++(St.bots r S).map λx=>(x,(0:Int))) = .lst ((M'.map λx=>Dt.tup [L x.1,.int x.2])++(((St.bots r S).map λx=>(x,(0:Int))).map λx=>Dt.tup [L x.1,.int x.2])):=by unfold MD;rw[Wk]
     rw[x];unfold MD;generalize M'.map (λx=>Dt.tup [L x.1,.int x.2])=D1 at *;generalize ((St.bots r S).map λx=>(x,(0:Int))).map (λx=>Dt.tup [L x.1,.int x.2])=D2 at *;have y:z0w (.lst D1) (.lst D2)=z4Q (.lst D1) (.lst D2):=rfl;refine⟨lfl (D1++D2),?_⟩;show z0w (.lst D1) (.lst D2)=_;rw[y,z4Q,if_pos (by rfl')];rfl
   have fin:∀ d0 d1 d2 d5 d6:Cell,∀ f3 f4 f7,∃ fl,fOp z0w (z06 true z39 (z02 (fN 7) fNil)) (z0b 1 [] (iSeq (z06 true z0O (z02 (fN 4) (z02 (fN 3) fNil)))) (Tg.one 0) fYes (fTup (z02 (fN 0) (z02 (fC (.int 0)) fNil)))) [d0,d1,d2,.sh f3 (.int r),.sh f4 (LL S),d5,d6,.sh f7 (MD (z1U A' W'))]=some (fl,MD (M'++(St.bots r S).map λx=>(x,(0:Int)))):=λd0 d1 d2 d5 d6 f3 f4 f7=>by
     obtain⟨fb,k1⟩:=k1 d0 d1 d2 d5 d6 (.sh f7 (MD (z1U A' W'))) f3 f4;have k2:∃ fa,z06 true z39 (z02 (fN 7) fNil) [d0,d1,d2,.sh f3 (.int r),.sh f4 (LL S),d5,d6,.sh f7 (MD (z1U A' W'))]=some (fa,MD M'):=by
       generalize MD (z1U A' W')=Y at *;generalize MD M'=Z at *;have sn:∀(f:Fl) (d:Dt),(nrm f d).2=d:=λ_ _=>rfl;refine⟨(nrm .nw Z).1,?_⟩;simp[cOf,sn,e4]
     obtain⟨fa,k2⟩:=k2;obtain⟨fl,q⟩:=cat fa fb;refine⟨fl,?_⟩;unfold fOp at q ⊢;rw[k1,k2];exact q
   obtain⟨fl,fin⟩:=fin (.sh false (z0G n bills)) (.sh true (.int n)) (.sh true (LL G)) (.sh true (LL (St.tops r S))) (.sh true (.int w)) true true false;have q:z3q [.sh false (z0G n bills),.no,.no,.no,.no,.no,.no,.no]=some (.rt fl (MD (M'++(St.bots r S).map λx=>(x,(0:Int))))):=by
     unfold z3q;refine run (ρ':=[.sh false (z0G n bills),.sh true (.int n),.no,.no,.no,.no,.no,.no]) (by simp[cOf]) ?_;refine run (ρ':=[.sh false (z0G n bills),.sh true (.int n),.sh true (LL G),.no,.no,.no,.no,.no]) (by simp[cOf,es]) ?_;refine run (ρ':=[.sh false (z0G n bills),.sh true (.int n),.sh true (LL G),.sh true (.int r),.no,.no,.no,.no]) (by simp[cOf,hr]) ?_;refine run (ρ':=[.sh false (z0G n bills),.sh true (.int n),.sh true (LL G),.sh true (.int r),.sh true (LL S),.no,.no,.no]) (by
       have:=u1 (.sh false (z0G n bills)) (.sh true (LL G)) (.sh true (.int r)) .no .no .no .no true;simp[cOf,t1,this,e2]) ?_
     refine run (ρ':=[.sh false (z0G n bills),.sh true (.int n),.sh true (LL G),.sh true (.int r),.sh true (LL S),.sh true (LL (St.tops r S)),.no,.no]) (by
       have:=c1 (.sh false (z0G n bills)) (.sh true (.int n)) (.sh true (LL G)) .no .no .no true true;simp[cOf,this]) ?_
     refine run (ρ':=[.sh false (z0G n bills),.sh true (.int n),.sh true (LL G),.sh true (.int r),.sh true (LL S),.sh true (LL (St.tops r S)),.sh true (.int w),.no]) (by
       have:=c3 (.sh false (z0G n bills)) (.sh true (.int n)) (.sh true (LL G)) (.sh true (.int r)) (.sh true (LL S)) .no .no true;generalize (List.range r).map (λi=>St.ent (St.tops r S) i i)=xs at *;simp[cOf,this,pe]) ?_
     refine run (ρ':=[.sh false (z0G n bills),.sh true (.int n),.sh true (LL G),.sh true (.int r),.sh true (LL S),.sh true (LL (St.tops r S)),.sh true (.int w),.sh false (MD (z1U A' W'))]) (by
       have:=c2 (.sh false (z0G n bills)) (.sh true (.int n)) (.sh true (LL G)) (.sh true (LL (St.tops r S))) (.sh true (.int w)) .no true true;have nf:∀ f,nrm f (MD (z1U A' W'))=(f,MD (z1U A' W')):=λf=>rfl;generalize MD (z1U A' W')=Y at *;simp[cOf,this,e3,nf]
       try rfl) ?_
     unfold sRet;rw[fin];rfl
   unfold z0P cOf;rw[if_pos (show[z0G n bills].length=1 from rfl)];show(z3q [.sh false (z0G n bills),.no,.no,.no,.no,.no,.no,.no]).bind _=_;rw[q];rfl
 · rw[(St.z2O (by rw[c'.len];exact hi)).1];exact c'.ch.pos i (by rw[c'.len];exact hi)
 · rw[(St.z2O (by rw[c'.len];rfl')).1,(St.z2O (by rw[c'.len];rfl')).1];exact c'.ch.all i j (by rfl') h1 (by rw[c'.len];rfl')
 · unfold St.mp;rw[St.z3E,c'.len,if_neg (by rfl'),k0 _ (by rfl')]
 · rcases wq.mp hx with hx|hx
   · obtain⟨i,hi,rfl⟩:=wH hx;have w1:=c'.ch.whole i hi;unfold St.mp at w1;rw[List.getD,w8 hi]at w1;have h1:=b.hd w1;refine⟨h1,λy hy=>?_⟩;have h2:=lt' _ hx y hy;have h3:(2:Nat) ^ 5400<=2 ^ 5461:=wm (by decide) (by decide);have c2:((2 ^ 5400:Nat):Int)=(2:Int) ^ 5400:=by norm_cast
     have h1:M'[i].2<2 ^ 5400:=h1;rfl'
   · obtain⟨z,hz,rfl⟩:=wf.mp hx;refine⟨Int.pow_pos (by decide),λy hy=>?_⟩;unfold St.bots at hz;obtain⟨u,hu,rfl⟩:=wf.mp hz;obtain⟨k,hk⟩:=z3Z hy;rw[←hk];show(St.at0 (u.drop r) k).natAbs<_;rw[St.z2I];exact s5461 u (W3.mp hu).1 _
 · rcases wq.mp hx with hx|hx
   · refine⟨λ_=>⟨?_,lt' x hx⟩,λz=>?_⟩
     · obtain⟨i,hi,rfl⟩:=wH hx;have w1:=c'.ch.whole i hi;unfold St.mp at w1;rw[List.getD,w8 hi]at w1;have:=Wy wp w1;have:M'[i].2<=w:=this;rfl'
     · obtain⟨i,hi,rfl⟩:=wH hx;have:=c'.ch.pos i hi;unfold St.mp at this;rw[List.getD,w8 hi]at this;have:0<M'[i].2:=this;rfl'
   · obtain⟨z,hz,rfl⟩:=wf.mp hx;refine⟨λq=>absurd q (by simp),λ_ y hy=>?_⟩;unfold St.bots at hz;obtain⟨u,hu,rfl⟩:=wf.mp hz;obtain⟨k,hk⟩:=z3Z hy;rw[←hk];show(St.at0 (u.drop r) k).natAbs<_;rw[St.z2I];have G3:St.Good (r+n) (2 ^ (g+1)) (St.pair (St.trn n G) (St.units n)) S:=⟨G2.asc,G2.form,G2.span,G2.ind,G2.len,G2.full⟩;have q:=G3.small (pltq g gg) (wJ _) u (W3.mp hu).1 (r+k);rw[sl]at q;exact q
def dotL(w r:List Int):Int:=(List.range r.length).foldl (λt k=>t+St.at0 w k*St.at0 r k) 0
theorem zj5(w r:List Int):dotL w r=St.dt r.length w (St.vec r):=by
 unfold dotL St.dt;have key:∀(n:Nat) (f:Nat->Int) (t:Int),(List.range n).foldl (λt k=>t+f k) t=t+St.sm n f:=by
  intro n
  induction n with
  | zero=>intro f t;simp[St.sm]
  | succ n ih =>
   intro f t;rw[Vb,WX,List.foldl_map,St.sm];have:=ih (λk=>f (k+1)) (t+f 0);rw[this];rfl'
 rw[key r.length (λk=>St.at0 w k*St.at0 r k) 0,VC]
theorem zdT(a:Int):z2P [.int a,.int 0]=some (.int a):=by
 unfold z2P zcu;simp[cOf,z0K]
theorem zoV(w r:List Int)(h:r.length=w.length):((r.zip w).map λp=>p.1*p.2).sum=dotL w r:=by
 rw[zj5];unfold St.dt
 induction r generalizing w with
 | nil=>cases w with
  | nil=>rfl
  | cons x w=>cases h
 | cons y r ih=>cases w with
  | nil=>cases h
  | cons x w =>
   rw[WV,wv,List.sum_cons,wj,St.sm,ih w (by simpa using h),wL];rfl
theorem zf5{e:Nat}(dd:Dt)(r w:List Int)(hdd:RowD dd r)(h:r.length=w.length)(h1:∀ x∈w,x.natAbs<2 ^ e)(h2:∀ x∈r,x.natAbs<2 ^ e)(he:e<=60000000):z41 [dd,L w]=some (.int (dotL w r)):=by
 have q:z0b 2 [] (iZip (fN 0) (fN 1)) (Tg.many [0,1]) fYes (fOp z1R (fN 0) (fN 1)) [.sh false dd,.sh false (L w)]=some (.nw,.lst ((r.zip w).map λp => .int (p.1*p.2))):=by
  rw[z0d (e:=λp:Int×Int => .tup [.int p.1,.int p.2]) (h:=λp => .int (p.1*p.2)) (xs:=r.zip w) (by rcases hdd with rfl|rfl<;>simp[cOf,h,z3k]) (λp hp=>by
   have m:z1e p.1 p.2=true:=z3l (h2 _ (Wt hp).1) (h1 _ (Wt hp).2) (by rfl');simp[cOf,m])]
 have e2:z4l ((r.zip w).map λp=>Dt.int (p.1*p.2))=some ((r.zip w).map λp=>p.1*p.2):=by
  have:=z8t ((r.zip w).map λp=>p.1*p.2);rw[wW]at this;exact this
 have s:=zoV w r h;unfold z41 z7S;generalize (r.zip w).map (λp=>Dt.int (p.1*p.2))=D at *;generalize (r.zip w).map (λp=>p.1*p.2)=D2 at *;rcases hdd with rfl|rfl<;>simp[cOf,q,bSum,e2,s]
theorem zlw{n:Nat}{bills:II}{M:St.Meas}(h:z0P [z0G n bills]=some (MD M)):z92 [z0G n bills]=some (L (M.map (·.2))):=by
 have it:iSeq (z06 false z0P (z02 (fN 0) fNil)) [.sh false (z0G n bills)]=some (M.map tD):=by
  have nf:nrm .sh (MD M)=(.sh,MD M):=rfl;have e:seqD (MD M)=some (M.map tD):=rfl;generalize MD M=Y at *;simp[cOf,h,nf,e]
 have key:z0b 2 [] (iSeq (z06 false z0P (z02 (fN 0) fNil))) (Tg.many [0,1]) fYes (fN 1) [.sh false (z0G n bills)]=some (.nw,L (M.map (·.2))):=by
  rw[z0d (e:=tD) (h:=λx => .int x.2) (xs:=M) it (λx _=>by simp[cOf,tD])];simp[L]
 unfold z92 zcx;simp[cOf,key]
def plN(b:List Int)(x:List Int×Int):Int:=if x.2=0 then dotL x.1 b else(dotL x.1 b).fmod x.2
theorem z8z{n e:Nat}{M:St.Meas}{b:List Int}{dd:Dt}(hdd:RowD dd b)(hb:b.length=n)(hr:∀ x∈M,x.1.length=n)(hp:∀ x∈M,0<=x.2)(h1:∀ x∈M,∀ y∈x.1,y.natAbs<2 ^ e)(h2:∀ y∈b,y.natAbs<2 ^ e)(he:e<=60000000):z2u [MD M,dd]=some (L (M.map (plN b))):=by
 have it:iSeq (fN 0) [.sh false (MD M),.sh false dd]=some (M.map tD):=by
  have nf:nrm .sh (MD M)=(.sh,MD M):=rfl;have e:seqD (MD M)=some (M.map tD):=rfl;generalize MD M=Y at *;simp[cOf,nf,e]
 have key:z0b 2 [1] (iSeq (fN 0)) (Tg.many [0,1]) fYes (z06 true z2P (z02 (z06 true z41 (z02 (fN 2) (z02 (fN 0) fNil))) (z02 (fN 1) fNil))) [.sh false (MD M),.sh false dd]=some (.nw,L (M.map (plN b))):=by
  rw[z0d (e:=tD) (h:=λx => .int (plN b x)) (xs:=M) it (λx hx=>by
   have w:=zf5 (e:=e) dd b x.1 hdd (by rw[hb,hr x hx]) (h1 x hx) h2 he;have p0:=hp x hx;obtain⟨w0,p⟩:=x;have sn:∀(f:Fl) (d:Dt),(nrm f d).2=d:=λ_ _=>rfl;unfold plN tD;dsimp only at *;clear hdd;by_cases hp0:p=0
   · subst hp0;have:=zdT (dotL w0 b);simp[cOf,sn,w,this]
   · have:=zcE (dotL w0 b) p (by rfl');simp[cOf,sn,w,this,hp0])]
  simp[L]
 unfold z2u z6w;generalize MD M=Y at *;simp[cOf,key]
theorem zlx{n e:Nat}{bills:II}{M:St.Meas}{b:List Int}(h:z0P [z0G n bills]=some (MD M))(hb:b.length=n)(hr:∀ x∈M,x.1.length=n)(hp:∀ x∈M,0<=x.2)(h1:∀ x∈M,∀ y∈x.1,y.natAbs<2 ^ e)(h2:∀ y∈b,y.natAbs<2 ^ e)(he:e<=60000000):z93 [z0G n bills,L b]=some (L (M.map (plN b))):=by
 have q:=z8z (dd:=L b) (.inl rfl) hb hr hp h1 h2 he;have nb:=z9W n bills b hb;have nf:nrm .sh (MD M)=(.sh,MD M):=rfl;unfold z93 zcy;generalize MD M=Y at *;simp[cOf,nb,h,q,nf]
theorem Mz.nn{n r:Nat}{G:II}{M:St.Meas}(Z:Mz n r G M):∀ x∈M,0<=x.2:=λx hx=>by
 obtain⟨i,hi,rfl⟩:=wH hx;have e:M[i].2=St.mp M i:=by unfold St.mp;rw[List.getD,w8 hi];rfl
 rw[e];by_cases q:i<r
 · have:=Z.pos i q;rfl'
 · rw[Z.zero i (by rfl') (by rw[←Z.len];exact hi)];rfl'
theorem za7{n r:Nat}{G:II}{M:St.Meas}{b:List Int}(Z:Mz n r G M)(hb:b.length=n){k:Nat}(hk:k<n):St.at0 (M.map (plN b)) k=if St.mp M k=0 then St.dt n (St.mw M k) (St.vec b) else(St.dt n (St.mw M k) (St.vec b)).fmod (St.mp M k):=by
 have hk':k<M.length:=by rw[Z.len];exact hk
 unfold St.at0 St.mp St.mw;rw[List.getD,List.getD,w8 hk',wu,w8 hk'];show plN b M[k]=_;unfold plN;rw[zj5,hb];rfl
theorem zkc(n:Nat)(rows:II)(cs:List Int)(d:Dt)(hd:RowD d cs)(hn:n<=1000)(hw:Wide n rows)(hl:rows.length=cs.length)(h:∀ r∈rows,∀ c∈cs,∀ x∈r,z1e c x=true):z91 [LL rows,d,.int n]=some (L (mixR n rows cs)):=by
 unfold z91 zct;have z:=z9V n hn;obtain⟨hl2,j,q⟩:=z9w (g:=Tg.many [4,5]) (F:=sSet [] 3 (z06 true z2Z (z02 (fN 3) (z02 (z06 true z0S (z02 (fN 4) (z02 (fN 5) fNil))) fNil))))
   (e:=λp:List Int×Int => .tup [L p.1,.int p.2]) (R:=λ(t:List Int) (j:Cell×Cell)=>[.sh false (LL rows),.sh false d,.sh false (.int n),.sh true (L t),j.1,j.2]) (step:=λt p=>addR t (sclR p.2 p.1)) (P:=λt=>t.length=n) (rows.zip cs) (z22 n) (.no,.no) z35
   (fun b p j hp hb=>by
    have h1:=hw _ (Wt hp).1;have e1:=z1s p.1 p.2 (λx hx=>h _ (Wt hp).1 _ (Wt hp).2 x hx);have e2:=z79 b (sclR p.2 p.1) (by rw[z0L,hb,h1]);refine⟨by rw[z3X (by rw[z0L,hb,h1])];exact hb,(.sh false (L p.1),.sh false (.int p.2)),?_⟩;simp[cOf,Tg.put,z29,e1,e2])
 have q2:forF (Tg.many [4,5]) (sSet [] 3 (z06 true z2Z (z02 (fN 3) (z02 (z06 true z0S (z02 (fN 4) (z02 (fN 5) fNil))) fNil)))) (zipD (rows.map L) (cs.map .int)) [.sh false (LL rows),.sh false d,.sh false (.int n),.sh true (L (z22 n)),.no,.no]=some (.nx [.sh false (LL rows),.sh false d,.sh false (.int n),.sh true (L (mixR n rows cs)),j.1,j.2]):=by
   rw[z3k];exact q
 rcases hd with rfl|rfl
 · simp[cOf,z,iZip,hl,q2]
 · simp[cOf,z,iZip,hl,q2]
theorem row_31(ns:List Int)(a:Int)(k:Nat)(m:Int)(h0:0<=m)(h:m<2):St.Lt 31 (z3W ns a k m):=λi=>by
 by_cases hi:i<k
 · have e:St.at0 (z3W ns a k m) i=z4Y (z0p ns (a+(i:Int))) m:=by unfold z3W St.at0;simp[List.getD,hi]
   rw[e];rcases(show m=0\/m=1 by rfl')with h|h
   · have:=zdp (z0p ns (a+(i:Int))) m h;rfl'
   · have:=zjU (z0p ns (a+(i:Int))) m h;rfl'
 · rw[St.z0x (by rw[zb3];rfl')];decide
theorem zly(a b:II)(h:a.length+b.length<=1000):∃ f,z0w (LL a) (LL b)=some (f,LL (a++b)):=by
 have e1:(a.map L).length+(b.map L).length<=1000000:=by simp;rfl'
 have:z0w (.lst (a.map L)) (.lst (b.map L))=z4Q (.lst (a.map L)) (.lst (b.map L)):=rfl;show ∃ f,z0w (.lst (a.map L)) (.lst (b.map L))=_;rw[this];unfold z4Q;simp only[if_pos e1,←Wk];exact⟨_,rfl⟩
theorem z5Y{k j B e:Nat}(h:k<=j)(hj:0<j)(hB:0<B)(he:St.bnd j B+1<=2 ^ e):St.bnd k B+1<=2 ^ e:=by
 have m:=St.z70 (B:=B) h (by rfl') (by rfl');rfl'
theorem z6B{M:St.Meas}{i:Nat}(h:i<M.length):(St.mw M i,St.mp M i)∈M:=by
 unfold St.mw St.mp;rw[List.getD,w8 h];exact W4 h
theorem zj6{n i:Nat}(w:List Int)(hi:i<n):St.dt n w (St.vec (St.z0k n i))=St.at0 w i:=by
 unfold St.dt;rw[St.z1Q (i:=i) hi λk _ hne=>by show St.at0 w k*St.at0 (St.z0k n i) k=0;rw[St.z0y,if_neg (by rfl'),WE]];show St.at0 w i*St.at0 (St.z0k n i) i=_;rw[St.z0y,if_pos ⟨rfl,hi⟩,vN]
def plcR(n:Nat)(M:St.Meas):II:=(St.units n).map λu=>M.map (plN u)
theorem plc_ok{n r:Nat}{G:II}{M:St.Meas}(Z:Mz n r G M):St.Plc n M (plcR n M):=by
 refine⟨by unfold plcR;rw[wo,St.z0Y],λx hx=>?_,λi k hi hk=>?_⟩
 · obtain⟨u,_,rfl⟩:=wf.mp hx;rw[wo,Z.len]
 · have e:(plcR n M).getD i []=M.map (plN (St.z0k n i)):=by
     unfold plcR St.units;rw[List.getD,wu,wu,Wz hi];rfl
   rw[e,za7 Z (St.z23 n i) hk,zj6 _ hi];split
   · rename_i h;rw[h];rw[Int.sub_self];exact Va _
   · rename_i h;have hp:0<St.mp M k:=by
      by_cases q:k<r
      · exact Z.pos k q
      · exact absurd (Z.zero k (by rfl') hk) h
     have:=vq (St.at0 (St.mw M k) i) (St.mp M k);exact⟨-(St.at0 (St.mw M k) i).fdiv (St.mp M k),by rw[Vj];rfl'⟩
structure Ml(n w:Nat)(M:St.Meas):Prop where
 part:∀ x∈M,0<=x.2/\x.2<2 ^ w
 row:∀ x∈M,∀ y∈x.1,y.natAbs<2 ^ w
 rest:∀ x∈M,0<x.2->∀ y∈x.1,0<=y/\y<x.2
theorem plc_lt{n r w:Nat}{G:II}{M:St.Meas}(Z:Mz n r G M)(l:Ml n w M):∀ x∈plcR n M,St.Lt (2 ^ w) x:=λx hx k=>by
 obtain⟨u,hu,rfl⟩:=wf.mp hx;obtain⟨i,hi,rfl⟩:=wf.mp hu;have hi:=wM.mp hi;by_cases hk:k<n
 · rw[za7 Z (St.z23 n i) hk,zj6 _ hi];have mm:=z6B (M:=M) (i:=k) (by rw[Z.len];exact hk);have pp:=l.part _ mm;have pp:0<=St.mp M k/\St.mp M k<2 ^ w:=pp;split
   · by_cases hi':i<(St.mw M k).length
     · refine l.row _ mm _ ?_;unfold St.at0;rw[List.getD,w8 hi'];exact W4 hi'
     · rw[St.z0x (by rfl')];exact wJ _
   · rename_i h;obtain⟨a,b⟩:=z0A (St.at0 (St.mw M k) i) (show 0<St.mp M k by rfl');have c2:((2 ^ w:Nat):Int)=(2:Int) ^ w:=by norm_cast
     rfl'
 · rw[St.z0x (by rw[wo,Z.len];rfl')];exact wJ _
theorem zoW{n w:Nat}{M:St.Meas}(lM:M.length=n)(l:Ml n w M):∀ x∈St.z1S n M,St.Lt (2 ^ w) x:=λx hx k=>by
 obtain⟨j,hj,rfl⟩:=wf.mp hx;have hj:=wM.mp hj;have pp:=l.part _ (z6B (M:=M) (i:=j) (by rfl'));have pp:0<=St.mp M j/\St.mp M j<2 ^ w:=pp;rw[St.z9N,St.z0y];have c2:((2 ^ w:Nat):Int)=(2:Int) ^ w:=by norm_cast
 split
 · rw[vN];rfl'
 · rw[WE];exact wJ _
theorem zaE{n r w e:Nat}{G:List (List Int)}{M:St.Meas}(n1:1≤n)(n6:n≤6)(Z:Mz n r G M)(l:Ml n w M)(w0:0<w)(hwe:w≤e)(he:e≤8990)(hb:St.bnd (n+n) (2 ^ w)+1≤2 ^ e):
   ∃ T,z31 [MD M]=some (LL T)/\T.length=n/\(∀ x∈T,x.length=n/\St.Lt (2 ^ e) x)/\∀ c:List Int,c.length=n->∀ k,k<n->St.mp M k∣St.dt n (St.mw M k) (St.mix T c)-St.at0 c k:=by
 have lM:=Z.len;have pk:=plc_ok Z;have lP:=pk.len;have one2:1<2 ^ w:=Vt (by rfl');have bP:=plc_lt Z l;have bW:=zoW lM l;have wlen:(St.z1S n M).length=n:=by unfold St.z1S;rw[wo,Wr]
 have hp:St.pair (plcR n M++St.z1S n M) (St.units n++(List.range n).map λ_=>z22 n)=St.z75 (plcR n M) (St.z1S n M):=by
   unfold St.z75 St.pair;rw[List.zipWith_append (by rw[lP,St.z0Y])];congr 1
   · exact za6 _ lP
   · rw[lP];refine WS (by rw[WA,wo,wo,Wr,wlen];rfl') λi h1 h2=>?_;simp[z22]
 have rows:∀ x∈St.z75 (plcR n M) (St.z1S n M),x.length=n+n/\St.Lt (2 ^ w) x:=λx hx=>by
   unfold St.z75 at hx;rcases wq.mp hx with h|h
   · obtain⟨r,hr,j,rfl⟩:=St.zdy _ h;refine⟨by rw[wI,pk.rows r hr,St.z23,lP],λk=>?_⟩;rw[St.z74 (pk.rows r hr),St.z0y];split
     · exact bP r hr k
     · split<;>simp<;>rfl'
   · obtain⟨r,hr,rfl⟩:=wf.mp h;refine⟨by rw[wI,St.z9O n M r hr,Wo,lP],λk=>?_⟩;rw[St.z74 (St.z9O n M r hr)];split
     · exact bW r hr k
     · rw[St.ziT];rfl'
 have bm:∀ k,k<=n+n->St.bnd k (2 ^ w)+1<=2 ^ e:=λk hk=>z5Y hk (by rfl') (wJ _) hb;obtain⟨U,eU,GU⟩:=z6A (n:=n+n) (e:=e) (eh:=e) (B:=2 ^ w) (by rfl') he (wx _) (by rfl') (plcR n M++St.z1S n M) (St.units n++(List.range n).map λ_=>z22 n) (by simp[St.z0Y,lP,wlen]) (λx hx=>(rows x (by rw[←hp];exact hx)).1) (λx hx=>(rows x (by rw[←hp];exact hx)).2) (wJ _) (wm (by decide) hwe) (λk hk=>bm k (by simpa[lP,wlen]using hk))
   (λk S hk G r hr=>by
     have q:=G.small (λr hr=>(rows r (by rw[←hp];exact WP hr)).2) (wJ _) r hr (St.z00 r);have l:=G.len;have b:=bm S.length (by rw[Wq]at l;simp[lP,wlen]at hk;rfl');have q:(St.hd r).natAbs<St.bnd S.length (2 ^ w)+1:=q;have c2:((2 ^ e:Nat):Int)=(2:Int) ^ e:=by norm_cast
     rfl') (by simp[lP,wlen];rfl')
 rw[hp]at GU;have lU:U.length<=n+n:=by have:=GU.len;unfold St.z75 at this;rw[wI,St.z55,wo,lP,wlen]at this;exact this
 have sU:=GU.small (λr hr=>(rows r hr).2) (wJ _);obtain⟨t1,t2,t3⟩:=St.zeM pk Z.ms lM GU.asc GU.form GU.span (T:=(U.filter λr=>decide (St.z00 r<n)).map (·.drop n)) rfl;refine⟨_,?_,t1,λx hx=>⟨t2 x hx,λk=>?_⟩,t3⟩
 · have tg:=z84 U n
   have ng:=z9V n (by rfl');obtain⟨f1,k1⟩:=zly (plcR n M) (St.z1S n M) (by rfl');obtain⟨f2,k2⟩:=zly (St.units n) ((List.range n).map λ_=>z22 n) (by rw[St.z0Y];simp;rfl');have nf:∀ f,nrm f (MD M)=(f,MD M):=λf=>rfl;have bl:bLen [MD M]=some (.nw,.int n):=by
     have:bLen [MD M]=some (.nw,.int ((M.map tD).length:Int)):=rfl;rw[this,wo,lM]
   have at_:∀ j,j<n->atI (M.map tD) (j:Int)=some (tD (St.mw M j,St.mp M j)):=λj hj=>z2y (by
     rw[wu];unfold St.mw St.mp;rw[List.getD,w8 (show j<M.length by rfl')];rfl)
   have mdl:MD M = .lst (M.map tD):=rfl;have u1:z0b 1 [1] (z0l (fN 1)) (Tg.one 0) fYes (z06 true z1Z (z02 (fN 1) (z02 (fN 0) fNil))) [.sh false (MD M),.sh true (.int n),.no,.no,.no,.no]=some (.nw,LL (St.units n)):=by
     rw[z0d (e:=λ(k:Nat) => .int (0+(k:Int))) (h:=λk=>L (St.z0k n k)) (xs:=List.range n) (by simp[cOf,y13 n (by rfl'),z0N]) (λj _=>by
       have u:=z8y n j (by rfl');simp[cOf,u])]
     simp[LL,St.units]
   have u2:z0b 1 [0] (iSeq (fN 2)) (Tg.one 0) fYes (z06 true z2u (z02 (fN 1) (z02 (fN 0) fNil))) [.sh false (MD M),.sh true (.int n),.sh true (LL (St.units n)),.no,.no,.no]=some (.nw,LL (plcR n M)):=by
     rw[z0d (e:=L) (h:=λu=>L (M.map (plN u))) (xs:=St.units n) (by simp[cOf]) (λu hu=>by
       have pe:=z8z (e:=w) (dd:=L u) (.inl rfl) (St.zbh n u hu) Z.ms.rows (λx hx=>(l.part x hx).1) l.row (λy hy=>by
        obtain⟨i,_,rfl⟩:=wf.mp hu;obtain⟨k,hk⟩:=z3Z hy;rw[←hk,St.z0y];split<;>simp<;>rfl') (by rfl')
       have sn:∀(f:Fl) (d:Dt),(nrm f d).2=d:=λ_ _=>rfl;generalize MD M=Y at *;simp[cOf,sn,pe])]
     unfold plcR LL;rw[wW];rfl
   have u3:z0b 1 [2,0] (z0l (fN 1)) (Tg.one 0) fYes (z06 true z0S (z02 (fAt (fN 1) (fN 0)) (z02 (fAt (fAt (fN 2) (fN 0)) (fC (.int 1))) fNil))) [.sh false (MD M),.sh true (.int n),.sh true (LL (St.units n)),.sh true (LL (plcR n M)),.no,.no]=some (.nw,LL (St.z1S n M)):=by
     rw[z0d (e:=λ(k:Nat) => .int (0+(k:Int))) (h:=λj=>L (sclR (St.mp M j) (St.z0k n j))) (xs:=List.range n) (by simp[cOf,y13 n (by rfl'),z0N]) (λj hj=>by
       have hj:=wM.mp hj;have a1:=at_ j hj;have a2:atI ((St.units n).map L) (j:Int)=some (L (St.z0k n j)):=z2y (by
        rw[wu];unfold St.units;rw[wu,Wz hj];rfl)
       have pp:=l.part _ (z6B (M:=M) (i:=j) (by rfl'));have pp:0<=St.mp M j/\St.mp M j<2 ^ w:=pp;have c2:((2 ^ w:Nat):Int)=(2:Int) ^ w:=by norm_cast
       have sc:=z1s (St.z0k n j) (St.mp M j) (λx hx=>by
        obtain⟨k,hk⟩:=z3Z hx;rw[←hk,St.z0y];exact z2w (m:=w) (k:=1) (by rfl') (by split<;>simp) (by rfl'))
       have sn:∀(f:Fl) (d:Dt),(nrm f d).2=d:=λ_ _=>rfl;rw[mdl];generalize M.map tD=D at *;have b1:atI [L (St.mw M j),Dt.int (St.mp M j)] 1=some (.int (St.mp M j)):=rfl;unfold tD at a1;dsimp only at a1;simp[cOf,sn,a1,a2,b1,sc])]
     unfold St.z1S LL;rw[wW];rfl
   have u4:z0b 1 [1] (z0l (fN 1)) (Tg.one 0) fYes (z06 true z37 (z02 (fN 1) fNil)) [.sh false (MD M),.sh true (.int n),.sh true (LL (St.units n)),.sh true (LL (plcR n M)),.sh true (LL (St.z1S n M)),.no]=some (.nw,LL ((List.range n).map λ_=>z22 n)):=by
     rw[z0d (e:=λ(k:Nat) => .int (0+(k:Int))) (h:=λ_=>L (z22 n)) (xs:=List.range n) (by simp[cOf,y13 n (by rfl'),z0N]) (λj _=>by simp[cOf,ng])];simp[LL]
   have sn:∀(f:Fl) (d:Dt),(nrm f d).2=d:=λ_ _=>rfl;refine z3B (f := .nw) rfl ?_ rfl;unfold z4z;refine run (ρ':=[.sh false (MD M),.sh true (.int n),.no,.no,.no,.no]) (by
     generalize MD M=Y at *;simp[cOf,sn,bl]) ?_
   refine run (ρ':=[.sh false (MD M),.sh true (.int n),.sh true (LL (St.units n)),.no,.no,.no]) (by
     generalize MD M=Y at *;simp[cOf,u1]) ?_
   refine run (ρ':=[.sh false (MD M),.sh true (.int n),.sh true (LL (St.units n)),.sh true (LL (plcR n M)),.no,.no]) (by
     generalize MD M=Y at *;simp[cOf,u2]) ?_
   refine run (ρ':=[.sh false (MD M),.sh true (.int n),.sh true (LL (St.units n)),.sh true (LL (plcR n M)),.sh true (LL (St.z1S n M)),.no]) (by
     generalize MD M=Y at *;simp[cOf,u3]) ?_
   refine run (ρ':=[.sh false (MD M),.sh true (.int n),.sh true (LL (St.units n)),.sh true (LL (plcR n M)),.sh true (LL (St.z1S n M)),.sh true (LL U)]) (by
     generalize MD M=Y at *;generalize (List.range n).map (λ_=>z22 n)=Zs at *;generalize St.units n=V at *;generalize plcR n M=Q at *;generalize St.z1S n M=W at *;have k1:z0w (.lst (Q.map L)) (.lst (W.map L))=some (f1,LL (Q++W)):=k1;have k2:z0w (.lst (V.map L)) (.lst (Zs.map L))=some (f2,LL (V++Zs)):=k2;simp[cOf,k1,u4,k2,eU]) ?_
   generalize MD M=Y at *;generalize (U.filter λr=>decide (St.z00 r<n)).map (·.drop n)=T at *;simp[cOf,tg]
 · obtain⟨u,hu,rfl⟩:=wf.mp hx;have hu:=(W3.mp hu).1;have:=(sU u hu).mono (bm U.length lU) (n+k);rw[St.z2I];exact this
theorem zaF{n:Nat}{M:St.Meas}{c:List Int}(lM:M.length=n)(lc:c.length=n)(n6:n<=6)(h:∀ p∈c.zip M,z2P [.int p.1,.int p.2.2]=some (.int p.1)):z1J [MD M,L c]=some .non:=by
 have ir:=z83 c n;rw[decide_eq_true (by rw[lc])]at ir;have bl:bLen [MD M]=some (.nw,.int n):=by
  have:bLen [MD M]=some (.nw,.int ((M.map tD).length:Int)):=rfl;rw[this,wo,lM]
 have sn:∀(f:Fl) (d:Dt),(nrm f d).2=d:=λ_ _=>rfl;have it:iZip (fN 1) (fN 0) [.sh false (MD M),.sh false (L c),.no,.no]=some ((c.zip M).map λp => .tup [.int p.1,tD p.2]):=by
  have z:zipD (c.map Dt.int) (M.map tD)=(c.zip M).map λp => .tup [.int p.1,tD p.2]:=z3k _ _ _ _;have ll:(c.map Dt.int).length=(M.map tD).length:=by simp[lM,lc]
  have:iZip (fN 1) (fN 0) [.sh false (MD M),.sh false (L c),.no,.no]=(if(c.map Dt.int).length=(M.map tD).length then some (zipD (c.map Dt.int) (M.map tD)) else none):=rfl;rw[this,if_pos ll,z]
 obtain⟨ρ',q,c2,c3,e⟩:=zdM (g:=Tg.many [2,3]) (F:=sIf (z0m (fOp opNe (z06 true z2P (z02 (fN 2) (z02 (fAt (fN 3) (fC (.int 1))) fNil))) (fN 2))) z4X z0F) (λρ=>∃ c2 c3,ρ=[.sh false (MD M),.sh false (L c),c2,c3]) ((c.zip M).map λp => .tup [.int p.1,tD p.2]) [.sh false (MD M),.sh false (L c),.no,.no] ⟨.no,.no,rfl⟩ (λx hx ρ hρ=>by
  obtain⟨c2,c3,rfl⟩:=hρ;obtain⟨p,hp,rfl⟩:=wf.mp hx;have r:=h p hp;obtain⟨v,wt,pt⟩:=p;refine⟨[.sh false (MD M),.sh false (L c),.sh false (.int v),.sh false (tD (wt,pt))],?_,_,_,rfl⟩;dsimp only at r;generalize MD M=Y at *;unfold tD;simp[cOf,r,z16])
 subst e;have bq:z2g [.sh false (MD M),.sh false (L c),.no,.no]=some (.nx [.sh false (MD M),.sh false (L c),c2,c3]):=by
  unfold z2g;refine run (ρ':=[.sh false (MD M),.sh false (L c),.no,.no]) (by
   generalize MD M=Y at *;simp[cOf,sn,bl,ir]) ?_
  show(iZip (fN 1) (fN 0) [.sh false (MD M),.sh false (L c),.no,.no]).bind _=_;rw[it];exact q
 unfold z1J cOf;rw[if_pos (show[MD M,L c].length=2 from rfl)];show(z2g [.sh false (MD M),.sh false (L c),.no,.no]).bind _=_;rw[bq];rfl
theorem zcH{n r w e:Nat}{bills G T:II}{M:St.Meas}{c:List Int}(n6:n<=6)(em:z0P [z0G n bills]=some (MD M))(np:z1J [MD M,L c]=some .non)(eb:z31 [MD M]=some (LL T))(lT:T.length=n)(hT:∀ x∈T,x.length=n)(lc:c.length=n)(mk:∀ r∈T,∀ x∈c,∀ y∈r,z1e x y=true):z5h [z0G n bills,L c]=some (L (mixR n T c)):=by
 have mx:=zkc n T c (L c) (.inl rfl) (by rfl') hT (by rfl') mk;have sn:∀(f:Fl) (d:Dt),(nrm f d).2=d:=λ_ _=>rfl;have nf:nrm .sh (MD M)=(.sh,MD M):=rfl;refine z3B (f := .nw) rfl ?_ rfl;unfold z5g;refine run (ρ':=[.sh false (z0G n bills),.sh false (L c),.sh false (MD M)]) (by
  generalize MD M=Y at *;simp[cOf,em,nf];rfl) ?_
 refine run (ρ':=[.sh false (z0G n bills),.sh false (L c),.sh false (MD M)]) (by
  generalize MD M=Y at *;simp[cOf,sn,np]) ?_
 generalize MD M=Y at *;simp[cOf,sn,eb,mx]
theorem zkd(c p:Int)(hp:0<=p):∃ v,z1T [.int c,.int p]=some (.int v)/\(p=0->v.natAbs<10 ^ 20)/\(0<p->0<=v/\v<p):=by
 have p20:z4P 10 20=true:=by unfold z4P;decide
 have p40:z4P 10 40=true:=by unfold z4P;decide
 have sd:∀ i j:Int,0<j->j<1000->z21 i j=true:=λi j h0 h=>z3b h0 (by
   have c2:((2 ^ 9000:Nat):Int)=(2:Int) ^ 9000:=by norm_cast
   have:2 ^ 30<=2 ^ 9000:=wm (by decide) (by decide);rfl')
 have d3:=sd c 3 (by decide) (by decide);have d4:=sd c 4 (by decide) (by decide);have mo:∀ i j:Int,0<j->z3v i j=true:=λi j h=>zbj h;have m20:z3v c 100000000000000000000=true:=mo c _ (by decide);have m40:z3v c 10000000000000000000000000000000000000000=true:=mo c _ (by decide);have m2:=mo (c.fdiv 3) 2 (by decide);have m4:=mo c 4 (by decide);have m3:=mo (c.fdiv 4) 3 (by decide);by_cases h0:p=0
 · subst h0;obtain⟨a,b⟩:=z0A c (show(0:Int)<10 ^ 20 by decide);by_cases h:(c.fdiv 3).fmod 2=1
   · refine⟨-(c.fmod (10 ^ 20)),?_,λ_=>by rfl',λq=>absurd q (by decide)⟩;unfold z1T z45;simp[cOf,z0K,p20,m20,d3,m2,h]
   · refine⟨c.fmod (10 ^ 20),?_,λ_=>by rfl',λq=>absurd q (by decide)⟩;unfold z1T z45;simp[cOf,z0K,p20,m20,d3,m2,h]
 · have pp:0<p:=by rfl'
   by_cases h:c.fmod 4=1
   · have r:=z0A (p-1-(c.fdiv 4).fmod 3) pp;have mp:=mo (p-1-(c.fdiv 4).fmod 3) p pp;refine⟨(p-1-(c.fdiv 4).fmod 3).fmod p,?_,λq=>absurd q h0,λ_=>r⟩;unfold z1T z45;simp[cOf,z0K,h0,m4,h,d4,m3,mp]
   · have r:=z0A (c.fmod (10 ^ 40)) pp;have mp:z3v (c.fmod 10000000000000000000000000000000000000000) p=true:=mo _ p pp;refine⟨(c.fmod (10 ^ 40)).fmod p,?_,λq=>absurd q h0,λ_=>r⟩;unfold z1T z45;simp[cOf,z0K,h0,m4,h,p40,m40,mp]
theorem zdU(ns:List Int):z11 ns<=2\/∀ r∈z1H ns,St.Lt 31 r:=by
 by_cases h:z0W ns=2
 · left;unfold z11;rw[if_pos h];have:=z0A (z4Z ns) (show(0:Int)<2 by decide);rfl'
 · right;intro r hr;unfold z1H at hr;obtain⟨k,_,rfl⟩:=wf.mp hr;exact row_31 _ _ _ _ (by rcases z4r ns with h|h|h<;>rfl') (by rcases z4r ns with h|h|h<;>rfl')
theorem zf6{n:Nat}{bills:II}(H:Hall n bills)(hc:n<=2\/∀ r∈bills,St.Lt 31 r):∃(M:St.Meas) (G:II) (w e:Nat),z0P [z0G n bills]=some (MD M)/\Mz n G.length G M/\Ml n w M/\0<w/\w<=620/\w<=e/\e<=8990/\St.bnd (n+n) (2 ^ w)+1<=2 ^ e:=by
 obtain⟨G,es,Gd,_⟩:=zeW H;have n1:=H.n1;have n6:=H.n6;have gl:=St.z5H Gd.asc (wQ _);have core:∀(B j g w e:Nat),(∀ r∈bills,St.Lt B r)->0<B->n<=j->0<j->j<=6->St.bnd j B+1<=2 ^ g->g<=899->g*j<=w->St.bnd j (2 ^ (g+1))+1<=2 ^ w->0<w->w<=619->w+1<=e->e<=8990->St.bnd (j+j) (2 ^ (w+1))+1<=2 ^ e->∃(M:St.Meas) (G:II) (w e:Nat),z0P [z0G n bills]=some (MD M)/\Mz n G.length G M/\Ml n w M/\0<w/\w<=620/\w<=e/\e<=8990/\St.bnd (n+n) (2 ^ w)+1<=2 ^ e:=by
   intro B j g w e bb B0 nj j0 j6 c1 g9 gw c2 w0 w6 we e9 c3;have gg:∀ x∈G,St.Lt (2 ^ g) x:=λx hx=>((⟨Gd.asc,Gd.form,Gd.span,Gd.ind,Gd.len,Gd.full⟩:St.Good n B bills G).small bb B0 x hx).mono (z5Y (by rfl') j0 B0 c1);obtain⟨M,em,Z,hx⟩:=zcG n6 g9 es Gd.asc gg;have pw:(2:Nat) ^ (g*G.length)<=2 ^ w:=wm (by decide) (wG (wU _ (by rfl')) gw);have pc:((2 ^ (g*G.length):Nat):Int)=(2:Int) ^ (g*G.length):=by norm_cast
   have pd:((2 ^ w:Nat):Int)=(2:Int) ^ w:=by norm_cast
   have pe:((2 ^ (w+1):Nat):Int)=(2:Int) ^ (w+1):=by norm_cast
   have p2:(2:Nat) ^ (w+1)=2 ^ w*2:=WG _ _;have p1:=wJ w;have nn:=Z.nn;refine⟨M,G,w+1,e,em,Z,⟨λx h=>⟨nn x h,?_⟩,λx h y hy=>?_,λx h p=>((hx x h).1 p).2⟩,by rfl',by rfl',by rfl',e9,?_⟩
   · by_cases q:x.2=0
     · rw[q];rfl'
     · have:=((hx x h).1 (by have:=nn x h;rfl')).1;rfl'
   · by_cases q:x.2=0
     · have a:=(hx x h).2 q y hy;have:=z5Y (k:=n) nj j0 (wJ _) c2;rfl'
     · have p0:0<x.2:=by have:=nn x h;rfl'
       have a:=((hx x h).1 p0).1;have b:=((hx x h).1 p0).2 y hy;rfl'
   · exact z5Y (show n+n<=j+j by rfl') (by rfl') (wJ _) c3
 rcases hc with h|h
 · exact core (10 ^ 30) 2 209 430 2000 H.lt (by decide) h (by decide) (by decide) (by unfold St.bnd;decide) (by decide) (by decide) (by unfold St.bnd;decide) (by decide) (by decide) (by decide) (by decide) (by unfold St.bnd;decide)
 · exact core 31 6 90 610 7700 h (by decide) n6 (by decide) (by decide) (by unfold St.bnd;decide) (by decide) (by decide) (by unfold St.bnd;decide) (by decide) (by decide) (by decide) (by decide) (by unfold St.bnd;decide)
theorem zlz(ns:List Int)(h:ns.length<=63):zj [.scr ns]=some (.bl true):=by
 have H:=zeX ns;have eb:=zeO ns;have hc:=zdU ns;generalize z1H ns=bills at *;generalize z11 ns=n at *;have n1:=H.n1;have n6:=H.n6;have eh:=H.made;obtain⟨M,G,w,e,em,Z,l,w0,w6,we,e9,hb⟩:=zf6 H hc;have lM:=Z.len;have nn:=Z.nn;have ep:=zlw em;have ex:∀ k:Nat,∃ v:Int,k<n->z1T [.int (z0p ns (40+(k:Int))),.int (St.mp M k)]=some (.int v)/\(St.mp M k=0->v.natAbs<10 ^ 20)/\(0<St.mp M k->0<=v/\v<St.mp M k):=λk=>by
  by_cases hk:k<n
  · obtain⟨v,q⟩:=zkd (z0p ns (40+(k:Int))) (St.mp M k) (nn _ (z6B (by rfl')));exact⟨v,λ_=>q⟩
  · exact⟨0,λq=>absurd q hk⟩
 have ex2:∃ V:Nat->Int,∀ k,k<n->z1T [.int (z0p ns (40+(k:Int))),.int (St.mp M k)]=some (.int (V k))/\(St.mp M k=0->(V k).natAbs<10 ^ 20)/\(0<St.mp M k->0<=V k/\V k<St.mp M k):=⟨λk=>wS (ex k),λk hk=>wE (ex k) hk⟩;obtain⟨V,hV⟩:=ex2;have cV:∀ k,k<n->St.at0 ((List.range n).map V) k=V k:=λk hk=>by unfold St.at0;simp[List.getD,hk]
 have nc:z0b 1 [0,3] (z0l (fAt (fN 1) (fC (.int 0)))) (Tg.one 0) fYes (z06 true z1T (z02 (z06 true z0I (z02 (fN 1) (z02 (fOp z0w (fC (.int 40)) (fN 0)) fNil))) (z02 (fAt (fN 2) (fN 0)) fNil))) [.sh false (.scr ns),.sh true (.tup [.int n,LL bills]),.sh true (z0G n bills),.sh true (L (M.map (·.2))),.no,.no,.no,.no,.no]=some (.nw,L ((List.range n).map V)):=by
  rw[z0d (e:=λ(k:Nat) => .int (0+(k:Int))) (h:=λk => .int (V k)) (xs:=List.range n) (by simp[cOf,y13 n (by rfl'),z0N]) (λk hk=>by
    have hk:=wM.mp hk;have c1:=z1K ns (40+(k:Int)) (by rfl');have a1:atI ((M.map (·.2)).map Dt.int) (k:Int)=some (.int (St.mp M k)):=z2y (by
      rw[wu,wu];unfold St.mp;rw[List.getD,w8 (show k<M.length by rfl')];rfl)
    have v1:=(hV k hk).1;generalize M.map (·.2)=Q at *;simp[cOf,c1,a1,v1])]
  simp[L]
 have lc:((List.range n).map V).length=n:=by simp
 have np:z1J [MD M,L ((List.range n).map V)]=some .non:=zaF lM lc n6 λp hp=>by
  obtain⟨k,hk,rfl⟩:=wH hp;have hk':k<n:=by simp at hk;rfl'
  have e2:((((List.range n).map V).zip M)[k]).1=V k:=by simp
  have e3:((((List.range n).map V).zip M)[k]).2.2=St.mp M k:=by
    unfold St.mp;rw[List.getD,w8 (show k<M.length by rfl')];simp
  rw[e2,e3];obtain⟨_,b,c⟩:=hV k hk';by_cases q:St.mp M k=0
  · rw[q];exact zdT _
  · have p0:0<St.mp M k:=by have:=nn _ (z6B (M:=M) (i:=k) (by rfl'));have:0<=St.mp M k:=this;rfl'
    obtain⟨c1,c2⟩:=c p0;rw[zcE _ _ p0,VE c1 c2]
 have sc:St.Lt (2 ^ 621) ((List.range n).map V):=λk=>by
  by_cases hk:k<n
  · rw[cV k hk];obtain⟨_,b,c⟩:=hV k hk;have pp:=l.part _ (z6B (M:=M) (i:=k) (by rfl'));have pp:0<=St.mp M k/\St.mp M k<2 ^ w:=pp;have c2:((2 ^ w:Nat):Int)=(2:Int) ^ w:=by norm_cast
    have:(2:Nat) ^ w<=2 ^ 621:=wm (by decide) (by rfl');have:(10:Nat) ^ 20<=2 ^ 621:=wG (show 10 ^ 20<=2 ^ 67 by decide) (wm (by decide) (by decide));by_cases q:St.mp M k=0
    · have:=b q;rfl'
    · have:=c (by rfl');rfl'
  · rw[St.z0x (by rfl')];exact wJ _
 obtain⟨T,et,lT,hT,tp⟩:=zaE n1 n6 Z l w0 we e9 hb;have ba:=zcH (r:=0) (w:=0) (e:=0) (G:=[]) n6 em np et lT (λx hx=>(hT x hx).1) lc (λr hr x hx y hy=>z2w (zeN sc x hx) (zeN (hT r hr).2 y hy) (by rfl'));have wT:Wide n T:=λx hx=>(hT x hx).1;have ml:(mixR n T ((List.range n).map V)).length=n:=zdr wT;have tp:=tp _ lc;have mv:St.vec (mixR n T ((List.range n).map V))=St.mix T ((List.range n).map V):=funext λk=>z9P wT k;have sm:∀ y∈mixR n T ((List.range n).map V),y.natAbs<2 ^ 20000:=λy hy=>by
  obtain⟨k,hk⟩:=z3Z hy;rw[←hk,z9P wT];have q:=St.z8Z (N:=2 ^ 621) (B:=2 ^ e) (R:=T) (cs:=(List.range n).map V) (λr hr=>(hT r hr).2) (λc hc=>Wx (zeN sc c hc)) k;have a1:T.length*(2 ^ 621*2 ^ e)<=2 ^ 3*(2 ^ 621*2 ^ 8990):=Ws (by rfl') (wU _ (wm (by decide) e9));have a2:(2:Nat) ^ 3*(2 ^ 621*2 ^ 8990)=2 ^ 9614:=by rw[←Wa,←Wa]
  have a3:(2:Nat) ^ 9614<2 ^ 20000:=v4 (by decide) (by decide);rfl'
 have pe:=zlx (e:=20000) em ml Z.ms.rows nn (λx hx y hy=>wD (l.row x hx y hy) (wm (by decide) (by rfl'))) sm (by decide)
 have pl:M.map (plN (mixR n T ((List.range n).map V)))=(List.range n).map V:=St.ext0 (by rw[List.length_map,lM,lc]) fun k=>by
  by_cases hk:k<n
  · rw[za7 Z ml hk,mv,cV k hk];have d:=tp k hk;rw[cV k hk]at d;obtain⟨_,b,c⟩:=hV k hk;generalize St.dt n (St.mw M k) (St.mix T ((List.range n).map V))=D at *;split
    · rename_i q;rw[q]at d;have:=Int.zero_dvd.mp d;rfl'
    · rename_i q;have p0:0<St.mp M k:=by have:=nn _ (z6B (M:=M) (i:=k) (by rfl'));have:0<=St.mp M k:=this;rfl'
      obtain⟨c1,c2⟩:=c p0;obtain⟨s,hs⟩:=d;rw[show D=V k+St.mp M k*s by rfl',Int.add_mul_fmod_self_left,VE c1 c2]
  · rw[St.z0x (by rw[wo];rfl'),St.z0x (by rfl')]
 rw[pl]at pe;have cp:=copies bills [.sh false (.scr ns),.sh true (.tup [.int n,LL bills]),.no,.no,.no,.no,.no,.no,.no] (fAt (fN 1) (fC (.int 1))) .fr (by simp[cOf]);generalize (List.range n).map V=c at *;generalize mixR n T c=b at *;have ib:=z8x b n;rw[ml,decide_eq_true rfl]at ib;have ic:=z8x c n;rw[lc,decide_eq_true rfl]at ic;have ne:=zjT c c;rw[decide_eq_true rfl]at ne;have ne:opNe (L c) (L c)=some (.nw,.bl false):=ne;have eqb:=zb1 b b;rw[decide_eq_true rfl]at eqb;have eqc:=zb1 c c;rw[decide_eq_true rfl]at eqc;generalize M.map (·.2)=Q at *;have sn:∀(f:Fl) (d:Dt),(nrm f d).2=d:=λ_ _=>rfl;refine z3B (f := .nw) rfl ?_ rfl;unfold zlo;refine run (ρ':=[.sh false (.scr ns),.sh true (.tup [.int n,LL bills]),.no,.no,.no,.no,.no,.no,.no]) (by simp[cOf,eb]) ?_;refine run (ρ':=[.sh false (.scr ns),.sh true (.tup [.int n,LL bills]),.sh true (z0G n bills),.no,.no,.no,.no,.no,.no]) (by simp[cOf,cp,eh]) ?_;generalize z0G n bills=hd at *;refine run (ρ':=[.sh false (.scr ns),.sh true (.tup [.int n,LL bills]),.sh true hd,.sh true (L Q),.no,.no,.no,.no,.no]) (by simp[cOf,sn,ep]) ?_;refine run (ρ':=[.sh false (.scr ns),.sh true (.tup [.int n,LL bills]),.sh true hd,.sh true (L Q),.sh true (L c),.no,.no,.no,.no]) (by simp[cOf,nc]) ?_;refine run (ρ':=[.sh false (.scr ns),.sh true (.tup [.int n,LL bills]),.sh true hd,.sh true (L Q),.sh true (L c),.sh true (L c),.no,.no,.no]) (by simp[cOf]) ?_;refine run (ρ':=[.sh false (.scr ns),.sh true (.tup [.int n,LL bills]),.sh true hd,.sh true (L Q),.sh true (L c),.sh true (L c),.sh true (L b),.no,.no]) (by simp[cOf,sn,ba]) ?_;refine run (ρ':=[.sh false (.scr ns),.sh true (.tup [.int n,LL bills]),.sh true hd,.sh true (L Q),.sh true (L c),.sh true (L c),.sh true (L b),.no,.no]) (by simp[cOf,ne,ib]) ?_;refine run (ρ':=[.sh false (.scr ns),.sh true (.tup [.int n,LL bills]),.sh true hd,.sh true (L Q),.sh true (L c),.sh true (L c),.sh true (L b),.sh true (L b),.no]) (by simp[cOf]) ?_;refine run (ρ':=[.sh false (.scr ns),.sh true (.tup [.int n,LL bills]),.sh true hd,.sh true (L Q),.sh true (L c),.sh true (L c),.sh true (L b),.sh true (L b),.sh true (L c)]) (by simp[cOf,sn,pe]) ?_;simp[cOf,eqb,eqc,ic]
end
def top(i:Nat):Stmt:=PySem.Challenge.pw_changehall_k17_places_there_and_back.main.body.getD i (.Pass ⟨0,0,0,0⟩)
abbrev z6C:Stmt:=top 6
theorem zdV:FnScope ["value"] ["value"] (z04 z6C):=scm
abbrev z7e:Stmt:=top 7
theorem zke:FnScope ["value", "length"] ["value", "length"] (z04 z7e):=scm
abbrev z5Z:Stmt:=top 8
theorem zf7:FnScope ["length"] ["length"] (z04 z5Z):=scm
abbrev z4B:Stmt:=top 9
theorem zdW:FnScope ["length", "one_at"] ["length", "one_at"] (z04 z4B):=scm
abbrev z95:Stmt:=top 10
theorem zlA:FnScope ["one", "other"] ["one", "other"] (z04 z95):=scm
abbrev z96:Stmt:=top 11
theorem zlB:FnScope ["one", "other"] ["one", "other"] (z04 z96):=scm
abbrev z7f:Stmt:=top 12
theorem zkf:FnScope ["row", "often"] ["row", "often"] (z04 z7f):=scm
abbrev z60:Stmt:=top 13
theorem zf8:FnScope ["row", "weights"] ["row", "weights"] (z04 z60):=scm
abbrev zcI:Stmt:=top 14
theorem z5m:FnScope ["rows", "counts", "length", "total", "row", "often"] ["rows", "counts", "length"] (z04 zcI):=scm
abbrev z89:Stmt:=top 15
theorem z6D:FnScope ["row", "spot", "number"] ["row"] (z04 z89):=scm
abbrev z5n:Stmt:=top 19
theorem zcJ:FnScope ["value"] ["value"] (z04 z5n):=scm
abbrev z61:Stmt:=top 20
theorem zf9:FnScope ["value", "kinds"] ["value", "kinds"] (z04 z61):=scm
abbrev z4C:Stmt:=top 21
theorem zaG:FnScope ["kinds"] ["kinds"] (z04 z4C):=scm
abbrev z5o:Stmt:=top 22
theorem zcK:FnScope ["bill", "kinds"] ["bill", "kinds"] (z04 z5o):=scm
abbrev z62:Stmt:=top 24
theorem zfa:FnScope ["kinds", "rows"] ["kinds", "rows"] (z04 z62):=scm
abbrev z8a:Stmt:=top 23
theorem za8:FnScope ["kinds", "bills", "bill"] ["kinds", "bills"] (z04 z8a):=scm
abbrev z2x:Stmt:=top 25
theorem z7g:FnScope ["kinds", "basket"] ["kinds", "basket"] (z04 z2x):=scm
abbrev z3P:Stmt:=top 26
theorem za9:FnScope ["hall", "basket"] ["hall", "basket"] (z04 z3P):=scm
abbrev z5p:Stmt:=top 28
theorem z26:FnScope ["a", "b", "upper", "lower", "often", "left"] ["a", "b"] (z04 z5p):=scm
abbrev zfb:Stmt:=top 29
theorem zoX:FnScope ["a", "part"] ["a", "part"] (z04 zfb):=scm
abbrev z8b:Stmt:=top 30
theorem z4D:FnScope ["numbers", "found", "number"] ["numbers"] (z04 z8b):=scm
abbrev z6E:Stmt:=top 32
theorem z1A:FnScope ["row", "rungs", "left", "counts", "rung", "spot", "often"] ["row", "rungs"] (z04 z6E):=scm
abbrev z8c:Stmt:=top 33
theorem zfc:FnScope ["row", "rungs"] ["row", "rungs"] (z04 z8c):=scm
abbrev z8d:Stmt:=top 34
theorem z3t:FnScope ["rung", "row", "spot", "found", "upper", "lower"] ["rung", "row"] (z04 z8d):=scm
abbrev z5q:Stmt:=top 35
theorem zcL:FnScope ["row"] ["row"] (z04 z5q):=scm
abbrev z4E:Stmt:=top 36
theorem z27:FnScope ["rungs", "row", "found", "left", "places", "pair"] ["rungs", "row"] (z04 z4E):=scm
abbrev zaa:Stmt:=top 37
theorem z8e:FnScope ["rungs", "found", "rung"] ["rungs"] (z04 zaa):=scm
abbrev z8f:Stmt:=top 38
theorem z4F:FnScope ["rows", "rungs", "row"] ["rows"] (z04 z8f):=scm
abbrev z2h:Stmt:=top 39
theorem z8U:FnScope ["rows", "tags"] ["rows", "tags"] (z04 z2h):=scm
abbrev z1W:Stmt:=top 40
theorem z8g:FnScope ["rungs", "width"] ["rungs", "width"] (z04 z1W):=scm
abbrev z1M:Stmt:=top 41
theorem z7h:FnScope ["rungs", "width"] ["rungs", "width"] (z04 z1M):=scm
abbrev zcM:Stmt:=top 42
theorem zlC:FnScope ["hall"] ["hall"] (z04 zcM):=scm
abbrev z7i:Stmt:=top 44
theorem zkg:FnScope ["rows", "width"] ["rows", "width"] (z04 z7i):=scm
abbrev z4G:Stmt:=top 45
theorem z5r:FnScope ["rows", "place", "row"] ["rows"] (z04 z4G):=scm
abbrev z97:Stmt:=top 46
theorem zlD:FnScope ["row", "part"] ["row", "part"] (z04 z97):=scm
abbrev z3d:Stmt:=top 47
theorem z1B:FnScope ["rows", "tags", "whole", "many", "square", "weights", "other", "both"] ["rows", "tags", "whole"] (z04 z3d):=scm
abbrev zab:Stmt:=top 48
theorem z3e:FnScope ["one", "other", "found", "common", "least", "upper", "lower"] ["one", "other"] (z04 zab):=scm
abbrev z63:Stmt:=top 49
theorem z3u:FnScope ["measured", "found", "first", "second", "pair"] ["measured"] (z04 z63):=scm
abbrev z1C:Stmt:=top 50
theorem z1i:FnScope ["hall", "kinds", "rungs", "many", "both", "square", "whole", "bound"] ["hall"] (z04 z1C):=scm
abbrev z98:Stmt:=top 52
theorem zlE:FnScope ["hall"] ["hall"] (z04 z98):=scm
abbrev z4H:Stmt:=top 53
theorem zdX:FnScope ["measured", "basket"] ["measured", "basket"] (z04 z4H):=scm
abbrev zcN:Stmt:=top 54
theorem zlF:FnScope ["hall", "basket"] ["hall", "basket"] (z04 zcN):=scm
abbrev z4I:Stmt:=top 55
theorem z3Q:FnScope ["measured", "numbers", "number", "measure"] ["measured", "numbers"] (z04 z4I):=scm
abbrev z1k:Stmt:=top 56
theorem z1t:FnScope ["measured", "kinds", "ones", "places", "wraps", "both"] ["measured"] (z04 z1k):=scm
abbrev z5s:Stmt:=top 57
theorem z7j:FnScope ["hall", "numbers", "measured"] ["hall", "numbers"] (z04 z5s):=scm
abbrev z5t:Stmt:=top 59
theorem zcO:FnScope ["_law_script", "_law_k"] ["_law_script", "_law_k"] (z04 z5t):=scm
abbrev z8h:Stmt:=top 60
theorem zfd:FnScope ["_law_found"] ["_law_found"] (z04 z8h):=scm
abbrev z6F:Stmt:=top 61
theorem z8A:FnScope ["_law_found", "_law_size", "_law_number_here"] ["_law_found", "_law_size"] (z04 z6F):=scm
abbrev z6G:Stmt:=top 62
theorem z3G:FnScope ["_law_cell", "_law_mode", "_law_number_here", "_law_wide"] ["_law_cell", "_law_mode"] (z04 z6G):=scm
abbrev z99:Stmt:=top 63
theorem zlG:FnScope ["_law_script", "_law_at", "_law_size", "_law_mode"] ["_law_script", "_law_at", "_law_size", "_law_mode"] (z04 z99):=scm
abbrev z64:Stmt:=top 64
theorem z1l:FnScope ["_law_script", "_law_mode", "_law_kinds", "_law_many"] ["_law_script"] (z04 z64):=scm
abbrev zac:Stmt:=top 65
theorem zbq:FnScope ["_law_cell", "_law_part", "_law_number_here"] ["_law_cell", "_law_part"] (z04 zac):=scm
abbrev zdY:Stmt:=top 66
theorem z4J:FnScope ["_law_script", "_law_drawn", "_law_hall", "_law_sizes", "_law_numbers", "_law_handed", "_law_basket", "_law_kept", "_law_found"] ["_law_script"] (z04 zdY):=scm
set_option genInjectivity false in
structure Adr where
 zaf:Addr
 zag:FuncData
 ze3:Addr
 ze4:FuncData
 zbs:Addr
 zbt:FuncData
 zah:Addr
 zai:FuncData
 zj7:Addr
 zj8:FuncData
 zj9:Addr
 zja:FuncData
 ze5:Addr
 ze6:FuncData
 zbu:Addr
 zbv:FuncData
 zjb:Addr
 zjc:FuncData
 zbw:Addr
 zbx:FuncData
 z8F:Addr
 z8G:FuncData
 zby:Addr
 zbz:FuncData
 z7o:Addr
 z7p:FuncData
 z8H:Addr
 z8I:FuncData
 zbA:Addr
 zbB:FuncData
 zbC:Addr
 zbD:FuncData
 z47:Addr
 z48:FuncData
 z6f:Addr
 z6g:FuncData
 ze7:Addr
 ze8:FuncData
 znZ:Addr
 zo0:FuncData
 zbE:Addr
 zbF:FuncData
 zaj:Addr
 zak:FuncData
 zbG:Addr
 zbH:FuncData
 zbI:Addr
 zbJ:FuncData
 z8J:Addr
 z8K:FuncData
 zal:Addr
 zam:FuncData
 ze9:Addr
 zea:FuncData
 zbK:Addr
 zbL:FuncData
 z5v:Addr
 z5w:FuncData
 z4L:Addr
 z4M:FuncData
 z49:Addr
 z4a:FuncData
 zjd:Addr
 zje:FuncData
 zeb:Addr
 zec:FuncData
 zan:Addr
 zao:FuncData
 zjf:Addr
 zjg:FuncData
 zbM:Addr
 zbN:FuncData
 zed:Addr
 zee:FuncData
 zbO:Addr
 zbP:FuncData
 zap:Addr
 zaq:FuncData
 zjh:Addr
 zji:FuncData
 zar:Addr
 zas:FuncData
 zjj:Addr
 zjk:FuncData
 z7q:Addr
 z7r:FuncData
 z7s:Addr
 z7t:FuncData
 z8L:Addr
 z8M:FuncData
 z8N:Addr
 z8O:FuncData
 zbQ:Addr
 zbR:FuncData
 zat:Addr
 zau:FuncData
 zav:Addr
 zaw:FuncData
 zjl:Addr
 zjm:FuncData
 zbS:Addr
 zbT:FuncData
 zef:Addr
 zeg:FuncData
 a_law:Addr
 zjn:FuncData
 z32:Tok
 z33:Tok
structure Facts(K:PySem.W.Frag)(mg:Str->Option Value)(A:Adr):Prop where
 n_abs:mg "abs" = none
 n_all:mg "all" = none
 n_any:mg "any" = none
 zo1:mg "bool" = none
 z2M:mg "enumerate" = none
 n_int:mg "int" = none
 z1m:mg "isinstance" = none
 z3H:mg "len" = none
 z2S:mg "list" = none
 z1O:mg "range" = none
 zis:mg "reversed" = none
 zo2:mg "sorted" = none
 n_sum:mg "sum" = none
 zcU:mg "tuple" = none
 zbU:mg "zip" = none
 zcV:mg "MOST_BILLS" = some (.int 8 A.z32)
 zcW:mg "MOST_KINDS" = some (.int 6 A.z33)
 z6J:Df K mg "is_whole" z6C ["value"] A.zaf A.zag
 z7u:Df K mg "is_row" z7e ["value", "length"] A.ze3 A.ze4
 z8l:Df K mg "noughts" z5Z ["length"] A.zbs A.zbt
 z6K:Df K mg "unit_row" z4B ["length", "one_at"] A.zah A.zai
 z7v:Df K mg "added" z95 ["one", "other"] A.zj7 A.zj8
 zcX:Df K mg "taken" z96 ["one", "other"] A.zj9 A.zja
 z1D:Df K mg "scaled" z7f ["row", "often"] A.ze5 A.ze6
 zbV:Df K mg "weighed" z60 ["row", "weights"] A.zbu A.zbv
 zjo:Df K mg "mixed" zcI ["rows", "counts", "length"] A.zjb A.zjc
 z13:Df K mg "head_at" z89 ["row"] A.zbw A.zbx
 z8P:Df K mg "are_kinds" z5n ["value"] A.z8F A.z8G
 zbW:Df K mg "is_bill" z61 ["value", "kinds"] A.zby A.zbz
 z7w:Df K mg "need_kinds" z4C ["kinds"] A.z7o A.z7p
 z8Q:Df K mg "need_bill" z5o ["bill", "kinds"] A.z8H A.z8I
 zbX:Df K mg "hall_by" z62 ["kinds", "rows"] A.zbA A.zbB
 zbY:Df K mg "hall_of" z8a ["kinds", "bills"] A.zbC A.zbD
 z4b:Df K mg "need_basket_of" z2x ["kinds", "basket"] A.z47 A.z48
 z6h:Df K mg "need_basket" z3P ["hall", "basket"] A.z6f A.z6g
 zax:Df K mg "bridge" z5p ["a", "b"] A.ze7 A.ze8
 zcY:Df K mg "rest" zfb ["a", "part"] A.znZ A.zo0
 zbZ:Df K mg "product" z8b ["numbers"] A.zbE A.zbF
 zay:Df K mg "lowering" z6E ["row", "rungs"] A.zaj A.zak
 z65:Df K mg "lowered" z8c ["row", "rungs"] A.zbG A.zbH
 zc:Df K mg "crossed" z8d ["rung", "row"] A.zbI A.zbJ
 z8R:Df K mg "turned_up" z5q ["row"] A.z8J A.z8K
 zaz:Df K mg "with_row" z4E ["rungs", "row"] A.zal A.zam
 zeh:Df K mg "evened" zaa ["rungs"] A.ze9 A.zea
 z66:Df K mg "climbed" z8f ["rows"] A.zbK A.zbL
 z2i:Df K mg "tagged_stair" z2h ["rows", "tags"] A.z5v A.z5w
 z4N:Df K mg "tags_of_rungs" z1W ["rungs", "width"] A.z4L A.z4M
 z4c:Df K mg "tags_at_nought" z1M ["rungs", "width"] A.z49 A.z4a
 zjp:Df K mg "stair" zcM ["hall"] A.zjd A.zje
 z7x:Df K mg "turned" z7i ["rows", "width"] A.zeb A.zec
 zaA:Df K mg "is_slant" z4G ["rows"] A.zan A.zao
 z7y:Df K mg "rests" z97 ["row", "part"] A.zjf A.zjg
 zc0:Df K mg "slanted" z3d ["rows", "tags", "whole"] A.zbM A.zbN
 zei:Df K mg "linked" zab ["one", "other"] A.zed A.zee
 zc1:Df K mg "chained" z63 ["measured"] A.zbO A.zbP
 z4K:Df K mg "measures" z1C ["hall"] A.zap A.zaq
 zjq:Df K mg "parts" z98 ["hall"] A.zjh A.zji
 z6L:Df K mg "place_by" z4H ["measured", "basket"] A.zar A.zas
 zjr:Df K mg "place" zcN ["hall", "basket"] A.zjj A.zjk
 z7z:Df K mg "need_place" z4I ["measured", "numbers"] A.z7q A.z7r
 z7A:Df K mg "baskets_by" z1k ["measured"] A.z7s A.z7t
 z8S:Df K mg "basket_at" z5s ["hall", "numbers"] A.z8L A.z8M
 z1E:Df K mg "_law_cell_at" z5t ["_law_script", "_law_k"] A.z8N A.z8O
 zc2:Df K mg "_law_whole" z8h ["_law_found"] A.zbQ A.zbR
 z6M:Df K mg "_law_is_row" z6F ["_law_found", "_law_size"] A.zat A.zau
 zaB:Df K mg "_law_number" z6G ["_law_cell", "_law_mode"] A.zav A.zaw
 zjs:Df K mg "_law_row" z99 ["_law_script", "_law_at", "_law_size", "_law_mode"] A.zjl A.zjm
 zc3:Df K mg "_law_bills" z64 ["_law_script"] A.zbS A.zbT
 zej:Df K mg "_law_rest" zac ["_law_cell", "_law_part"] A.zef A.zeg
 f_law:Df K mg "law" zdY ["_law_script"] A.a_law A.zjn
section
variable {K:PySem.W.Frag}{mg:Str->Option Value}{P:Program}{w:World}{base:Heap}{A:Adr}
theorem z8B(T:Facts K mg A):FnOk P w K mg base CX0 1 A.zaf A.zag ["value"] (spc K true z2q) :=
 T.z6J.d 0 z6t zdV (λ_ _ _ _ _ _ hr hu =>
  (z09 (z0i (zaU (z9l (T := "int") rfl rfl T.z1m rfl T.n_int (by decide +kernel) (z01 0)) (zdb (p_not (z9l (T := "bool") rfl rfl T.z1m rfl T.zo1 (by decide +kernel) (z01 0))))))))
theorem z8i(T:Facts K mg A):FnOk P w K mg base CX0 2 A.ze3 A.ze4 ["value", "length"] (spc K true z40) :=
 T.z7u.d 1 z9Q zke (λ_ _ _ _ _ _ hr hu =>
  (z07 (s_if (PFW.pt (w_or (z69 (z4R (z9l (T := "list") rfl rfl T.z1m rfl T.z2S (by decide +kernel) (z01 0)) (fun _=>rfl))) (zda (t_cm (o_ne hu) (p_bu z3x T.z3H (z03 (z01 0) z08)) (z01 1))))) (z09 (z0i p_bl)) z0R)
   (z09 (z0i (p_bu (c_all rfl) T.n_all (z03 (p_co ["number"] 1 [] ["value", "length"] (z04 z7e).names (z1o (z01 0)) (λ_ _ _ _ _=>(p_ca (z8B T) T.z6J hr (z03 (z01 0) z08)))) z08))))))
theorem zad(T:Facts K mg A):FnOk P w K mg base CX0 1 A.zbs A.zbt ["length"] (spc K true z37) :=
 T.z8l.d 0 z7R zf7 (λ_ _ _ _ _ _ hr hu =>
  (z09 (z0i (p_co ["spot"] 1 [] ["length"] (z04 z5Z).names (z1x rfl T.z1O (z01 0)) (λ_ _ _ _ _=>z0a)))))
theorem z8C(T:Facts K mg A):FnOk P w K mg base CX0 1 A.zah A.zai ["length", "one_at"] (spc K true z1Z) :=
 T.z6K.d 0 z6u zdW (λ_ _ _ _ _ _ hr hu =>
  (z09 (z0i (p_co ["spot", "one_at"] 1 [1] ["length", "one_at"] (z04 z4B).names (z1x rfl T.z1O (z01 0)) (λ_ _ _ _ _=>(p_if (t_cm (o_eq hu) (z01 0) (z01 1)) z0a z0a))))))
theorem z7k(T:Facts K mg A):FnOk P w K mg base CX0 1 A.zj7 A.zj8 ["one", "other"] (spc K true z2Z) :=
 T.z7v.d 0 zcr zlA (λ_ _ _ _ _ _ hr hu =>
  (z09 (z0i (z2c (g:=(Tg.many [0,1])) (z0v (N:=["a", "b"]) (nt:=2) (js:=[]) ["one", "other"] (z04 z95).names rfl rfl rfl (by decide +kernel)) rfl (zb0 rfl T.zbU (z01 0) (z01 1)) (λ_ _ _ _ _=>z2b rfl (z0u (z0t (ndp ["a", "b"]) rfl (Or.inl rfl) (Or.inr rfl)) (z0u (z0t (ndp ["a", "b"]) rfl (Or.inl rfl) (Or.inr rfl)) z2a))) (jlt [0,1] 2) (λ_ _ _ _ _=>z2m) (λ_ _ _ _ _=>(p_op z3w (z01 0) (z01 1))) (jlt [] 2)))))
theorem zdZ(T:Facts K mg A):FnOk P w K mg base CX0 1 A.zj9 A.zja ["one", "other"] (spc K true z5R) :=
 T.zcX.d 0 zcs zlB (λ_ _ _ _ _ _ hr hu =>
  (z09 (z0i (z2c (g:=(Tg.many [0,1])) (z0v (N:=["a", "b"]) (nt:=2) (js:=[]) ["one", "other"] (z04 z96).names rfl rfl rfl (by decide +kernel)) rfl (zb0 rfl T.zbU (z01 0) (z01 1)) (λ_ _ _ _ _=>z2b rfl (z0u (z0t (ndp ["a", "b"]) rfl (Or.inl rfl) (Or.inr rfl)) (z0u (z0t (ndp ["a", "b"]) rfl (Or.inl rfl) (Or.inr rfl)) z2a))) (jlt [0,1] 2) (λ_ _ _ _ _=>z2m) (λ_ _ _ _ _=>(p_op zd8 (z01 0) (z01 1))) (jlt [] 2)))))
theorem z1u(T:Facts K mg A):FnOk P w K mg base CX0 1 A.ze5 A.ze6 ["row", "often"] (spc K true z0S) :=
 T.z1D.d 0 z9R zkf (λ_ _ _ _ _ _ hr hu =>
  (z09 (z0i (p_co ["number", "often"] 1 [1] ["row", "often"] (z04 z7f).names (z1o (z01 0)) (λ_ _ _ _ _=>(p_op z6O (z01 1) (z01 0)))))))
theorem zfe(T:Facts K mg A):FnOk P w K mg base CX0 1 A.zbu A.zbv ["row", "weights"] (spc K true z41) :=
 T.zbV.d 0 z7S zf8 (λ_ _ _ _ _ _ hr hu =>
  (z09 (z0i (p_bu (c_sum rfl) T.n_sum (z03 (z2c (g:=(Tg.many [0,1])) (z0v (N:=["a", "b"]) (nt:=2) (js:=[]) ["row", "weights"] (z04 z60).names rfl rfl rfl (by decide +kernel)) rfl (zb0 rfl T.zbU (z01 0) (z01 1)) (λ_ _ _ _ _=>z2b rfl (z0u (z0t (ndp ["a", "b"]) rfl (Or.inl rfl) (Or.inr rfl)) (z0u (z0t (ndp ["a", "b"]) rfl (Or.inl rfl) (Or.inr rfl)) z2a))) (jlt [0,1] 2) (λ_ _ _ _ _=>z2m) (λ_ _ _ _ _=>(p_op z6O (z01 0) (z01 1))) (jlt [] 2)) z08)))))
theorem zlH(T:Facts K mg A):FnOk P w K mg base CX0 2 A.zjb A.zjc ["rows", "counts", "length"] (spc K true z91) :=
 T.zjo.d 1 zct z5m (λ_ _ _ _ _ _ hr hu =>
  (z07 (asn 3 (p_ca (zad T) T.z8l hr (z03 (z01 2) z08)) z5m.nd)
   (z07 (z6d (rels:=[]) (g:=(Tg.many [4,5])) PassesOwn.never rfl (zb0 rfl T.zbU (z01 0) (z01 1)) (z2b rfl (z0u (z0t (i:=4) z5m.nd rfl (Or.inl rfl) (Or.inl rfl)) (z0u (z0t (i:=5) z5m.nd rfl (Or.inl rfl) (Or.inl rfl)) z2a))) (z09 (asn 3 (p_ca (z7k T) T.z7v hr (z03 (z01 3) (z03 (p_ca (z1u T) T.z1D hr (z03 (z01 4) (z03 (z01 5) z08))) z08))) z5m.nd)))
   (z09 (z0i (z01 3))))))
theorem z1a(T:Facts K mg A):FnOk P w K mg base CX0 1 A.zbw A.zbx ["row"] (spc K true z0e) :=
 T.z13.d 0 z7T z6D (λ_ _ _ _ _ _ hr hu =>
  (z07 (z6d (rels:=[]) (g:=(Tg.many [1,2])) PassesOwn.never rfl (z9q rfl T.z2M (z01 0)) (z2b rfl (z0u (z0t (i:=1) z6D.nd rfl (Or.inl rfl) (Or.inl rfl)) (z0u (z0t (i:=2) z6D.nd rfl (Or.inl rfl) (Or.inl rfl)) z2a))) (z09 (s_if (t_cm (o_ne hu) (z01 2) z0a) (z09 (z0i (z01 1))) z0R)))
   (z09 (z0i (p_bu z3x T.z3H (z03 (z01 0) z08))))))
theorem zcP(T:Facts K mg A):FnOk P w K mg base CX0 2 A.z8F A.z8G ["value"] (spc K true z3F) :=
 T.z8P.d 1 z5a zcJ (λ_ _ _ _ _ _ hr hu =>
  (z09 (z0i (zaU (p_ca (z8B T) T.z6J hr (z03 (z01 0) z08)) (zdb (zor o_le o_le z0a (z01 0) (zkH rfl T.zcW)))))))
theorem zff(T:Facts K mg A):FnOk P w K mg base CX0 3 A.zby A.zbz ["value", "kinds"] (spc K true z5S) :=
 T.zbW.d 2 z7U zf9 (λ_ _ _ _ _ _ hr hu =>
  (z09 (z0i (zaU (p_ca (z8i T) T.z7u hr (z03 (z01 0) (z03 (z01 1) z08))) (zdb (p_bu (c_all rfl) T.n_all (z03 (p_co ["number"] 1 [] ["value", "kinds"] (z04 z61).names (z1o (z01 0)) (λ_ _ _ _ _=>(p_cm o_lt (p_bu c_abs T.n_abs (z03 (z01 0) z08)) (p_op zd9 z0a z0a)))) z08)))))))
theorem zaH(T:Facts K mg A):FnOk P w K mg base CX0 3 A.z7o A.z7p ["kinds"] (spc K true z30) :=
 T.z7w.d 2 z4w zaG (λ_ _ _ _ _ _ hr hu =>
  (z09 (s_if (z69 (z4R (p_ca (zcP T) T.z8P hr (z03 (z01 0) z08)) (λ_=>rfl))) (z09 z5C) z0R)))
theorem zcQ(T:Facts K mg A):FnOk P w K mg base CX0 4 A.z8H A.z8I ["bill", "kinds"] (spc K true z24) :=
 T.z8Q.d 3 z5b zcK (λ_ _ _ _ _ _ hr hu =>
  (z09 (s_if (z69 (z4R (p_ca (zff T) T.zbW hr (z03 (z01 0) (z03 (z01 1) z08))) (λ_=>rfl))) (z09 z5C) z0R)))
theorem zfg(T:Facts K mg A):FnOk P w K mg base CX0 1 A.zbA A.zbB ["kinds", "rows"] (spc K true z5T) :=
 T.zbX.d 0 z7V zfa (λ_ _ _ _ _ _ hr hu =>
  (z09 (z0i (@z6a _ _ _ _ _ (@z03 _ _ _ _ _ (z01 0) (@z03 _ _ _ _ _ (p_ty zkL T.zcU (z03 (p_co ["row"] 1 [] ["kinds", "rows"] (z04 z62).names (z1o (z01 1)) (λ_ _ _ _ _=>(p_ty zkL T.zcU (z03 (z01 0) z08)))) z08)) z08 rfl) rfl)))))
theorem zfh(T:Facts K mg A):FnOk P w K mg base CX0 5 A.zbC A.zbD ["kinds", "bills"] (spc K true z42) :=
 T.zbY.d 4 z7W za8 (λ_ _ _ _ _ _ hr hu =>
  (z07 (z9o (p_ca (zaH T) T.z7w hr (z03 (z01 0) z08)))
   (z07 (s_if (PFW.pt (w_or (z69 (z4R (z9l (T := "list") rfl rfl T.z1m rfl T.z2S (by decide +kernel) (z01 1)) (λ_=>rfl))) (zda (t_cm o_gt (p_bu z3x T.z3H (z03 (z01 1) z08)) (zkH rfl T.zcV))))) (z09 z5C) z0R)
   (z07 (z6d (rels:=[]) (g:=(Tg.one 2)) PassesOwn.never rfl (z1o (z01 1)) (z3y za8.nd rfl (Or.inl rfl) (Or.inl rfl)) (z09 (z9o (p_ca (zcQ T) T.z8Q hr (z03 (z01 2) (z03 (z01 0) z08))))))
   (z09 (z0i (p_ca (zfg T) T.zbX hr (z03 (z01 0) (z03 (z01 1) z08)))))))))
theorem z7l(T:Facts K mg A):FnOk P w K mg base CX0 3 A.z47 A.z48 ["kinds", "basket"] (spc K true z1I) :=
 T.z4b.d 2 z2r z7g (λ_ _ _ _ _ _ hr hu =>
  (z09 (s_if (z69 (z4R (p_ca (z8i T) T.z7u hr (z03 (z01 1) (z03 (z01 0) z08))) (λ_=>rfl))) (z09 z5C) z0R)))
theorem zae(T:Facts K mg A):FnOk P w K mg base CX0 4 A.z6f A.z6g ["hall", "basket"] (spc K true z2B) :=
 T.z6h.d 3 z3O za9 (λ_ _ _ _ _ _ hr hu =>
  (z09 (z9o (p_ca (z7l T) T.z4b hr (z03 (p_i (z01 0) z0a) (z03 (z01 1) z08))))))
theorem zbr(T:Facts K mg A):FnOk P w K mg base CX0 1 A.ze7 A.ze8 ["a", "b"] (spc K true z5c) :=
 T.zax.d 0 z9S z26 (λ_ _ _ _ _ _ hr hu =>
  (z07 (z1h (rels:=[]) (z0n (i:=2) (z6Q (z03 (z01 0) (z03 z0a (z03 z0a z08)))) z26.nd rfl (Or.inr rfl) rfl (Or.inl rfl)))
   (z07 (z1h (rels:=[]) (z0n (i:=3) (z6Q (z03 (z01 1) (z03 z0a (z03 z0a z08)))) z26.nd rfl (Or.inr rfl) rfl (Or.inl rfl)))
   (z07 (zch PassesOwn.never (t_cm (o_ne hu) (p_i (z01 3) z0a) z0a) (z07 (z1h (rels:=[]) (z0n (i:=4) (p_op z3h (p_i (z01 2) z0a) (p_i (z01 3) z0a)) z26.nd rfl (Or.inr rfl) rfl (Or.inl rfl)))
   (z07 (z1h (rels:=[]) (a_co 5 z26.nd ["k", "upper", "often", "lower"] 1 [2,4,3] ["a", "b", "upper", "lower", "often", "left"] (z04 z5p).names (z1x rfl T.z1O z0a) (λ_ _ _ _ _=>(p_op zd8 (p_i (z01 1) (z01 0)) (p_op z6O (z01 2) (p_i (z01 3) (z01 0)))))))
   (z07 (z1h (rels:=[]) (z0n (i:=2) (z01 3) z26.nd rfl (Or.inr rfl) rfl (Or.inl rfl)))
   (z09 (z1h (rels:=[]) (z0n (i:=3) (z01 5) z26.nd rfl (Or.inr rfl) rfl (Or.inl rfl))))))))
   (z07 (s_if (t_cm o_lt (p_i (z01 2) z0a) z0a) (z09 (z1h (rels:=[]) (z0n (i:=2) (p_co ["number"] 1 [] ["a", "b", "upper", "lower", "often", "left"] (z04 z5p).names (z1o (z01 2)) (λ_ _ _ _ _=>(zdc (z01 0)))) z26.nd rfl (Or.inr rfl) rfl (Or.inl rfl)))) z0R)
   (z09 (z0i (p_ty zkL T.zcU (z03 (z01 2) z08)))))))))
theorem zcR(T:Facts K mg A):FnOk P w K mg base CX0 1 A.znZ A.zo0 ["a", "part"] (spc K true z2P) :=
 T.zcY.d 0 zcu zoX (λ_ _ _ _ _ _ hr hu =>
  (z07 (s_if (t_cm (o_eq hu) (z01 1) z0a) (z09 (z0i (z01 0))) z0R)
   (z09 (z0i (p_op z2j (z01 0) (z01 1))))))
theorem zfi(T:Facts K mg A):FnOk P w K mg base CX0 1 A.zbE A.zbF ["numbers"] (spc K true z5U) :=
 T.zbZ.d 0 z7X z4D (λ_ _ _ _ _ _ hr hu =>
  (z07 (asn 1 z0a z4D.nd)
   (z07 (z6d (rels:=[]) (g:=(Tg.one 2)) PassesOwn.never rfl (z1o (z01 0)) (z3y z4D.nd rfl (Or.inl rfl) (Or.inl rfl)) (z09 (asn 1 (p_op z6O (z01 1) (z01 2)) z4D.nd)))
   (z09 (z0i (z01 1))))))
theorem ze(T:Facts K mg A):FnOk P w K mg base CX0 2 A.zaj A.zak ["row", "rungs"] (spc K true z4x) :=
 T.zay.d 1 z6v z1A (λ_ _ _ _ _ _ hr hu =>
  (z07 (asn 2 (p_ty z6R T.z2S (z03 (z01 0) z08)) z1A.nd)
   (z07 (ziG (z0n (i:=3) (z6Q z08) z1A.nd rfl (Or.inl rfl) rfl (Or.inl rfl)))
   (z07 (z6d (rels:=[]) (g:=(Tg.one 4)) PassesOwn.never rfl (z1o (z01 1)) (z3y z1A.nd rfl (Or.inl rfl) (Or.inl rfl)) (z07 (asn 5 (p_ca (z1a T) T.z13 hr (z03 (z01 4) z08)) z1A.nd)
   (z07 (asn 6 (p_op z3h (p_i (z01 2) (z01 5)) (p_i (z01 4) (z01 5))) z1A.nd)
   (z07 (s_if (t_cm (o_ne hu) (z01 6) z0a) (z09 (asn 2 (p_ca (zdZ T) T.zcX hr (z03 (z01 2) (z03 (p_ca (z1u T) T.z1D hr (z03 (z01 4) (z03 (z01 6) z08))) z08))) z1A.nd)) z0R)
   (z09 (s_wr1 (i:=3) mw_app F.slot_list_append F.type_list_append rfl (Or.inl rfl) (z01 6)))))))
   (z09 (z0i (z6a (z03 (z01 3) (z03 (z01 2) z08)))))))))
theorem z6H(T:Facts K mg A):FnOk P w K mg base CX0 3 A.zbG A.zbH ["row", "rungs"] (spc K true z0Z) :=
 T.z65.d 2 z7Y zfc (λ_ _ _ _ _ _ hr hu =>
  (z09 (z0i (p_i (p_ca (ze T) T.zay hr (z03 (z01 0) (z03 (z01 1) z08))) z0a))))
theorem zfj(T:Facts K mg A):FnOk P w K mg base CX0 2 A.zbI A.zbJ ["rung", "row"] (spc K true z38) :=
 T.zc.d 1 z7Z z3t (λ_ _ _ _ _ _ hr hu =>
  (z07 (asn 2 (p_ca (z1a T) T.z13 hr (z03 (z01 0) z08)) z3t.nd)
   (z07 (asn 3 (p_ca (zbr T) T.zax hr (z03 (p_i (z01 0) (z01 2)) (z03 (p_i (z01 1) (z01 2)) z08))) z3t.nd)
   (z07 (asn 4 (p_ca (z7k T) T.z7v hr (z03 (p_ca (z1u T) T.z1D hr (z03 (z01 0) (z03 (p_i (z01 3) z0a) z08))) (z03 (p_ca (z1u T) T.z1D hr (z03 (z01 1) (z03 (p_i (z01 3) z0a) z08))) z08))) z3t.nd)
   (z07 (asn 5 (p_ca (zdZ T) T.zcX hr (z03 (p_ca (z1u T) T.z1D hr (z03 (z01 1) (z03 (p_op z3h (p_i (z01 0) (z01 2)) (p_i (z01 3) z0a)) z08))) (z03 (p_ca (z1u T) T.z1D hr (z03 (z01 0) (z03 (p_op z3h (p_i (z01 1) (z01 2)) (p_i (z01 3) z0a)) z08))) z08))) z3t.nd)
   (z09 (z0i (z6a (z03 (z01 4) (z03 (z01 5) z08))))))))))
theorem zcS(T:Facts K mg A):FnOk P w K mg base CX0 2 A.z8J A.z8K ["row"] (spc K true z19) :=
 T.z8R.d 1 z5d zcL (λ_ _ _ _ _ _ hr hu =>
  (z09 (z0i (p_if (t_cm o_lt (p_i (z01 0) (p_ca (z1a T) T.z13 hr (z03 (z01 0) z08))) z0a) (p_ca (z1u T) T.z1D hr (z03 (z01 0) (z03 (zdc z0a) z08))) (p_ty z6R T.z2S (z03 (z01 0) z08))))))
theorem ze0(T:Facts K mg A):FnOk P w K mg base CX0 4 A.zal A.zam ["rungs", "row"] (spc K false z2s) :=
 T.zaz.d 3 z3n z27 (λ_ _ _ _ _ _ hr hu =>
  (z07 (ziG (z0n (i:=2) (p_ty z6R T.z2S (z03 (z01 0) z08)) z27.nd rfl (Or.inl rfl) rfl (Or.inl rfl)))
   (z07 (z9p (z0n (i:=3) (p_ca (z6H T) T.z65 hr (z03 (z01 1) (z03 (z01 2) z08))) z27.nd rfl (Or.inr rfl) rfl (Or.inl rfl)))
   (z07 (zch PassesOwn.never (t_cm o_lt (p_ca (z1a T) T.z13 hr (z03 (z01 3) z08)) (p_bu z3x T.z3H (z03 (z01 3) z08))) (z07 (z9p (zde (i:=4) (g:=(Tg.many [0,1])) z27.nd rfl rfl rfl (z0v (N:=["place", "rung", "left"]) (nt:=2) (js:=[3]) ["rungs", "row", "found", "left", "places", "pair"] (z04 z4E).names rfl rfl rfl (by decide +kernel)) rfl (z9q rfl T.z2M (z01 2)) (λ_ _ _ _ _=>z2b rfl (z0u (z0t (ndp ["place", "rung", "left"]) rfl (Or.inl rfl) (Or.inr rfl)) (z0u (z0t (ndp ["place", "rung", "left"]) rfl (Or.inl rfl) (Or.inr rfl)) z2a))) (jlt [0,1] 2) (λ_ _ _ _ _=>(zet (t_cm (o_eq hu) (p_ca (z1a T) T.z13 hr (z03 (z01 1) z08)) (p_ca (z1a T) T.z13 hr (z03 (z01 2) z08))))) (λ_ _ _ _ _=>(z01 0)) (jlt [3] 6)))
   (z07 (s_if (t_cm (o_eq hu) (p_bu z3x T.z3H (z03 (z01 4) z08)) z0a) (z09 (z0i (zoD (z1a T) (hr.mono (by decide)) rfl T.zo2 T.z13.mg rfl T.z13.bd (p_op z3w (z01 2) (@z6Q _ _ _ _ (@z03 _ _ _ _ _ (p_ca (zcS T) T.z8R hr (z03 (z01 3) z08)) z08 rfl)))))) z0R)
   (z07 (z9p (z0n (i:=5) (p_ca (zfj T) T.zc hr (z03 (p_i (z01 2) (p_i (z01 4) z0a)) (z03 (z01 3) z08))) z27.nd rfl (Or.inl rfl) rfl (Or.inl rfl)))
   (z07 (zkZ (i:=2) rfl (Or.inl rfl) (p_i (z01 4) z0a) (p_i (z01 5) z0a))
   (z09 (z9p (z0n (i:=3) (p_ca (z6H T) T.z65 hr (z03 (p_i (z01 5) z0a) (z03 (z01 2) z08))) z27.nd rfl (Or.inr rfl) rfl (Or.inl rfl)))))))))
   (z09 (z0i (z01 2)))))))
theorem zkh(T:Facts K mg A):FnOk P w K mg base CX0 4 A.ze9 A.zea ["rungs"] (spc K true z5e) :=
 T.zeh.d 3 z9T z8e (λ_ _ _ _ _ _ hr hu =>
  (z07 (ziG (z0n (i:=1) (z6Q z08) z8e.nd rfl (Or.inl rfl) rfl (Or.inl rfl)))
   (z07 (z6d (rels:=[]) (g:=(Tg.one 2)) PassesOwn.never rfl (i_rev rfl T.zis (z01 0)) (z3y z8e.nd rfl (Or.inl rfl) (Or.inl rfl)) (z09 (s_insA (i:=1) rfl (Or.inl rfl) (p_ca (z6H T) T.z65 hr (z03 (z01 2) (z03 (z01 1) z08))))))
   (z09 (z0i (z01 1))))))
theorem z6I(T:Facts K mg A):FnOk P w K mg base CX0 5 A.zbK A.zbL ["rows"] (spc K true z25) :=
 T.z66.d 4 z80 z4F (λ_ _ _ _ _ _ hr hu =>
  (z07 (asn 1 (z6Q z08) z4F.nd)
   (z07 (z6d (rels:=[]) (g:=(Tg.one 2)) PassesOwn.never rfl (z1o (z01 0)) (z3y z4F.nd rfl (Or.inl rfl) (Or.inl rfl)) (z09 (asn 1 (p_ca (zkh T) T.zeh hr (z03 (p_ca (ze0 T) T.zaz hr (z03 (z01 1) (z03 (z01 2) z08))) z08)) z4F.nd)))
   (z09 (z0i (z01 1))))))
theorem z2R(T:Facts K mg A):FnOk P w K mg base CX0 6 A.z5v A.z5w ["rows", "tags"] (spc K true z10) :=
 T.z2i.d 5 z3o z8U (λ_ _ _ _ _ _ hr hu =>
  (z09 (z0i (p_ca (z6I T) T.z66 hr (z03 (z2c (g:=(Tg.many [0,1])) (z0v (N:=["row", "tag"]) (nt:=2) (js:=[]) ["rows", "tags"] (z04 z2h).names rfl rfl rfl (by decide +kernel)) rfl (zb0 rfl T.zbU (z01 0) (z01 1)) (λ_ _ _ _ _=>z2b rfl (z0u (z0t (ndp ["row", "tag"]) rfl (Or.inl rfl) (Or.inr rfl)) (z0u (z0t (ndp ["row", "tag"]) rfl (Or.inl rfl) (Or.inr rfl)) z2a))) (jlt [0,1] 2) (λ_ _ _ _ _=>z2m) (λ_ _ _ _ _=>(p_op z3w (p_ty z6R T.z2S (z03 (z01 0) z08)) (p_ty z6R T.z2S (z03 (z01 1) z08)))) (jlt [] 2)) z08)))))
theorem z8j(T:Facts K mg A):FnOk P w K mg base CX0 2 A.z4L A.z4M ["rungs", "width"] (spc K true z1V) :=
 T.z4N.d 1 z2Q z8g (λ_ _ _ _ _ _ hr hu =>
  (z09 (z0i (z2c (g:=(Tg.one 0)) (z0v (N:=["rung", "width"]) (nt:=1) (js:=[1]) ["rungs", "width"] (z04 z1W).names rfl rfl rfl (by decide +kernel)) rfl (z1o (z01 0)) (λ_ _ _ _ _=>z3y (ndp ["rung", "width"]) rfl (Or.inl rfl) (Or.inr rfl)) (show 0<1 by decide) (λ_ _ _ _ _=>(zet (t_cm o_lt (p_ca (z1a T) T.z13 hr (z03 (z01 0) z08)) (z01 1)))) (λ_ _ _ _ _=>(z2W (z01 0) (z4n (z01 1)) z4m)) (jlt [1] 2)))))
theorem z7m(T:Facts K mg A):FnOk P w K mg base CX0 2 A.z49 A.z4a ["rungs", "width"] (spc K true z0O) :=
 T.z4c.d 1 z2t z7h (λ_ _ _ _ _ _ hr hu =>
  (z09 (z0i (z2c (g:=(Tg.one 0)) (z0v (N:=["rung", "width"]) (nt:=1) (js:=[1]) ["rungs", "width"] (z04 z1M).names rfl rfl rfl (by decide +kernel)) rfl (z1o (z01 0)) (λ_ _ _ _ _=>z3y (ndp ["rung", "width"]) rfl (Or.inl rfl) (Or.inr rfl)) (show 0<1 by decide) (λ_ _ _ _ _=>(zet (t_cm o_ge (p_ca (z1a T) T.z13 hr (z03 (z01 0) z08)) (z01 1)))) (λ_ _ _ _ _=>(z2W (z01 0) (z4n (z01 1)) z4m)) (jlt [1] 2)))))
theorem zlI(T:Facts K mg A):FnOk P w K mg base CX0 6 A.zjd A.zje ["hall"] (spc K true z5V) :=
 T.zjp.d 5 zcv zlC (λ_ _ _ _ _ _ hr hu =>
  (z09 (z0i (p_ca (z6I T) T.z66 hr (z03 (p_i (z01 0) z0a) z08)))))
theorem z8k(T:Facts K mg A):FnOk P w K mg base CX0 1 A.zeb A.zec ["rows", "width"] (spc K true z2L) :=
 T.z7x.d 0 z9U zkg (λ_ _ _ _ _ _ hr hu =>
  (z09 (z0i (z2c (g:=(Tg.one 0)) (z0v (N:=["spot", "rows"]) (nt:=1) (js:=[0]) ["rows", "width"] (z04 z7i).names rfl rfl rfl (by decide +kernel)) rfl (z1x rfl T.z1O (z01 1)) (λ_ _ _ _ _=>z3y (ndp ["spot", "rows"]) rfl (Or.inr rfl) (Or.inl rfl)) (show 0<1 by decide) (λ_ _ _ _ _=>z2m) (λ_ _ _ _ _=>(z2c (g:=(Tg.one 0)) (by first|exact z0v (N:=["row", "spot"]) (nt:=1) (js:=[0]) ["spot", "rows"] [(".0",.local),("spot",.cell),("rows",.cell)] rfl rfl rfl (by decide +kernel)|exact z0v (N:=["row", "spot"]) (nt:=1) (js:=[0]) ["spot", "rows"] [(".0",.local),("rows",.cell),("spot",.cell)] rfl rfl rfl (by decide +kernel)) rfl (z1o (z01 1)) (λ_ _ _ _ _=>z3y (ndp ["row", "spot"]) rfl (Or.inl rfl) (Or.inr rfl)) (show 0<1 by decide) (λ_ _ _ _ _=>z2m) (λ_ _ _ _ _=>(p_i (z01 0) (z01 1))) (jlt [0] 2))) (jlt [0] 2)))))
theorem ze1(T:Facts K mg A):FnOk P w K mg base CX0 2 A.zan A.zao ["rows"] (spc K true z20) :=
 T.zaA.d 1 z4y z5r (λ_ _ _ _ _ _ hr hu =>
  (z07 (z6d (rels:=[]) (g:=(Tg.many [1,2])) PassesOwn.never rfl (z9q rfl T.z2M (z01 0)) (z2b rfl (z0u (z0t (i:=1) z5r.nd rfl (Or.inl rfl) (Or.inl rfl)) (z0u (z0t (i:=2) z5r.nd rfl (Or.inl rfl) (Or.inl rfl)) z2a))) (z09 (s_if (PFW.pt (w_or (t_cm (o_ne hu) (p_ca (z1a T) T.z13 hr (z03 (z01 2) z08)) (z01 1)) (zda (z4R (p_bu (c_any rfl) T.n_any (z03 (p_co ["number"] 1 [] ["rows", "place", "row"] (z04 z4G).names (z1o (z2W (z01 2) (z4n (p_op z3w (z01 1) z0a)) z4m)) (fun _ _ _ _ _=>(p_cm (o_ne hu) (z01 0) z0a))) z08)) (fun _=>rfl))))) (z09 (z0i p_bl)) z0R)))
   (z09 (z0i p_bl))))
theorem z7n(T:Facts K mg A):FnOk P w K mg base CX0 2 A.zjf A.zjg ["row", "part"] (spc K true z2C) :=
 T.z7y.d 1 zcw zlD (λ_ _ _ _ _ _ hr hu =>
  (z09 (z0i (p_co ["number", "part"] 1 [1] ["row", "part"] (z04 z97).names (z1o (z01 0)) (λ_ _ _ _ _=>(p_ca (zcR T) T.zcY hr (z03 (z01 0) (z03 (z01 1) z08))))))))
theorem zfk(T:Facts K mg A):FnOk P w K mg base CX0 7 A.zbM A.zbN ["rows", "tags", "whole"] (spc K false z5W) :=
 T.zc0.d 6 z43 z1B (λ_ _ _ _ _ _ hr hu =>
  (z07 (z1h (rels:=[]) (z0n (i:=3) (p_bu z3x T.z3H (z03 (z01 0) z08)) z1B.nd rfl (Or.inr rfl) rfl (Or.inl rfl)))
   (z07 (z1h (rels:=[]) (z0n (i:=4) (z01 0) z1B.nd rfl (Or.inr rfl) rfl (Or.inl rfl)))
   (z07 (asn 5 (z01 1) z1B.nd)
   (z07 (zch PassesOwn.never (z69 (z4R (p_ca (ze1 T) T.zaA hr (z03 (z01 4) z08)) (λ_=>rfl))) (z07 (asn 6 (p_ca (z8k T) T.z7x hr (z03 (p_ca (z6I T) T.z66 hr (z03 (p_ca (z8k T) T.z7x hr (z03 (z01 4) (z03 (z01 3) z08))) z08)) (z03 (z01 3) z08))) z1B.nd)
   (z07 (asn 7 (p_ca (z2R T) T.z2i hr (z03 (z01 6) (z03 (z01 5) z08))) z1B.nd)
   (z07 (z1h (rels:=[]) (z0n (i:=4) (p_co ["row", "many"] 1 [3] ["rows", "tags", "whole", "many", "square", "weights", "other", "both"] (z04 z3d).names (z1o (z01 7)) (λ_ _ _ _ _=>(z2W (z01 0) z4m (z4n (z01 1))))) z1B.nd rfl (Or.inr rfl) rfl (Or.inl rfl)))
   (z09 (z1h (rels:=[]) (a_co 5 z1B.nd ["row", "many", "whole"] 1 [3,2] ["rows", "tags", "whole", "many", "square", "weights", "other", "both"] (z04 z3d).names (z1o (z01 7)) (λ_ _ _ _ _=>(p_ca (z7n T) T.z7y hr (z03 (z2W (z01 0) (z4n (z01 1)) z4m) (z03 (z01 2) z08)))))))))))
   (z09 (z0i (z2c (g:=(Tg.many [0,1])) (z0v (N:=["place", "row", "square"]) (nt:=2) (js:=[4]) ["rows", "tags", "whole", "many", "square", "weights", "other", "both"] (z04 z3d).names rfl rfl rfl (by decide +kernel)) rfl (z9q rfl T.z2M (z01 5)) (λ_ _ _ _ _=>z2b rfl (z0u (z0t (ndp ["place", "row", "square"]) rfl (Or.inl rfl) (Or.inr rfl)) (z0u (z0t (ndp ["place", "row", "square"]) rfl (Or.inl rfl) (Or.inr rfl)) z2a))) (jlt [0,1] 2) (λ_ _ _ _ _=>z2m) (λ_ _ _ _ _=>(z6a (z03 (z01 1) (z03 (p_i (p_i (z01 2) (z01 0)) (z01 0)) z08)))) (jlt [4] 8)))))))))
theorem zki(T:Facts K mg A):FnOk P w K mg base CX0 3 A.zed A.zee ["one", "other"] (spc K true z3p) :=
 T.zei.d 2 z5f z3e (λ_ _ _ _ _ _ hr hu =>
  (z07 (asn 2 (p_ca (zbr T) T.zax hr (z03 (p_i (z01 0) z0a) (z03 (p_i (z01 1) z0a) z08))) z3e.nd)
   (z07 (asn 3 (p_i (z01 2) z0a) z3e.nd)
   (z07 (asn 4 (p_op z6O (p_op z3h (p_i (z01 0) z0a) (z01 3)) (p_i (z01 1) z0a)) z3e.nd)
   (z07 (asn 5 (p_ca (z7k T) T.z7v hr (z03 (p_i (z01 0) z0a) (z03 (p_i (z01 1) z0a) z08))) z3e.nd)
   (z07 (asn 6 (p_ca (z7k T) T.z7v hr (z03 (p_ca (z1u T) T.z1D hr (z03 (p_i (z01 0) z0a) (z03 (p_op z6O (zdc (p_i (z01 2) z0a)) (p_op z3h (p_i (z01 1) z0a) (z01 3))) z08))) (z03 (p_ca (z1u T) T.z1D hr (z03 (p_i (z01 1) z0a) (z03 (p_op z6O (p_i (z01 2) z0a) (p_op z3h (p_i (z01 0) z0a) (z01 3))) z08))) z08))) z3e.nd)
   (z09 (z0i (@z6a _ _ _ _ _ (@z03 _ _ _ _ _ (@z6a _ _ _ _ _ (@z03 _ _ _ _ _ (p_ca (z7n T) T.z7y hr (z03 (z01 5) (z03 (z01 3) z08))) (@z03 _ _ _ _ _ (z01 3) z08 rfl) rfl)) (@z03 _ _ _ _ _ (@z6a _ _ _ _ _ (@z03 _ _ _ _ _ (p_ca (z7n T) T.z7y hr (z03 (z01 6) (z03 (z01 4) z08))) (@z03 _ _ _ _ _ (z01 4) z08 rfl) rfl)) z08 rfl) rfl))))))))))
theorem zfl(T:Facts K mg A):FnOk P w K mg base CX0 4 A.zbO A.zbP ["measured"] (spc K true z39) :=
 T.zc1.d 3 z44 z3u (λ_ _ _ _ _ _ hr hu =>
  (z07 (ziG (z0n (i:=1) (p_ty z6R T.z2S (z03 (z01 0) z08)) z3u.nd rfl (Or.inl rfl) rfl (Or.inl rfl)))
   (z07 (zl0 (g:=(Tg.one 2)) PassesOwn.never rfl (zjP rfl T.z1O (p_bu z3x T.z3H (z03 (z01 1) z08))) (z3y z3u.nd rfl (Or.inl rfl) (Or.inl rfl)) (z09 (zl0 (g:=(Tg.one 3)) PassesOwn.never rfl (zjQ rfl T.z1O (p_op z3w (z01 2) z0a) (p_bu z3x T.z3H (z03 (z01 1) z08))) (z3y z3u.nd rfl (Or.inl rfl) (Or.inl rfl)) (z07 (z9p (z0n (i:=4) (p_ca (zki T) T.zei hr (z03 (p_i (z01 1) (z01 2)) (z03 (p_i (z01 1) (z01 3)) z08))) z3u.nd rfl (Or.inl rfl) rfl (Or.inl rfl)))
   (z07 (zkZ (i:=1) rfl (Or.inl rfl) (z01 2) (p_i (z01 4) z0a))
   (z09 (zkZ (i:=1) rfl (Or.inl rfl) (z01 3) (p_i (z01 4) z0a))))))))
   (z09 (z0i (z2c (g:=(Tg.many [0,1])) (z0v (N:=["weights", "part"]) (nt:=2) (js:=[]) ["measured", "found", "first", "second", "pair"] (z04 z63).names rfl rfl rfl (by decide +kernel)) rfl (z1o (z01 1)) (λ_ _ _ _ _=>z2b rfl (z0u (z0t (ndp ["weights", "part"]) rfl (Or.inl rfl) (Or.inr rfl)) (z0u (z0t (ndp ["weights", "part"]) rfl (Or.inl rfl) (Or.inr rfl)) z2a))) (jlt [0,1] 2) (λ_ _ _ _ _=>z2m) (λ_ _ _ _ _=>(@z6a _ _ _ _ _ (@z03 _ _ _ _ _ (p_ca (z7n T) T.z7y hr (z03 (z01 0) (z03 (z01 1) z08))) (@z03 _ _ _ _ _ (z01 1) z08 rfl) rfl))) (jlt [] 5)))))))
theorem z5u(T:Facts K mg A):FnOk P w K mg base CX0 8 A.zap A.zaq ["hall"] (spc K false z0P) :=
 T.z4K.d 7 z3q z1i (λ_ _ _ _ _ _ hr hu =>
  (z07 (z1h (rels:=[]) (z0n (i:=1) (p_i (z01 0) z0a) z1i.nd rfl (Or.inr rfl) rfl (Or.inl rfl)))
   (z07 (asn 2 (p_ca (zlI T) T.zjp hr (z03 (z01 0) z08)) z1i.nd)
   (z07 (z1h (rels:=[]) (z0n (i:=3) (p_bu z3x T.z3H (z03 (z01 2) z08)) z1i.nd rfl (Or.inr rfl) rfl (Or.inl rfl)))
   (z07 (asn 4 (p_ca (z2R T) T.z2i hr (z03 (p_ca (z8k T) T.z7x hr (z03 (z01 2) (z03 (z01 1) z08))) (z03 (p_co ["spot", "kinds"] 1 [1] ["hall", "kinds", "rungs", "many", "both", "square", "whole", "bound"] (z04 z1C).names (z1x rfl T.z1O (z01 1)) (λ_ _ _ _ _=>(p_ca (z8C T) T.z6K hr (z03 (z01 1) (z03 (z01 0) z08))))) z08))) z1i.nd)
   (z07 (z1h (rels:=[]) (a_co 5 z1i.nd ["row", "many"] 1 [3] ["hall", "kinds", "rungs", "many", "both", "square", "whole", "bound"] (z04 z1C).names (z1o (z2W (z01 4) z4m (z4n (z01 3)))) (λ_ _ _ _ _=>(z2W (z01 0) z4m (z4n (z01 1))))))
   (z07 (asn 6 (p_ca (zfi T) T.zbZ hr (z03 (z2c (g:=(Tg.many [0,1])) (z0v (N:=["place", "row"]) (nt:=2) (js:=[]) ["hall", "kinds", "rungs", "many", "both", "square", "whole", "bound"] (z04 z1C).names rfl rfl rfl (by decide +kernel)) rfl (z9q rfl T.z2M (z01 5)) (λ_ _ _ _ _=>z2b rfl (z0u (z0t (ndp ["place", "row"]) rfl (Or.inl rfl) (Or.inr rfl)) (z0u (z0t (ndp ["place", "row"]) rfl (Or.inl rfl) (Or.inr rfl)) z2a))) (jlt [0,1] 2) (λ_ _ _ _ _=>z2m) (λ_ _ _ _ _=>(p_i (z01 1) (z01 0))) (jlt [] 8)) z08)) z1i.nd)
   (z07 (asn 7 (p_ca (zfk T) T.zc0 hr (z03 (z01 5) (z03 (p_co ["row", "many"] 1 [3] ["hall", "kinds", "rungs", "many", "both", "square", "whole", "bound"] (z04 z1C).names (z1o (z2W (z01 4) z4m (z4n (z01 3)))) (λ_ _ _ _ _=>(z2W (z01 0) (z4n (z01 1)) z4m))) (z03 (z01 6) z08)))) z1i.nd)
   (z09 (z0i (p_op z3w (p_ca (zfl T) T.zc1 hr (z03 (z01 7) z08)) (p_co ["weights"] 1 [] ["hall", "kinds", "rungs", "many", "both", "square", "whole", "bound"] (z04 z1C).names (z1o (p_ca (z7m T) T.z4c hr (z03 (z01 4) (z03 (z01 3) z08)))) (λ_ _ _ _ _=>(z6a (z03 (z01 0) (z03 z0a z08))))))))))))))))
theorem zlJ(T:Facts K mg A):FnOk P w K mg base CX0 9 A.zjh A.zji ["hall"] (spc K true z92) :=
 T.zjq.d 8 zcx zlE (λ_ _ _ _ _ _ hr hu =>
  (z09 (z0i (z2c (g:=(Tg.many [0,1])) (z0v (N:=["weights", "part"]) (nt:=2) (js:=[]) ["hall"] (z04 z98).names rfl rfl rfl (by decide +kernel)) rfl (z1o (p_ca (z5u T) T.z4K hr (z03 (z01 0) z08))) (λ_ _ _ _ _=>z2b rfl (z0u (z0t (ndp ["weights", "part"]) rfl (Or.inl rfl) (Or.inr rfl)) (z0u (z0t (ndp ["weights", "part"]) rfl (Or.inl rfl) (Or.inr rfl)) z2a))) (jlt [0,1] 2) (λ_ _ _ _ _=>z2m) (λ_ _ _ _ _=>(z01 1)) (jlt [] 1)))))
theorem z8D(T:Facts K mg A):FnOk P w K mg base CX0 2 A.zar A.zas ["measured", "basket"] (spc K true z2u) :=
 T.z6L.d 1 z6w zdX (λ_ _ _ _ _ _ hr hu =>
  (z09 (z0i (z2c (g:=(Tg.many [0,1])) (z0v (N:=["weights", "part", "basket"]) (nt:=2) (js:=[1]) ["measured", "basket"] (z04 z4H).names rfl rfl rfl (by decide +kernel)) rfl (z1o (z01 0)) (λ_ _ _ _ _=>z2b rfl (z0u (z0t (ndp ["weights", "part", "basket"]) rfl (Or.inl rfl) (Or.inr rfl)) (z0u (z0t (ndp ["weights", "part", "basket"]) rfl (Or.inl rfl) (Or.inr rfl)) z2a))) (jlt [0,1] 2) (λ_ _ _ _ _=>z2m) (λ_ _ _ _ _=>(p_ca (zcR T) T.zcY hr (z03 (p_ca (zfe T) T.zbV hr (z03 (z01 2) (z03 (z01 0) z08))) (z03 (z01 1) z08)))) (jlt [1] 2)))))
theorem zlK(T:Facts K mg A):FnOk P w K mg base CX0 9 A.zjj A.zjk ["hall", "basket"] (spc K true z93) :=
 T.zjr.d 8 zcy zlF (λ_ _ _ _ _ _ hr hu =>
  (z07 (z9o (p_ca (zae T) T.z6h hr (z03 (z01 0) (z03 (z01 1) z08))))
   (z09 (z0i (p_ca (z8D T) T.z6L hr (z03 (p_ca (z5u T) T.z4K hr (z03 (z01 0) z08)) (z03 (z01 1) z08)))))))
theorem zaI(T:Facts K mg A):FnOk P w K mg base CX0 3 A.z7q A.z7r ["measured", "numbers"] (spc K true z1J) :=
 T.z7z.d 2 z2g z3Q (λ_ _ _ _ _ _ hr hu =>
  (z07 (s_if (z69 (z4R (p_ca (z8i T) T.z7u hr (z03 (z01 1) (z03 (p_bu z3x T.z3H (z03 (z01 0) z08)) z08))) (fun _=>rfl))) (z09 z5C) z0R)
   (z09 (z6d (rels:=[]) (g:=(Tg.many [2,3])) PassesOwn.never rfl (zb0 rfl T.zbU (z01 1) (z01 0)) (z2b rfl (z0u (z0t (i:=2) z3Q.nd rfl (Or.inl rfl) (Or.inl rfl)) (z0u (z0t (i:=3) z3Q.nd rfl (Or.inl rfl) (Or.inl rfl)) z2a))) (z09 (s_if (t_cm (o_ne hu) (p_ca (zcR T) T.zcY hr (z03 (z01 2) (z03 (p_i (z01 3) z0a) z08))) (z01 2)) (z09 z5C) z0R))))))
theorem zaJ(T:Facts K mg A):FnOk P w K mg base CX0 7 A.z7s A.z7t ["measured"] (spc K true z31) :=
 T.z7A.d 6 z4z z1t (λ_ _ _ _ _ _ hr hu =>
  (z07 (z1h (rels:=[]) (z0n (i:=1) (p_bu z3x T.z3H (z03 (z01 0) z08)) z1t.nd rfl (Or.inr rfl) rfl (Or.inl rfl)))
   (z07 (z1h (rels:=[]) (z0n (i:=2) (p_co ["spot", "kinds"] 1 [1] ["measured", "kinds", "ones", "places", "wraps", "both"] (z04 z1k).names (z1x rfl T.z1O (z01 1)) (λ_ _ _ _ _=>(p_ca (z8C T) T.z6K hr (z03 (z01 1) (z03 (z01 0) z08))))) z1t.nd rfl (Or.inr rfl) rfl (Or.inl rfl)))
   (z07 (z1h (rels:=[]) (a_co 3 z1t.nd ["basket", "measured"] 1 [0] ["measured", "kinds", "ones", "places", "wraps", "both"] (z04 z1k).names (z1o (z01 2)) (λ_ _ _ _ _=>(p_ca (z8D T) T.z6L hr (z03 (z01 1) (z03 (z01 0) z08))))))
   (z07 (z1h (rels:=[]) (a_co 4 z1t.nd ["spot", "ones", "measured"] 1 [2,0] ["measured", "kinds", "ones", "places", "wraps", "both"] (z04 z1k).names (z1x rfl T.z1O (z01 1)) (λ_ _ _ _ _=>(p_ca (z1u T) T.z1D hr (z03 (p_i (z01 1) (z01 0)) (z03 (p_i (p_i (z01 2) (z01 0)) z0a) z08))))))
   (z07 (asn 5 (p_ca (z2R T) T.z2i hr (z03 (p_op z3w (z01 3) (z01 4)) (z03 (p_op z3w (z01 2) (p_co ["spot", "kinds"] 1 [1] ["measured", "kinds", "ones", "places", "wraps", "both"] (z04 z1k).names (z1x rfl T.z1O (z01 1)) (λ_ _ _ _ _=>(p_ca (zad T) T.z8l hr (z03 (z01 1) z08))))) z08))) z1t.nd)
   (z09 (z0i (p_ca (z8j T) T.z4N hr (z03 (z01 5) (z03 (z01 1) z08)))))))))))
theorem zcT(T:Facts K mg A):FnOk P w K mg base CX0 9 A.z8L A.z8M ["hall", "numbers"] (spc K true z5h) :=
 T.z8S.d 8 z5g z7j (λ_ _ _ _ _ _ hr hu =>
  (z07 (asn 2 (p_ca (z5u T) T.z4K hr (z03 (z01 0) z08)) z7j.nd)
   (z07 (z9o (p_ca (zaI T) T.z7z hr (z03 (z01 2) (z03 (z01 1) z08))))
   (z09 (z0i (p_ca (zlH T) T.zjo hr (z03 (p_ca (zaJ T) T.z7A hr (z03 (z01 2) z08)) (z03 (z01 1) (z03 (p_i (z01 0) z0a) z08)))))))))
theorem z1N(T:Facts K mg A):FnOk P w K mg base CX0 1 A.z8N A.z8O ["_law_script", "_law_k"] (spc K true z0I) :=
 T.z1E.d 0 z5i zcO (λ_ _ _ _ _ _ hr hu =>
  (z07 (s_if (t_cm o_lt (z01 1) (p_bu z3x T.z3H (z03 (z01 0) z08))) (z09 (z0i (p_i (z01 0) (z01 1)))) z0R)
   (z07 (s_if (t_cm (o_eq hu) (z01 0) (z6Q z08)) (z09 (z0i z0a)) z0R)
   (z09 (z0i (p_op z3w (p_op z6O (p_i (z01 0) (p_op z2j (z01 1) (p_bu z3x T.z3H (z03 (z01 0) z08)))) z0a) (z01 1)))))))
theorem zfm(T:Facts K mg A):FnOk P w K mg base CX0 1 A.zbQ A.zbR ["_law_found"] (spc K true z3a) :=
 T.zc2.d 0 z81 zfd (λ_ _ _ _ _ _ hr hu =>
  (z09 (z0i (zaU (z9l (T := "int") rfl rfl T.z1m rfl T.n_int (by decide +kernel) (z01 0)) (zdb (p_not (z9l (T := "bool") rfl rfl T.z1m rfl T.zo1 (by decide +kernel) (z01 0))))))))
theorem z8E(T:Facts K mg A):FnOk P w K mg base CX0 2 A.zat A.zau ["_law_found", "_law_size"] (spc K true z3r) :=
 T.z6M.d 1 z6x z8A (λ_ _ _ _ _ _ hr hu =>
  (z07 (s_if (PFW.pt (w_or (z69 (z4R (z9l (T := "list") rfl rfl T.z1m rfl T.z2S (by decide +kernel) (z01 0)) (fun _=>rfl))) (zda (t_cm (o_ne hu) (p_bu z3x T.z3H (z03 (z01 0) z08)) (z01 1))))) (z09 (z0i p_bl)) z0R)
   (z07 (z6d (rels:=[]) (g:=(Tg.one 2)) PassesOwn.never rfl (z1o (z01 0)) (z3y z8A.nd rfl (Or.inl rfl) (Or.inl rfl)) (z09 (s_if (z69 (z4R (p_ca (zfm T) T.zc2 hr (z03 (z01 2) z08)) (λ_=>rfl))) (z09 (z0i p_bl)) z0R)))
   (z09 (z0i p_bl)))))
theorem ze2(T:Facts K mg A):FnOk P w K mg base CX0 1 A.zav A.zaw ["_law_cell", "_law_mode"] (spc K true z2v) :=
 T.zaB.d 0 z3s z3G (λ_ _ _ _ _ _ hr hu =>
  (z07 (s_if (t_cm (o_eq hu) (z01 1) z0a) (z07 (asn 2 (p_op z2j (z01 0) (p_op zd9 z0a z0a)) z3G.nd)
   (z07 (s_if (t_cm (o_eq hu) (p_op z2j (p_op z3h (z01 0) (p_op zd9 z0a z0a)) z0a) z0a) (z09 (z0i (zdc (z01 2)))) z0R)
   (z09 (z0i (z01 2))))) z0R)
   (z07 (asn 3 (p_i (z6Q (z03 z0a (z03 z0a z08))) (z01 1)) z3G.nd)
   (z07 (asn 2 (p_op z2j (z01 0) (z01 3)) z3G.nd)
   (z07 (s_if (t_cm o_gt (z01 2) (p_op z3h (z01 3) z0a)) (z09 (z0i (p_op zd8 (z01 2) (z01 3)))) z0R)
   (z09 (z0i (z01 2))))))))
theorem zlL(T:Facts K mg A):FnOk P w K mg base CX0 2 A.zjl A.zjm ["_law_script", "_law_at", "_law_size", "_law_mode"] (spc K true z4A) :=
 T.zjs.d 1 zcz zlG (λ_ _ _ _ _ _ hr hu =>
  (z09 (z0i (p_co ["_law_k", "_law_script", "_law_at", "_law_mode"] 1 [0,1,3] ["_law_script", "_law_at", "_law_size", "_law_mode"] (z04 z99).names (z1x rfl T.z1O (z01 2)) (λ_ _ _ _ _=>(p_ca (ze2 T) T.zaB hr (z03 (p_ca (z1N T) T.z1E hr (z03 (z01 1) (z03 (p_op z3w (z01 2) (z01 0)) z08))) (z03 (z01 3) z08))))))))
theorem zfn(T:Facts K mg A):FnOk P w K mg base CX0 3 A.zbS A.zbT ["_law_script"] (spc K true z82) :=
 T.zc3.d 2 zbl z1l (λ_ _ _ _ _ _ hr hu =>
  (z07 (z1h (rels:=[]) (z0n (i:=1) (p_i (z6Q (z03 z0a (z03 z0a (z03 z0a (z03 z0a (z03 z0a z08)))))) (p_op z2j (p_ca (z1N T) T.z1E hr (z03 (z01 0) (z03 z0a z08))) z0a)) z1l.nd rfl (Or.inr rfl) rfl (Or.inl rfl)))
   (z07 (z1h (rels:=[]) (z0n (i:=2) (p_op z3w z0a (p_op z2j (p_ca (z1N T) T.z1E hr (z03 (z01 0) (z03 z0a z08))) z0a)) z1l.nd rfl (Or.inr rfl) rfl (Or.inl rfl)))
   (z07 (asn 3 (p_op z2j (p_ca (z1N T) T.z1E hr (z03 (z01 0) (z03 z0a z08))) z0a) z1l.nd)
   (z07 (s_if (t_cm (o_eq hu) (p_op z2j (p_ca (z1N T) T.z1E hr (z03 (z01 0) (z03 z0a z08))) z0a) z0a) (z07 (z1h (rels:=[]) (z0n (i:=2) z0a z1l.nd rfl (Or.inr rfl) rfl (Or.inl rfl)))
   (z07 (asn 3 z0a z1l.nd)
   (z09 (z1h (rels:=[]) (z0n (i:=1) z0a z1l.nd rfl (Or.inr rfl) rfl (Or.inl rfl)))))) z0R)
   (z07 (s_if (t_cm (o_eq hu) (z01 1) z0a) (z07 (z1h (rels:=[]) (z0n (i:=2) (p_op z3w z0a (p_op z2j (z01 2) z0a)) z1l.nd rfl (Or.inr rfl) rfl (Or.inl rfl)))
   (z09 (asn 3 (p_op z2j (z01 3) z0a) z1l.nd))) z0R)
   (z09 (z0i (@z6a _ _ _ _ _ (@z03 _ _ _ _ _ (z01 2) (@z03 _ _ _ _ _ (p_co ["_law_k", "_law_script", "_law_kinds", "_law_mode"] 1 [0,2,1] ["_law_script", "_law_mode", "_law_kinds", "_law_many"] (z04 z64).names (z1x rfl T.z1O (z01 3)) (λ_ _ _ _ _=>(p_ca (zlL T) T.zjs hr (z03 (z01 1) (z03 (p_op z3w z0a (p_op z6O (z01 2) (z01 0))) (z03 (z01 2) (z03 (z01 3) z08))))))) z08 rfl) rfl))))))))))
theorem zkj(T:Facts K mg A):FnOk P w K mg base CX0 1 A.zef A.zeg ["_law_cell", "_law_part"] (spc K true z1T) :=
 T.zej.d 0 z45 zbq (λ_ _ _ _ _ _ hr hu =>
  (z07 (s_if (t_cm (o_eq hu) (z01 1) z0a) (z07 (asn 2 (p_op z2j (z01 0) (p_op zd9 z0a z0a)) zbq.nd)
   (z07 (s_if (t_cm (o_eq hu) (p_op z2j (p_op z3h (z01 0) z0a) z0a) z0a) (z09 (z0i (zdc (z01 2)))) z0R)
   (z09 (z0i (z01 2))))) z0R)
   (z07 (s_if (t_cm (o_eq hu) (p_op z2j (z01 0) z0a) z0a) (z09 (z0i (p_op z2j (p_op zd8 (p_op zd8 (z01 1) z0a) (p_op z2j (p_op z3h (z01 0) z0a) z0a)) (z01 1)))) z0R)
   (z09 (z0i (p_op z2j (p_op z2j (z01 0) (p_op zd9 z0a z0a)) (z01 1)))))))
theorem ok_law(T:Facts K mg A):FnOk P w K mg base CX0 10 A.a_law A.zjn ["_law_script"] (spc K true zj) :=
 T.f_law.d 9 zlo z4J (λ_ _ _ _ _ _ hr hu =>
  (z07 (asn 1 (p_ca (zfn T) T.zc3 hr (z03 (z01 0) z08)) z4J.nd)
   (z07 (asn 2 (p_ca (zfh T) T.zbY hr (z03 (p_i (z01 1) z0a) (z03 (p_co ["_law_bill"] 1 [] ["_law_script", "_law_drawn", "_law_hall", "_law_sizes", "_law_numbers", "_law_handed", "_law_basket", "_law_kept", "_law_found"] (z04 zdY).names (z1o (p_i (z01 1) z0a)) (λ_ _ _ _ _=>(p_ty z6R T.z2S (z03 (z01 0) z08)))) z08))) z4J.nd)
   (z07 (z1h (rels:=[]) (z0n (i:=3) (p_ca (zlJ T) T.zjq hr (z03 (z01 2) z08)) z4J.nd rfl (Or.inr rfl) rfl (Or.inl rfl)))
   (z07 (z1h (rels:=[]) (a_co 4 z4J.nd ["_law_k", "_law_script", "_law_sizes"] 1 [0,3] ["_law_script", "_law_drawn", "_law_hall", "_law_sizes", "_law_numbers", "_law_handed", "_law_basket", "_law_kept", "_law_found"] (z04 zdY).names (z1x rfl T.z1O (p_i (z01 1) z0a)) (λ_ _ _ _ _=>(p_ca (zkj T) T.zej hr (z03 (p_ca (z1N T) T.z1E hr (z03 (z01 1) (z03 (p_op z3w z0a (z01 0)) z08))) (z03 (p_i (z01 2) (z01 0)) z08))))))
   (z07 (asn 5 (p_ty z6R T.z2S (z03 (z01 4) z08)) z4J.nd)
   (z07 (asn 6 (p_ca (zcT T) T.z8S hr (z03 (z01 2) (z03 (z01 5) z08))) z4J.nd)
   (z07 (s_if (PFW.pt (w_or (t_cm (o_ne hu) (z01 5) (z01 4)) (zda (z69 (z4R (p_ca (z8E T) T.z6M hr (z03 (z01 6) (z03 (p_i (z01 1) z0a) z08))) (λ_=>rfl)))))) (z09 (z0i p_bl)) z0R)
   (z07 (asn 7 (p_ty z6R T.z2S (z03 (z01 6) z08)) z4J.nd)
   (z07 (asn 8 (p_ca (zlK T) T.zjr hr (z03 (z01 2) (z03 (z01 6) z08))) z4J.nd)
   (z09 (z0i (zaU (p_cm (o_eq hu) (z01 6) (z01 7)) (zaU (p_ca (z8E T) T.z6M hr (z03 (z01 8) (z03 (p_i (z01 1) z0a) z08))) (zdb (p_cm (o_eq hu) (z01 8) (z01 4)))))))))))))))))
end
theorem zlM{l:PySem.W.OpenLaw}{w:World}{K:PySem.W.Frag}{h:Heap}{mg:Str->Option Value}{fa:Addr}(X:K.In h)(G:h.Ns mainGlobals mg)(hfa:mg "law" = some (.ref fa))
  {a0:Addr} (h0:Dh K "is_whole" z6C a0)
  {a1:Addr} (h1:Dh K "is_row" z7e a1)
  {a2:Addr} (h2:Dh K "noughts" z5Z a2)
  {a3:Addr} (h3:Dh K "unit_row" z4B a3)
  {a4:Addr} (h4:Dh K "added" z95 a4)
  {a5:Addr} (h5:Dh K "taken" z96 a5)
  {a6:Addr} (h6:Dh K "scaled" z7f a6)
  {a7:Addr} (h7:Dh K "weighed" z60 a7)
  {a8:Addr} (h8:Dh K "mixed" zcI a8)
  {a9:Addr} (h9:Dh K "head_at" z89 a9)
  {a10:Addr} (h10:Dh K "are_kinds" z5n a10)
  {a11:Addr} (h11:Dh K "is_bill" z61 a11)
  {a12:Addr} (h12:Dh K "need_kinds" z4C a12)
  {a13:Addr} (h13:Dh K "need_bill" z5o a13)
  {a14:Addr} (h14:Dh K "hall_by" z62 a14)
  {a15:Addr} (h15:Dh K "hall_of" z8a a15)
  {a16:Addr} (h16:Dh K "need_basket_of" z2x a16)
  {a17:Addr} (h17:Dh K "need_basket" z3P a17)
  {a18:Addr} (h18:Dh K "bridge" z5p a18)
  {a19:Addr} (h19:Dh K "rest" zfb a19)
  {a20:Addr} (h20:Dh K "product" z8b a20)
  {a21:Addr} (h21:Dh K "lowering" z6E a21)
  {a22:Addr} (h22:Dh K "lowered" z8c a22)
  {a23:Addr} (h23:Dh K "crossed" z8d a23)
  {a24:Addr} (h24:Dh K "turned_up" z5q a24)
  {a25:Addr} (h25:Dh K "with_row" z4E a25)
  {a26:Addr} (h26:Dh K "evened" zaa a26)
  {a27:Addr} (h27:Dh K "climbed" z8f a27)
  {a28:Addr} (h28:Dh K "tagged_stair" z2h a28)
  {a29:Addr} (h29:Dh K "tags_of_rungs" z1W a29)
  {a30:Addr} (h30:Dh K "tags_at_nought" z1M a30)
  {a31:Addr} (h31:Dh K "stair" zcM a31)
  {a32:Addr} (h32:Dh K "turned" z7i a32)
  {a33:Addr} (h33:Dh K "is_slant" z4G a33)
  {a34:Addr} (h34:Dh K "rests" z97 a34)
  {a35:Addr} (h35:Dh K "slanted" z3d a35)
  {a36:Addr} (h36:Dh K "linked" zab a36)
  {a37:Addr} (h37:Dh K "chained" z63 a37)
  {a38:Addr} (h38:Dh K "measures" z1C a38)
  {a39:Addr} (h39:Dh K "parts" z98 a39)
  {a40:Addr} (h40:Dh K "place_by" z4H a40)
  {a41:Addr} (h41:Dh K "place" zcN a41)
  {a42:Addr} (h42:Dh K "need_place" z4I a42)
  {a43:Addr} (h43:Dh K "baskets_by" z1k a43)
  {a44:Addr} (h44:Dh K "basket_at" z5s a44)
  {a45:Addr} (h45:Dh K "_law_cell_at" z5t a45)
  {a46:Addr} (h46:Dh K "_law_whole" z8h a46)
  {a47:Addr} (h47:Dh K "_law_is_row" z6F a47)
  {a48:Addr} (h48:Dh K "_law_number" z6G a48)
  {a49:Addr} (h49:Dh K "_law_row" z99 a49)
  {a50:Addr} (h50:Dh K "_law_bills" z64 a50)
  {a51:Addr} (h51:Dh K "_law_rest" zac a51)
  {a52:Addr} (h52:Dh K "law" zdY a52)
  (z_abs:PySem.W.nsIn K mainGlobals "abs" = some none)
  (z_all:PySem.W.nsIn K mainGlobals "all" = some none)
  (z_any:PySem.W.nsIn K mainGlobals "any" = some none)
  (z_bool:PySem.W.nsIn K mainGlobals "bool" = some none)
  (z_enumerate:PySem.W.nsIn K mainGlobals "enumerate" = some none)
  (z_int:PySem.W.nsIn K mainGlobals "int" = some none)
  (z_isinstance:PySem.W.nsIn K mainGlobals "isinstance" = some none)
  (z_len:PySem.W.nsIn K mainGlobals "len" = some none)
  (z_list:PySem.W.nsIn K mainGlobals "list" = some none)
  (z_range:PySem.W.nsIn K mainGlobals "range" = some none)
  (z_reversed:PySem.W.nsIn K mainGlobals "reversed" = some none)
  (z_sorted:PySem.W.nsIn K mainGlobals "sorted" = some none)
  (z_sum:PySem.W.nsIn K mainGlobals "sum" = some none)
  (z_tuple:PySem.W.nsIn K mainGlobals "tuple" = some none)
  (z_zip:PySem.W.nsIn K mainGlobals "zip" = some none)
  {z32:Tok} (y_MOST_BILLS:PySem.W.nsIn K mainGlobals "MOST_BILLS" = some (some (.int 8 z32)))
  {z33:Tok} (y_MOST_KINDS:PySem.W.nsIn K mainGlobals "MOST_KINDS" = some (some (.int 6 z33)))
  : ∃ fd:FuncData,(∀(s:Shared) (u:Value),BindsTo s fd ⟨[u],[]⟩ [("_law_script",u)])/\∀ base:Heap,K.In base->base.Ns mainGlobals mg->FnOk l.prog w K mg base CX0 10 fa fd ["_law_script"] (spc K true zj):=by
 obtain⟨d0,q0,b0⟩:=h0.df (ps:=["value"]) X G (λ_ _ _ _ _ _=>us1 (λ_=>rfl));obtain⟨d1,q1,b1⟩:=h1.df (ps:=["value", "length"]) X G (λ_ _ _ _ _ _=>us2 (λ_ _=>rfl));obtain⟨d2,q2,b2⟩:=h2.df (ps:=["length"]) X G (λ_ _ _ _ _ _=>us1 (λ_=>rfl));obtain⟨d3,q3,b3⟩:=h3.df (ps:=["length", "one_at"]) X G (λ_ _ _ _ _ _=>us2 (λ_ _=>rfl));obtain⟨d4,q4,b4⟩:=h4.df (ps:=["one", "other"]) X G (λ_ _ _ _ _ _=>us2 (λ_ _=>rfl));obtain⟨d5,q5,b5⟩:=h5.df (ps:=["one", "other"]) X G (λ_ _ _ _ _ _=>us2 (λ_ _=>rfl));obtain⟨d6,q6,b6⟩:=h6.df (ps:=["row", "often"]) X G (λ_ _ _ _ _ _=>us2 (λ_ _=>rfl));obtain⟨d7,q7,b7⟩:=h7.df (ps:=["row", "weights"]) X G (λ_ _ _ _ _ _=>us2 (λ_ _=>rfl));obtain⟨d8,q8,b8⟩:=h8.df (ps:=["rows", "counts", "length"]) X G (λ_ _ _ _ _ _=>us3 (λ_ _ _=>rfl));obtain⟨d9,q9,b9⟩:=h9.df (ps:=["row"]) X G (λ_ _ _ _ _ _=>us1 (λ_=>rfl));obtain⟨d10,q10,b10⟩:=h10.df (ps:=["value"]) X G (λ_ _ _ _ _ _=>us1 (λ_=>rfl));obtain⟨d11,q11,b11⟩:=h11.df (ps:=["value", "kinds"]) X G (λ_ _ _ _ _ _=>us2 (λ_ _=>rfl));obtain⟨d12,q12,b12⟩:=h12.df (ps:=["kinds"]) X G (λ_ _ _ _ _ _=>us1 (λ_=>rfl));obtain⟨d13,q13,b13⟩:=h13.df (ps:=["bill", "kinds"]) X G (λ_ _ _ _ _ _=>us2 (λ_ _=>rfl));obtain⟨d14,q14,b14⟩:=h14.df (ps:=["kinds", "rows"]) X G (λ_ _ _ _ _ _=>us2 (λ_ _=>rfl));obtain⟨d15,q15,b15⟩:=h15.df (ps:=["kinds", "bills"]) X G (λ_ _ _ _ _ _=>us2 (λ_ _=>rfl));obtain⟨d16,q16,b16⟩:=h16.df (ps:=["kinds", "basket"]) X G (λ_ _ _ _ _ _=>us2 (λ_ _=>rfl));obtain⟨d17,q17,b17⟩:=h17.df (ps:=["hall", "basket"]) X G (λ_ _ _ _ _ _=>us2 (λ_ _=>rfl));obtain⟨d18,q18,b18⟩:=h18.df (ps:=["a", "b"]) X G (λ_ _ _ _ _ _=>us2 (λ_ _=>rfl));obtain⟨d19,q19,b19⟩:=h19.df (ps:=["a", "part"]) X G (λ_ _ _ _ _ _=>us2 (λ_ _=>rfl));obtain⟨d20,q20,b20⟩:=h20.df (ps:=["numbers"]) X G (λ_ _ _ _ _ _=>us1 (λ_=>rfl));obtain⟨d21,q21,b21⟩:=h21.df (ps:=["row", "rungs"]) X G (λ_ _ _ _ _ _=>us2 (λ_ _=>rfl));obtain⟨d22,q22,b22⟩:=h22.df (ps:=["row", "rungs"]) X G (λ_ _ _ _ _ _=>us2 (λ_ _=>rfl));obtain⟨d23,q23,b23⟩:=h23.df (ps:=["rung", "row"]) X G (λ_ _ _ _ _ _=>us2 (λ_ _=>rfl));obtain⟨d24,q24,b24⟩:=h24.df (ps:=["row"]) X G (λ_ _ _ _ _ _=>us1 (λ_=>rfl));obtain⟨d25,q25,b25⟩:=h25.df (ps:=["rungs", "row"]) X G (λ_ _ _ _ _ _=>us2 (λ_ _=>rfl));obtain⟨d26,q26,b26⟩:=h26.df (ps:=["rungs"]) X G (λ_ _ _ _ _ _=>us1 (λ_=>rfl));obtain⟨d27,q27,b27⟩:=h27.df (ps:=["rows"]) X G (λ_ _ _ _ _ _=>us1 (λ_=>rfl));obtain⟨d28,q28,b28⟩:=h28.df (ps:=["rows", "tags"]) X G (λ_ _ _ _ _ _=>us2 (λ_ _=>rfl));obtain⟨d29,q29,b29⟩:=h29.df (ps:=["rungs", "width"]) X G (λ_ _ _ _ _ _=>us2 (λ_ _=>rfl));obtain⟨d30,q30,b30⟩:=h30.df (ps:=["rungs", "width"]) X G (λ_ _ _ _ _ _=>us2 (λ_ _=>rfl));obtain⟨d31,q31,b31⟩:=h31.df (ps:=["hall"]) X G (λ_ _ _ _ _ _=>us1 (λ_=>rfl));obtain⟨d32,q32,b32⟩:=h32.df (ps:=["rows", "width"]) X G (λ_ _ _ _ _ _=>us2 (λ_ _=>rfl));obtain⟨d33,q33,b33⟩:=h33.df (ps:=["rows"]) X G (λ_ _ _ _ _ _=>us1 (λ_=>rfl));obtain⟨d34,q34,b34⟩:=h34.df (ps:=["row", "part"]) X G (λ_ _ _ _ _ _=>us2 (λ_ _=>rfl));obtain⟨d35,q35,b35⟩:=h35.df (ps:=["rows", "tags", "whole"]) X G (λ_ _ _ _ _ _=>us3 (λ_ _ _=>rfl))
 obtain⟨d36,q36,b36⟩:=h36.df (ps:=["one", "other"]) X G (λ_ _ _ _ _ _=>us2 (λ_ _=>rfl));obtain⟨d37,q37,b37⟩:=h37.df (ps:=["measured"]) X G (λ_ _ _ _ _ _=>us1 (λ_=>rfl));obtain⟨d38,q38,b38⟩:=h38.df (ps:=["hall"]) X G (λ_ _ _ _ _ _=>us1 (λ_=>rfl));obtain⟨d39,q39,b39⟩:=h39.df (ps:=["hall"]) X G (λ_ _ _ _ _ _=>us1 (λ_=>rfl));obtain⟨d40,q40,b40⟩:=h40.df (ps:=["measured", "basket"]) X G (λ_ _ _ _ _ _=>us2 (λ_ _=>rfl));obtain⟨d41,q41,b41⟩:=h41.df (ps:=["hall", "basket"]) X G (λ_ _ _ _ _ _=>us2 (λ_ _=>rfl));obtain⟨d42,q42,b42⟩:=h42.df (ps:=["measured", "numbers"]) X G (λ_ _ _ _ _ _=>us2 (λ_ _=>rfl));obtain⟨d43,q43,b43⟩:=h43.df (ps:=["measured"]) X G (λ_ _ _ _ _ _=>us1 (λ_=>rfl));obtain⟨d44,q44,b44⟩:=h44.df (ps:=["hall", "numbers"]) X G (λ_ _ _ _ _ _=>us2 (λ_ _=>rfl));obtain⟨d45,q45,b45⟩:=h45.df (ps:=["_law_script", "_law_k"]) X G (λ_ _ _ _ _ _=>us2 (λ_ _=>rfl));obtain⟨d46,q46,b46⟩:=h46.df (ps:=["_law_found"]) X G (λ_ _ _ _ _ _=>us1 (λ_=>rfl));obtain⟨d47,q47,b47⟩:=h47.df (ps:=["_law_found", "_law_size"]) X G (λ_ _ _ _ _ _=>us2 (λ_ _=>rfl));obtain⟨d48,q48,b48⟩:=h48.df (ps:=["_law_cell", "_law_mode"]) X G (λ_ _ _ _ _ _=>us2 (λ_ _=>rfl));obtain⟨d49,q49,b49⟩:=h49.df (ps:=["_law_script", "_law_at", "_law_size", "_law_mode"]) X G (λ_ _ _ _ _ _=>us4 (λ_ _ _ _=>rfl));obtain⟨d50,q50,b50⟩:=h50.df (ps:=["_law_script"]) X G (λ_ _ _ _ _ _=>us1 (λ_=>rfl));obtain⟨d51,q51,b51⟩:=h51.df (ps:=["_law_cell", "_law_part"]) X G (λ_ _ _ _ _ _=>us2 (λ_ _=>rfl));obtain⟨d52,q52,b52⟩:=h52.df (ps:=["_law_script"]) X G (λ_ _ _ _ _ _=>us1 (λ_=>rfl));have key:∃ A:Adr,Facts K mg A/\∀(s:Shared) (u:Value),BindsTo s A.zjn ⟨[u],[]⟩ [("_law_script",u)]:=⟨⟨a0,d0,a1,d1,a2,d2,a3,d3,a4,d4,a5,d5,a6,d6,a7,d7,a8,d8,a9,d9,a10,d10,a11,d11,a12,d12,a13,d13,a14,d14,a15,d15,a16,d16,a17,d17,a18,d18,a19,d19,a20,d20,a21,d21,a22,d22,a23,d23,a24,d24,a25,d25,a26,d26,a27,d27,a28,d28,a29,d29,a30,d30,a31,d31,a32,d32,a33,d33,a34,d34,a35,d35,a36,d36,a37,d37,a38,d38,a39,d39,a40,d40,a41,d41,a42,d42,a43,d43,a44,d44,a45,d45,a46,d46,a47,d47,a48,d48,a49,d49,a50,d50,a51,d51,a52,d52,z32,z33⟩,⟨PySem.W.mg_none_of X G z_abs,PySem.W.mg_none_of X G z_all,PySem.W.mg_none_of X G z_any,PySem.W.mg_none_of X G z_bool,PySem.W.mg_none_of X G z_enumerate,PySem.W.mg_none_of X G z_int,PySem.W.mg_none_of X G z_isinstance,PySem.W.mg_none_of X G z_len,PySem.W.mg_none_of X G z_list,PySem.W.mg_none_of X G z_range,PySem.W.mg_none_of X G z_reversed,PySem.W.mg_none_of X G z_sorted,PySem.W.mg_none_of X G z_sum,PySem.W.mg_none_of X G z_tuple,PySem.W.mg_none_of X G z_zip,PySem.W.mg_of X G y_MOST_BILLS,PySem.W.mg_of X G y_MOST_KINDS,q0,q1,q2,q3,q4,q5,q6,q7,q8,q9,q10,q11,q12,q13,q14,q15,q16,q17,q18,q19,q20,q21,q22,q23,q24,q25,q26,q27,q28,q29,q30,q31,q32,q33,q34,q35,q36,q37,q38,q39,q40,q41,q42,q43,q44,q45,q46,q47,q48,q49,q50,q51,q52⟩,λs u => .of_eq (b52 [u] rfl)⟩;obtain⟨A,FF,hb⟩:=key;have e:=hfa.symm.trans FF.f_law.mg;cases e;exact⟨A.zjn,hb,λbase _ _=>ok_law FF⟩
namespace H
noncomputable section
open PySem PySem.W PySem.Calls PyProof.Rows
abbrev pw:Program:=PySem.Challenge.pw_changehall_k17_places_there_and_back
abbrev vs(s:String)(t:Nat):Value := .str (Str.ofString s) t
abbrev de(P:Params)(s:String)(t:Nat)(v:Value):DictEntry:=⟨PyData.keyHash P (Str.ofString s),.str (Str.ofString s) t,v⟩
abbrev N:=BT.node
abbrev E:=BT.nil
abbrev ins(t:BT)(l:List (Nat×Obj)):BT:=l.foldl (λt x=>t.ins x.1 x.2) t
def fdT(s:Stmt)(g:Addr)(md cd:Value):FuncData:=match s with
 | .FunctionDef name args body _ _ _ scope _ _ _=>{ name:=name,qualname:=name,params:=args,body := .stmts body,scope:=scope,globals:=g,closure:=[],defaults := .none,kwdefaults := .none,pyModule:=md,code:=cd }
 | _=>default
abbrev tu(l:List Value):Obj:=⟨.type "tuple",none,.seq l.toArray 0,#[]⟩
abbrev fi(l:List Value):Obj:=⟨.none,none,.fields l.toArray,#[]⟩
abbrev fo(c:Value)(i:Nat)(g:Addr)(md cd:Value):Obj:=⟨c,none,.func (fdT (top i) g md cd),#[]⟩
abbrev co(a f:String)(t0 t1 t2:Nat)(l n z:Int)(r:Addr)(u:Bool)(v:Int)(s:Addr)(p q1 q2 q3:Value)(w:Int)(t3:Nat):Obj:=⟨.type "code",none,.fields #[vs a t0,vs a t1,vs f t2,.int l 0,.int n 0,.int 0 0,.int 0 0,.int z 0,.ref r,.bool u,.int v 0,.ref s,p,q1,q2,q3,.int w 0,.int l 0,vs f t3],#[]⟩
theorem te_go:@topGo=Fast.tw15667345088766844465:=Fast.te15667345088766844465
theorem te_sr:@segRun=Fast.tw14374325043358763698:=Fast.te14374325043358763698
theorem te_sT:@segRunT=Fast.tw10110043849684766642:=Fast.te10110043849684766642
theorem te_tr:@topRun=Fast.tw14082659384304107361:=Fast.te14082659384304107361
theorem te_tb:treeTable=Fast.tw14364793385576792824:=Fast.te14364793385576792824
theorem te_im:@importedModules=Fast.tw5923862056798008813:=Fast.te5923862056798008813
theorem te_seen:@seen=Fast.tw5160383126252970620:=Fast.te5160383126252970620
theorem te_recs:@recsOf=Fast.tw3399658132070893891:=Fast.te3399658132070893891
theorem te_owns:@ownsOf=Fast.tw5991557255702980513:=Fast.te5991557255702980513
theorem te_keys:@Heap.keysOk=Fast.tw10880121769531294198:=Fast.te10880121769531294198
theorem te_loose:@looseW=Fast.tw821141287760084731:=Fast.te821141287760084731
theorem te_lits:@litsOf=Fast.tw7409074990110511671:=Fast.te7409074990110511671
theorem te_clss:@clssOf=Fast.tw13664370479719496447:=Fast.te13664370479719496447
theorem te_acc:@Heap.accountedOkI=Fast.tw14722251495701143533:=Fast.te14722251495701143533
theorem te_tabl:@tablesOk=Fast.tw10994771534591457954:=Fast.te10994771534591457954
theorem te_tabs:@tabsOk=Fast.tw479339242167458305:=Fast.te479339242167458305
theorem te_pin:@pinSeenD=Fast.tw16090120013241838585:=Fast.te16090120013241838585
theorem te_drecs:@drecsOf=Fast.tw3247288618530077131:=Fast.te3247288618530077131
theorem te_pE:@plainSeenE=Fast.tw2386780881361962483:=Fast.te2386780881361962483
theorem te_pD:@plainSeenD=Fast.tw11698064438423848299:=Fast.te11698064438423848299
theorem te_wide:@wideSeen=Fast.tw7317090234206586261:=Fast.te7317090234206586261
theorem te_cls:@clsSeenW=Fast.tw7369524293546568484:=Fast.te7369524293546568484
theorem te_den:@denote=Fast.tw11892475500146522536:=Fast.te11892475500146522536
theorem te_ns:@Heap.nsMap=Fast.tw8920871248978507458:=Fast.te8920871248978507458
abbrev env:Env:={ scope:=pw.main.scope,locals:=mainNs,globals:=mainNs,cells:=[],code := .ref 13,frame:=some 14 }
abbrev cE:Code := .body (behindTheImports pw) env
abbrev fB:List Frame:=[topFrame ⟨0,0,0,0⟩]
abbrev ann:Option Value:=some (.ref 6)
abbrev o11a:=tu []
abbrev o12aL:List Value:=[]
abbrev o12a:=fi o12aL
abbrev o13a:=co "<module>" "/claim/cut.py" 182 183 184 1 0 0 11 false 181 12 .none .none .none .none 185 186
abbrev o14a:Obj:=⟨.type "frame",none,.plain,#[Option.some (PySem.Value.ref 13),Option.some (PySem.Value.ref 3),Option.some (PySem.Value.ref 3),Option.none,Option.some (PySem.Value.str (PySem.Str.ofString "__main__") 164),Option.none,Option.some (PySem.Value.ref 0)]⟩
abbrev ha(P:Params):Heap:=⟨⟨[boot_o_0 P,boot_o_1 P,boot_o_2 P,boot_o_3 P,boot_o_4 P,boot_o_5 P,boot_o_6 P,boot_o_7 P,boot_o_8 P,boot_o_9 P,boot_o_10 P,o11a,o12a,o13a,o14a]⟩,{ }⟩
theorem run_a(w:World)(os:OsState):topGo treeTable pw w 11 ann 12 ⟨boot_heap w.params,#[],boot_drawn,boot_toks,os⟩ (topStub pw)=some (⟨ha w.params,#[],{ },187,os⟩,⟨denote treeTable cE,cE,⟨0,0,0,0⟩,fB⟩):=by
 rewrite[te_go,te_den,te_tb];kernel_rfl
abbrev t0(P:Params):BT:=(N (boot_o_0 P) (N (boot_o_1 P) (N (boot_o_3 P) (N (boot_o_7 P) E E) (N (o11a) E E)) (N (boot_o_5 P) (N (boot_o_9 P) E E) (N (o13a) E E))) (N (boot_o_2 P) (N (boot_o_4 P) (N (boot_o_8 P) E E) (N (o12a) E E)) (N (boot_o_6 P) (N (boot_o_10 P) E E) (N (o14a) E E))))
abbrev s0(w:World)(os:OsState):SharedT:=⟨t0 w.params,15,{ },#[],{ },187,os⟩
theorem run_b(w:World)(os:OsState):segRun treeTable pw w 11 ann 1 1 ⟨ha w.params,#[],{ },187,os⟩ (blockOf (behindTheImports pw) env cE ⟨0,0,0,0⟩ fB)=some (.next,(s0 w os).abs,cE,⟨0,0,0,0⟩):=by
 rewrite[te_sr,te_tb];kernel_rfl
abbrev o3_1L(P:Params):List DictEntry:=[de P "__name__" 165 (vs "changehall.errors" 187),de P "__doc__" 166 .none,de P "__package__" 167 .none,de P "__loader__" 168 (.builtin "__main__.__loader__#opaque"),de P "__spec__" 169 .none,de P "__annotations__" 170 (.ref 6),de P "__builtins__" 171 (.ref 4),de P "__file__" 173 (vs "/claim/cut.py" 172),de P "__cached__" 174 .none,de P "HallError" 206 (.ref 24)]
abbrev o3_1(P:Params):Obj:=⟨.type "dict",none,.dict (o3_1L P).toArray 10,#[]⟩
abbrev zlN:List Value:=o12aL++[.int 2 0,.int 0 0,.ref 20]
abbrev o12_1:=fi zlN
abbrev zlO:=tu [.type "ValueError"]
abbrev o16_1:Obj:=⟨.type "builtin_function_or_method",none,.fields #[.builtin "type.__prepare__",.type "type"],#[]⟩
abbrev o17_1L(P:Params):List DictEntry:=[de P "__module__" 196 (vs "changehall.errors" 187),de P "__qualname__" 198 (vs "HallError" 197),de P "__firstlineno__" 200 (.int 2 199),de P "__static_attributes__" 201 (.ref 22)]
abbrev o17_1(P:Params):Obj:=⟨.type "dict",none,.dict (o17_1L P).toArray 4,#[]⟩
abbrev o18_1:=tu []
abbrev o19_1:=fi []
abbrev o20_1:=co "HallError" "/claim/cut.py" 191 192 193 2 0 0 18 false 181 19 .none .none .none .none 194 195
abbrev o21_1:Obj:=⟨.type "frame",none,.plain,#[Option.some (PySem.Value.ref 20),Option.some (PySem.Value.ref 3),Option.some (PySem.Value.ref 17),Option.none,Option.some (PySem.Value.str (PySem.Str.ofString "changehall.errors") 187),Option.none,Option.some (PySem.Value.ref 0)]⟩
abbrev zlP:=tu []
abbrev o23_1L(P:Params):List DictEntry:=[de P "__module__" 196 (vs "changehall.errors" 187),de P "__firstlineno__" 200 (.int 2 199),de P "__static_attributes__" 201 (.ref 22),de P "__weakref__" 203 (.ref 25),de P "__doc__" 204 .none]
abbrev zlQ(P:Params):Obj:=⟨.type "dict",none,.dict (o23_1L P).toArray 3,#[]⟩
abbrev o24_1:Obj:=⟨.type "type",none,.cls ({ name:=PySem.Str.ofString "HallError",bases:=[PySem.Value.type "ValueError"],mro:=[PySem.Value.ref 24,PySem.Value.type "ValueError",PySem.Value.type "Exception",PySem.Value.type "BaseException",PySem.Value.type "object"],ns:=23,qualname:=PySem.Str.ofString "HallError" }),#[Option.some (PySem.Value.ref 15),Option.none,Option.some (PySem.Value.str (PySem.Str.ofString "HallError") 189),Option.some (PySem.Value.str (PySem.Str.ofString "HallError") 197),Option.some (PySem.Value.builtin "ValueError.__new__"),Option.some (PySem.Value.bool vH)]⟩
abbrev zlR:Obj:=⟨.type "getset_descriptor",none,.fields #[vs "__weakref__" 202,.ref 24,.builtin "ExceptionGroup.__weakref__",.none],#[]⟩
abbrev o26_1:Obj:=⟨.type "super",none,.fields #[.ref 24,.ref 24,.ref 24],#[]⟩
abbrev o27_1:Obj:=⟨.type "builtin_function_or_method",none,.fields #[.builtin "object.__init_subclass__",.ref 24],#[]⟩
abbrev t1(P:Params):BT:=ins (t0 P) [(3,o3_1 P),(12,o12_1),(15,zlO),(16,o16_1),(17,o17_1 P),(18,o18_1),(19,o19_1),(20,o20_1),(21,o21_1),(22,zlP),(23,zlQ P),(24,o24_1),(25,zlR),(26,o26_1),(27,o27_1)]
abbrev s1(w:World)(os:OsState):SharedT:=⟨t1 w.params,28,{ },#[],{ },207,os⟩
abbrev l0:List Stmt:=[top 0,top 1]
theorem run_0(w:World)(os:OsState):segRunT treeTable pw w 11 ann 1 196 (s0 w os) (piecesOf l0 env cE ⟨0,0,0,0⟩ fB)=some (.next,s1 w os,cE,⟨2,0,3,8⟩):=by
 rewrite[te_sT,te_tb];kernel_rfl
abbrev o3_2L(P:Params):List DictEntry:=de P "__name__" 165 (vs "changehall.errors" 187)::(o3_1L P).tail++[de P "NoHall" 222 (.ref 37)]
abbrev o3_2(P:Params):Obj:=⟨.type "dict",none,.dict (o3_2L P).toArray 11,#[]⟩
abbrev zlS:List Value:=zlN++[.int 4 0,.int 0 0,.ref 33]
abbrev o12_2:=fi zlS
abbrev o24_2:Obj:=⟨.type "type",none,.cls ({ name:=PySem.Str.ofString "HallError",bases:=[PySem.Value.type "ValueError"],mro:=[PySem.Value.ref 24,PySem.Value.type "ValueError",PySem.Value.type "Exception",PySem.Value.type "BaseException",PySem.Value.type "object"],ns:=23,qualname:=PySem.Str.ofString "HallError",subclasses:=[PySem.Value.ref 37] }),#[Option.some (PySem.Value.ref 15),Option.none,Option.some (PySem.Value.str (PySem.Str.ofString "HallError") 189),Option.some (PySem.Value.str (PySem.Str.ofString "HallError") 197),Option.some (PySem.Value.builtin "ValueError.__new__"),Option.some (PySem.Value.bool vH)]⟩
abbrev zlT:=tu [.ref 24]
abbrev o29_2:Obj:=⟨.type "builtin_function_or_method",none,.fields #[.builtin "type.__prepare__",.type "type"],#[]⟩
abbrev o30_2L(P:Params):List DictEntry:=[de P "__module__" 214 (vs "changehall.errors" 187),de P "__qualname__" 216 (vs "NoHall" 215),de P "__firstlineno__" 218 (.int 4 217),de P "__static_attributes__" 219 (.ref 35)]
abbrev o30_2(P:Params):Obj:=⟨.type "dict",none,.dict (o30_2L P).toArray 4,#[]⟩
abbrev o31_2:=tu []
abbrev o32_2:=fi []
abbrev o33_2:=co "NoHall" "/claim/cut.py" 209 210 211 4 0 0 31 false 181 32 .none .none .none .none 212 213
abbrev o34_2:Obj:=⟨.type "frame",none,.plain,#[Option.some (PySem.Value.ref 33),Option.some (PySem.Value.ref 3),Option.some (PySem.Value.ref 30),Option.none,Option.some (PySem.Value.str (PySem.Str.ofString "changehall.errors") 187),Option.none,Option.some (PySem.Value.ref 0)]⟩
abbrev zlU:=tu []
abbrev o36_2L(P:Params):List DictEntry:=[de P "__module__" 214 (vs "changehall.errors" 187),de P "__firstlineno__" 218 (.int 4 217),de P "__static_attributes__" 219 (.ref 35),de P "__doc__" 220 .none]
abbrev zlV(P:Params):Obj:=⟨.type "dict",none,.dict (o36_2L P).toArray 2,#[]⟩
abbrev zlW:Obj:=⟨.type "type",none,.cls ({ name:=PySem.Str.ofString "NoHall",bases:=[PySem.Value.ref 24],mro:=[PySem.Value.ref 37,PySem.Value.ref 24,PySem.Value.type "ValueError",PySem.Value.type "Exception",PySem.Value.type "BaseException",PySem.Value.type "object"],ns:=36,qualname:=PySem.Str.ofString "NoHall" }),#[Option.some (PySem.Value.ref 28),Option.none,Option.some (PySem.Value.str (PySem.Str.ofString "NoHall") 207),Option.some (PySem.Value.str (PySem.Str.ofString "NoHall") 215),Option.some (PySem.Value.builtin "ValueError.__new__"),Option.some (PySem.Value.bool vH)]⟩
abbrev o38_2:Obj:=⟨.type "super",none,.fields #[.ref 37,.ref 37,.ref 37],#[]⟩
abbrev o39_2:Obj:=⟨.type "builtin_function_or_method",none,.fields #[.builtin "object.__init_subclass__",.ref 37],#[]⟩
abbrev t2(P:Params):BT:=ins (t1 P) [(3,o3_2 P),(12,o12_2),(24,o24_2),(28,zlT),(29,o29_2),(30,o30_2 P),(31,o31_2),(32,o32_2),(33,o33_2),(34,o34_2),(35,zlU),(36,zlV P),(37,zlW),(38,o38_2),(39,o39_2)]
abbrev s2(w:World)(os:OsState):SharedT:=⟨t2 w.params,40,{ },#[],{ },223,os⟩
abbrev l1:List Stmt:=[top 2]
theorem run_1(w:World)(os:OsState):segRunT treeTable pw w 11 ann 1 214 (s1 w os) (piecesOf l1 env cE ⟨2,0,3,8⟩ fB)=some (.next,s2 w os,cE,⟨4,0,5,8⟩):=by
 rewrite[te_sT,te_tb];kernel_rfl
abbrev o3_3L(P:Params):List DictEntry:=de P "__name__" 165 (vs "changehall.errors" 187)::(o3_2L P).tail++[de P "NoBasket" 238 (.ref 49)]
abbrev o3_3(P:Params):Obj:=⟨.type "dict",none,.dict (o3_3L P).toArray 12,#[]⟩
abbrev zlX:List Value:=zlS++[.int 6 0,.int 0 0,.ref 45]
abbrev o12_3:=fi zlX
abbrev o24_3:Obj:=⟨.type "type",none,.cls ({ name:=PySem.Str.ofString "HallError",bases:=[PySem.Value.type "ValueError"],mro:=[PySem.Value.ref 24,PySem.Value.type "ValueError",PySem.Value.type "Exception",PySem.Value.type "BaseException",PySem.Value.type "object"],ns:=23,qualname:=PySem.Str.ofString "HallError",subclasses:=[PySem.Value.ref 37,PySem.Value.ref 49] }),#[Option.some (PySem.Value.ref 15),Option.none,Option.some (PySem.Value.str (PySem.Str.ofString "HallError") 189),Option.some (PySem.Value.str (PySem.Str.ofString "HallError") 197),Option.some (PySem.Value.builtin "ValueError.__new__"),Option.some (PySem.Value.bool vH)]⟩
abbrev zlY:=tu [.ref 24]
abbrev o41_3:Obj:=⟨.type "builtin_function_or_method",none,.fields #[.builtin "type.__prepare__",.type "type"],#[]⟩
abbrev o42_3L(P:Params):List DictEntry:=[de P "__module__" 230 (vs "changehall.errors" 187),de P "__qualname__" 232 (vs "NoBasket" 231),de P "__firstlineno__" 234 (.int 6 233),de P "__static_attributes__" 235 (.ref 47)]
abbrev o42_3(P:Params):Obj:=⟨.type "dict",none,.dict (o42_3L P).toArray 4,#[]⟩
abbrev o43_3:=tu []
abbrev o44_3:=fi []
abbrev o45_3:=co "NoBasket" "/claim/cut.py" 225 226 227 6 0 0 43 false 181 44 .none .none .none .none 228 229
abbrev o46_3:Obj:=⟨.type "frame",none,.plain,#[Option.some (PySem.Value.ref 45),Option.some (PySem.Value.ref 3),Option.some (PySem.Value.ref 42),Option.none,Option.some (PySem.Value.str (PySem.Str.ofString "changehall.errors") 187),Option.none,Option.some (PySem.Value.ref 0)]⟩
abbrev zlZ:=tu []
abbrev o48_3L(P:Params):List DictEntry:=[de P "__module__" 230 (vs "changehall.errors" 187),de P "__firstlineno__" 234 (.int 6 233),de P "__static_attributes__" 235 (.ref 47),de P "__doc__" 236 .none]
abbrev zm(P:Params):Obj:=⟨.type "dict",none,.dict (o48_3L P).toArray 2,#[]⟩
abbrev zm0:Obj:=⟨.type "type",none,.cls ({ name:=PySem.Str.ofString "NoBasket",bases:=[PySem.Value.ref 24],mro:=[PySem.Value.ref 49,PySem.Value.ref 24,PySem.Value.type "ValueError",PySem.Value.type "Exception",PySem.Value.type "BaseException",PySem.Value.type "object"],ns:=48,qualname:=PySem.Str.ofString "NoBasket" }),#[Option.some (PySem.Value.ref 40),Option.none,Option.some (PySem.Value.str (PySem.Str.ofString "NoBasket") 223),Option.some (PySem.Value.str (PySem.Str.ofString "NoBasket") 231),Option.some (PySem.Value.builtin "ValueError.__new__"),Option.some (PySem.Value.bool vH)]⟩
abbrev o50_3:Obj:=⟨.type "super",none,.fields #[.ref 49,.ref 49,.ref 49],#[]⟩
abbrev o51_3:Obj:=⟨.type "builtin_function_or_method",none,.fields #[.builtin "object.__init_subclass__",.ref 49],#[]⟩
abbrev t3(P:Params):BT:=ins (t2 P) [(3,o3_3 P),(12,o12_3),(24,o24_3),(40,zlY),(41,o41_3),(42,o42_3 P),(43,o43_3),(44,o44_3),(45,o45_3),(46,o46_3),(47,zlZ),(48,zm P),(49,zm0),(50,o50_3),(51,o51_3)]
abbrev s3(w:World)(os:OsState):SharedT:=⟨t3 w.params,52,{ },#[],{ },239,os⟩
abbrev l2:List Stmt:=[top 3]
theorem run_2(w:World)(os:OsState):segRunT treeTable pw w 11 ann 1 214 (s2 w os) (piecesOf l2 env cE ⟨4,0,5,8⟩ fB)=some (.next,s3 w os,cE,⟨6,0,7,8⟩):=by
 rewrite[te_sT,te_tb];kernel_rfl
abbrev o3_4L(P:Params):List DictEntry:=de P "__name__" 165 (vs "changehall.rows" 255)::(o3_3L P).tail++[de P "NoPlace" 254 (.ref 61),de P "is_whole" 263 (.ref 70),de P "is_row" 269 (.ref 75),de P "noughts" 275 (.ref 80),de P "unit_row" 281 (.ref 85),de P "added" 287 (.ref 90),de P "taken" 293 (.ref 95)]
abbrev o3_4(P:Params):Obj:=⟨.type "dict",none,.dict (o3_4L P).toArray 19,#[]⟩
abbrev zm1:List Value:=zlX++[.int 8 0,.int 0 0,.ref 57,.int 11 0,.int 0 0,.ref 69,.int 13 0,.int 0 0,.ref 74,.int 17 0,.int 0 0,.ref 79,.int 19 0,.int 0 0,.ref 84,.int 21 0,.int 0 0,.ref 89,.int 23 0,.int 0 0,.ref 94]
abbrev o12_4:=fi zm1
abbrev zm2:Obj:=⟨.type "type",none,.cls ({ name:=PySem.Str.ofString "HallError",bases:=[PySem.Value.type "ValueError"],mro:=[PySem.Value.ref 24,PySem.Value.type "ValueError",PySem.Value.type "Exception",PySem.Value.type "BaseException",PySem.Value.type "object"],ns:=23,qualname:=PySem.Str.ofString "HallError",subclasses:=[PySem.Value.ref 37,PySem.Value.ref 49,PySem.Value.ref 61] }),#[Option.some (PySem.Value.ref 15),Option.none,Option.some (PySem.Value.str (PySem.Str.ofString "HallError") 189),Option.some (PySem.Value.str (PySem.Str.ofString "HallError") 197),Option.some (PySem.Value.builtin "ValueError.__new__"),Option.some (PySem.Value.bool vH)]⟩
abbrev zm3:=tu [.ref 24]
abbrev o53_4:Obj:=⟨.type "builtin_function_or_method",none,.fields #[.builtin "type.__prepare__",.type "type"],#[]⟩
abbrev o54_4L(P:Params):List DictEntry:=[de P "__module__" 246 (vs "changehall.errors" 187),de P "__qualname__" 248 (vs "NoPlace" 247),de P "__firstlineno__" 250 (.int 8 249),de P "__static_attributes__" 251 (.ref 59)]
abbrev o54_4(P:Params):Obj:=⟨.type "dict",none,.dict (o54_4L P).toArray 4,#[]⟩
abbrev o55_4:=tu []
abbrev o56_4:=fi []
abbrev o57_4:=co "NoPlace" "/claim/cut.py" 241 242 243 8 0 0 55 false 181 56 .none .none .none .none 244 245
abbrev o58_4:Obj:=⟨.type "frame",none,.plain,#[Option.some (PySem.Value.ref 57),Option.some (PySem.Value.ref 3),Option.some (PySem.Value.ref 54),Option.none,Option.some (PySem.Value.str (PySem.Str.ofString "changehall.errors") 187),Option.none,Option.some (PySem.Value.ref 0)]⟩
abbrev zm4:=tu []
abbrev o60_4L(P:Params):List DictEntry:=[de P "__module__" 246 (vs "changehall.errors" 187),de P "__firstlineno__" 250 (.int 8 249),de P "__static_attributes__" 251 (.ref 59),de P "__doc__" 252 .none]
abbrev zm5(P:Params):Obj:=⟨.type "dict",none,.dict (o60_4L P).toArray 2,#[]⟩
abbrev zm6:Obj:=⟨.type "type",none,.cls ({ name:=PySem.Str.ofString "NoPlace",bases:=[PySem.Value.ref 24],mro:=[PySem.Value.ref 61,PySem.Value.ref 24,PySem.Value.type "ValueError",PySem.Value.type "Exception",PySem.Value.type "BaseException",PySem.Value.type "object"],ns:=60,qualname:=PySem.Str.ofString "NoPlace" }),#[Option.some (PySem.Value.ref 52),Option.none,Option.some (PySem.Value.str (PySem.Str.ofString "NoPlace") 239),Option.some (PySem.Value.str (PySem.Str.ofString "NoPlace") 247),Option.some (PySem.Value.builtin "ValueError.__new__"),Option.some (PySem.Value.bool vH)]⟩
abbrev o62_4:Obj:=⟨.type "super",none,.fields #[.ref 61,.ref 61,.ref 61],#[]⟩
abbrev o63_4:Obj:=⟨.type "builtin_function_or_method",none,.fields #[.builtin "object.__init_subclass__",.ref 61],#[]⟩
abbrev zm7:=tu []
abbrev o65_4:=fi []
abbrev zm8:=tu [vs "value" 260]
abbrev zm9:=tu []
abbrev o68_4:=fo .none 6 0 .none .none
abbrev zma:=co "is_whole" "/claim/cut.py" 257 258 259 11 1 3 64 true 181 65 .none (.ref 66) (.ref 67) (.ref 68) 261 262
abbrev zmb:=fo (.type "function") 6 3 (vs "changehall.rows" 255) (.ref 69)
abbrev zmc:=tu []
abbrev o72_4:=fi []
abbrev o73_4:=fo .none 7 0 .none .none
abbrev zmd:=co "is_row" "/claim/cut.py" 264 265 266 13 2 3 71 true 181 72 .none .none .none (.ref 73) 267 268
abbrev zme:=fo (.type "function") 7 3 (vs "changehall.rows" 255) (.ref 74)
abbrev zmf:=tu []
abbrev o77_4:=fi []
abbrev o78_4:=fo .none 8 0 .none .none
abbrev zmg:=co "noughts" "/claim/cut.py" 270 271 272 17 1 3 76 true 181 77 .none .none .none (.ref 78) 273 274
abbrev zmh:=fo (.type "function") 8 3 (vs "changehall.rows" 255) (.ref 79)
abbrev zmi:=tu []
abbrev o82_4:=fi []
abbrev o83_4:=fo .none 9 0 .none .none
abbrev zmj:=co "unit_row" "/claim/cut.py" 276 277 278 19 2 3 81 true 181 82 .none .none .none (.ref 83) 279 280
abbrev zmk:=fo (.type "function") 9 3 (vs "changehall.rows" 255) (.ref 84)
abbrev zml:=tu []
abbrev o87_4:=fi []
abbrev o88_4:=fo .none 10 0 .none .none
abbrev zmm:=co "added" "/claim/cut.py" 282 283 284 21 2 3 86 true 181 87 .none .none .none (.ref 88) 285 286
abbrev zmn:=fo (.type "function") 10 3 (vs "changehall.rows" 255) (.ref 89)
abbrev zmo:=tu []
abbrev o92_4:=fi []
abbrev o93_4:=fo .none 11 0 .none .none
abbrev zmp:=co "taken" "/claim/cut.py" 288 289 290 23 2 3 91 true 181 92 .none .none .none (.ref 93) 291 292
abbrev zmq:=fo (.type "function") 11 3 (vs "changehall.rows" 255) (.ref 94)
abbrev t4(P:Params):BT:=ins (t3 P) [(3,o3_4 P),(12,o12_4),(24,zm2),(52,zm3),(53,o53_4),(54,o54_4 P),(55,o55_4),(56,o56_4),(57,o57_4),(58,o58_4),(59,zm4),(60,zm5 P),(61,zm6),(62,o62_4),(63,o63_4),(64,zm7),(65,o65_4),(66,zm8),(67,zm9),(68,o68_4),(69,zma),(70,zmb),(71,zmc),(72,o72_4),(73,o73_4),(74,zmd),(75,zme),(76,zmf),(77,o77_4),(78,o78_4),(79,zmg),(80,zmh),(81,zmi),(82,o82_4),(83,o83_4),(84,zmj),(85,zmk),(86,zml),(87,o87_4),(88,o88_4),(89,zmm),(90,zmn),(91,zmo),(92,o92_4),(93,o93_4),(94,zmp),(95,zmq)]
abbrev s4(w:World)(os:OsState):SharedT:=⟨t4 w.params,96,{ },#[],{ },294,os⟩
abbrev l3:List Stmt:=[top 4,top 5,top 6,top 7,top 8,top 9,top 10,top 11]
theorem run_3(w:World)(os:OsState):segRunT treeTable pw w 11 ann 1 382 (s3 w os) (piecesOf l3 env cE ⟨6,0,7,8⟩ fB)=some (.next,s4 w os,cE,⟨23,0,24,59⟩):=by
 rewrite[te_sT,te_tb];kernel_rfl
abbrev o3_5L(P:Params):List DictEntry:=de P "__name__" 165 (vs "changehall.whole" 392)::(o3_4L P).tail++[de P "scaled" 299 (.ref 100),de P "weighed" 305 (.ref 105),de P "mixed" 317 (.ref 112),de P "head_at" 326 (.ref 119),de P "MOST_KINDS" 330 (.int 6 329),de P "MOST_BILLS" 332 (.int 8 331),de P "are_kinds" 339 (.ref 126),de P "is_bill" 345 (.ref 131),de P "need_kinds" 352 (.ref 138),de P "need_bill" 360 (.ref 145),de P "hall_of" 369 (.ref 152),de P "hall_by" 375 (.ref 157),de P "need_basket_of" 383 (.ref 164),de P "need_basket" 391 (.ref 171)]
abbrev o3_5(P:Params):Obj:=⟨.type "dict",none,.dict (o3_5L P).toArray 33,#[]⟩
abbrev zmr:List Value:=zm1++[.int 25 0,.int 0 0,.ref 99,.int 27 0,.int 0 0,.ref 104,.int 29 0,.int 0 0,.ref 111,.int 34 0,.int 0 0,.ref 118,.int 42 0,.int 0 0,.ref 125,.int 44 0,.int 0 0,.ref 130,.int 46 0,.int 0 0,.ref 137,.int 49 0,.int 0 0,.ref 144,.int 52 0,.int 0 0,.ref 151,.int 59 0,.int 0 0,.ref 156,.int 61 0,.int 0 0,.ref 163,.int 64 0,.int 0 0,.ref 170]
abbrev o12_5:=fi zmr
abbrev zms:=tu []
abbrev o97_5:=fi []
abbrev o98_5:=fo .none 12 0 .none .none
abbrev zmt:=co "scaled" "/claim/cut.py" 294 295 296 25 2 3 96 true 181 97 .none .none .none (.ref 98) 297 298
abbrev zfo:=fo (.type "function") 12 3 (vs "changehall.rows" 255) (.ref 99)
abbrev zfp:=tu []
abbrev zmu:=fi []
abbrev zmv:=fo .none 13 0 .none .none
abbrev zfq:=co "weighed" "/claim/cut.py" 300 301 302 27 2 3 101 true 181 102 .none .none .none (.ref 103) 303 304
abbrev zfr:=fo (.type "function") 13 3 (vs "changehall.rows" 255) (.ref 104)
abbrev zfs:=tu []
abbrev zmw:=fi []
abbrev zft:=tu [vs "rows" 309,vs "counts" 310,vs "length" 311,vs "total" 312,vs "row" 313,vs "often" 314]
abbrev zfu:=tu []
abbrev zmx:=fo .none 14 0 .none .none
abbrev zfv:=co "mixed" "/claim/cut.py" 306 307 308 29 3 3 106 true 181 107 .none (.ref 108) (.ref 109) (.ref 110) 315 316
abbrev zfw:=fo (.type "function") 14 3 (vs "changehall.rows" 255) (.ref 111)
abbrev zfx:=tu []
abbrev zmy:=fi []
abbrev zfy:=tu [vs "row" 321,vs "spot" 322,vs "number" 323]
abbrev zfz:=tu []
abbrev zmz:=fo .none 15 0 .none .none
abbrev zfA:=co "head_at" "/claim/cut.py" 318 319 320 34 1 3 113 true 181 114 .none (.ref 115) (.ref 116) (.ref 117) 324 325
abbrev zfB:=fo (.type "function") 15 3 (vs "changehall.rows" 255) (.ref 118)
abbrev zfC:=tu []
abbrev zmA:=fi []
abbrev zfD:=tu [vs "value" 336]
abbrev zfE:=tu []
abbrev zmB:=fo .none 19 0 .none .none
abbrev zfF:=co "are_kinds" "/claim/cut.py" 333 334 335 42 1 3 120 true 181 121 .none (.ref 122) (.ref 123) (.ref 124) 337 338
abbrev zfG:=fo (.type "function") 19 3 (vs "changehall.halls" 327) (.ref 125)
abbrev zfH:=tu []
abbrev zmC:=fi []
abbrev zmD:=fo .none 20 0 .none .none
abbrev zfI:=co "is_bill" "/claim/cut.py" 340 341 342 44 2 3 127 true 181 128 .none .none .none (.ref 129) 343 344
abbrev zfJ:=fo (.type "function") 20 3 (vs "changehall.halls" 327) (.ref 130)
abbrev zfK:=tu []
abbrev zmE:=fi []
abbrev zfL:=tu [vs "kinds" 349]
abbrev zfM:=tu []
abbrev zmF:=fo .none 21 0 .none .none
abbrev zfN:=co "need_kinds" "/claim/cut.py" 346 347 348 46 1 3 132 true 181 133 .none (.ref 134) (.ref 135) (.ref 136) 350 351
abbrev zfO:=fo (.type "function") 21 3 (vs "changehall.halls" 327) (.ref 137)
abbrev zfP:=tu []
abbrev zmG:=fi []
abbrev zfQ:=tu [vs "bill" 356,vs "kinds" 357]
abbrev zfR:=tu []
abbrev zmH:=fo .none 22 0 .none .none
abbrev zfS:=co "need_bill" "/claim/cut.py" 353 354 355 49 2 3 139 true 181 140 .none (.ref 141) (.ref 142) (.ref 143) 358 359
abbrev zfT:=fo (.type "function") 22 3 (vs "changehall.halls" 327) (.ref 144)
abbrev zfU:=tu []
abbrev zmI:=fi []
abbrev zfV:=tu [vs "kinds" 364,vs "bills" 365,vs "bill" 366]
abbrev zfW:=tu []
abbrev zmJ:=fo .none 23 0 .none .none
abbrev zfX:=co "hall_of" "/claim/cut.py" 361 362 363 52 2 3 146 true 181 147 .none (.ref 148) (.ref 149) (.ref 150) 367 368
abbrev zfY:=fo (.type "function") 23 3 (vs "changehall.halls" 327) (.ref 151)
abbrev zfZ:=tu []
abbrev zmK:=fi []
abbrev zmL:=fo .none 24 0 .none .none
abbrev zg0:=co "hall_by" "/claim/cut.py" 370 371 372 59 2 3 153 true 181 154 .none .none .none (.ref 155) 373 374
abbrev zg1:=fo (.type "function") 24 3 (vs "changehall.halls" 327) (.ref 156)
abbrev zg2:=tu []
abbrev zmM:=fi []
abbrev zg3:=tu [vs "kinds" 379,vs "basket" 380]
abbrev zg4:=tu []
abbrev zmN:=fo .none 25 0 .none .none
abbrev zg5:=co "need_basket_of" "/claim/cut.py" 376 377 378 61 2 3 158 true 181 159 .none (.ref 160) (.ref 161) (.ref 162) 381 382
abbrev zg6:=fo (.type "function") 25 3 (vs "changehall.halls" 327) (.ref 163)
abbrev zg7:=tu []
abbrev zmO:=fi []
abbrev zg8:=tu [vs "hall" 387,vs "basket" 388]
abbrev zg9:=tu []
abbrev zmP:=fo .none 26 0 .none .none
abbrev zga:=co "need_basket" "/claim/cut.py" 384 385 386 64 2 3 165 true 181 166 .none (.ref 167) (.ref 168) (.ref 169) 389 390
abbrev zgb:=fo (.type "function") 26 3 (vs "changehall.halls" 327) (.ref 170)
abbrev t5(P:Params):BT:=ins (t4 P) [(3,o3_5 P),(12,o12_5),(96,zms),(97,o97_5),(98,o98_5),(99,zmt),(100,zfo),(101,zfp),(102,zmu),(103,zmv),(104,zfq),(105,zfr),(106,zfs),(107,zmw),(108,zft),(109,zfu),(110,zmx),(111,zfv),(112,zfw),(113,zfx),(114,zmy),(115,zfy),(116,zfz),(117,zmz),(118,zfA),(119,zfB),(120,zfC),(121,zmA),(122,zfD),(123,zfE),(124,zmB),(125,zfF),(126,zfG),(127,zfH),(128,zmC),(129,zmD),(130,zfI),(131,zfJ),(132,zfK),(133,zmE),(134,zfL),(135,zfM),(136,zmF),(137,zfN),(138,zfO),(139,zfP),(140,zmG),(141,zfQ),(142,zfR),(143,zmH),(144,zfS),(145,zfT),(146,zfU),(147,zmI),(148,zfV),(149,zfW),(150,zmJ),(151,zfX),(152,zfY),(153,zfZ),(154,zmK),(155,zmL),(156,zg0),(157,zg1),(158,zg2),(159,zmM),(160,zg3),(161,zg4),(162,zmN),(163,zg5),(164,zg6),(165,zg7),(166,zmO),(167,zg8),(168,zg9),(169,zmP),(170,zga),(171,zgb)]
abbrev s5(w:World)(os:OsState):SharedT:=⟨t5 w.params,172,{ },#[],{ },394,os⟩
abbrev l4:List Stmt:=[top 12,top 13,top 14,top 15,top 16,top 17,top 18,top 19,top 20,top 21,top 22,top 23,top 24,top 25,top 26,top 27]
theorem run_4(w:World)(os:OsState):segRunT treeTable pw w 11 ann 1 385 (s4 w os) (piecesOf l4 env cE ⟨23,0,24,59⟩ fB)=some (.next,s5 w os,cE,⟨66,0,66,8⟩):=by
 rewrite[te_sT,te_tb];kernel_rfl
abbrev o3_6L(P:Params):List DictEntry:=de P "__name__" 165 (vs "changehall.stairs" 417)::(o3_5L P).tail++[de P "bridge" 399 (.ref 176),de P "rest" 407 (.ref 183),de P "product" 416 (.ref 190),de P "lowering" 431 (.ref 197),de P "lowered" 439 (.ref 204),de P "crossed" 451 (.ref 211),de P "turned_up" 458 (.ref 218),de P "with_row" 464 (.ref 223),de P "evened" 473 (.ref 230),de P "climbed" 482 (.ref 237),de P "tagged_stair" 488 (.ref 242),de P "tags_of_rungs" 494 (.ref 247),de P "tags_at_nought" 500 (.ref 252)]
abbrev o3_6(P:Params):Obj:=⟨.type "dict",none,.dict (o3_6L P).toArray 46,#[]⟩
abbrev zmQ:List Value:=zmr++[.int 67 0,.int 0 0,.ref 175,.int 78 0,.int 0 0,.ref 182,.int 82 0,.int 0 0,.ref 189,.int 88 0,.int 0 0,.ref 196,.int 98 0,.int 0 0,.ref 203,.int 100 0,.int 0 0,.ref 210,.int 106 0,.int 0 0,.ref 217,.int 108 0,.int 0 0,.ref 222,.int 119 0,.int 0 0,.ref 229,.int 124 0,.int 0 0,.ref 236,.int 129 0,.int 0 0,.ref 241,.int 131 0,.int 0 0,.ref 246,.int 133 0,.int 0 0,.ref 251]
abbrev o12_6:=fi zmQ
abbrev zgc:=tu []
abbrev zmR:=fi []
abbrev zmS:=fo .none 28 0 .none .none
abbrev zgd:=co "bridge" "/claim/cut.py" 394 395 396 67 2 3 172 true 181 173 .none .none .none (.ref 174) 397 398
abbrev zge:=fo (.type "function") 28 3 (vs "changehall.whole" 392) (.ref 175)
abbrev zgf:=tu []
abbrev zmT:=fi []
abbrev zgg:=tu [vs "a" 403,vs "part" 404]
abbrev zgh:=tu []
abbrev zmU:=fo .none 29 0 .none .none
abbrev zgi:=co "rest" "/claim/cut.py" 400 401 402 78 2 3 177 true 181 178 .none (.ref 179) (.ref 180) (.ref 181) 405 406
abbrev zgj:=fo (.type "function") 29 3 (vs "changehall.whole" 392) (.ref 182)
abbrev zgk:=tu []
abbrev zmV:=fi []
abbrev zgl:=tu [vs "numbers" 411,vs "found" 412,vs "number" 413]
abbrev zgm:=tu []
abbrev zmW:=fo .none 30 0 .none .none
abbrev zgn:=co "product" "/claim/cut.py" 408 409 410 82 1 3 184 true 181 185 .none (.ref 186) (.ref 187) (.ref 188) 414 415
abbrev zgo:=fo (.type "function") 30 3 (vs "changehall.whole" 392) (.ref 189)
abbrev zgp:=tu []
abbrev zmX:=fi []
abbrev zgq:=tu [vs "row" 422,vs "rungs" 423,vs "left" 424,vs "counts" 425,vs "rung" 426,vs "spot" 427,vs "often" 428]
abbrev zgr:=tu []
abbrev zmY:=fo .none 32 0 .none .none
abbrev zgs:=co "lowering" "/claim/cut.py" 419 420 421 88 2 3 191 true 181 192 .none (.ref 193) (.ref 194) (.ref 195) 429 430
abbrev zgt:=fo (.type "function") 32 3 (vs "changehall.stairs" 417) (.ref 196)
abbrev zgu:=tu []
abbrev zmZ:=fi []
abbrev zgv:=tu [vs "row" 435,vs "rungs" 436]
abbrev zgw:=tu []
abbrev zn:=fo .none 33 0 .none .none
abbrev zgx:=co "lowered" "/claim/cut.py" 432 433 434 98 2 3 198 true 181 199 .none (.ref 200) (.ref 201) (.ref 202) 437 438
abbrev zgy:=fo (.type "function") 33 3 (vs "changehall.stairs" 417) (.ref 203)
abbrev zgz:=tu []
abbrev zn0:=fi []
abbrev zgA:=tu [vs "rung" 443,vs "row" 444,vs "spot" 445,vs "found" 446,vs "upper" 447,vs "lower" 448]
abbrev zgB:=tu []
abbrev zn1:=fo .none 34 0 .none .none
abbrev zgC:=co "crossed" "/claim/cut.py" 440 441 442 100 2 3 205 true 181 206 .none (.ref 207) (.ref 208) (.ref 209) 449 450
abbrev zgD:=fo (.type "function") 34 3 (vs "changehall.stairs" 417) (.ref 210)
abbrev zgE:=tu []
abbrev zn2:=fi []
abbrev zgF:=tu [vs "row" 455]
abbrev zgG:=tu []
abbrev zn3:=fo .none 35 0 .none .none
abbrev zgH:=co "turned_up" "/claim/cut.py" 452 453 454 106 1 3 212 true 181 213 .none (.ref 214) (.ref 215) (.ref 216) 456 457
abbrev zgI:=fo (.type "function") 35 3 (vs "changehall.stairs" 417) (.ref 217)
abbrev zgJ:=tu []
abbrev zn4:=fi []
abbrev zn5:=fo .none 36 0 .none .none
abbrev zgK:=co "with_row" "/claim/cut.py" 459 460 461 108 2 3 219 true 181 220 .none .none .none (.ref 221) 462 463
abbrev zgL:=fo (.type "function") 36 3 (vs "changehall.stairs" 417) (.ref 222)
abbrev zgM:=tu []
abbrev zn6:=fi []
abbrev zgN:=tu [vs "rungs" 468,vs "found" 469,vs "rung" 470]
abbrev zgO:=tu []
abbrev zn7:=fo .none 37 0 .none .none
abbrev zgP:=co "evened" "/claim/cut.py" 465 466 467 119 1 3 224 true 181 225 .none (.ref 226) (.ref 227) (.ref 228) 471 472
abbrev zgQ:=fo (.type "function") 37 3 (vs "changehall.stairs" 417) (.ref 229)
abbrev zgR:=tu []
abbrev zn8:=fi []
abbrev zgS:=tu [vs "rows" 477,vs "rungs" 478,vs "row" 479]
abbrev zgT:=tu []
abbrev zn9:=fo .none 38 0 .none .none
abbrev zgU:=co "climbed" "/claim/cut.py" 474 475 476 124 1 3 231 true 181 232 .none (.ref 233) (.ref 234) (.ref 235) 480 481
abbrev zgV:=fo (.type "function") 38 3 (vs "changehall.stairs" 417) (.ref 236)
abbrev zgW:=tu []
abbrev zna:=fi []
abbrev znb:=fo .none 39 0 .none .none
abbrev zgX:=co "tagged_stair" "/claim/cut.py" 483 484 485 129 2 3 238 true 181 239 .none .none .none (.ref 240) 486 487
abbrev zgY:=fo (.type "function") 39 3 (vs "changehall.stairs" 417) (.ref 241)
abbrev zgZ:=tu []
abbrev znc:=fi []
abbrev znd:=fo .none 40 0 .none .none
abbrev zh:=co "tags_of_rungs" "/claim/cut.py" 489 490 491 131 2 3 243 true 181 244 .none .none .none (.ref 245) 492 493
abbrev zh0:=fo (.type "function") 40 3 (vs "changehall.stairs" 417) (.ref 246)
abbrev zh1:=tu []
abbrev zne:=fi []
abbrev znf:=fo .none 41 0 .none .none
abbrev zh2:=co "tags_at_nought" "/claim/cut.py" 495 496 497 133 2 3 248 true 181 249 .none .none .none (.ref 250) 498 499
abbrev zh3:=fo (.type "function") 41 3 (vs "changehall.stairs" 417) (.ref 251)
abbrev t6(P:Params):BT:=ins (t5 P) [(3,o3_6 P),(12,o12_6),(172,zgc),(173,zmR),(174,zmS),(175,zgd),(176,zge),(177,zgf),(178,zmT),(179,zgg),(180,zgh),(181,zmU),(182,zgi),(183,zgj),(184,zgk),(185,zmV),(186,zgl),(187,zgm),(188,zmW),(189,zgn),(190,zgo),(191,zgp),(192,zmX),(193,zgq),(194,zgr),(195,zmY),(196,zgs),(197,zgt),(198,zgu),(199,zmZ),(200,zgv),(201,zgw),(202,zn),(203,zgx),(204,zgy),(205,zgz),(206,zn0),(207,zgA),(208,zgB),(209,zn1),(210,zgC),(211,zgD),(212,zgE),(213,zn2),(214,zgF),(215,zgG),(216,zn3),(217,zgH),(218,zgI),(219,zgJ),(220,zn4),(221,zn5),(222,zgK),(223,zgL),(224,zgM),(225,zn6),(226,zgN),(227,zgO),(228,zn7),(229,zgP),(230,zgQ),(231,zgR),(232,zn8),(233,zgS),(234,zgT),(235,zn9),(236,zgU),(237,zgV),(238,zgW),(239,zna),(240,znb),(241,zgX),(242,zgY),(243,zgZ),(244,znc),(245,znd),(246,zh),(247,zh0),(248,zh1),(249,zne),(250,znf),(251,zh2),(252,zh3)]
abbrev s6(w:World)(os:OsState):SharedT:=⟨t6 w.params,253,{ },#[],{ },501,os⟩
abbrev l5:List Stmt:=[top 28,top 29,top 30,top 31,top 32,top 33,top 34,top 35,top 36,top 37,top 38,top 39,top 40,top 41]
theorem run_5(w:World)(os:OsState):segRunT treeTable pw w 11 ann 1 391 (s5 w os) (piecesOf l5 env cE ⟨66,0,66,8⟩ fB)=some (.next,s6 w os,cE,⟨133,0,134,69⟩):=by
 rewrite[te_sT,te_tb];kernel_rfl
abbrev o3_7L(P:Params):List DictEntry:=de P "__name__" 165 (vs "changehall.classes" 559)::(o3_6L P).tail++[de P "stair" 507 (.ref 259),de P "turned" 515 (.ref 264),de P "is_slant" 521 (.ref 269),de P "rests" 527 (.ref 274),de P "slanted" 533 (.ref 279),de P "linked" 546 (.ref 286),de P "chained" 552 (.ref 291),de P "measures" 558 (.ref 296),de P "parts" 566 (.ref 301),de P "place_by" 572 (.ref 306),de P "place" 580 (.ref 313),de P "need_place" 590 (.ref 320),de P "baskets_by" 596 (.ref 325)]
abbrev o3_7(P:Params):Obj:=⟨.type "dict",none,.dict (o3_7L P).toArray 59,#[]⟩
abbrev zng:List Value:=zmQ++[.int 135 0,.int 0 0,.ref 258,.int 138 0,.int 0 0,.ref 263,.int 140 0,.int 0 0,.ref 268,.int 145 0,.int 0 0,.ref 273,.int 147 0,.int 0 0,.ref 278,.int 157 0,.int 0 0,.ref 285,.int 164 0,.int 0 0,.ref 290,.int 172 0,.int 0 0,.ref 295,.int 182 0,.int 0 0,.ref 300,.int 184 0,.int 0 0,.ref 305,.int 186 0,.int 0 0,.ref 312,.int 189 0,.int 0 0,.ref 319,.int 195 0,.int 0 0,.ref 324]
abbrev o12_7:=fi zng
abbrev zh4:=tu []
abbrev znh:=fi []
abbrev zh5:=tu [vs "hall" 504]
abbrev zh6:=tu []
abbrev zni:=fo .none 42 0 .none .none
abbrev zh7:=co "stair" "/claim/cut.py" 501 502 503 135 1 3 253 true 181 254 .none (.ref 255) (.ref 256) (.ref 257) 505 506
abbrev zh8:=fo (.type "function") 42 3 (vs "changehall.stairs" 417) (.ref 258)
abbrev zh9:=tu []
abbrev znj:=fi []
abbrev znk:=fo .none 44 0 .none .none
abbrev zha:=co "turned" "/claim/cut.py" 510 511 512 138 2 3 260 true 181 261 .none .none .none (.ref 262) 513 514
abbrev zhb:=fo (.type "function") 44 3 (vs "changehall.grids" 508) (.ref 263)
abbrev zhc:=tu []
abbrev znl:=fi []
abbrev znm:=fo .none 45 0 .none .none
abbrev zhd:=co "is_slant" "/claim/cut.py" 516 517 518 140 1 3 265 true 181 266 .none .none .none (.ref 267) 519 520
abbrev zhe:=fo (.type "function") 45 3 (vs "changehall.grids" 508) (.ref 268)
abbrev zhf:=tu []
abbrev znn:=fi []
abbrev zno:=fo .none 46 0 .none .none
abbrev zhg:=co "rests" "/claim/cut.py" 522 523 524 145 2 3 270 true 181 271 .none .none .none (.ref 272) 525 526
abbrev zhh:=fo (.type "function") 46 3 (vs "changehall.grids" 508) (.ref 273)
abbrev zhi:=tu []
abbrev znp:=fi []
abbrev znq:=fo .none 47 0 .none .none
abbrev zhj:=co "slanted" "/claim/cut.py" 528 529 530 147 3 3 275 true 181 276 .none .none .none (.ref 277) 531 532
abbrev zhk:=fo (.type "function") 47 3 (vs "changehall.grids" 508) (.ref 278)
abbrev zhl:=tu []
abbrev znr:=fi []
abbrev zhm:=tu [vs "one" 537,vs "other" 538,vs "found" 539,vs "common" 540,vs "least" 541,vs "upper" 542,vs "lower" 543]
abbrev zhn:=tu []
abbrev zns:=fo .none 48 0 .none .none
abbrev zho:=co "linked" "/claim/cut.py" 534 535 536 157 2 3 280 true 181 281 .none (.ref 282) (.ref 283) (.ref 284) 544 545
abbrev zhp:=fo (.type "function") 48 3 (vs "changehall.grids" 508) (.ref 285)
abbrev zhq:=tu []
abbrev znt:=fi []
abbrev znu:=fo .none 49 0 .none .none
abbrev zhr:=co "chained" "/claim/cut.py" 547 548 549 164 1 3 287 true 181 288 .none .none .none (.ref 289) 550 551
abbrev zhs:=fo (.type "function") 49 3 (vs "changehall.grids" 508) (.ref 290)
abbrev zht:=tu []
abbrev znv:=fi []
abbrev znw:=fo .none 50 0 .none .none
abbrev zhu:=co "measures" "/claim/cut.py" 553 554 555 172 1 3 292 true 181 293 .none .none .none (.ref 294) 556 557
abbrev zhv:=fo (.type "function") 50 3 (vs "changehall.grids" 508) (.ref 295)
abbrev zhw:=tu []
abbrev znx:=fi []
abbrev zny:=fo .none 52 0 .none .none
abbrev zhx:=co "parts" "/claim/cut.py" 561 562 563 182 1 3 297 true 181 298 .none .none .none (.ref 299) 564 565
abbrev zhy:=fo (.type "function") 52 3 (vs "changehall.classes" 559) (.ref 300)
abbrev zhz:=tu []
abbrev znz:=fi []
abbrev znA:=fo .none 53 0 .none .none
abbrev zhA:=co "place_by" "/claim/cut.py" 567 568 569 184 2 3 302 true 181 303 .none .none .none (.ref 304) 570 571
abbrev zhB:=fo (.type "function") 53 3 (vs "changehall.classes" 559) (.ref 305)
abbrev zhC:=tu []
abbrev znB:=fi []
abbrev zhD:=tu [vs "hall" 576,vs "basket" 577]
abbrev zhE:=tu []
abbrev znC:=fo .none 54 0 .none .none
abbrev zhF:=co "place" "/claim/cut.py" 573 574 575 186 2 3 307 true 181 308 .none (.ref 309) (.ref 310) (.ref 311) 578 579
abbrev zhG:=fo (.type "function") 54 3 (vs "changehall.classes" 559) (.ref 312)
abbrev zhH:=tu []
abbrev znD:=fi []
abbrev zhI:=tu [vs "measured" 584,vs "numbers" 585,vs "number" 586,vs "measure" 587]
abbrev zhJ:=tu []
abbrev znE:=fo .none 55 0 .none .none
abbrev zhK:=co "need_place" "/claim/cut.py" 581 582 583 189 2 3 314 true 181 315 .none (.ref 316) (.ref 317) (.ref 318) 588 589
abbrev zhL:=fo (.type "function") 55 3 (vs "changehall.classes" 559) (.ref 319)
abbrev zhM:=tu []
abbrev znF:=fi []
abbrev znG:=fo .none 56 0 .none .none
abbrev zhN:=co "baskets_by" "/claim/cut.py" 591 592 593 195 1 3 321 true 181 322 .none .none .none (.ref 323) 594 595
abbrev zhO:=fo (.type "function") 56 3 (vs "changehall.classes" 559) (.ref 324)
abbrev t7(P:Params):BT:=ins (t6 P) [(3,o3_7 P),(12,o12_7),(253,zh4),(254,znh),(255,zh5),(256,zh6),(257,zni),(258,zh7),(259,zh8),(260,zh9),(261,znj),(262,znk),(263,zha),(264,zhb),(265,zhc),(266,znl),(267,znm),(268,zhd),(269,zhe),(270,zhf),(271,znn),(272,zno),(273,zhg),(274,zhh),(275,zhi),(276,znp),(277,znq),(278,zhj),(279,zhk),(280,zhl),(281,znr),(282,zhm),(283,zhn),(284,zns),(285,zho),(286,zhp),(287,zhq),(288,znt),(289,znu),(290,zhr),(291,zhs),(292,zht),(293,znv),(294,znw),(295,zhu),(296,zhv),(297,zhw),(298,znx),(299,zny),(300,zhx),(301,zhy),(302,zhz),(303,znz),(304,znA),(305,zhA),(306,zhB),(307,zhC),(308,znB),(309,zhD),(310,zhE),(311,znC),(312,zhF),(313,zhG),(314,zhH),(315,znD),(316,zhI),(317,zhJ),(318,znE),(319,zhK),(320,zhL),(321,zhM),(322,znF),(323,znG),(324,zhN),(325,zhO)]
abbrev s7(w:World)(os:OsState):SharedT:=⟨t7 w.params,326,{ },#[],{ },597,os⟩
abbrev l6:List Stmt:=[top 42,top 43,top 44,top 45,top 46,top 47,top 48,top 49,top 50,top 51,top 52,top 53,top 54,top 55,top 56]
theorem run_6(w:World)(os:OsState):segRunT treeTable pw w 11 ann 1 379 (s6 w os) (piecesOf l6 env cE ⟨133,0,134,69⟩ fB)=some (.next,s7 w os,cE,⟨195,0,201,37⟩):=by
 rewrite[te_sT,te_tb];kernel_rfl
abbrev o3_8L(P:Params):List DictEntry:=de P "__name__" 165 (vs "law_changehall_k17_places_there_and_back" 606)::(o3_7L P).tail++[de P "basket_at" 605 (.ref 332),de P "_law_cell_at" 615 (.ref 339),de P "_law_whole" 622 (.ref 346),de P "_law_is_row" 631 (.ref 353),de P "_law_number" 641 (.ref 360),de P "_law_row" 647 (.ref 365),de P "_law_bills" 653 (.ref 370),de P "_law_rest" 662 (.ref 377),de P "law" 668 (.ref 382)]
abbrev o3_8(P:Params):Obj:=⟨.type "dict",none,.dict (o3_8L P).toArray 68,#[]⟩
abbrev o12_8L:List Value:=zng++[.int 202 0,.int 0 0,.ref 331,.int 207 0,.int 0 0,.ref 338,.int 213 0,.int 0 0,.ref 345,.int 215 0,.int 0 0,.ref 352,.int 222 0,.int 0 0,.ref 359,.int 233 0,.int 0 0,.ref 364,.int 235 0,.int 0 0,.ref 369,.int 247 0,.int 0 0,.ref 376,.int 256 0,.int 0 0,.ref 381]
abbrev o12_8:=fi o12_8L
abbrev zhP:=tu []
abbrev znH:=fi []
abbrev zhQ:=tu [vs "hall" 600,vs "numbers" 601,vs "measured" 602]
abbrev zhR:=tu []
abbrev znI:=fo .none 57 0 .none .none
abbrev zhS:=co "basket_at" "/claim/cut.py" 597 598 599 202 2 3 326 true 181 327 .none (.ref 328) (.ref 329) (.ref 330) 603 604
abbrev zhT:=fo (.type "function") 57 3 (vs "changehall.classes" 559) (.ref 331)
abbrev zhU:=tu []
abbrev znJ:=fi []
abbrev zhV:=tu [vs "_law_script" 611,vs "_law_k" 612]
abbrev zhW:=tu []
abbrev znK:=fo .none 59 0 .none .none
abbrev zhX:=co "_law_cell_at" "/claim/cut.py" 608 609 610 207 2 3 333 true 181 334 .none (.ref 335) (.ref 336) (.ref 337) 613 614
abbrev zhY:=fo (.type "function") 59 3 (vs "law_changehall_k17_places_there_and_back" 606) (.ref 338)
abbrev zhZ:=tu []
abbrev znL:=fi []
abbrev zi:=tu [vs "_law_found" 619]
abbrev zi0:=tu []
abbrev znM:=fo .none 60 0 .none .none
abbrev zi1:=co "_law_whole" "/claim/cut.py" 616 617 618 213 1 3 340 true 181 341 .none (.ref 342) (.ref 343) (.ref 344) 620 621
abbrev zi2:=fo (.type "function") 60 3 (vs "law_changehall_k17_places_there_and_back" 606) (.ref 345)
abbrev zi3:=tu []
abbrev znN:=fi []
abbrev zi4:=tu [vs "_law_found" 626,vs "_law_size" 627,vs "_law_number_here" 628]
abbrev zi5:=tu []
abbrev znO:=fo .none 61 0 .none .none
abbrev zi6:=co "_law_is_row" "/claim/cut.py" 623 624 625 215 2 3 347 true 181 348 .none (.ref 349) (.ref 350) (.ref 351) 629 630
abbrev zi7:=fo (.type "function") 61 3 (vs "law_changehall_k17_places_there_and_back" 606) (.ref 352)
abbrev zi8:=tu []
abbrev znP:=fi []
abbrev zi9:=tu [vs "_law_cell" 635,vs "_law_mode" 636,vs "_law_number_here" 637,vs "_law_wide" 638]
abbrev zia:=tu []
abbrev znQ:=fo .none 62 0 .none .none
abbrev zib:=co "_law_number" "/claim/cut.py" 632 633 634 222 2 3 354 true 181 355 .none (.ref 356) (.ref 357) (.ref 358) 639 640
abbrev zic:=fo (.type "function") 62 3 (vs "law_changehall_k17_places_there_and_back" 606) (.ref 359)
abbrev zid:=tu []
abbrev znR:=fi []
abbrev znS:=fo .none 63 0 .none .none
abbrev zie:=co "_law_row" "/claim/cut.py" 642 643 644 233 4 3 361 true 181 362 .none .none .none (.ref 363) 645 646
abbrev zif:=fo (.type "function") 63 3 (vs "law_changehall_k17_places_there_and_back" 606) (.ref 364)
abbrev zig:=tu []
abbrev znT:=fi []
abbrev znU:=fo .none 64 0 .none .none
abbrev zih:=co "_law_bills" "/claim/cut.py" 648 649 650 235 1 3 366 true 181 367 .none .none .none (.ref 368) 651 652
abbrev zii:=fo (.type "function") 64 3 (vs "law_changehall_k17_places_there_and_back" 606) (.ref 369)
abbrev zij:=tu []
abbrev znV:=fi []
abbrev zik:=tu [vs "_law_cell" 657,vs "_law_part" 658,vs "_law_number_here" 659]
abbrev zil:=tu []
abbrev znW:=fo .none 65 0 .none .none
abbrev zim:=co "_law_rest" "/claim/cut.py" 654 655 656 247 2 3 371 true 181 372 .none (.ref 373) (.ref 374) (.ref 375) 660 661
abbrev zin:=fo (.type "function") 65 3 (vs "law_changehall_k17_places_there_and_back" 606) (.ref 376)
abbrev zio:=tu []
abbrev znX:=fi []
abbrev znY:=fo .none 66 0 .none .none
abbrev ziq:=co "law" "/claim/cut.py" 663 664 665 256 1 3 378 true 181 379 .none .none .none (.ref 380) 666 667
abbrev zir:=fo (.type "function") 66 3 (vs "law_changehall_k17_places_there_and_back" 606) (.ref 381)
abbrev t8(P:Params):BT:=ins (t7 P) [(3,o3_8 P),(12,o12_8),(326,zhP),(327,znH),(328,zhQ),(329,zhR),(330,znI),(331,zhS),(332,zhT),(333,zhU),(334,znJ),(335,zhV),(336,zhW),(337,znK),(338,zhX),(339,zhY),(340,zhZ),(341,znL),(342,zi),(343,zi0),(344,znM),(345,zi1),(346,zi2),(347,zi3),(348,znN),(349,zi4),(350,zi5),(351,znO),(352,zi6),(353,zi7),(354,zi8),(355,znP),(356,zi9),(357,zia),(358,znQ),(359,zib),(360,zic),(361,zid),(362,znR),(363,znS),(364,zie),(365,zif),(366,zig),(367,znT),(368,znU),(369,zih),(370,zii),(371,zij),(372,znV),(373,zik),(374,zil),(375,znW),(376,zim),(377,zin),(378,zio),(379,znX),(380,znY),(381,ziq),(382,zir)]
abbrev s8(w:World)(os:OsState):SharedT:=⟨t8 w.params,383,{ },#[],{ },669,os⟩
abbrev l7:List Stmt:=[top 57,top 58,top 59,top 60,top 61,top 62,top 63,top 64,top 65,top 66]
theorem run_7(w:World)(os:OsState):segRunT treeTable pw w 11 ann 1 272 (s7 w os) (piecesOf l7 env cE ⟨195,0,201,37⟩ fB)=some (.next,s8 w os,cE,⟨256,0,267,111⟩):=by
 rewrite[te_sT,te_tb];kernel_rfl
def h1(P:Params):Heap:=⟨⟨[boot_o_0 P,boot_o_1 P,boot_o_2 P,o3_8 P,boot_o_4 P,boot_o_5 P,boot_o_6 P,boot_o_7 P,boot_o_8 P,boot_o_9 P,boot_o_10 P,o11a,o12_8,o13a,o14a,zlO,o16_1,o17_1 P,o18_1,o19_1,o20_1,o21_1,zlP,zlQ P,zm2,zlR,o26_1,o27_1,zlT,o29_2,o30_2 P,o31_2,o32_2,o33_2,o34_2,zlU,zlV P,zlW,o38_2,o39_2,zlY,o41_3,o42_3 P,o43_3,o44_3,o45_3,o46_3,zlZ,zm P,zm0,o50_3,o51_3,zm3,o53_4,o54_4 P,o55_4,o56_4,o57_4,o58_4,zm4,zm5 P,zm6,o62_4,o63_4,zm7,o65_4,zm8,zm9,o68_4,zma,zmb,zmc,o72_4,o73_4,zmd,zme,zmf,o77_4,o78_4,zmg,zmh,zmi,o82_4,o83_4,zmj,zmk,zml,o87_4,o88_4,zmm,zmn,zmo,o92_4,o93_4,zmp,zmq,zms,o97_5,o98_5,zmt,zfo,zfp,zmu,zmv,zfq,zfr,zfs,zmw,zft,zfu,zmx,zfv,zfw,zfx,zmy,zfy,zfz,zmz,zfA,zfB,zfC,zmA,zfD,zfE,zmB,zfF,zfG,zfH,zmC,zmD,zfI,zfJ,zfK,zmE,zfL,zfM,zmF,zfN,zfO,zfP,zmG,zfQ,zfR,zmH,zfS,zfT,zfU,zmI,zfV,zfW,zmJ,zfX,zfY,zfZ,zmK,zmL,zg0,zg1,zg2,zmM,zg3,zg4,zmN,zg5,zg6,zg7,zmO,zg8,zg9,zmP,zga,zgb,zgc,zmR,zmS,zgd,zge,zgf,zmT,zgg,zgh,zmU,zgi,zgj,zgk,zmV,zgl,zgm,zmW,zgn,zgo,zgp,zmX,zgq,zgr,zmY,zgs,zgt,zgu,zmZ,zgv,zgw,zn,zgx,zgy,zgz,zn0,zgA,zgB,zn1,zgC,zgD,zgE,zn2,zgF,zgG,zn3,zgH,zgI,zgJ,zn4,zn5,zgK,zgL,zgM,zn6,zgN,zgO,zn7,zgP,zgQ,zgR,zn8,zgS,zgT,zn9,zgU,zgV,zgW,zna,znb,zgX,zgY,zgZ,znc,znd,zh,zh0,zh1,zne,znf,zh2,zh3,zh4,znh,zh5,zh6,zni,zh7,zh8,zh9,znj,znk,zha,zhb,zhc,znl,znm,zhd,zhe,zhf,znn,zno,zhg,zhh,zhi,znp,znq,zhj,zhk,zhl,znr,zhm,zhn,zns,zho,zhp,zhq,znt,znu,zhr,zhs,zht,znv,znw,zhu,zhv,zhw,znx,zny,zhx,zhy,zhz,znz,znA,zhA,zhB,zhC,znB,zhD,zhE,znC,zhF,zhG,zhH,znD,zhI,zhJ,znE,zhK,zhL,zhM,znF,znG,zhN,zhO,zhP,znH,zhQ,zhR,znI,zhS,zhT,zhU,znJ,zhV,zhW,znK,zhX,zhY,zhZ,znL,zi,zi0,znM,zi1,zi2,zi3,znN,zi4,zi5,znO,zi6,zi7,zi8,znP,zi9,zia,znQ,zib,zic,zid,znR,znS,zie,zif,zig,znT,znU,zih,zii,zij,znV,zik,zil,znW,zim,zin,zio,znX,znY,ziq,zir]⟩,{ }⟩
abbrev z0q:Drawn:={ }
theorem run_z(w:World)(os:OsState):topRun treeTable pw w 11 ann 2 (s8 w os).abs ⟨doneF .next,cE,⟨256,0,267,111⟩,fB⟩=some ⟨h1 w.params,#[],z0q,669,os⟩:=by
 rewrite[te_tr,te_tb];kernel_rfl
theorem zoY:behindTheImports pw=(l0++(l1++(l2++(l3++(l4++(l5++(l6++(l7++[])))))))):=by kernel_rfl
theorem run_all(w:World)(os:OsState):topRun treeTable pw w 11 ann (12+(1+(196+(214+(214+(382+(385+(391+(379+(272+2)))))))))) ⟨boot_heap w.params,#[],boot_drawn,boot_toks,os⟩ (topStub pw)=some ⟨h1 w.params,#[],z0q,669,os⟩ :=
 go_top (run_a w os) (piece_block (env:=env) (run_b w os) (by rw[zoY];exact(piece_app (segRun_of (run_0 w os)) (piece_app (segRun_of (run_1 w os)) (piece_app (segRun_of (run_2 w os)) (piece_app (segRun_of (run_3 w os)) (piece_app (segRun_of (run_4 w os)) (piece_app (segRun_of (run_5 w os)) (piece_app (segRun_of (run_6 w os)) (piece_app (segRun_of (run_7 w os)) (run_z w os)))))))))))
abbrev keep:List Nat:=[1,2,3,4,6,7,8,9,10,11,12,13,14,15,17,18,19,20,21,22,23,24,25,26,28,29,30,32,33,34,35,36,37,38,39,40,41,42,44,45,46,47,48,49,50,52,53,54,55,56,57,59,60,61,62,63,64,65,66]
def K:Params->PySem.W.Frag:=λP=>(nat_lit 2,boot_o_2 P)::(nat_lit 3,o3_8 P)::(nat_lit 15,zlO)::(nat_lit 22,zlP)::(nat_lit 23,zlQ P)::(nat_lit 24,zm2)::(nat_lit 25,zlR)::(nat_lit 28,zlT)::(nat_lit 35,zlU)::(nat_lit 36,zlV P)::(nat_lit 37,zlW)::(nat_lit 40,zlY)::(nat_lit 47,zlZ)::(nat_lit 48,zm P)::(nat_lit 49,zm0)::(nat_lit 52,zm3)::(nat_lit 59,zm4)::(nat_lit 60,zm5 P)::(nat_lit 61,zm6)::(nat_lit 64,zm7)::(nat_lit 66,zm8)::(nat_lit 67,zm9)::(nat_lit 69,zma)::(nat_lit 70,zmb)::(nat_lit 71,zmc)::(nat_lit 74,zmd)::(nat_lit 75,zme)::(nat_lit 76,zmf)::(nat_lit 79,zmg)::(nat_lit 80,zmh)::(nat_lit 81,zmi)::(nat_lit 84,zmj)::(nat_lit 85,zmk)::(nat_lit 86,zml)::(nat_lit 89,zmm)::(nat_lit 90,zmn)::(nat_lit 91,zmo)::(nat_lit 94,zmp)::(nat_lit 95,zmq)::(nat_lit 96,zms)::(nat_lit 99,zmt)::(nat_lit 100,zfo)::(nat_lit 101,zfp)::(nat_lit 104,zfq)::(nat_lit 105,zfr)::(nat_lit 106,zfs)::(nat_lit 108,zft)::(nat_lit 109,zfu)::(nat_lit 111,zfv)::(nat_lit 112,zfw)::(nat_lit 113,zfx)::(nat_lit 115,zfy)::(nat_lit 116,zfz)::(nat_lit 118,zfA)::(nat_lit 119,zfB)::(nat_lit 120,zfC)::(nat_lit 122,zfD)::(nat_lit 123,zfE)::(nat_lit 125,zfF)::(nat_lit 126,zfG)::(nat_lit 127,zfH)::(nat_lit 130,zfI)::(nat_lit 131,zfJ)::(nat_lit 132,zfK)::(nat_lit 134,zfL)::(nat_lit 135,zfM)::(nat_lit 137,zfN)::(nat_lit 138,zfO)::(nat_lit 139,zfP)::(nat_lit 141,zfQ)::(nat_lit 142,zfR)::(nat_lit 144,zfS)::(nat_lit 145,zfT)::(nat_lit 146,zfU)::(nat_lit 148,zfV)::(nat_lit 149,zfW)::(nat_lit 151,zfX)::(nat_lit 152,zfY)::(nat_lit 153,zfZ)::(nat_lit 156,zg0)::(nat_lit 157,zg1)::(nat_lit 158,zg2)::(nat_lit 160,zg3)::(nat_lit 161,zg4)::(nat_lit 163,zg5)::(nat_lit 164,zg6)::(nat_lit 165,zg7)::(nat_lit 167,zg8)::(nat_lit 168,zg9)::(nat_lit 170,zga)::(nat_lit 171,zgb)::(nat_lit 172,zgc)::(nat_lit 175,zgd)::(nat_lit 176,zge)::(nat_lit 177,zgf)::(nat_lit 179,zgg)::(nat_lit 180,zgh)::(nat_lit 182,zgi)::(nat_lit 183,zgj)::(nat_lit 184,zgk)::(nat_lit 186,zgl)::(nat_lit 187,zgm)::(nat_lit 189,zgn)::(nat_lit 190,zgo)::(nat_lit 191,zgp)::(nat_lit 193,zgq)::(nat_lit 194,zgr)::(nat_lit 196,zgs)::(nat_lit 197,zgt)::(nat_lit 198,zgu)::(nat_lit 200,zgv)::(nat_lit 201,zgw)::(nat_lit 203,zgx)::(nat_lit 204,zgy)::(nat_lit 205,zgz)::(nat_lit 207,zgA)::(nat_lit 208,zgB)::(nat_lit 210,zgC)::(nat_lit 211,zgD)::(nat_lit 212,zgE)::(nat_lit 214,zgF)::(nat_lit 215,zgG)::(nat_lit 217,zgH)::(nat_lit 218,zgI)::(nat_lit 219,zgJ)::(nat_lit 222,zgK)::(nat_lit 223,zgL)::(nat_lit 224,zgM)::(nat_lit 226,zgN)::(nat_lit 227,zgO)::(nat_lit 229,zgP)::(nat_lit 230,zgQ)::(nat_lit 231,zgR)::(nat_lit 233,zgS)::(nat_lit 234,zgT)::(nat_lit 236,zgU)::(nat_lit 237,zgV)::(nat_lit 238,zgW)::(nat_lit 241,zgX)::(nat_lit 242,zgY)::(nat_lit 243,zgZ)::(nat_lit 246,zh)::(nat_lit 247,zh0)::(nat_lit 248,zh1)::(nat_lit 251,zh2)::(nat_lit 252,zh3)::(nat_lit 253,zh4)::(nat_lit 255,zh5)::(nat_lit 256,zh6)::(nat_lit 258,zh7)::(nat_lit 259,zh8)::(nat_lit 260,zh9)::(nat_lit 263,zha)::(nat_lit 264,zhb)::(nat_lit 265,zhc)::(nat_lit 268,zhd)::(nat_lit 269,zhe)::(nat_lit 270,zhf)::(nat_lit 273,zhg)::(nat_lit 274,zhh)::(nat_lit 275,zhi)::(nat_lit 278,zhj)::(nat_lit 279,zhk)::(nat_lit 280,zhl)::(nat_lit 282,zhm)::(nat_lit 283,zhn)::(nat_lit 285,zho)::(nat_lit 286,zhp)::(nat_lit 287,zhq)::(nat_lit 290,zhr)::(nat_lit 291,zhs)::(nat_lit 292,zht)::(nat_lit 295,zhu)::(nat_lit 296,zhv)::(nat_lit 297,zhw)::(nat_lit 300,zhx)::(nat_lit 301,zhy)::(nat_lit 302,zhz)::(nat_lit 305,zhA)::(nat_lit 306,zhB)::(nat_lit 307,zhC)::(nat_lit 309,zhD)::(nat_lit 310,zhE)::(nat_lit 312,zhF)::(nat_lit 313,zhG)::(nat_lit 314,zhH)::(nat_lit 316,zhI)::(nat_lit 317,zhJ)::(nat_lit 319,zhK)::(nat_lit 320,zhL)::(nat_lit 321,zhM)::(nat_lit 324,zhN)::(nat_lit 325,zhO)::(nat_lit 326,zhP)::(nat_lit 328,zhQ)::(nat_lit 329,zhR)::(nat_lit 331,zhS)::(nat_lit 332,zhT)::(nat_lit 333,zhU)::(nat_lit 335,zhV)::(nat_lit 336,zhW)::(nat_lit 338,zhX)::(nat_lit 339,zhY)::(nat_lit 340,zhZ)::(nat_lit 342,zi)::(nat_lit 343,zi0)::(nat_lit 345,zi1)::(nat_lit 346,zi2)::(nat_lit 347,zi3)::(nat_lit 349,zi4)::(nat_lit 350,zi5)::(nat_lit 352,zi6)::(nat_lit 353,zi7)::(nat_lit 354,zi8)::(nat_lit 356,zi9)::(nat_lit 357,zia)::(nat_lit 359,zib)::(nat_lit 360,zic)::(nat_lit 361,zid)::(nat_lit 364,zie)::(nat_lit 365,zif)::(nat_lit 366,zig)::(nat_lit 369,zih)::(nat_lit 370,zii)::(nat_lit 371,zij)::(nat_lit 373,zik)::(nat_lit 374,zil)::(nat_lit 376,zim)::(nat_lit 377,zin)::(nat_lit 378,zio)::(nat_lit 381,ziq)::(nat_lit 382,zir)::[]
abbrev Ka:List Addr:=[2,3,15,22,23,24,25,28,35,36,37,40,47,48,49,52,59,60,61,64,66,67,69,70,71,74,75,76,79,80,81,84,85,86,89,90,91,94,95,96,99,100,101,104,105,106,108,109,111,112,113,115,116,118,119,120,122,123,125,126,127,130,131,132,134,135,137,138,139,141,142,144,145,146,148,149,151,152,153,156,157,158,160,161,163,164,165,167,168,170,171,172,175,176,177,179,180,182,183,184,186,187,189,190,191,193,194,196,197,198,200,201,203,204,205,207,208,210,211,212,214,215,217,218,219,222,223,224,226,227,229,230,231,233,234,236,237,238,241,242,243,246,247,248,251,252,253,255,256,258,259,260,263,264,265,268,269,270,273,274,275,278,279,280,282,283,285,286,287,290,291,292,295,296,297,300,301,302,305,306,307,309,310,312,313,314,316,317,319,320,321,324,325,326,328,329,331,332,333,335,336,338,339,340,342,343,345,346,347,349,350,352,353,354,356,357,359,360,361,364,365,366,369,370,371,373,374,376,377,378,381,382]
theorem Ke(P:Params):Ka=(K P).map (·.1):=by kernel_rfl
abbrev qv:Program:=view pw keep
abbrev Xt:Shared->Bool:=λs=>xlAt qv [] s&&recOk [] s
theorem opened:∀ w:World,(fencedOpening treeTable pw w 4976).map (λs=>(s.heap,s.gens,s.drawn,s.toks))=some (boot_heap w.params,Array.mk [],boot_drawn,boot_toks):=boot_open (by kernel_rfl) (by kernel_rfl) (λs=>by kernel_rfl)
theorem sized(w:World):((boot_heap w.params).isNs mainGlobals&&(Array.mk []:Array GenState).size==0,(boot_heap w.params).objs.size,(boot_heap w.params).nsMap mainGlobals "__annotations__")=(true,11,ann):=by
 rewrite[te_ns];kernel_rfl
theorem lk0(w:World)(os:OsState):(staticsOk (importedModules pw.main.body) (boot_heap w.params) (h1 w.params)&&namesBound pw (h1 w.params)&&gensDone ⟨h1 w.params,#[],z0q,669,os⟩&&laidKept (boot_heap w.params) (h1 w.params))=true:=by
 rewrite[te_im];kernel_rfl
theorem lk1(w:World)(os:OsState):seen ((recsOf qv).map (·.name)) (ownsOf qv) [] { (⟨h1 w.params,#[],z0q,669,os⟩:Shared)with gens:=#[] }=expectedOf qv:=by
 rewrite[te_seen,te_recs,te_owns];kernel_rfl
theorem lk2(w:World)(os:OsState):(⟨h1 w.params,#[],z0q,669,os⟩:Shared).heap.bltView=bltViewBooted:=by
 kernel_rfl
theorem lk3(w:World)(os:OsState):((⟨h1 w.params,#[],z0q,669,os⟩:Shared).heap.keysOk (looseW qv []) ((recsOf qv).map (·.name)) ((litsOf qv).map (·.1)) ((clssOf qv (looseW qv [])).map (·.name))&&(⟨h1 w.params,#[],z0q,669,os⟩:Shared).heap.accountedOkI (importedModules pw.main.body)&&(⟨h1 w.params,#[],z0q,669,os⟩:Shared).heap.isNs mainGlobals&&(⟨h1 w.params,#[],z0q,669,os⟩:Shared).heap.isNs builtinsNs&&tablesOk qv (⟨h1 w.params,#[],z0q,669,os⟩:Shared).heap&&Xt ⟨h1 w.params,#[],z0q,669,os⟩&&(if true=true then(⟨h1 w.params,#[],z0q,669,os⟩:Shared).gens.size==0 else !leftWithCleanup (⟨h1 w.params,#[],z0q,669,os⟩:Shared).gens))=true:=by
 rewrite[te_keys,te_loose,te_recs,te_lits,te_clss,te_acc,te_im,te_tabl];kernel_rfl
theorem lk4(w:World)(os:OsState):tabsOk qv ⟨h1 w.params,#[],z0q,669,os⟩=true:=by
 rewrite[te_tabs];kernel_rfl
theorem lk5(w:World)(os:OsState):pinSeenD qv (drecsOf qv) ⟨h1 w.params,#[],z0q,669,os⟩=pinGoodD (drecsOf qv):=by
 rewrite[te_pin,te_drecs];kernel_rfl
theorem lk6(w:World)(os:OsState):plainSeenE qv (looseW qv []) ⟨h1 w.params,#[],z0q,669,os⟩=plainGoodE qv (looseW qv []):=by
 rewrite[te_pE,te_loose];kernel_rfl
theorem lk7(w:World)(os:OsState):plainSeenD qv [] ⟨h1 w.params,#[],z0q,669,os⟩=plainGoodD qv []:=by
 rewrite[te_pD];kernel_rfl
theorem lk8(w:World)(os:OsState):wideSeen qv ⟨h1 w.params,#[],z0q,669,os⟩=wideGood qv:=by
 rewrite[te_wide];kernel_rfl
theorem lk9(w:World)(os:OsState):clsSeenW qv [] ⟨h1 w.params,#[],z0q,669,os⟩=clsGoodW qv []:=by
 rewrite[te_cls];kernel_rfl
theorem lk10(w:World)(os:OsState):Hook.obs (kHook K Ka Ke) ⟨h1 w.params,#[],z0q,669,os⟩=Hook.val (kHook K Ka Ke) w:=by
 kernel_rfl
theorem sn(w:World)(os:OsState):openSeen qv [] (importedModules pw.main.body) Xt true ⟨h1 w.params,#[],z0q,669,os⟩=(seen ((recsOf qv).map (·.name)) (ownsOf qv) [] { (⟨h1 w.params,#[],z0q,669,os⟩:Shared)with gens:=#[] },(⟨h1 w.params,#[],z0q,669,os⟩:Shared).heap.bltView,((⟨h1 w.params,#[],z0q,669,os⟩:Shared).heap.keysOk (looseW qv []) ((recsOf qv).map (·.name)) ((litsOf qv).map (·.1)) ((clssOf qv (looseW qv [])).map (·.name))&&(⟨h1 w.params,#[],z0q,669,os⟩:Shared).heap.accountedOkI (importedModules pw.main.body)&&(⟨h1 w.params,#[],z0q,669,os⟩:Shared).heap.isNs mainGlobals&&(⟨h1 w.params,#[],z0q,669,os⟩:Shared).heap.isNs builtinsNs&&tablesOk qv (⟨h1 w.params,#[],z0q,669,os⟩:Shared).heap&&Xt ⟨h1 w.params,#[],z0q,669,os⟩&&(if true=true then(⟨h1 w.params,#[],z0q,669,os⟩:Shared).gens.size==0 else !leftWithCleanup (⟨h1 w.params,#[],z0q,669,os⟩:Shared).gens)),tabsOk qv ⟨h1 w.params,#[],z0q,669,os⟩,pinSeenD qv (drecsOf qv) ⟨h1 w.params,#[],z0q,669,os⟩,plainSeenE qv (looseW qv []) ⟨h1 w.params,#[],z0q,669,os⟩,plainSeenD qv [] ⟨h1 w.params,#[],z0q,669,os⟩,wideSeen qv ⟨h1 w.params,#[],z0q,669,os⟩,clsSeenW qv [] ⟨h1 w.params,#[],z0q,669,os⟩):=by kernel_rfl
theorem gd:openGood qv []=(expectedOf qv,bltViewBooted,true,true,pinGoodD (drecsOf qv),plainGoodE qv (looseW qv []),plainGoodD qv [],wideGood qv,clsGoodW qv []):=by kernel_rfl
theorem lkS(w:World)(os:OsState):openSeen qv [] (importedModules pw.main.body) Xt true ⟨h1 w.params,#[],z0q,669,os⟩=openGood qv []:=(sn w os).trans (Eq.trans (looks_pair (lk1 w os) (looks_pair (lk2 w os) (looks_pair (lk3 w os) (looks_pair (lk4 w os) (looks_pair (lk5 w os) (looks_pair (lk6 w os) (looks_pair (lk7 w os) (looks_pair (lk8 w os) (lk9 w os))))))))) gd.symm)
theorem left:LeftO pw qv [] Xt (Hook.obs (kHook K Ka Ke)) (Hook.val (kHook K Ka Ke)) 4976 :=
 LeftO.of_pieces (H₀:=boot_heap) (H₁:=h1) (gs₀:=Array.mk []) (gs₁:=#[]) (d₀:=boot_drawn) (d₁:=z0q) (k₀:=boot_toks) (k₁:=669) (m₀:=11) (ann:=ann) (M:=(12+(1+(196+(214+(214+(382+(385+(391+(379+(272+2))))))))))) opened sized run_all (by kernel_rfl) (λw=>funext λos =>
  looks_pair (lk0 w os) (looks_pair (lkS w os) (lk10 w os)))
end
end H
end K17
open PySem PySem.W PyProof.Rows
set_option maxRecDepth 100000 in
set_option maxHeartbeats 0 in
theorem PySem.Challenge.cw_changehall_k17_places_there_and_back_holds : PySem.Challenge.rw_changehall_k17_places_there_and_back.Holds := by
 w_on;o_law
 refine PySem.W.holds_open (q:=K17.H.qv) (loose:=[]) (Xt:=K17.H.Xt) (XP:=XL K17.H.qv []) (Yf:=Hook.obs (kHook K17.H.K K17.H.Ka K17.H.Ke)) (Ya:=Hook.val (kHook K17.H.K K17.H.Ka K17.H.Ke)) (YP:=Hook.says (kHook K17.H.K K17.H.Ka K17.H.Ke)) (N:=4976) K17.H.left (Hook.of _) (Hook.keeps _) (λs e=>xl_of s (Vo.mp e).1) XL.keeps (by rfl) (by rfl) (by rfl) (λs e=>recFacts_of (Vo.mp e).2) (by rfl) (by first|assumption|decide +kernel) (by decide +kernel) ⟨rfl,rfl,rfl,rfl,rfl,by decide +kernel⟩ ?hw ?hc
 (case hw=>w_witness2)
 k_fill
 refine L2.zjI (x := "_law_script") (k:=10) (fr:=true) (c:=K17.zj) (l:=PySem.Challenge.rw_changehall_k17_places_there_and_back) rfl rfl (λw h Y=>PySem.W.kIn_of Y) ?F (λns hl=>K17.zlz ns hl) ⟨rfl,by decide,by decide⟩
 case F =>
  intro w mg fa h KX G hmg
  refine' K17.zlM KX G hmg (L2.dh ?e0 ?l0 ?c0 ?k0) (L2.dh ?e1 ?l1 ?c1 ?k1) (L2.dh ?e2 ?l2 ?c2 ?k2) (L2.dh ?e3 ?l3 ?c3 ?k3) (L2.dh ?e4 ?l4 ?c4 ?k4) (L2.dh ?e5 ?l5 ?c5 ?k5) (L2.dh ?e6 ?l6 ?c6 ?k6) (L2.dh ?e7 ?l7 ?c7 ?k7) (L2.dh ?e8 ?l8 ?c8 ?k8) (L2.dh ?e9 ?l9 ?c9 ?k9) (L2.dh ?e10 ?l10 ?c10 ?k10) (L2.dh ?e11 ?l11 ?c11 ?k11) (L2.dh ?e12 ?l12 ?c12 ?k12) (L2.dh ?e13 ?l13 ?c13 ?k13) (L2.dh ?e14 ?l14 ?c14 ?k14) (L2.dh ?e15 ?l15 ?c15 ?k15) (L2.dh ?e16 ?l16 ?c16 ?k16) (L2.dh ?e17 ?l17 ?c17 ?k17) (L2.dh ?e18 ?l18 ?c18 ?k18) (L2.dh ?e19 ?l19 ?c19 ?k19) (L2.dh ?e20 ?l20 ?c20 ?k20) (L2.dh ?e21 ?l21 ?c21 ?k21) (L2.dh ?e22 ?l22 ?c22 ?k22) (L2.dh ?e23 ?l23 ?c23 ?k23) (L2.dh ?e24 ?l24 ?c24 ?k24) (L2.dh ?e25 ?l25 ?c25 ?k25) (L2.dh ?e26 ?l26 ?c26 ?k26) (L2.dh ?e27 ?l27 ?c27 ?k27) (L2.dh ?e28 ?l28 ?c28 ?k28) (L2.dh ?e29 ?l29 ?c29 ?k29) (L2.dh ?e30 ?l30 ?c30 ?k30) (L2.dh ?e31 ?l31 ?c31 ?k31) (L2.dh ?e32 ?l32 ?c32 ?k32) (L2.dh ?e33 ?l33 ?c33 ?k33) (L2.dh ?e34 ?l34 ?c34 ?k34) (L2.dh ?e35 ?l35 ?c35 ?k35) (L2.dh ?e36 ?l36 ?c36 ?k36) (L2.dh ?e37 ?l37 ?c37 ?k37) (L2.dh ?e38 ?l38 ?c38 ?k38) (L2.dh ?e39 ?l39 ?c39 ?k39) (L2.dh ?e40 ?l40 ?c40 ?k40) (L2.dh ?e41 ?l41 ?c41 ?k41) (L2.dh ?e42 ?l42 ?c42 ?k42) (L2.dh ?e43 ?l43 ?c43 ?k43) (L2.dh ?e44 ?l44 ?c44 ?k44) (L2.dh ?e45 ?l45 ?c45 ?k45) (L2.dh ?e46 ?l46 ?c46 ?k46) (L2.dh ?e47 ?l47 ?c47 ?k47) (L2.dh ?e48 ?l48 ?c48 ?k48) (L2.dh ?e49 ?l49 ?c49 ?k49) (L2.dh ?e50 ?l50 ?c50 ?k50) (L2.dh ?e51 ?l51 ?c51 ?k51) (L2.dh ?e52 ?l52 ?c52 ?k52) ?z_abs ?z_all ?z_any ?z_bool ?z_enumerate ?z_int ?z_isinstance ?z_len ?z_list ?z_range ?z_reversed ?z_sorted ?z_sum ?z_tuple ?z_zip ?y_MOST_BILLS ?y_MOST_KINDS
  all_goals try k_is
  all_goals kernel_rfl

end
